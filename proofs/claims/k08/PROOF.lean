import PyProof.Rows.All
import Wide.All
import OpenK.AllK
import Wide.FinOn
import KE.KExcIs
import KE.SortData
import KE.KNestM
import PyProof.StrBlock2
import HandS.ForMost
import HandS.Deep
import HandS.TupSets
import HandS.SortRule
import HandS.ForExc
import HandS.ExcInit
import HandS.ExcIs
import HandS.ExcField
import HandS.ExcValue
import HandS.ExcOwn
import HandS.Property
import HandS.CallSlots
import HandS.Style
import HandS.IsInst
import HandS.Codes
import HandS.TupLen
import HandS.Small
import HandS.EndTab
import KE.DataMinMax
import HandS.Dict
import HandS.DictComp
import HandS.Comp
import HandS.Conv
import HandS.Text
import HandS.FStr
import HandS.Exc
import HandS.GenList
import HandS.Nested
import HandS.AnyAll
import HandS.TryOnly
import HandS.Words
import HandS.WordsExc
import HandS.SetFor
import HandS.Strs
import KE.KDictDisplayH
import HandS.Evl
import HandS.Iter
import KE.KItemsList
import HandS.ListItems
import PyProof.ReprBulk
import PyProof.ReprText
import PyProof.SetRoads
import HandS.Flow
import HandS.WrittenGet
import HandS.SuiteRaise
import HandS.RaiseFrom
import HandS.ExcInitHot
import HandS.Replace
import HandS.ReplaceLit
import PyProof.MeetsStr3
import KE.DataCmp
import HandS.Gcd
import KE.KEqDict
import HandS.DictEq
import HandS.DictTup
import KE.KDictWalk
import PyProof.Rows.TupTab
import PySem.Challenge.RW_pickaisle_k08_house_texts_refused
set_option Elab.async false
set_option linter.all false
set_option maxRecDepth 100000
set_option maxHeartbeats 8000000
namespace Pk
open PySem L2
/-- at a: an error of the class at D that is held; fs: its own attributes -/
def XvAt (H : Hp) (a D : Addr) (fs : List (Str × V)) : Prop :=
  (H a = some (ExO (.ref D) a) ∧ fs = []) ∨ ∃ d, H a = some (exo a D (some d)) ∧ H d = some (exd d fs)
theorem XvAt.same {H H' : Hp} {a D : Addr} {fs : List (Str × V)} (h : XvAt H a D fs) (k : Same H H') : XvAt H' a D fs := by
  rcases h with ⟨h, e⟩ | ⟨d, h, e⟩
  · exact .inl ⟨k _ _ h, e⟩
  · exact .inr ⟨d, k _ _ h, k _ _ e⟩
/-- __init__(self, v): self.f = v, of an own class of errors -/
def spXI (K : PySem.W.Frag) (C : Addr) (f : Str) : Sp := fun vs H Q _ => ∃ (a : Addr) (v : V), vs = [.ref a, v] ∧ OexC K C ∧ PySem.W.findIn K (.ref C) f = some none ∧ H a = some (exo a C none) ∧
  ∀ dx, H dx = none → dx ≠ a → Q .non (upd (upd H dx (exd dx [(f, v)])) a (exo a C (some dx)))
end Pk
namespace Pk
open PySem L2 PySem.Spec PyProof.Rows GenW GxR NdefX
/-- the generator's own frame -/
abbrev envG (X : Cx) (sc : Scope) (C : Addr) (cd : Value) : Env := genEnv sc (cloFrom X.env.cells sc.names []) C cd builtinsNs X.env
/-- and its surroundings; s0, H0: ahead of its frame; fp: the iterator's objects -/
abbrev cxG (X : Cx) (N : List Str) (sc : Scope) (B : Around) (s0 : Shared) (H0 : Hp) (cd : Value) (fp : List Addr) : Cx :=
  { X with
    A := B
    N := N
    s_0 := s0
    H_0 := H0
    env := envG X sc s0.heap.objs.size cd
    outer := X.stack
    stack := envG X sc s0.heap.objs.size cd :: X.stack
    ex := fp
    fn := fun _ => false
    calm := true
    pn := []
    xe := fun _ _ => False }
/-- what its scope must keep -/
structure GSc (env : Env) (sc : Scope) : Prop where
  kind : sc.kind = .function
  co : sc.isCoroutine = false
  cell : ∀ y ∈ sc.names, y.2 ≠ .cell
  dot : sc.names.lookup (".0" : Str) = some NameKind.local
  free : ∀ y ∈ sc.names, y.2 = .free → ∃ c, env.cells.lookup y.1 = some c
/-- the free names' slots: fr tells for each name its slot outside, none for an own one -/
def slotsG (fr : List (Option Nat)) (σ : L2.St) : L2.St := fr.map fun o => match o with
  | none => none
  | some j => (σ[j]?).join
structure GFr (X : Cx) (sc : Scope) (N : List Str) (fr : List (Option Nat)) : Prop where
  len : fr.length = N.length
  at_ : ∀ (i : Nat) (y : Str) (j : Nat), N[i]? = some y → fr[i]? = some (some j) → sc.names.lookup y = some .free ∧ X.N[j]? = some y ∧ (X.env.scope.names.lookup y = some .cell ∨ X.env.scope.names.lookup y = some .free)
theorem slotsG_some {fr : List (Option Nat)} {σ : L2.St} {i : Nat} {v : V} (h : (slotsG fr σ)[i]? = some (some v)) : ∃ j, fr[i]? = some (some j) ∧ σ[j]? = some (some v) := by
  unfold slotsG at h
  rw [List.getElem?_map] at h
  cases e : fr[i]? with
  | none => rw [e] at h; cases h
  | some o =>
    rw [e] at h
    cases o with
    | none => simp at h
    | some j =>
      refine ⟨j, rfl, ?_⟩
      have h2 : (σ[j]?).join = some v := by simpa using h
      cases q : σ[j]? with
      | none => rw [q] at h2; cases h2
      | some w => rw [q] at h2; cases w with
        | none => cases h2
        | some v' => cases h2; rfl
section
variable {X : Cx} {pins : List (Addr × Obj)} {σ : L2.St} {H : Hp} {s0 s5 : Shared}
/-- all stands that stood -/
theorem Inv.stood (I : Inv X pins σ H s0) (os : s5.os = s0.os) (k : ∀ b o, s0.heap.get? b = some o → s5.heap.get? b = some o) (hb : AllBare s5.gens) : Inv X pins σ H s5 :=
  I.call' (ch := []) os (Un.kept k) (I.hok.kept k) hb fun b z => absurd z (by simp)
theorem start_gen {N : List Str} {sc : Scope} {B : Around} {cd : Value} {fp : List Addr} {a : Addr} {o : Obj} {m : Str → Option Value}
    {fr : List (Option Nat)} (I : Inv X pins σ H s0) (S : GSc X.env sc) (FR : GFr X sc N fr) (hf : ∀ b ∈ fp, FpOk X pins H b ∧ b < s0.heap.objs.size) (hB : B.handled = none)
    (hfr : B.frames = some (envG X sc s0.heap.objs.size cd :: X.stack)) (os : s5.os = s0.os) (hb : AllBare s5.gens)
    (k : ∀ b u, s0.heap.get? b = some u → s5.heap.get? b = some u) (hn : s5.heap.Ns s0.heap.objs.size m)
    (ha : s0.heap.objs.size < a) (hao : s5.heap.get? a = some o) (hod : ∀ v, o.data ≠ .cell v) :
    Inv (cxG X N sc B s0 H cd fp) [(a, o)] (slotsG fr σ) H s5 := by
  have cm : ∀ {y c}, (cloFrom X.env.cells sc.names []).lookup y = some c → X.env.cells.lookup y = some c := fun {y c} e => clo_cm S.free e
  have nofs : ∀ b ∈ frs X.stack, b < s0.heap.objs.size := fun b hb => by
    rcases List.mem_cons.mp (I.stkSub b hb) with z | z
    · rw [z]; exact I.lt
    · obtain ⟨_, u, hu, _⟩ := I.funs.mem z
      exact Heap.lt_size hu
  refine ⟨⟨I.ok.mod, S.kind, I.ok.glob, rfl, Nat.le_refl _, fun y z c e1 e2 => I.ok.inj y z c (cm e1) (cm e2), fun y hy => ?_, fun y c z => ?_, fun _ => hB, hfr, .inr ⟨rfl, rfl⟩,
      fun b hb => ⟨Nat.ne_of_lt (hf b hb).2, fun y c e z => (hf b hb).1.2.2.2.2.1 y c (cm e) z⟩, I.bs, Nat.le_trans I.ok.bsz I.sz, fun b u e hb => ?_, fun b hb z => ?_, I.stack, I.stkFree⟩,
    os, hb, Un.kept k, ⟨m, hn, fun i y v h1 h2 => ?_⟩, fun y c e => ?_, I.hok.fresh (Nat.le_refl _), fun y c e => I.freeC y c (cm e), fun p hp => ?_, I.hok.kept k, ?_⟩
  · have hy : sc.names.lookup y = some .cell ∨ sc.names.lookup y = some .free := hy
    rcases hy with hy | hy
    · exact absurd rfl (S.cell _ (PySem.mem_of_lookup hy))
    · have hm := PySem.mem_of_lookup hy
      obtain ⟨c, hc⟩ := S.free _ hm rfl
      exact ⟨c, clo_has S.free hm hc⟩
  · exact absurd (show (false : Bool) = true from z) (by decide)
  · rcases (hf b hb).1.2.2.2.1 with z | z
    · exact I.ok.noex b u e z
    · exact absurd (Nat.lt_of_lt_of_le (Heap.lt_size e) (Nat.le_trans I.ok.bsz z)) (Nat.lt_irrefl _)
  · rcases List.mem_cons.mp (I.stkSub b z) with z | z
    · exact (hf b hb).1.2.1 z
    · exact (hf b hb).1.2.2.1 z
  · obtain ⟨j, e1, e2⟩ := slotsG_some h2
    obtain ⟨f1, f2, f3⟩ := FR.at_ i y j h1 e1
    obtain ⟨m0, _, hl⟩ := I.loc
    obtain ⟨u, r, lk⟩ := hl j y v f2 e2 (f3.elim (fun z => .inr (.inl z)) fun z => .inr (.inr z))
    refine fun _ => ⟨u, r, .inr ⟨.inr f1, ?_⟩⟩
    rcases lk with ⟨z, _⟩ | ⟨_, c, hc, hv⟩
    · have z : X.env.scope.names.lookup y = some .local := z
      rcases f3 with q | q <;> rw [q] at z <;> cases z
    · exact ⟨c, clo_has S.free (PySem.mem_of_lookup f1) hc, hv.keeps k⟩
  · obtain ⟨v, hv⟩ := I.cell y c (cm e)
    exact ⟨v, hv.keeps k⟩
  · have hp : p ∈ [(a, o)] := hp
    obtain rfl : p = (a, o) := by simpa using hp
    exact ⟨hao, I.hok.fresh (Nat.le_of_lt ha), Nat.ne_of_gt ha, fun z => absurd (Nat.lt_trans ha (nofs _ z)) (Nat.lt_irrefl _), hod⟩
  · show (slotsG fr σ).length = N.length
    unfold slotsG
    rw [List.length_map]
    exact FR.len
end
end Pk
namespace Pk
open PySem L2 PySem.Spec PyProof.Rows GenW GxR
/-- what it hands out; st: the answer at which the asker stops -/
def YG (Y : Cx) (pins : List (Addr × Obj)) (st : Bool) (Q : VK) : Protocol := fun _ _ v s kap =>
  ∃ σ' H' c, v = .bool c ∧ Inv Y pins σ' H' s ∧ (c = st → Q (.bl st) H') ∧
    (c ≠ st → ∀ s2 : Shared, s2.heap = s.heap → s2.os = s.os → AllBare s2.gens → kap (.send .none) s2)
def RG (Y : Cx) (pins : List (Addr × Obj)) (st : Bool) (Q : VK) : GenEnd := fun n s₀ r s₁ =>
  ((r = .ok (.ret .none) ∨ r = .ok .next) ∧ (fun (_ : Nat) (_ t : Shared) => ∃ σ' H', Inv Y pins σ' H' t ∧ Q (.bl (!st)) H') n s₀ s₁) ∨ ∃ e, r = .error e ∧ (fun (_ : Value) (_ : Shared) => False) e s₁
/-- the loop of the promise -/
def Turns (J : It) (g : TG) (te : TE) (st : Bool) (Q : VK) (W : Nat → Nat → L2.St → Hp → Prop) : Prop := ∀ i m σ H, W i m σ H →
  (J.stop i H ∧ Q (.bl (!st)) H) ∨ (J.go i H ∧ ∃ N : L2.St → Hp → Prop, (∀ σ' H', N σ' H' → ∃ m', m' < m ∧ W (i + 1) m' σ' H') ∧
    ∀ x H', J.yld i H x H' → g x σ H' fun σ2 H2 => te σ2 H2 fun y H3 => ∃ c, y = .bl c ∧ if c = st then Q (.bl st) H3 else N σ2 H3)
section
variable {Y : Cx} {A : Around} {tg elt iter : Expr} {sc : Scope} {pos : Pos} {it : Addr} {fp : List Addr} {tn : Nat → Heap → Prop} {J : It} {g : TG} {te : TE} {st : Bool} {Q : VK}
  {W : Nat → Nat → L2.St → Hp → Prop} {pins : List (Addr × Obj)}
theorem seg_turns (hc : Y.calm = true) (hco : Y.env.scope.isCoroutine = false)
    (hA : A.over (.compLoop (.GeneratorExp elt [⟨tg, iter, [], 0⟩] sc pos) 0 (.ref it) .none Y.env) [] = Y.A)
    (T : Turn Y.prog Y.w Y.K tg J fp it tn) (hg : PG Y tg g) (he : PE Y elt te) (hx : ∀ e s, Y.xe e s → False)
    (ff : ∀ b ∈ fp, ∀ H : Hp, H b = none → FpOk Y pins H b) (turn : Turns J g te st Q W) :
    ∀ (m n i : Nat) (σ : L2.St) (H : Hp) (s₀ s : Shared), m < n → Inv Y pins σ H s → tn i s.heap → (∀ b ∈ fp, H b = none) → W i m σ H →
      Seg (model Y.prog Y.w) A (RG Y pins st Q) (YG Y pins st Q) n s₀ (.compLoop (.GeneratorExp elt [⟨tg, iter, [], 0⟩] sc pos) 0 (.ref it) .none Y.env)
        ((model Y.prog Y.w).den (.compLoop (.GeneratorExp elt [⟨tg, iter, [], 0⟩] sc pos) 0 (.ref it) .none Y.env)) [] s := by
  intro m
  induction m using Nat.strongRecOn with
  | _ m ih =>
    intro n i σ H s₀ s hmn I ht hf hw
    have fpo : ∀ {H' : Hp}, (∀ b ∈ fp, H' b = none) → ∀ b ∈ fp, FpOk Y pins H' b := fun q b hb => ff b hb _ (q b hb)
    show Seg _ A _ _ n s₀ _ ((compTurn (.GeneratorExp elt [⟨tg, iter, [], 0⟩] sc pos) 0 (.ref it) .none Y.env).onRaise (leaving Y.env)) [] s
    rw [compTurn_gen, Sem.onRaise_eq_wrap]
    refine seg_bind_wrap (wpAny_standAt ?_)
    rcases turn i m σ H hw with ⟨hstop, q⟩ | ⟨go, N, hN, step⟩
    · refine seg_bind_wrap ?_
      rw [hA]
      refine wpAny_mono (T.done Y rfl rfl rfl hc i pins s σ H (fun _ _ => False) I (fpo hf) ht hstop) (fun r s4 h4 => ?_) fun _ _ e => e.elim
      obtain ⟨rfl, I4⟩ := h4
      exact seg_end (.ok .next) (.inl ⟨.inr rfl, σ, H, I4, q⟩)
    · refine seg_bind_wrap ?_
      rw [hA]
      refine wpAny_mono (T.item Y rfl rfl rfl hc i pins s σ H (fun _ _ => False) I (fpo hf) ht go) (fun r s4 h4 => ?_) fun _ _ e => e.elim
      obtain ⟨u, rfl, h4⟩ := h4
      refine seg_bind_wrap ?_
      rw [hA]
      refine wpAny_mono h4 (fun _ s5 h5 => ?_) fun _ _ e => e.elim
      obtain ⟨x, H5, I5, r5, y5, t5, f5⟩ := h5
      have I5' := I5.pinned (fpo f5) (T.obj _ _ t5)
      refine seg_bind_wrap ?_
      rw [hA]
      refine wpAny_mono (hg.run _ s5 σ H5 x u _ I5' r5 (step x H5 y5)) (fun _ s6 h6 => ?_) fun _ _ e => (hx _ _ e).elim
      obtain ⟨σ6, H6, I6, q6⟩ := h6
      simp only [List.forIn_nil]
      refine seg_bind_wrap (wpAny_pure ?_)
      simp only [if_true]
      have hy : ∀ v, yieldOut Y.env v = yieldValue v := fun v => by simp only [yieldOut, hco, Bool.false_eq_true, if_false]
      simp only [hy]
      rw [Sem.bind_eq_wrap', Sem.bind_eq_wrap', Sem.wrap_wrap, Sem.wrap_wrap]
      refine seg_wrap ?_
      rw [hA]
      refine wpAny_mono (he.run _ s6 σ6 H6 _ I6 q6) (fun y s7 h7 => ?_) fun _ _ e => (hx _ _ e).elim
      obtain ⟨v7, H7, I7, r7, c, rfl, q7⟩ := h7
      obtain rfl : y = .bool c := r7
      have J7 : Inv Y pins σ6 H7 s7 := I7.unpinned
      have t7 : tn (i + 1) s7.heap := T.keep _ _ _ t5 fun b hb o e => (I7.pin (b, o) (List.mem_append_right _ (List.mem_append_right _ (mem_pinsAt hb e)))).1
      have f7 : ∀ b ∈ fp, H7 b = none := fun b hb => by
        obtain ⟨o, e, _⟩ := T.obj _ _ t5 b hb
        exact (I7.pin (b, o) (List.mem_append_right _ (List.mem_append_right _ (mem_pinsAt hb e)))).2.1
      obtain ⟨k, rfl⟩ : ∃ k, n = k + 1 := ⟨n - 1, by omega⟩
      refine seg_at (seg_yield rfl rfl rfl ⟨σ6, H7, c, rfl, J7, fun e => ?_, fun e s2 eh eo eb => ?_⟩)
      · rw [if_pos e] at q7
        exact q7
      · rw [if_neg e] at q7
        obtain ⟨m', hm, w7⟩ := hN σ6 H7 q7
        exact seg_again rfl (ih m' hm k (i + 1) σ6 H7 s2 s2 (by omega) (Inv.stood J7 eo (fun b o z => by rw [eh]; exact z) eb) (by rw [eh]; exact t7) f7 w7)
/-- from its beginning -/
theorem seg_begins (hc : Y.calm = true) (hco : Y.env.scope.isCoroutine = false)
    (hA : A.over (.compLoop (.GeneratorExp elt [⟨tg, iter, [], 0⟩] sc pos) 0 (.ref it) .none Y.env) [] = Y.A)
    (T : Turn Y.prog Y.w Y.K tg J fp it tn) (hg : PG Y tg g) (he : PE Y elt te) (hx : ∀ e s, Y.xe e s → False)
    (ff : ∀ b ∈ fp, ∀ H : Hp, H b = none → FpOk Y pins H b) (turn : Turns J g te st Q W)
    (m n : Nat) (σ : L2.St) (H : Hp) (s₀ s : Shared) (hmn : m < n) (I : Inv Y pins σ H s) (ht : tn 0 s.heap) (hf : ∀ b ∈ fp, H b = none) (hw : W 0 m σ H) :
      Seg (model Y.prog Y.w) A (RG Y pins st Q) (YG Y pins st Q) n s₀ (.compStart (.GeneratorExp elt [⟨tg, iter, [], 0⟩] sc pos) 0 (.ref it) .none Y.env)
        ((model Y.prog Y.w).den (.compStart (.GeneratorExp elt [⟨tg, iter, [], 0⟩] sc pos) 0 (.ref it) .none Y.env)) [] s := by
  have rest := seg_turns hc hco hA T hg he hx ff turn m n 0 σ H s₀ s hmn I ht hf hw
  show Seg _ A _ _ n s₀ _ ((compStart (.GeneratorExp elt [⟨tg, iter, [], 0⟩] sc pos) 0 (.ref it) .none Y.env).onRaise (leaving Y.env)) [] s
  unfold compStart
  rw [Sem.onRaise_eq_wrap]
  show Seg _ A _ _ n s₀ _ ((ask >>= _).wrap _ _ _ _) [] s
  refine seg_bind_wrap (wpAny_askSetting ?_)
  split
  · exact seg_again rfl rest
  · refine seg_bind_wrap (wpAny_rule ?_)
    first
      | exact seg_bind_wrap (wpAny_standAt (seg_bind_wrap (T.self _ 0 s _ _ ht (seg_again rfl rest))))
      | (show Seg _ A _ _ n s₀ _ ((standAt iter.pos >>= _).wrap _ _ _ _) [] s
         exact seg_bind_wrap (wpAny_standAt (seg_bind_wrap (T.self _ 0 s _ _ ht (seg_again rfl rest)))))
end
end Pk
namespace Pk
open PySem L2 PySem.Spec PyProof.Rows GenW GxR
section
variable {Y : Cx} {A : Around} {st : Bool} {Q : VK} {pins : List (Addr × Obj)} {R : Result → Shared → Prop} {a : Addr} {g : Nat}
theorem all_asks (hh : A.handled = none) (hd : A.depth < recursionLimit) (hp : ∀ σ' H' t, Inv Y pins σ' H' t → t.heap.IsGen a g)
    (hend : ∀ σ' H' b t, Inv Y pins σ' H' t → Q (.bl b) H' → R (.ok (.ret (.bool b))) t) :
    ∀ (n : Nat) (s : Shared), s.heap.IsGen a g → s.heap.NoLimit →
      (∃ gs, s.gens[g]? = some gs ∧ gs.Goes (model Y.prog Y.w) A.in1.in1 (RG Y pins false Q) (YG Y pins false Q) n (.send .none) (s.setGen g .running)) →
      codeAny (model Y.prog Y.w) A (.builtin "all.loop" ⟨[.ref a], []⟩) R s := by
  intro n
  induction n with
  | zero =>
    intro s hg hl ⟨gs, hgs, hgo⟩
    refine codeAny_builtin F.entry_all_loop ?_
    rw [Around.under_plainId F.plain_all_loop _]
    show wpAny _ A.in1 (pyNext (.ref a) >>= _) _ _ s
    refine wpAny_bind (next_genG (A := A.in1) hh hl hd hg hgs hgo (fun v s₁ gs' hbare hv => ?_) (fun s₁ hf h' hk => ?_) fun e s₁ he => he.elim)
    · obtain ⟨σ', H', c, rfl, J, h1, h2⟩ := hv
      refine wpAny_bind (wpAny_holding (wpAny_truthy_bool ?_))
      refine wpAny_bind (wpAny_letGo ?_)
      cases c with
      | true => exact (h2 (by decide) _ rfl rfl J.bare).elim
      | false =>
        simp only [Bool.false_eq_true, if_false]
        refine wpAny_bind (wpAny_rule (wpAny_pure ?_))
        exact hend σ' H' false _ (Inv.stood (s5 := s₁.setGen g gs') J rfl (fun _ _ z => z) (allBare_setGen J.bare hbare)) (h1 rfl)
    · obtain ⟨σ', H', J, q⟩ := hf
      refine wpAny_bind (wpAny_rule (wpAny_pure ?_))
      exact hend σ' H' true _ (Inv.stood (s5 := { s₁.setGen g .finished with heap := h' }) J rfl hk (allBare_setGen J.bare rfl)) q
  | succ n ih =>
    intro s hg hl ⟨gs, hgs, hgo⟩
    have hgl : g < s.gens.size := (Array.getElem?_eq_some_iff.mp hgs).1
    refine codeAny_builtin F.entry_all_loop ?_
    rw [Around.under_plainId F.plain_all_loop _]
    show wpAny _ A.in1 (pyNext (.ref a) >>= _) _ _ s
    refine wpAny_bind (wpAny_gsz (n := g + 1) hgl (next_genG (A := A.in1) hh hl hd hg hgs hgo (fun v s₁ gs' hbare hv => ?_) (fun s₁ hf h' hk => ?_) fun e s₁ he => he.elim))
    · intro hsz
      obtain ⟨σ', H', c, rfl, J, h1, h2⟩ := hv
      have J2 : Inv Y pins σ' H' (s₁.setGen g gs') := Inv.stood J rfl (fun _ _ z => z) (allBare_setGen J.bare hbare)
      have hs1 : g < s₁.gens.size := by
        have q : (s₁.setGen g gs').gens.size = s₁.gens.size := setGen_size _ _ _
        have q2 : g + 1 ≤ (s₁.setGen g gs').gens.size := hsz
        omega
      refine wpAny_bind (wpAny_holding (wpAny_truthy_bool ?_))
      refine wpAny_bind (wpAny_letGo ?_)
      cases c with
      | true =>
        simp only [if_true]
        exact wpAny_pure ⟨plainId_quiet F.plain_all_loop _, ih _ (hp _ _ _ J2) J2.nolimit ⟨gs', setGen_at hs1, h2 (by decide) _ rfl rfl (allBare_setGen J2.bare rfl)⟩⟩
      | false =>
        simp only [Bool.false_eq_true, if_false]
        refine wpAny_bind (wpAny_rule (wpAny_pure ?_))
        exact hend σ' H' false _ J2 (h1 rfl)
    · intro hsz
      obtain ⟨σ', H', J, q⟩ := hf
      refine wpAny_bind (wpAny_rule (wpAny_pure ?_))
      exact hend σ' H' true _ (Inv.stood (s5 := { s₁.setGen g .finished with heap := h' }) J rfl hk (allBare_setGen J.bare rfl)) q
end
end Pk
namespace Pk
open PySem L2 PySem.Spec PyProof.Rows GenW GxR NdefX
/-- where the generator's code runs, asked from A -/
abbrev arG (A : Around) (tg elt iter : Expr) (sc : Scope) (pos : Pos) (it : Addr) (env : Env) : Around :=
  A.in1.in1.over (.compLoop (.GeneratorExp elt [⟨tg, iter, [], 0⟩] sc pos) 0 (.ref it) .none env) []
theorem arG_frames {A : Around} {tg elt iter : Expr} {sc : Scope} {pos : Pos} {it : Addr} {env : Env} {l : List Env} (h : A.frames = some l) : (arG A tg elt iter sc pos it env).frames = some (env :: l) := by
  obtain ⟨hd, d, f, gs, u⟩ := A
  obtain rfl : f = some l := h
  rfl
theorem arG_room {k : Nat} {A : Around} {tg elt iter : Expr} {sc : Scope} {pos : Pos} {it : Addr} {env : Env} (r : Room (k + 1) A) : Room k (arG A tg elt iter sc pos it env) :=
  ⟨r.hd, by have := r.dp; show A.depth + 0 + 1 + 3 * k + 5 < _; omega, by have := r.un; show A.units + 1 + 1 + 0 + 3 + 16 * k + 200 < _; omega⟩
/-- a generator stands at a and has handed out nothing -/
def GReady (X : Cx) (pins : List (Addr × Obj)) (σ : L2.St) (N : List Str) (sc : Scope) (st : Bool) (Q : VK) (a : Addr) (s5 : Shared) : Prop :=
  ∃ (g : Nat) (B : Around) (s0 : Shared) (H0 : Hp) (cd : Value) (fp : List Addr) (ps : List (Addr × Obj)) (n : Nat),
    s5.heap.IsGen a g ∧ s5.heap.NoLimit ∧ (∀ σ' H' t, Inv (cxG X N sc B s0 H0 cd fp) ps σ' H' t → t.heap.IsGen a g) ∧
    (∀ σ' H' t, Inv (cxG X N sc B s0 H0 cd fp) ps σ' H' t → Inv X pins σ H' t) ∧
    ∃ gs, s5.gens[g]? = some gs ∧ gs.Goes (model X.prog X.w) X.A.in1.in1 (RG (cxG X N sc B s0 H0 cd fp) ps st Q) (YG (cxG X N sc B s0 H0 cd fp) ps st Q) n (.send .none) (s5.setGen g .running)
/-- the answer: the element's readings, one after another -/
def tAns (st : Bool) (te : TE) : TS := fun D σ H => te σ H fun y H3 => ∃ c, y = .bl c ∧ if c = st then D.rt (.bl st) H3 else D.nx σ H3
def tGen (P : Addr) (fr : List (Option Nat)) (wi : TI) (g : TG) (te : TE) (st : Bool) : TE := fun σ H Q => wi σ H fun J H1 => TabG H1 P ∧ ∀ H2, Tabbed P H1 H2 →
  ∃ W : Nat → Nat → L2.St → Hp → Prop, (∃ m, W 0 m (slotsG fr σ) H2) ∧ ∀ i m σ H, W i m σ H →
    (J.stop i H ∧ (Ends.mk (fun _ H' => Q (.bl (!st)) H') Q (fun _ _ => False) (fun _ _ => False)).nx σ H) ∨ (J.go i H ∧ ∃ N : L2.St → Hp → Prop, (∀ σ' H', N σ' H' → ∃ m', m' < m ∧ W (i + 1) m' σ' H') ∧
      ∀ x H', J.yld i H x H' → g x σ H' fun σ2 H2 => tAns st te { (Ends.mk (fun _ H' => Q (.bl (!st)) H') Q (fun _ _ => False) (fun _ _ => False)) with nx := N, ct := N, bk := fun _ H' => Q (.bl (!st)) H' } σ2 H2)
section
variable {X : Cx} {pins : List (Addr × Obj)} {σ : L2.St} {H : Hp} {s : Shared}
theorem make_gen {c P : Addr} {tg elt iter : Expr} {gpos : Pos} {sc : Scope} {N : List Str} {fr : List (Option Nat)} {wi : TI} {g : TG} {te : TE} {k : Nat} {st : Bool} {Q : VK} {Q' : Value → Shared → Prop}
    (hr : Room (k + 1) X.A) (TB : TabB X.base X.mg c P) (hcode : X.env.code = .ref c) (S : GSc X.env sc) (FR : GFr X sc N fr) (hi : PI X tg iter wi)
    (hb : ∀ (B : Around) (s0 : Shared) (H0 : Hp) (cd : Value) (fp : List Addr), Room k B → PG (cxG X N sc B s0 H0 cd fp) tg g ∧ PE (cxG X N sc B s0 H0 cd fp) elt te)
    (hs : ∀ v, genFold iter X.env v = pure v) (I : Inv X pins σ H s) (h : tGen P fr wi g te st σ H Q)
    (hQ : ∀ a s5, GReady X pins σ N sc st Q a s5 → Q' (.ref a) s5) :
    wpAny (model X.prog X.w) X.A (eval (.GeneratorExp elt [⟨tg, iter, [], 0⟩] sc gpos) X.env) Q' X.xe s := by
  refine wpAny_GeneratorExp_make S.co (closure_ok S.free) S.cell S.dot S.kind (by have := hr.dp; omega) ?_ hs
  refine thn (hi.run pins s σ H _ I h) fun xv s1 h1 => thn h1 fun itv s2 h2 => ?_
  obtain ⟨it, fp, tn, J, H2, rfl, I2, T, t2, f2, ⟨ps, hP, htr⟩, hW⟩ := h2
  have hPs : s2.heap.get? P = some { cls := .none, data := .fields ps } := I2.hok P _ hP
  have cd : PySem.W.CodeHd s2.heap c P := TB.code.keeps fun b u e => I2.bk b u e
  refine ⟨I2.nolimit, ?_⟩
  have cont : ∀ (code : Value) (h3 : Heap) (tk : Nat) (ps' : Array Value), Heap.ExtBut P s2.heap h3 → s2.heap.objs.size ≤ h3.objs.size → h3.get? P = some { cls := .none, data := .fields ps' } → (∃ more, ps' = ps ++ more) → TriplesOk ps'.toList →
      wpAny (model X.prog X.w) X.A (builtinsFor X.env.globals X.env.builtins) (fun bi s₄ => ∀ h', h'.Ns s₄.heap.objs.size (fun y => if y = ".0" then some (Value.ref it) else none) →
        Heap.SameBut s₄.heap.objs.size (s₄.heap.push { cls := .type "frame", data := .dict #[] }) h' →
          Q' (.ref h'.objs.size) { s₄ with
            gens := s₄.gens.push (.fresh (.compStart (.GeneratorExp elt [⟨tg, iter, [], 0⟩] sc gpos) 0 (.ref it) .none (genEnv sc (cloFrom X.env.cells sc.names []) s₄.heap.objs.size code bi X.env))),
            toks := s₄.toks + 1 + 1 + 1,
            heap := h'.push { cls := .type "generator", data := .fields #[.int s₄.gens.size 0, .str "<genexpr>" (s₄.toks + 1), .str (X.env.qual ++ "<genexpr>") (s₄.toks + 1 + 1)] } }) X.xe { s2 with heap := h3, toks := tk } := by
    intro code h3 tk ps' hx3 hsz hP3 hmore ht3
    obtain ⟨more, rfl⟩ := hmore
    obtain ⟨bm, ob, e1, e2, e3, e4, e5, e6, e7, e8⟩ := TB.bm
    have keep3 : ∀ b u, b ≠ P → s2.heap.get? b = some u → h3.get? b = some u := fun b u z e => hx3 b u z e
    have I3 : Inv X pins σ (upd H2 P (.tbl (ps ++ more))) { s2 with heap := h3, toks := tk } := inv_tab (g' := s2.gens) (d' := s2.drawn) I2 hP keep3 hP3 I2.bare
    have TT : Tabbed P H2 (upd H2 P (.tbl (ps ++ more))) := ⟨⟨ps ++ more, upd_same, ht3⟩, fun b z => upd_ne z⟩
    refine wpAny_builtinsFor (m := X.mg) (by rw [I3.ok.glob]; exact I3.mod.glob.keeps I3.bk) e1 e2 (I3.bk _ _ e5) e6 e7 e8 ?_
    intro h' hn' hs'
    -- the new frame at C, the generator behind it
    have sz' : h'.objs.size = h3.objs.size + 1 := by rw [hs'.1, Heap.size_push]
    have keep' : ∀ b u, h3.get? b = some u → h'.get? b = some u := fun b u e => hs'.extBut b u (Nat.ne_of_lt (Heap.lt_size e)) (Heap.get?_push_of_some _ e)
    obtain ⟨W, ⟨m0, w0⟩, turn⟩ := hW _ TT
    have neP : ∀ b ∈ fp, b ≠ P := fun b hb z => by
      have q := (f2 b hb).1
      rw [z, hP] at q
      cases q
    have ltC : ∀ b ∈ fp, b < h3.objs.size := fun b hb => by
      obtain ⟨u, hu, _⟩ := T.obj _ _ t2 b hb
      exact Nat.lt_of_lt_of_le (Heap.lt_size hu) hsz
    have f3 : ∀ b ∈ fp, FpOk X pins (upd H2 P (.tbl (ps ++ more))) b := fun b hb => ⟨by rw [upd_ne (neP b hb)]; exact (f2 b hb).1, (f2 b hb).2⟩
    have aC : h3.objs.size < h'.objs.size := by rw [sz']; exact Nat.lt_succ_self _
    generalize hgo : ({ cls := .type "generator", data := .fields #[.int s2.gens.size 0, .str "<genexpr>" (tk + 1), .str (X.env.qual ++ "<genexpr>") (tk + 1 + 1)] } : Obj) = genO
    have isg : ∀ {h : Heap}, h.get? h'.objs.size = some genO → h.IsGen h'.objs.size s2.gens.size := fun {h} e => by
      subst hgo
      exact ⟨_, _, _, e, rfl, rfl, rfl⟩
    have atA : (h'.push genO).get? h'.objs.size = some genO := Heap.get?_push_size _ (by subst hgo; rfl)
    have keep5 : ∀ b u, h3.get? b = some u → (h'.push genO).get? b = some u := fun b u e => Heap.get?_push_of_some _ (keep' b u e)
    let B : Around := arG X.A tg elt iter sc gpos it (envG X sc h3.objs.size code)
    have rB : Room k B := arG_room hr
    have nofs : ∀ b ∈ fp, b ∉ frs X.stack := fun b hb z => by
      rcases List.mem_cons.mp (I3.stkSub b z) with q | q
      · exact (f2 b hb).2.1 q
      · exact (f2 b hb).2.2.1 q
    refine hQ _ _ ⟨s2.gens.size, B, { s2 with heap := h3, toks := tk }, upd H2 P (.tbl (ps ++ more)), code, fp, [(h'.objs.size, genO)], m0 + 1, isg atA, I3.nolimit.keeps keep5,
      fun σ' H' t J => isg (J.pin (h'.objs.size, genO) (by simp)).1, fun σ' H' t J => ?_, _, Array.getElem?_push_size .., rfl, ?_⟩
    · exact I3.call' (ch := fp) J.os J.base J.hok J.bare fun b hb => ⟨(f2 b hb).2.2.2.1, (f2 b hb).2.1, (f2 b hb).2.2.2.2.1, (f2 b hb).2.2.2.2.2⟩
    · have I5 := start_gen (N := N) (B := B) (cd := code) (fp := fp) (a := h'.objs.size) (o := genO) I3 S FR (fun b hb => ⟨f3 b hb, ltC b hb⟩) rB.hd (arG_frames I3.ok.frames)
        (s5 := { s2 with gens := s2.gens.push (.fresh (.compStart (.GeneratorExp elt [⟨tg, iter, [], 0⟩] sc gpos) 0 (.ref it) .none (envG X sc h3.objs.size code))), toks := tk + 1 + 1 + 1, heap := h'.push genO })
        rfl (I3.bare.push rfl) keep5 (hn'.push _) aC atA (by subst hgo; intro v z; cases z)
      have I6 := Inv.stood (s5 := Shared.setGen { s2 with gens := s2.gens.push (.fresh (.compStart (.GeneratorExp elt [⟨tg, iter, [], 0⟩] sc gpos) 0 (.ref it) .none (envG X sc h3.objs.size code))), toks := tk + 1 + 1 + 1, heap := h'.push genO } s2.gens.size .running) I5 rfl (fun _ _ e => e) (allBare_setGen I5.bare rfl)
      have hb' := hb B { s2 with heap := h3, toks := tk } (upd H2 P (.tbl (ps ++ more))) code fp rB
      refine seg_begins (Y := cxG X N sc B { s2 with heap := h3, toks := tk } (upd H2 P (.tbl (ps ++ more))) code fp) (A := X.A.in1.in1) (tn := tn) (J := J) rfl S.co rfl T hb'.1 hb'.2 (fun _ _ e => e)
        (fun b hb H' hn => ⟨hn, Nat.ne_of_lt (ltC b hb), nofs b hb, .inl hb, fun y e he => (f2 b hb).2.2.2.2.1 y e (clo_cm S.free he), fun p hp => ?_⟩) turn m0 (m0 + 1) _ _ _ _ (Nat.lt_succ_self _) I6
        (T.keep 0 _ _ t2 fun b hb o e => keep5 b o (keep3 b o (neP b hb) e)) (fun b hb => (f3 b hb).1) w0
      have hp : p ∈ [(h'.objs.size, genO)] := hp
      obtain rfl : p = (h'.objs.size, genO) := by simpa using hp
      exact Nat.ne_of_gt (Nat.lt_trans (ltC b hb) aC)
  cases hf : codeAmong gpos ps.toList with
  | none =>
    refine wpAny_genexprCodeX hcode (cd.code hPs htr) (cd.tab hPs) hf fun c' h' tk hx hge hlt hco' _ htab' _ => ?_
    obtain ⟨o1, vs, f1, tf, fl, tg', inF, tx, tt, op, _, _, _, _, _, _, _, _, _, htr', _⟩ := hco'
    exact cont _ h' tk _ hx (Nat.le_trans hge (Nat.le_of_lt hlt)) htab'.2 ⟨_, rfl⟩ htr'
  | some cv =>
    refine wpAny_genexprCode_hit hcode (cd.code hPs htr) hf ?_
    exact cont cv s2.heap s2.toks ps (Heap.ExtBut.refl _ _) (Nat.le_refl _) hPs ⟨#[], by simp⟩ htr
theorem pe_allG {c P : Addr} {tg elt iter : Expr} {p pos gpos : Pos} {sc : Scope} {N : List Str} {fr : List (Option Nat)} {wi : TI} {g : TG} {te : TE} {k : Nat}
    (hr : Room (k + 1) X.A) (hg : Gl X "all") (hm : X.mg "all" = none) (hbt : bootBuiltins "all" = some (.builtin "all")) (TB : TabB X.base X.mg c P) (hcode : X.env.code = .ref c) (S : GSc X.env sc) (FR : GFr X sc N fr) (hi : PI X tg iter wi)
    (hb : ∀ (B : Around) (s0 : Shared) (H0 : Hp) (cd : Value) (fp : List Addr), Room k B → PG (cxG X N sc B s0 H0 cd fp) tg g ∧ PE (cxG X N sc B s0 H0 cd fp) elt te)
    (hs : ∀ v, genFold iter X.env v = pure v)
    (he : starEach [.GeneratorExp elt [⟨tg, iter, [], 0⟩] sc gpos] X.env = (false, eval (.GeneratorExp elt [⟨tg, iter, [], 0⟩] sc gpos) X.env) :: starEach [] X.env := by rfl) :
    PE X (.Call (.Name "all" p) [.GeneratorExp elt [⟨tg, iter, [], 0⟩] sc gpos] [] pos) (tGen P fr wi g te false) := by
  refine ⟨fun pins s σ H Q I h => ?_⟩
  refine wpAny_Call_Name_kw (ld_blt I hg hm hbt ?_)
  refine PyProof.Rows.callWith_builtin1 ?_ he (by rfl)
  rw [he]
  show wpAny _ X.A (spliced ((false, eval (.GeneratorExp elt [⟨tg, iter, [], 0⟩] sc gpos) X.env) :: backTo pos (starEach [] X.env))) _ _ s
  refine Calls.spliced_cons (make_gen hr TB hcode S FR hi hb hs I h fun a s5 hG => ?_)
  refine Calls.spliced_nil ?_
  obtain ⟨n, B, s0, H0, cd, fp, ps, m, q1, q2, q3, q4, q5⟩ := hG
  refine call_function_tree F.kind_all F.plain_all F.entry_all (F.args_all1 _) ?_
  unfold Builtin.«all»
  refine wpAny_bind (m := oneArg "all" _) (wpAny_pure ?_)
  refine wpAny_bind (wpAny_pyIter_gen q1 ?_)
  refine wpAny_pure ⟨plainId_quiet F.plain_all_loop _, ?_⟩
  exact all_asks (Y := cxG X N sc B s0 H0 cd fp) hr.hd (by have := hr.dp; omega) q3 (fun σ' H' b t J q => ⟨.bl b, H', q4 σ' H' t J, rfl, q⟩) m s5 q1 q2 q5
end
end Pk
namespace Pk
open PySem L2 PySem.Spec PyProof.Rows
section
variable {X : Cx} {pins : List (Addr × Obj)} {σ : L2.St} {H : Hp} {s : Shared}
/-- an entry is laid under a tuple -/
theorem lay_entry {A : Around} {E : Value → Shared → Prop} {D b : Addr} {kvs : List (List Key × V)} {k : List Key} {v : V} {r : Value} {Q : Unit → Shared → Prop}
    (hu : A.units < cLine) (I : Inv X pins σ H s) (hD : H D = some (.dT kvs)) (hb : H b = some (.tup (k.map kV))) (hl : kvs.length < sizeLine) (rv : RelV v r)
    (h : ∀ s', Inv X pins σ (upd H D (.dT (putK kvs k v))) s' → Q () s') : wpAny (model X.prog X.w) A (dictSet D (.ref b) r) Q E s := by
  obtain ⟨le, nd, xs, rel, dd⟩ := dt_of I.hok hD
  have small : xs.length ≤ sizeLine := by rw [← Paired.length rel]; exact le
  have small2 : (putK kvs k v).length ≤ sizeLine := by
    have q := length_putK kvs k v
    omega
  refine wpAny_dictSet_heap (hsz := small) (show (tupleKind (mixKind X.prog X.w)).room A from hu) (key_of I.hok hb) dd fun h2 dd2 same => h _ ?_
  obtain ⟨o, es, ep, ho, p2, p3, p4, _, p5⟩ := dd2
  refine d_write I (by rw [hD]; exact True.intro) same ⟨o, ho⟩ ⟨small2, nd, _, (rel.put k hb rv).keeps fun c ys ec => ?_, o, es, ep, ho, p2, p3, p4, p5⟩
  have cD : c ≠ D := ne_of ec hD fun z => nomatch z
  rw [upd_ne cD]
  exact ec
/-- D: the new dict -/
def tDcT (wi : TI) (g : TG) (tk tv : TE) (vs : List Nat) : TE := fun σ H Q => wi σ H fun J H1 => ∀ D, H1 D = none → ∃ W : Nat → Nat → Hp → Prop, (∃ m, W 0 m (upd H1 D (.dT []))) ∧ ∀ i m H, W i m H →
  (J.stop i H ∧ Q (.ref D) H) ∨ (J.go i H ∧ ∃ Nx : Hp → Prop, (∀ H', Nx H' → ∃ m', m' < m ∧ W (i + 1) m' H') ∧
    ∀ x H', J.yld i H x H' → g x (wipe σ vs) H' fun σ2 H2 => wipe σ2 vs = wipe σ vs ∧ tk σ2 H2 fun y H4 => tv σ2 H4 fun z H5 =>
      ∃ b kvs k, y = .ref b ∧ H5 b = some (.tup (k.map kV)) ∧ H5 D = some (.dT kvs) ∧ kvs.length < sizeLine ∧ Nx (upd H5 D (.dT (putK kvs k z))))
theorem pe_dcT {kx vx tg iter : Expr} {scope : Scope} {own : List (Str × Nat)} {pos : Pos} {wi : TI} {g : TG} {tk tv : TE} (hc : X.calm = true) (hu : X.A.units < cLine) (hN : X.N.Nodup) (hi : PI X tg iter wi) (ok : BlkOk X.N X.env.scope scope own)
    (hb : ∀ (s : Shared) (H : Hp) (C : Addr) (cl : List (Str × Addr)) (fp : List Addr), PG (X.blk s H scope (compEnvC scope cl C X.env) fp) tg g ∧ PE (X.blk s H scope (compEnvC scope cl C X.env) fp) kx tk ∧ PE (X.blk s H scope (compEnvC scope cl C X.env) fp) vx tv)
    (hs : ∀ x, foldedSetIterable iter X.env x = pure x := by intro _; rfl) :
    PE X (.DictComp kx vx [⟨tg, iter, [], 0⟩] scope pos) (tDcT wi g tk tv (own.map (·.2))) := by
  refine ⟨fun pins s σ H Q I h => ?_⟩
  rw [arm_eval_DictComp]
  have caught : ∀ y ∈ scope.names, y.2 = .free → ∃ c, X.env.cells.lookup y.1 = some c := fun y hy e => by
    have q := ok.free y hy e
    exact I.ok.has _ (q.elim .inl .inr)
  refine wpAny_comprehension_free (use := none) rfl hs (closure_ok caught) ok.kind (fun y hy e => by rw [ok.uniq y hy, e]) ?_
  refine thn (hi.run pins s σ H _ I h) fun xv s1 h1 => thn h1 fun itv s2 h2 => ?_
  obtain ⟨it, fp, tn, J, H2, rfl, I2, T, t2, f2, rest⟩ := h2
  refine wpAny_newObj_type (newEnv_comp ?_)
  generalize eD : s2.heap.objs.size = D
  have nD : H2 D = none := I2.hok.fresh (Nat.le_of_eq eD)
  obtain ⟨W, ⟨m0, w0⟩, turn⟩ := rest D nD
  generalize e3 : ({ s2 with heap := s2.heap.push { cls := .type "dict", data := .dict #[] } } : Shared) = s3
  have heap3 : s3.heap = s2.heap.push { cls := .type "dict", data := .dict #[] } := by rw [← e3]
  have I3 : Inv X pins σ (upd H2 D (.dT [])) s3 := by
    rw [← e3]
    refine I2.laid (t' := s2.toks) (fun b o e => Heap.get?_push_of_some _ e) (Nat.le_of_eq eD) ?_
    rw [← eD]
    exact dt_empty s2.heap I2.big
  have old : ∀ b ∈ fp, b < s2.heap.objs.size := fun b hb => by
    obtain ⟨o, e, _⟩ := T.obj _ _ t2 b hb
    exact Heap.lt_size e
  have f3 : ∀ b ∈ fp, FpOk X pins (upd H2 D (.dT [])) b ∧ b < s3.heap.objs.size := fun b hb => by
    have lt := old b hb
    refine ⟨⟨?_, (f2 b hb).2⟩, by rw [heap3, Heap.size_push]; exact Nat.lt_succ_of_lt lt⟩
    rw [upd_ne (by rw [← eD]; exact Nat.ne_of_lt lt)]
    exact (f2 b hb).1
  have t3 : tn 0 s3.heap := T.keep _ _ _ t2 fun b _ o e => by rw [heap3]; exact Heap.get?_push_of_some _ e
  have I4 := block_start I3 ok hN f3
  obtain ⟨pg, pk, pv⟩ := hb s3 (upd H2 D (.dT [])) s3.heap.objs.size (cellsFrom (s3.heap.objs.size + 1) scope.names (cloFrom X.env.cells scope.names [])) fp
  show codeAny _ _ (.compStart (.DictComp kx vx [⟨tg, iter, [], 0⟩] scope pos) 0 (.ref it) (.ref D) (compEnvC scope (cellsFrom (s3.heap.objs.size + 1) scope.names (cloFrom X.env.cells scope.names [])) s3.heap.objs.size X.env))
    (compPost (model X.prog X.w) X.A X.xe none _ (.ref D) s3.heap.objs.size) { s3 with heap := pushCells (s3.heap.push { cls := .type "dict", data := .dict #[] }) scope.names }
  have none3 : ∀ b ∈ fp, (upd H2 D (.dT [])) b = none := fun b hb => (f3 b hb).1.1
  generalize ece : compEnvC scope (cellsFrom (s3.heap.objs.size + 1) scope.names (cloFrom X.env.cells scope.names [])) s3.heap.objs.size X.env = ce at I4 pg pk pv ⊢
  have ceL : ce.locals = s3.heap.objs.size := by subst ece; rfl
  generalize eH3 : upd H2 D (.dT []) = H3 at I3 I4 pg pk pv w0 none3 f3
  generalize e4 : ({ s3 with heap := pushCells (s3.heap.push { cls := .type "dict", data := .dict #[] }) scope.names } : Shared) = s4 at I4 ⊢
  have t4 : tn 0 s4.heap := T.keep _ _ _ t3 fun b _ o e => by rw [← e4]; exact pushCells_keeps _ _ _ _ (Heap.get?_push_of_some _ e)
  have fpo : ∀ {σ' : L2.St} {H' : Hp} {s' : Shared}, Inv (X.blk s3 H3 scope ce fp) [] σ' H' s' → (∀ b ∈ fp, H' b = none) → ∀ b ∈ fp, FpOk (X.blk s3 H3 scope ce fp) [] H' b := fun {σ' H' s'} I' hn b hb =>
    ⟨hn b hb, (I'.ok.exf b hb).1, I'.ok.exfs b hb, .inl hb, fun x c e => (I'.ok.exf b hb).2 x c e, fun p hp => absurd (show p ∈ ([] : List (Addr × Obj)) ++ [] from hp) (by simp)⟩
  have loop : codeAny (model X.prog X.w) X.A (.compLoop (.DictComp kx vx [⟨tg, iter, [], 0⟩] scope pos) 0 (.ref it) (.ref D) ce) (compPost (model X.prog X.w) X.A X.xe none (EP X pins σ Q) (.ref D) s3.heap.objs.size) s4 := by
    refine compLoop_anyD (fun n s' => ∃ i H', Inv (X.blk s3 H3 scope ce fp) [] (wipe σ (own.map (·.2))) H' s' ∧ tn i s'.heap ∧ (∀ b ∈ fp, H' b = none) ∧ W i n H') ?_ m0 ⟨0, H3, I4, t4, none3, w0⟩
    rintro n s5 ⟨i, H5, I5, t5, n5, w5⟩
    rcases turn i n H5 w5 with ⟨hstop, qq⟩ | ⟨go, Nx, hNx, step⟩
    · refine thnF (T.done (X.blk s3 H3 scope ce fp) rfl rfl rfl hc i [] s5 _ H5 (fun _ _ => False) I5 (fpo I5 n5) t5 hstop) fun r s6 h6 => ?_
      obtain ⟨rfl, I6⟩ := h6
      have I7 : Inv X pins σ H5 s6 := I3.call' (ch := fp) I6.os I6.base I6.hok I6.bare fun b hb =>
        have z := (f3 b hb).1.2
        ⟨z.2.2.1, z.1, z.2.2.2.1, z.2.2.2.2⟩
      have nC : H5 s3.heap.objs.size = none := by
        have z : H5 ce.locals = none := I6.free
        rwa [ceL] at z
      obtain ⟨m, hn, _⟩ := I6.loc
      have hn : s6.heap.Ns ce.locals m := hn
      rw [ceL] at hn
      obtain ⟨_, g1, _, g3, g4, g5⟩ := I3.fpOk (Nat.le_refl _) nC
      exact ⟨m, hn, fun h2 sb => ⟨.ref D, H5, I7.turned (t' := s6.toks) (fun b o ne e => (sb.2 b ne).trans e) nC g1 g3 g4 g5, rfl, qq⟩⟩
    · refine thnF (T.item (X.blk s3 H3 scope ce fp) rfl rfl rfl hc i [] s5 _ H5 (fun _ _ => False) I5 (fpo I5 n5) t5 go) fun r s6 h6 => ?_
      obtain ⟨u, rfl, h6⟩ := h6
      refine thnF h6 fun _ s7 ⟨x, H7, I7, r7, y7, t7, n7⟩ => ?_
      have J7 := I7.pinned (fpo I7 n7) (T.obj _ _ t7)
      refine thnF (pg.run _ s7 _ H7 x u _ J7 r7 (step x H7 y7)) fun _ s8 ⟨σ8, H8, I8, ew, q8⟩ => ?_
      simp only [List.forIn_nil]
      refine wpAny_pure ?_
      simp only [if_true]
      refine thnF (pk.run _ s8 σ8 H8 _ I8 q8) fun u1 s10 ⟨yk, H10, I10, r10, q10⟩ => ?_
      refine thnF (pv.run _ s10 σ8 H10 _ I10 q10) fun u2 s11 ⟨yv, H11, I11, r11, b, kvs, k, ek, hb11, hD11, hl11, nx⟩ => ?_
      subst ek
      obtain rfl : u1 = .ref b := r10
      refine lay_entry (X := X.blk s3 H3 scope ce fp) hu I11 hD11 hb11 hl11 r11 fun s12 I12 => ?_
      obtain ⟨m', lt, w'⟩ := hNx _ nx
      have len8 : (wipe σ (own.map (·.2))).length = σ8.length := by rw [← ew, wipe_length]
      have stay : ∀ c ∈ fp, ∀ o, s7.heap.get? c = some o → s12.heap.get? c = some o ∧ (upd H11 D (.dT (putK kvs k yv))) c = none := fun c hc' o e =>
        have z := I12.pin (c, o) (List.mem_append_right _ (List.mem_append_right _ (mem_pinsAt hc' e)))
        ⟨z.1, z.2.1⟩
      refine ⟨m', lt, i + 1, _, (I12.unpinned (pins := [])).weak len8 (fun j v e => ?_), T.keep _ _ _ t7 fun c hc' o e => (stay c hc' o e).1, fun c hc' => ?_, w'⟩
      · rw [← ew] at e
        exact (wipe_some e).1
      · obtain ⟨o, e, _⟩ := T.obj _ _ t7 c hc'
        exact (stay c hc' o e).2
  exact codeAny_compStart_dict loop (T.self X.A 0 _ _ _ t4 loop)
end
end Pk
namespace Pk
open PySem L2
abbrev Pl := Int × Int
/-- v is a tuple that holds the place p -/
def Pr (H : Hp) (v : V) (p : Pl) : Prop := ∃ t, v = .ref t ∧ H t = some (.tup [.int p.1, .int p.2])
theorem Pr.same {H H' : Hp} {v : V} {p : Pl} (h : Pr H v p) (k : Same H H') : Pr H' v p := by
  obtain ⟨t, rfl, h⟩ := h
  exact ⟨t, rfl, k _ _ h⟩
inductive Prs (H : Hp) : List V → List Pl → Prop
  | nil : Prs H [] []
  | cons {v : V} {p : Pl} {vs : List V} {ps : List Pl} : Pr H v p → Prs H vs ps → Prs H (v :: vs) (p :: ps)
theorem Prs.same {H H' : Hp} {vs : List V} {ps : List Pl} (h : Prs H vs ps) (k : Same H H') : Prs H' vs ps := by
  induction h with
  | nil => exact .nil
  | cons a _ ih => exact .cons (a.same k) ih
theorem Prs.len {H : Hp} {vs : List V} {ps : List Pl} (h : Prs H vs ps) : vs.length = ps.length := by
  induction h with
  | nil => rfl
  | cons a _ ih => exact congrArg (· + 1) ih
theorem Prs.app {H : Hp} {vs us : List V} {ps qs : List Pl} (h : Prs H vs ps) (k : Prs H us qs) : Prs H (vs ++ us) (ps ++ qs) := by
  induction h with
  | nil => exact k
  | cons a _ ih => exact .cons a ih
theorem Prs.snoc {H : Hp} {vs : List V} {v : V} {ps : List Pl} {p : Pl} (h : Prs H vs ps) (k : Pr H v p) : Prs H (vs ++ [v]) (ps ++ [p]) := h.app (.cons k .nil)
theorem Prs.at {H : Hp} {vs : List V} {ps : List Pl} (h : Prs H vs ps) : ∀ {i : Nat} {v : V}, vs[i]? = some v → ∃ p, ps[i]? = some p ∧ Pr H v p := by
  induction h with
  | nil => intro i v e; cases e
  | cons a _ ih =>
    intro i v e
    cases i with
    | zero => cases e; exact ⟨_, rfl, a⟩
    | succ i => exact ih e
theorem Prs.take {H : Hp} {vs : List V} {ps : List Pl} (h : Prs H vs ps) : ∀ n, Prs H (vs.take n) (ps.take n) := by
  induction h with
  | nil => intro n; cases n <;> exact .nil
  | cons a _ ih => intro n; cases n with
    | zero => exact .nil
    | succ n => exact .cons a (ih n)
theorem Prs.drop {H : Hp} {vs : List V} {ps : List Pl} (h : Prs H vs ps) : ∀ n, Prs H (vs.drop n) (ps.drop n) := by
  induction h with
  | nil => intro n; cases n <;> exact .nil
  | cons a r ih => intro n; cases n with
    | zero => exact .cons a r
    | succ n => exact ih n
theorem Prs.mem {H : Hp} {vs : List V} {ps : List Pl} (h : Prs H vs ps) {v : V} (m : v ∈ vs) : ∃ p ∈ ps, Pr H v p := by
  induction h with
  | nil => cases m
  | cons a _ ih =>
    rcases List.mem_cons.mp m with e | m
    · subst e; exact ⟨_, List.mem_cons_self, a⟩
    · obtain ⟨p, hp, k⟩ := ih m
      exact ⟨p, List.mem_cons_of_mem _ hp, k⟩
def dP (p : Pl) : PyData := .tuple [.int p.1, .int p.2]
def dL (ps : List Pl) : PyData := .list (ps.map dP)
theorem Pr.dp {K : PySem.W.Frag} {H : Hp} {v : V} {p : Pl} (h : Pr H v p) : Dp K H v (dP p) := by
  obtain ⟨t, rfl, h⟩ := h
  exact .tup (SqT.of h) (.cons (.int _) (.cons (.int _) .nil))
theorem Prs.dps {K : PySem.W.Frag} {H : Hp} {vs : List V} {ps : List Pl} (h : Prs H vs ps) : DpAll K H vs (ps.map dP) := by
  induction h with
  | nil => exact .nil
  | cons a _ ih => exact .cons a.dp ih
theorem Prs.dl {K : PySem.W.Frag} {H : Hp} {l : Addr} {vs : List V} {ps : List Pl} (h : Prs H vs ps) (e : SqL K H l vs) : Dp K H (.ref l) (dL ps) := .lst e h.dps
theorem eqv_int (a b : Int) : PyData.eqv (.int a) (.int b) = decide (a = b) := by
  rw [PyData.eqv]
  rfl
end Pk
namespace Pk
open PySem L2
/-- a set of places stands at a -/
def SetOf (P : Program) (w : World) (H : Hp) (a : Addr) (ps : List Pl) : Prop := ∃ L : List (Addr × List Int), H a = some (SetTO P w a L) ∧
  (∀ x ∈ L, ∃ p ∈ ps, x.2 = [p.1, p.2] ∧ H x.1 = some (.tup [.int p.1, .int p.2])) ∧ ∀ p ∈ ps, [p.1, p.2] ∈ L.map (·.2)
end Pk
namespace Pk
open PySem L2 PyProof.Rows
section
variable {X : Cx}
theorem eachIs_back {α β : Type} {f : β → α} : ∀ {out : List α} {bs : List β}, PySem.W.EachIs (fun v b => v = f b) out bs → out = bs.map f
  | _, _, .nil => rfl
  | _, _, .cons e r => by rw [e, eachIs_back r]; rfl
end
end Pk
namespace Pk
open PySem L2 PySem.Spec PyProof.Rows
/-- the ends of a clause whose name stands in slot i: behind it the slot is empty -/
def asEnds (i : Nat) (D : Ends) : Ends := { nx := fun τ G => D.nx (τ.set i none) G, rt := D.rt, bk := fun τ G => D.bk (τ.set i none) G, ct := fun τ G => D.ct (τ.set i none) G }
abbrev Sui := Addr → Value → Option Addr → TS
/-- what the clauses wish of an error of the body -/
def wNext (K : PySem.W.Frag) (Wo : WX) (D : Ends) : List (Value × Option Nat × Sui) → WX
  | [] => Wo
  | (c, none, ts) :: more => fun cls d τ G => ∃ b, PySem.W.exmOne K cls c = some b ∧ (b = true → ∀ x, G x = none → ts x cls d D τ G) ∧ (b = false → wNext K Wo D more cls d τ G)
  | (c, some i, ts) :: more => fun cls d τ G => ∃ b, PySem.W.exmOne K cls c = some b ∧ (b = true → ∀ x, G x = none → ts x cls d (asEnds i D) (τ.set i (some (.ref x))) G) ∧ (b = false → wNext K Wo D more cls d τ G)
/-- try: the body's reading, its errors wished for as the clauses take them -/
def tTry (K : PySem.W.Frag) (Wo : WX) (l : List (Value × Option Nat × Sui)) (tb : WX → TS) : TS := fun D τ G => tb (wNext K Wo D l) D τ G
inductive Clauses (X : Cx) : List ExceptHandler → List (Value × Option Nat × Sui) → Prop
  | nil : Clauses X [] []
  | plain {x : Str} {c : Value} {ts : Sui} {s0 : Stmt} {su : List Stmt} {p1 p2 : Pos} {hs : List ExceptHandler} {l : List (Value × Option Nat × Sui)} (hc : Names X x c)
      (hsu : ∀ (a : Addr) (oe : Obj) (cls : Value) (d : Option Addr) (pn : List (Addr × Obj)), Zc cls d oe → (∃ vs, oe.data = .fields vs) → PSs (X.suite a ((a, oe) :: pn)) (s0 :: su) (ts a cls d)) (more : Clauses X hs l) :
      Clauses X (.ExceptHandler (some (.Name x p1)) none (s0 :: su) p2 :: hs) ((c, none, ts) :: l)
  | named {x n : Str} {i : Nat} {c : Value} {ts : Sui} {s0 : Stmt} {su : List Stmt} {p1 p2 : Pos} {hs : List ExceptHandler} {l : List (Value × Option Nat × Sui)} (hN : X.N.Nodup) (hi : X.N[i]? = some n) (hn : X.env.kindOf n = some .local) (hc : Names X x c)
      (hsu : ∀ (a : Addr) (oe : Obj) (cls : Value) (d : Option Addr) (pn : List (Addr × Obj)), Zc cls d oe → (∃ vs, oe.data = .fields vs) → PSs (X.suite a ((a, oe) :: pn)) (s0 :: su) (ts a cls d)) (more : Clauses X hs l) :
      Clauses X (.ExceptHandler (some (.Name x p1)) (some n) (s0 :: su) p2 :: hs) ((c, some i, ts) :: l)
section
variable {X : Cx} {body : List Stmt} {c0 : ExceptHandler} {cs : List ExceptHandler} {l : List (Value × Option Nat × Sui)} {pos : Pos} {tb : WX → TS} {Wo : WX}
theorem ps_try_next (hst : X.stack = X.env :: X.outer) (hfm : X.env.frame = some X.env.locals) (tk : Takes X Wo)
    (hbody : ∀ (W : WX) (pn : List (Addr × Obj)) (xe : Value → Shared → Prop), Takes (X.tr pn xe) W → PassesOwn (model X.prog X.w) X.A X.env xe → PSs (X.tr pn xe) body (tb W))
    (hcs : Clauses X (c0 :: cs) l) : PS X (.Try body (c0 :: cs) [] [] pos) (tTry X.K Wo l tb) := by
  refine ⟨fun pins s τ G D I hw => ?_⟩
  have kk := I.ok
  have hfrs : X.A.frames = some (X.env :: X.outer) := by rw [kk.frames, hst]
  let M := model X.prog X.w
  refine wpAny_Try_except ?_
  refine wpAny_mono ((hbody (wNext X.K Wo D l) (X.pn ++ pins) (fun e s₁ => wpAny M X.A (noteFrame e X.env) (fun _ s₂ => wpAny M X.A (setFlight e none) (fun _ s₃ => wpAny M X.A (handleBy e X.env (c0 :: cs)) (SP X pins D) X.xe s₃) X.xe s₂) X.xe s₁)
    (fun u s' xx => ?_) PassesOwn.looking).run [] s τ G D (I.toTry _) hw) (fun fl s1 hsp => ?_) (fun e s1 he => he)
  · obtain ⟨a, B, sI, pins', τ', G', cls, d, rfl, J0, nb, up, sky, na, hos, hag, wish⟩ := xx
    have J : Inv X pins τ' G' sI := J0.ofTry kk
    have sk : Sky B (X.env :: X.outer) a (Zc cls d) X.env.locals s'.heap := hst ▸ sky
    show wpAny M X.A (noteFrame (.ref a) X.env) _ _ _
    refine Sky.land Zc.steady hfrs hfm sk fun h3 fl3 up3 => ?_
    have J3 : Inv X pins τ' G' { s' with heap := h3 } := J.landed nb fl3.1 (up.trans up3) hos hag
    obtain ⟨oe3, vs3, he3, hz3, hd3⟩ := fl3.there
    have nfr : a ∉ frs (X.env :: X.outer) := fun hm => by
      obtain ⟨_, o', e', hnf⟩ := fl3.2.2.1.mem hm
      rw [he3] at e'
      cases e'
      exact hnf _ hd3
    have nL : a ≠ X.env.locals := fun z => nfr (List.mem_filterMap.mpr ⟨X.env, List.mem_cons_self, by rw [hfm, z]⟩)
    have nF : a ∉ X.fs := fun hm => by
      obtain ⟨e, he, q⟩ := List.mem_filterMap.mp hm
      exact nfr (List.mem_filterMap.mpr ⟨e, List.mem_cons_of_mem _ he, q⟩)
    have S3 := J3.suite he3 hd3 na nL nF
    have LT : PySem.W.Looks M h3 (typeOf (.ref a)) cls := fun A Q E s k q => wpAny_typeOf_ref (k _ _ he3) (by rw [hz3.1]; exact q)
    have test : ∀ {x : Str} {c : Value} {p1 : Pos} {Q : Value → Shared → Prop} {E : Value → Shared → Prop}, Names X x c → Q c { s' with heap := h3 } → wpAny M (X.A.mark (some (.ref a))) (eval (.Name x p1) X.env) Q E { s' with heap := h3 } :=
      fun {x c p1 Q E} hc q => by
        obtain ⟨hg, hdbg, hm | ⟨hm, hv, hnn⟩⟩ := hc
        · exact ld_glob (X := X.suite a ((a, oe3) :: (X.pn ++ pins))) S3 hg hm q hdbg
        · exact ld_blt (X := X.suite a ((a, oe3) :: (X.pn ++ pins))) S3 hg hm hv q hnn hdbg
    have each : ∀ {hs : List ExceptHandler} {l' : List (Value × Option Nat × Sui)}, Clauses X hs l' → wNext X.K Wo D l' cls d τ' G' → wpAny M X.A (handleBy (.ref a) X.env hs) (SP X pins D) X.xe { s' with heap := h3 } := by
      intro hs l' hk
      induction hk with
      | nil =>
        intro wish
        refine wpAny_handleBy_nil ?_
        obtain ⟨k1, k2, k3, oe, vs, T, oT, ts', he, hz, hd, hf1, hr⟩ := id fl3
        unfold PySem.passOn
        refine wpAny_bind (wpAny_field he hd hf1 ?_)
        rw [if_neg (show ¬ ((Value.ref T == Value.none) = true) from by simp)]
        have out : wpAny M X.A (setFlight (.ref a) X.env.frame) (fun _ s4 => wpAny M X.A (throw (.ref a) : Sem Flow) (SP X pins D) X.xe s4) X.xe { s' with heap := h3 } := by
          rw [hfm]
          refine HandSPX.setFlight_upZ fl3 fun h4 hh4 up4 => wpAny_throw (tk _ _ ?_)
          exact ⟨a, B, sI, pins, τ', G', cls, d, rfl, J, nb, (up.trans up3).trans up4, .inr (.inr (hst ▸ hh4)), na, hos, hag, wish⟩
        first
          | exact wpAny_bind (wpAny_pure (wpAny_bind out))
          | exact wpAny_bind out
      | plain hc hsu more ih =>
        intro wish
        obtain ⟨b, hb1, yes, no⟩ := wish
        refine wpAny_handleBy_cons (codeAny_handlers_test ?_) (by intro q; cases q)
        refine test hc ((PySem.W.exm_one (M := M) J3.kIn LT hb1).here ?_)
        cases b with
        | false => exact ih (no rfl)
        | true =>
          refine codeAny_handlers_suite (HandSPX.lands_againZ fl3 fun h4 fl4 up4 => ?_)
          have J4 : Inv X pins τ' G' { s' with heap := h4 } := J.landed nb fl4.1 ((up.trans up3).trans up4) hos hag
          obtain ⟨oe4, vs4, he4, hz4, hd4⟩ := fl4.there
          refine wpAny_mono ((hsu a oe4 cls d (X.pn ++ pins) hz4 ⟨_, hd4⟩).run [] _ _ G' _ (J4.suite he4 hd4 na nL nF) (yes rfl a na)) (fun f s6 hsp => ?_) (fun _ _ z => z.elim)
          cases f with
          | ret u =>
            obtain ⟨v6, τ6, G6, S6, r6, q6⟩ := hsp
            exact ⟨v6, τ6, G6, S6.unsuite kk, r6, q6⟩
          | next =>
            obtain ⟨τ6, G6, S6, q6⟩ := hsp
            exact ⟨τ6, G6, S6.unsuite kk, q6⟩
          | brk =>
            obtain ⟨τ6, G6, S6, q6⟩ := hsp
            exact ⟨τ6, G6, S6.unsuite kk, q6⟩
          | cont =>
            obtain ⟨τ6, G6, S6, q6⟩ := hsp
            exact ⟨τ6, G6, S6.unsuite kk, q6⟩
      | named hN hi hn hc hsu more ih =>
        intro wish
        obtain ⟨b, hb1, yes, no⟩ := wish
        refine wpAny_handleBy_cons (codeAny_handlers_test ?_) (by intro q; cases q)
        refine test hc ((PySem.W.exm_one (M := M) J3.kIn LT hb1).here ?_)
        cases b with
        | false => exact ih (no rfl)
        | true =>
          refine codeAny_handlers_suite_as (HandSPX.lands_againZ fl3 fun h4 fl4 up4 => ?_)
          have J4 : Inv X pins τ' G' { s' with heap := h4 } := J.landed nb fl4.1 ((up.trans up3).trans up4) hos hag
          obtain ⟨oe4, vs4, he4, hz4, hd4⟩ := fl4.there
          refine store_ok (X := X.suite a ((a, oe4) :: (X.pn ++ pins))) (v := .ref a) (J4.suite he4 hd4 na nL nF) hN hi (.inl hn) rfl (fun s5 S5 => ?_) (.inr hn)
          refine wpAny_mono ((hsu a oe4 cls d (X.pn ++ pins) hz4 ⟨_, hd4⟩).run [] s5 _ G' _ S5 (yes rfl a na)) (fun f s6 hsp => ?_) (fun _ _ z => z.elim)
          cases f with
          | ret u =>
            obtain ⟨v6, τ6, G6, S6, r6, q6⟩ := hsp
            exact gone_ok (S6.unsuite kk) hN hi hn fun s7 J7 => ⟨v6, _, G6, J7, r6, q6⟩
          | next =>
            obtain ⟨τ6, G6, S6, q6⟩ := hsp
            exact gone_ok (S6.unsuite kk) hN hi hn fun s7 J7 => ⟨_, G6, J7, q6⟩
          | brk =>
            obtain ⟨τ6, G6, S6, q6⟩ := hsp
            exact gone_ok (S6.unsuite kk) hN hi hn fun s7 J7 => ⟨_, G6, J7, q6⟩
          | cont =>
            obtain ⟨τ6, G6, S6, q6⟩ := hsp
            exact gone_ok (S6.unsuite kk) hN hi hn fun s7 J7 => ⟨_, G6, J7, q6⟩
    exact each hcs wish
  · cases fl with
    | ret u =>
      obtain ⟨v, τ', G', J', r, q⟩ := hsp
      exact ⟨v, τ', G', J'.ofTry kk, r, q⟩
    | next =>
      obtain ⟨τ', G', J', q⟩ := hsp
      exact wpAny_execs_nil ⟨τ', G', J'.ofTry kk, q⟩
    | brk =>
      obtain ⟨τ', G', J', q⟩ := hsp
      exact ⟨τ', G', J'.ofTry kk, q⟩
    | cont =>
      obtain ⟨τ', G', J', q⟩ := hsp
      exact ⟨τ', G', J'.ofTry kk, q⟩
end
end Pk
namespace Pk
open PySem L2 PySem.Spec PyProof.Rows
section
variable {X : Cx} {CX : CXT} {k : Nat} {C f : Addr} {fd : FuncData} {ps : List Str} {sp : Sp} {E : L2.St → XK} {x m : Str} {p pos apos : Pos} {o e : Expr} {es : List Expr} {ta : TE} {t : TA}
def tMethS (C : Addr) (m : Str) (sp : Sp) (E : L2.St → XK) (ta : TE) (t : TA) : TE := fun τ G Q => ta τ G fun x G1 => ∃ a dx fs, x = .ref a ∧ G1 a = some (.ins C dx fs) ∧ fs.lookup m = none ∧ t τ G1 fun vs G2 => sp (x :: vs) G2 Q (E τ)
theorem pe_methS {pl : Sem Bool} (ho : PE X o ta) (c : Cls X.K C) (hm : Meth X.K C m f) (F : FnOk X.prog X.w X.K X.mg X.base CX k f fd ps sp) (hr : Room k X.A) (hb : Binds X.K fd ps []) (hx : ∀ τ, PassesAt CX X τ (E τ)) (ha : PA X (e :: es) t)
    (h1 : starEach (e :: es) X.env = (false, eval e X.env) :: starEach es X.env := by rfl) (h2 : (backTo pos (starEach es X.env)).any (·.1) = false := by rfl)
    (h3 : eval (.Call (.Attribute o m apos) (e :: es) [] pos) X.env = (do
      let recv ← eval o X.env
      standAt apos.atName
      let (g, first) ← holding [recv] (getMethod recv m pl)
      callWith pos g first (backTo pos (starEach (e :: es) X.env)) (backToKw pos (keywordEach [] X.env))) := by rfl) :
    PE X (.Call (.Attribute o m apos) (e :: es) [] pos) (tMethS C m sp E ta t) := by
  refine ⟨fun pins s τ G Q I h => PySem.W.methodCall_KW (pl := pl) (thn (ho.run pins s τ G _ I h) fun u s1 hh => ?_) h3⟩
  obtain ⟨y, G1, I1, ry, a, dx, fs, rfl, ea, l, q⟩ := hh
  obtain rfl : u = Value.ref a := ry
  refine getmeth_ok I1 ea c hm l (PySem.W.callWith_K (first := [.ref a]) (h₀ := X.base) I.ok.mod.kin hm.kp (thn (ha.run pos pins s1 τ G1 _ I1 q) fun us s2 hh => ?_) h1 h2)
  obtain ⟨vs, G2, I2, r, q2⟩ := hh
  refine ⟨I2.kIn, run_fnSD (dvs := []) (ds := []) (E := E) (us := .ref a :: us) (vs := .ref a :: vs) F hr hb .nil (hx τ) I2 (.cons rfl r) ?_⟩
  rw [List.append_nil]
  exact q2
def tMakeS (C : Addr) (sp : Sp) (E : L2.St → XK) (t : TA) : TE := fun τ G Q => t τ G fun vs G1 => ∀ x dx, G1 x = none → G1 dx = none → dx ≠ x →
  sp (.ref x :: vs) (upd (upd G1 dx (.own x)) x (.ins C dx [])) (fun v G2 => v = .non ∧ Q (.ref x) G2) (E τ)
theorem pe_makeS (M : Mk X.K C f) (F : FnOk X.prog X.w X.K X.mg X.base CX k f fd ps sp) (hr : Room (k + 1) X.A) (hg : Gl X x) (hm : X.mg x = some (.ref C)) (hb : Binds X.K fd ps []) (hx : ∀ τ, PassesAt CX X τ (E τ)) (ha : PA X (e :: es) t)
    (hdb : (x == ("__debug__" : Str)) = false := by decide) (h1 : starEach (e :: es) X.env = (false, eval e X.env) :: starEach es X.env := by rfl) (h2 : (backTo pos (starEach es X.env)).any (·.1) = false := by rfl) :
    PE X (.Call (.Name x p) (e :: es) [] pos) (tMakeS C sp E t) := by
  refine ⟨fun pins s τ G Q I h => wpAny_Call_Name_kw (ld_glob I hg hm ?_ hdb)⟩
  refine PySem.W.callWith_K (h₀ := X.base) I.ok.mod.kin M.kp (thn (ha.run pos pins s τ G _ I h) fun us s1 hh => ?_) h1 h2
  obtain ⟨vs, G1, I1, r, q⟩ := hh
  refine ⟨I1.kIn, ?_⟩
  show wpAny _ _ (call (.ref C) us) _ _ _
  let n := s1.heap.objs.size
  have hq := q (n + 1) n (I1.hok.fresh (Nat.le_succ _)) (I1.hok.fresh (Nat.le_refl _)) (Nat.ne_of_lt (Nat.lt_succ_self _))
  have I2 := Inv.made (C := C) I1
  have r2 : Vals (V.ref (n + 1) :: vs) (Value.ref (n + 1) :: us) := .cons rfl r
  have hl : (Value.ref (n + 1) :: us).length = ps.length := by
    have z := r2.length
    rw [F.len _ _ _ _ hq] at z
    exact z.symm
  have hbb := hb _ (Value.ref (n + 1) :: us) I2.kIn (by rw [List.append_nil]; exact hl)
  rw [List.append_nil] at hbb
  refine wpAny_call (make_map (f := f) I1.kIn M.makes M.init (beq_iff_eq.mp M.fn) (codeAny_mono (F.run _ X.stack _ _ ⟨Value.ref (n + 1) :: us, []⟩ (Value.ref (n + 1) :: us) _ _ (E τ) (hr.make C us []) (I2.env0.make C us []) hbb r2 hq) fun r s' hq' => ?_))
  cases r with
  | error z => exact hx τ pins _ _ z s' I2 hq'
  | ok fl =>
    cases fl with
    | ret u =>
      obtain ⟨v, G', I3, rv, ev, q3⟩ := I2.after hq'
      subst ev
      exact ⟨rv, V.ref (n + 1), G', I3, rfl, q3⟩
    | next => exact hq'.elim
    | brk => exact hq'.elim
    | cont => exact hq'.elim
end
theorem Pr.over {H : Hp} {m : Addr} {zs ws : List V} {v : V} {p : Pl} (h : Pr H v p) (hm : H m = some (.lst zs)) : Pr (upd H m (.lst ws)) v p := by
  obtain ⟨t, rfl, h⟩ := h
  exact ⟨t, rfl, by rw [upd_ne (ne_of h hm (by intro z; cases z))]; exact h⟩
theorem Prs.over {H : Hp} {m : Addr} {zs ws vs : List V} {ps : List Pl} (h : Prs H vs ps) (hm : H m = some (.lst zs)) : Prs (upd H m (.lst ws)) vs ps := by
  induction h with
  | nil => exact .nil
  | cons a _ ih => exact .cons (a.over hm) ih
theorem Same.over {H0 H : Hp} {m : Addr} {o : HO} (k : Same H0 H) (n : H0 m = none) : Same H0 (upd H m o) := fun b u e => by
  rw [upd_ne (ne_of_none e n)]
  exact k b u e
end Pk
namespace Pk
open PySem L2 PySem.Spec PyProof.Rows
abbrev Tk := List L2.Key
/-- v is a tuple that holds k -/
def Kr (H : Hp) (v : V) (k : Tk) : Prop := ∃ t, v = .ref t ∧ H t = some (.tup (k.map kV))
theorem Kr.same {H H' : Hp} {v : V} {k : Tk} (h : Kr H v k) (z : Same H H') : Kr H' v k := by
  obtain ⟨t, rfl, h⟩ := h
  exact ⟨t, rfl, z _ _ h⟩
theorem Kr.over {H : Hp} {m : Addr} {zs ws : List V} {v : V} {k : Tk} (h : Kr H v k) (hm : H m = some (.lst zs)) : Kr (upd H m (.lst ws)) v k := by
  obtain ⟨t, rfl, h⟩ := h
  refine ⟨t, rfl, ?_⟩
  rw [upd_ne (ne_of h hm fun z => nomatch z)]
  exact h
inductive Krs (H : Hp) : List V → List Tk → Prop
  | nil : Krs H [] []
  | cons {v : V} {k : Tk} {vs : List V} {ks : List Tk} : Kr H v k → Krs H vs ks → Krs H (v :: vs) (k :: ks)
section
variable {H H' : Hp} {vs us : List V} {ks ls : List Tk}
theorem Krs.same (h : Krs H vs ks) (z : Same H H') : Krs H' vs ks := by
  induction h with
  | nil => exact .nil
  | cons a _ ih => exact .cons (a.same z) ih
theorem Krs.over {m : Addr} {zs ws : List V} (h : Krs H vs ks) (hm : H m = some (.lst zs)) : Krs (upd H m (.lst ws)) vs ks := by
  induction h with
  | nil => exact .nil
  | cons a _ ih => exact .cons (a.over hm) ih
theorem Krs.len (h : Krs H vs ks) : vs.length = ks.length := by
  induction h with
  | nil => rfl
  | cons a _ ih => exact congrArg (· + 1) ih
theorem Krs.app (h : Krs H vs ks) (g : Krs H us ls) : Krs H (vs ++ us) (ks ++ ls) := by
  induction h with
  | nil => exact g
  | cons a _ ih => exact .cons a ih
theorem Krs.snoc {v : V} {k : Tk} (h : Krs H vs ks) (g : Kr H v k) : Krs H (vs ++ [v]) (ks ++ [k]) := h.app (.cons g .nil)
theorem Krs.at (h : Krs H vs ks) : ∀ {i : Nat} {v : V}, vs[i]? = some v → ∃ k, ks[i]? = some k ∧ Kr H v k := by
  induction h with
  | nil => intro i v e; cases e
  | cons a _ ih =>
    intro i v e
    cases i with
    | zero => cases e; exact ⟨_, rfl, a⟩
    | succ i => exact ih e
theorem Krs.mem (h : Krs H vs ks) {v : V} (m : v ∈ vs) : ∃ k ∈ ks, Kr H v k := by
  induction h with
  | nil => cases m
  | cons a _ ih =>
    rcases List.mem_cons.mp m with e | m
    · subst e; exact ⟨_, List.mem_cons_self, a⟩
    · obtain ⟨k, hk, q⟩ := ih m
      exact ⟨k, List.mem_cons_of_mem _ hk, q⟩
/-- by their addresses -/
theorem Krs.split (h : Krs H vs ks) : ∃ L : List (Addr × Tk), vs = L.map (fun p => V.ref p.1) ∧ ks = L.map (·.2) ∧ ∀ p ∈ L, H p.1 = some (.tup (p.2.map kV)) := by
  induction h with
  | nil => exact ⟨[], rfl, rfl, fun p z => nomatch z⟩
  | cons a _ ih =>
    obtain ⟨t, rfl, e⟩ := a
    obtain ⟨L, rfl, rfl, q⟩ := ih
    refine ⟨(t, _) :: L, rfl, rfl, fun p hp => ?_⟩
    rcases List.mem_cons.mp hp with rfl | hp
    · exact e
    · exact q p hp
theorem krs_of {L : List (Addr × Tk)} (h : ∀ p ∈ L, H p.1 = some (.tup (p.2.map kV))) : Krs H (L.map fun p => V.ref p.1) (L.map (·.2)) := by
  induction L with
  | nil => exact .nil
  | cons p L ih => exact .cons ⟨p.1, rfl, h p List.mem_cons_self⟩ (ih fun q hq => h q (List.mem_cons_of_mem _ hq))
end
def kd : L2.Key → PyData
  | .inl i => .int i
  | .inr x => .str x
def dK (k : Tk) : PyData := .tuple (k.map kd)
def dKs (ks : List Tk) : PyData := .list (ks.map dK)
theorem eqv_kd (a b : L2.Key) : PyData.eqv (kd a) (kd b) = decide (a = b) := by
  cases a <;> cases b <;> simp only [kd, PyData.eqv, Sum.inl.injEq, Sum.inr.injEq, reduceCtorEq, decide_false] <;> first | rfl | (simp [PyData.eqv]; done) | skip
theorem eqvAll_kd : ∀ a b : Tk, PyData.eqvAll (a.map kd) (b.map kd) = decide (a = b)
  | [], [] => by simp [PyData.eqvAll]
  | [], _ :: _ => by simp [PyData.eqvAll]
  | _ :: _, [] => by simp [PyData.eqvAll]
  | p :: ps, q :: qs => by
    simp only [List.map_cons, PyData.eqvAll, eqv_kd, eqvAll_kd ps qs, List.cons.injEq]
    by_cases h1 : p = q <;> by_cases h2 : ps = qs <;> simp [h1, h2]
theorem eqv_dK (a b : Tk) : PyData.eqv (dK a) (dK b) = decide (a = b) := by
  unfold dK
  rw [PyData.eqv, eqvAll_kd]
theorem eqvAll_dK : ∀ ps qs : List Tk, PyData.eqvAll (ps.map dK) (qs.map dK) = decide (ps = qs)
  | [], [] => by simp [PyData.eqvAll]
  | [], _ :: _ => by simp [PyData.eqvAll]
  | _ :: _, [] => by simp [PyData.eqvAll]
  | p :: ps, q :: qs => by
    simp only [List.map_cons, PyData.eqvAll, eqv_dK, eqvAll_dK ps qs, List.cons.injEq]
    by_cases h1 : p = q <;> by_cases h2 : ps = qs <;> simp [h1, h2]
theorem eqv_dKs (ps qs : List Tk) : PyData.eqv (dKs ps) (dKs qs) = decide (ps = qs) := by
  unfold dKs
  rw [PyData.eqv, eqvAll_dK]
instance (k : Tk) (ks : List Tk) : Decidable (k ∈ ks) := decidable_of_iff (ks.any (fun q => decide (q = k)) = true) (by simp)
theorem any_dK (ks : List Tk) (k : Tk) : ((ks.map dK).any fun z => PyData.eqv z (dK k)) = decide (k ∈ ks) := by
  induction ks with
  | nil => simp
  | cons q ks ih =>
    rw [List.map_cons, List.any_cons, ih, eqv_dK]
    by_cases h1 : q = k
    · subst h1; simp
    · have h2 : ¬ k = q := fun z => h1 z.symm
      simp [h1, h2]
theorem dp_keys {K : PySem.W.Frag} {H : Hp} : ∀ k : Tk, DpAll K H (k.map kV) (k.map kd)
  | [] => .nil
  | .inl i :: k => .cons (.int i) (dp_keys k)
  | .inr x :: k => .cons (.str x) (dp_keys k)
theorem Kr.dp {K : PySem.W.Frag} {H : Hp} {v : V} {k : Tk} (h : Kr H v k) : Dp K H v (dK k) := by
  obtain ⟨t, rfl, h⟩ := h
  exact .tup (SqT.of h) (dp_keys k)
theorem Krs.dps {K : PySem.W.Frag} {H : Hp} {vs : List V} {ks : List Tk} (h : Krs H vs ks) : DpAll K H vs (ks.map dK) := by
  induction h with
  | nil => exact .nil
  | cons a _ ih => exact .cons a.dp ih
theorem Krs.dl {K : PySem.W.Frag} {H : Hp} {l : Addr} {vs : List V} {ks : List Tk} (h : Krs H vs ks) (e : SqL K H l vs) : Dp K H (.ref l) (dKs ks) := .lst e h.dps
theorem depth_kds : ∀ k : Tk, PyData.depthAll (k.map kd) = 0
  | [] => rfl
  | .inl _ :: k => by
    show max 0 (PyData.depthAll (k.map kd)) = 0
    rw [depth_kds k]
    rfl
  | .inr _ :: k => by
    show max 0 (PyData.depthAll (k.map kd)) = 0
    rw [depth_kds k]
    rfl
/-- its texts are texts -/
def okk (k : Tk) : Bool := PyData.canLayAll0 (k.map kd)
theorem lay_dKs : ∀ ks : List Tk, (∀ k ∈ ks, okk k = true) → PyData.canLayAll0 (ks.map dK) = true
  | [], _ => rfl
  | k :: ks, h => by
    show (PyData.canLayAll0 (k.map kd) && PyData.canLayAll0 (ks.map dK)) = true
    rw [lay_dKs ks fun q hq => h q (List.mem_cons_of_mem _ hq), show PyData.canLayAll0 (k.map kd) = true from h k List.mem_cons_self]
    rfl
theorem depth_dKs : ∀ ks : List Tk, PyData.depthAll (ks.map dK) ≤ 1
  | [] => by show 0 ≤ 1; omega
  | k :: ks => by
    have ih := depth_dKs ks
    show max (PyData.depthAll (k.map kd) + 1) (PyData.depthAll (ks.map dK)) ≤ 1
    rw [depth_kds]
    omega
theorem sh_dK {k : Tk} (h : okk k = true) : SeqAt.shaped (dK k) = true := by
  unfold SeqAt.shaped dK
  rw [show PyData.canLay0 (.tuple (k.map kd)) = PyData.canLayAll0 (k.map kd) from rfl, show PyData.canLayAll0 (k.map kd) = true from h]
  refine decide_eq_true ?_
  show PyData.depthAll (k.map kd) + 1 ≤ 64
  rw [depth_kds]
  omega
theorem sh_dKs {ks : List Tk} (hk : ∀ k ∈ ks, okk k = true) : SeqAt.shaped (dKs ks) = true := by
  unfold SeqAt.shaped dKs
  rw [show PyData.canLay0 (.list (ks.map dK)) = PyData.canLayAll0 (ks.map dK) from rfl, lay_dKs ks hk]
  have h := depth_dKs ks
  refine decide_eq_true ?_
  show PyData.depthAll (ks.map dK) + 1 ≤ 64
  omega
end Pk
namespace Pk
open PySem L2 PySem.Spec PyProof.Rows
/-- where the texts stand -/
def shp (k : Tk) : List Bool := k.map fun x => match x with
  | .inl _ => false
  | .inr _ => true
def leK : Tk → Tk → Bool := PySem.W.dataLe false dK
def sortK (ks : List Tk) : List Tk := ks.mergeSort leK
theorem sortK_perm (ks : List Tk) : (sortK ks).Perm ks := List.mergeSort_perm _ _
theorem alike_kd : ∀ a b : Tk, shp a = shp b → PySem.W.alikeAll (a.map kd) (b.map kd) = true
  | [], [], _ => by simp [PySem.W.alikeAll]
  | [], _ :: _, h => by simp [shp] at h
  | _ :: _, [], h => by simp [shp] at h
  | x :: a, y :: b, h => by
    have h2 : shp a = shp b := by
      unfold shp at h ⊢
      simp only [List.map_cons, List.cons.injEq] at h
      exact h.2
    rw [List.map_cons, List.map_cons, PySem.W.alikeAll, alike_kd a b h2]
    unfold shp at h
    simp only [List.map_cons, List.cons.injEq] at h
    cases x <;> cases y <;> simp at h <;> simp [kd, PySem.W.alike]
theorem alike_dK {a b : Tk} (h : shp a = shp b) : PySem.W.alike (dK a) (dK b) = true := by
  unfold dK
  rw [PySem.W.alike]
  exact alike_kd a b h
theorem reads_keys {h : Heap} : ∀ (k : Tk) {its : List Value}, Vals (k.map kV) its → ReadsAll h its (k.map kd) []
  | [], _, .nil => .nil
  | .inl i :: k, _, .cons r t => by
    obtain ⟨u, rfl⟩ := (show ∃ u, _ = Value.int i u from r)
    exact .cons (.int i u) (reads_keys k t)
  | .inr x :: k, _, .cons r t => by
    obtain ⟨u, rfl⟩ := (show ∃ u, _ = Value.str x u from r)
    exact .cons (.str x u) (reads_keys k t)
theorem reads_k {P : Program} {w : World} {H : Hp} {h : Heap} {t : Addr} {k : Tk} (ok : HOk P w H h) (e : H t = some (.tup (k.map kV))) : Reads h (.ref t) (dK k) [] := by
  obtain ⟨_, its, r, o, ho, hc, n, hd⟩ := (show ObjOk P w H h t (.tup (k.map kV)) from ok t _ e)
  exact .tuple ho hc hd (reads_keys k (by simpa using r))
theorem each_map {α β : Type} {R : α → β → Prop} (f : β → α) : ∀ {bs : List β}, (∀ b ∈ bs, R (f b) b) → PySem.W.EachIs R (bs.map f) bs
  | [], _ => .nil
  | b :: bs, h => .cons (h b List.mem_cons_self) (each_map f fun c hc => h c (List.mem_cons_of_mem _ hc))
theorem refs_vals (L : List (Addr × Tk)) : Vals (L.map fun p => V.ref p.1) (L.map fun p => Value.ref p.1) := by
  induction L with
  | nil => exact .nil
  | cons p L ih => exact .cons rfl ih
theorem sort_pairs (L : List (Addr × Tk)) : (L.mergeSort (PySem.W.dataLe false fun b => dK b.2)).map (·.2) = sortK (L.map (·.2)) := List.map_mergeSort fun a _ b _ => rfl
/-- the order sorts: all alike, none empty -/
def Fit (ks : List Tk) : Prop := ∃ sh : List Bool, sh ≠ [] ∧ ∀ k ∈ ks, shp k = sh
theorem Fit.alike {L : List (Addr × Tk)} (h : Fit (L.map (·.2))) : PySem.W.AllAlike (L.map fun b => dK b.2) := by
  obtain ⟨sh, _, q⟩ := h
  intro d hd d' hd'
  obtain ⟨b, hb, rfl⟩ := List.mem_map.mp hd
  obtain ⟨c, hc, rfl⟩ := List.mem_map.mp hd'
  exact alike_dK ((q _ (List.mem_map_of_mem hb)).trans (q _ (List.mem_map_of_mem hc)).symm)
theorem Fit.sortable {L : List (Addr × Tk)} (h : Fit (L.map (·.2))) : PySem.W.Sortable (L.map fun b => dK b.2) := .inl fun d hd => by
  obtain ⟨sh, q0, q⟩ := h
  obtain ⟨b, hb, rfl⟩ := List.mem_map.mp hd
  have e := q _ (List.mem_map_of_mem hb)
  cases hk : b.2 with
  | nil =>
    have hk2 : (b.2 : Tk) = [] := hk
    rw [show shp ((fun x : Addr × Tk => x.2) b) = shp b.2 from rfl, hk2] at e
    exact absurd e.symm q0
  | cons x r => exact ⟨kd x, r.map kd, rfl⟩
theorem depth_dK (k : Tk) : (dK k).depth = 1 := by
  show PyData.depthAll (k.map kd) + 1 = 1
  rw [depth_kds]
section
variable {X : Cx}
def rSortDT : List V → Hp → VK → Prop := fun vs H Q => ∃ (a : Addr) (kvs : List (Tk × V)), vs = [.ref a] ∧ Rd H a (.dT kvs) ∧ Fit (kvs.map (·.1)) ∧
  ∀ (p : Addr) (ys : List V), H p = none → Krs H ys (sortK (kvs.map (·.1))) → Q (.ref p) (upd H p (.lst ys))
theorem call_sortDT (hc : X.calm = true) (hu : X.A.units + 64 < cLine) : CallR X (.builtin "sorted") rSortDT := by
  intro pins s σ H vs us Q I r h
  obtain ⟨a, kvs, rfl, hd, hf, q⟩ := h
  rw [Vals.ref1 r]
  obtain ⟨z, lo, es0, pr, o, es, ep, ho, hx, hdt, he, hn⟩ := (show ObjOk X.prog X.w H s.heap a (.dT kvs) from hd.ok I.hok)
  have l1 : es.size = es0.length := size_of_entries he
  have l2 : kvs.length = es0.length := Paired.length pr
  refine Calls.call_function_entry PyProof.Rows.kind_sorted PyProof.Rows.plain_sorted PyProof.Rows.entry_sorted (PyProof.Rows.args_sorted1 _) ?_
  unfold Builtin.«sorted»
  refine wpAny_bind (m := checkCount "sorted" 1 1 _) (wpAny_pure ?_)
  refine wpAny_bind (PySem.W.kdu_collect (A := X.A.in1) (kdl_raw lo hx hdt) (I.ok.hd hc) ho (by omega) fun h' tk acc hk hacc => ?_)
  -- what was collected: the keys' addresses
  have ea : acc.toList = es0.map fun x => Value.ref x.2.1 := by
    have hl : acc.toList.length = es0.length := by rw [Array.length_toList, hacc.1]; exact l1
    refine List.ext_getElem? fun j => ?_
    rw [List.getElem?_map]
    cases hj : acc.toList[j]? with
    | none =>
      have h1 := List.getElem?_eq_none_iff.mp hj
      rw [List.getElem?_eq_none (by omega)]
      rfl
    | some v =>
      obtain ⟨en, hen, hv⟩ := hacc.2 j v (by rw [← Array.getElem?_toList]; exact hj)
      have qe := entry_at he j
      rw [hen] at qe
      cases hb : es0[j]? with
      | none =>
        rw [hb] at qe
        exact nomatch (show some en = none from qe)
      | some b =>
        rw [hb] at qe
        have e2 : en = entryOfKey (tupleKind (mixKind X.prog X.w)) b := Option.some.inj qe
        rw [hv, e2]
        rfl
  obtain ⟨L, eL1, eL2, hL⟩ : ∃ L : List (Addr × Tk), (es0.map fun x => Value.ref x.2.1) = L.map (fun p => Value.ref p.1) ∧ kvs.map (·.1) = L.map (·.2) ∧ ∀ p ∈ L, H p.1 = some (.tup (p.2.map kV)) := by
    clear ea hacc he l1 l2 q hf hd
    induction pr with
    | nil => exact ⟨[], rfl, rfl, fun p z => nomatch z⟩
    | cons h1 _ ih =>
      obtain ⟨L, e1, e2, e3⟩ := ih (by simp at z; omega) (by simp at hn; exact hn.2)
      rename_i p0 q0 _ _ _
      refine ⟨(q0.2.1, p0.1) :: L, by rw [List.map_cons, List.map_cons, e1], by rw [List.map_cons, List.map_cons, e2], fun p hp => ?_⟩
      rcases List.mem_cons.mp hp with rfl | hp
      · exact h1.2.1
      · exact e3 p hp
  rw [eL1] at ea
  rw [eL2] at hf q
  have hlen0 : L.length ≤ sizeLine := by
    have e := congrArg List.length eL2
    rw [List.length_map, List.length_map] at e
    omega
  have I1 : Inv X pins σ H { s with heap := h', toks := tk } := I.kept hk
  rw [ea]
  refine wpAny_bind (wpAny_newList ?_ (by rw [List.length_map]; exact hlen0))
  have hoL : (h'.push (seqObj "list" (L.map fun p => Value.ref p.1).toArray 0)).get? h'.objs.size = some (seqObj "list" (L.map fun p => Value.ref p.1).toArray 0) := Heap.get?_push_size _ rfl
  show wpAny _ _ _ _ _ { s with heap := h'.push (seqObj "list" (L.map fun p => Value.ref p.1).toArray 0), toks := tk }
  have ok2 : HOk X.prog X.w H (h'.push (seqObj "list" (L.map fun p => Value.ref p.1).toArray 0)) := I1.hok.kept fun b u e => Heap.get?_push_of_some _ e
  refine wpAny_bind (wpAny_holding (PySem.W.list_sort_data (s := { s with heap := h'.push (seqObj "list" (L.map fun p => Value.ref p.1).toArray 0), toks := tk }) (bs := L) (enc := fun b : Addr × Tk => dK b.2) (R := fun v b => v = Value.ref b.1)
    hoL (each_map _ fun b _ => rfl) (each_map _ fun b hb => ⟨[], reads_k ok2 (hL b hb), by simp⟩) hf.alike hf.sortable hlen0 (fun b _ => ?_) fun out hout eo => ?_))
  · have z1 : X.A.in1.units ≤ X.A.units + 3 := by
      unfold Around.in1
      simp
    show X.A.in1.units + 1 + (dK b.2).depth < cLine
    rw [depth_dK]
    omega
  have eo2 := eachIs_back eo
  obtain ⟨c, hcc⟩ := PyProof.Rows.sortedHeap_at (vs := L.map fun p => Value.ref p.1) (out := out.toArray) hoL
  have hlen : ((L.mergeSort (PySem.W.dataLe false fun b => dK b.2)).map fun p => V.ref p.1).length ≤ sizeLine := by
    rw [List.length_map, (List.mergeSort_perm _ _).length_eq]
    exact hlen0
  refine wpAny_pure ⟨_, rfl, .ref h'.objs.size, upd H h'.objs.size (.lst ((L.mergeSort (PySem.W.dataLe false fun b => dK b.2)).map fun p => V.ref p.1)), I1.laid (t' := tk) (fun b u e => ?_) (Nat.le_refl _)
    ⟨hlen, out, c, by rw [eo2]; exact refs_vals _, hcc⟩, rfl, q _ _ (I1.hok.fresh (Nat.le_refl _)) ?_⟩
  · have lt : b < h'.objs.size := Heap.lt_size e
    rw [PyProof.Rows.sortedHeap_old (Nat.ne_of_lt lt) (by rw [size_push']; exact Nat.lt_succ_of_lt lt)]
    exact Heap.get?_push_of_some _ e
  · rw [← sort_pairs]
    exact krs_of fun p hp => hL p ((List.mergeSort_perm _ _).mem_iff.mp hp)
end
end Pk
namespace Pk
open PySem L2 PySem.Spec PyProof.Rows GxR NdefX
structure Kp (H H' : Hp) : Prop where
  at_ : ∀ b o, H b = some o → (∀ ps, o ≠ .tbl ps) → H' b = some o
  tab : ∀ P, TabG H P → TabG H' P
theorem kpS {H H' : Hp} (h : Same H H') : Kp H H' := ⟨fun b o e _ => h b o e, fun P ⟨ps, e, t⟩ => ⟨ps, h _ _ e, t⟩⟩
theorem Kp.refl (H : Hp) : Kp H H := kpS (Same.refl H)
theorem Kp.trans {H H1 H2 : Hp} (a : Kp H H1) (b : Kp H1 H2) : Kp H H2 := ⟨fun c o e n => b.at_ c o (a.at_ c o e n) n, fun P h => b.tab P (a.tab P h)⟩
theorem Tabbed.kp {P : Addr} {H H' : Hp} (h : Tabbed P H H') (t : TabG H P) : Kp H H' := by
  obtain ⟨ps, e0, t0⟩ := t
  refine ⟨fun b o e n => ?_, fun P' ⟨qs, e, t'⟩ => ?_⟩
  · rw [h.2 b fun z => by rw [z, e0] at e; exact n ps (Option.some.inj e).symm]
    exact e
  · by_cases z : P' = P
    · rw [z]
      exact h.1
    · exact ⟨qs, by rw [h.2 _ z]; exact e, t'⟩
section
variable {H H' : Hp}
theorem Kp.ins (k : Kp H H') {b C dx : Addr} {fs : List (Str × V)} (e : H b = some (.ins C dx fs)) : H' b = some (.ins C dx fs) := k.at_ _ _ e fun _ z => nomatch z
theorem Kp.lst (k : Kp H H') {b : Addr} {xs : List V} (e : H b = some (.lst xs)) : H' b = some (.lst xs) := k.at_ _ _ e fun _ z => nomatch z
theorem Kp.tup (k : Kp H H') {b : Addr} {xs : List V} (e : H b = some (.tup xs)) : H' b = some (.tup xs) := k.at_ _ _ e fun _ z => nomatch z
theorem Kp.dT (k : Kp H H') {b : Addr} {kvs : List (Tk × V)} (e : H b = some (.dT kvs)) : H' b = some (.dT kvs) := k.at_ _ _ e fun _ z => nomatch z
theorem Kp.frz (k : Kp H H') {b : Addr} {o : Obj} {u : HO} (e : H b = some (.frz o u)) : H' b = some (.frz o u) := k.at_ _ _ e fun _ z => nomatch z
theorem Kp.seq {K : PySem.W.Frag} (k : Kp H H') {a : Addr} {xs : List V} (h : SqL K H a xs) : SqL K H' a xs := by
  rcases h with (h | ⟨o, h⟩) | h
  · exact .inl (.inl (k.lst h))
  · exact .inl (.inr ⟨o, k.frz h⟩)
  · exact .inr h
theorem Kp.free (k : Kp H H') {l : Addr} (h : H' l = none) : H l = none ∨ ∃ ps, H l = some (.tbl ps) := by
  cases q : H l with
  | none => exact .inl rfl
  | some o =>
    by_cases t : ∃ ps, o = .tbl ps
    · obtain ⟨ps, rfl⟩ := t
      exact .inr ⟨ps, rfl⟩
    · rw [k.at_ _ _ q fun ps z => t ⟨ps, z⟩] at h
      cases h
theorem Kr.kp {v : V} {x : Tk} (h : Kr H v x) (k : Kp H H') : Kr H' v x := by
  obtain ⟨t, rfl, h⟩ := h
  exact ⟨t, rfl, k.tup h⟩
theorem Krs.kp {vs : List V} {ks : List Tk} (h : Krs H vs ks) (k : Kp H H') : Krs H' vs ks := by
  induction h with
  | nil => exact .nil
  | cons a _ ih => exact .cons (a.kp k) ih
theorem Pr.kp {v : V} {p : Pl} (h : Pr H v p) (k : Kp H H') : Pr H' v p := by
  obtain ⟨t, rfl, h⟩ := h
  exact ⟨t, rfl, k.tup h⟩
theorem Prs.kp {vs : List V} {ps : List Pl} (h : Prs H vs ps) (k : Kp H H') : Prs H' vs ps := by
  induction h with
  | nil => exact .nil
  | cons a _ ih => exact .cons (a.kp k) ih
end
structure FunC (K : PySem.W.Frag) (x qual : Str) (st : Stmt) (f c : Addr) (fd : FuncData) : Prop where
  ex : ∃ (oc : Value) (od : Option Addr) (kV doc pm : Value) (an : Option Addr) (ct : Value) (osl : Array (Option Value)),
    fd = PySem.W.fnOf x qual (defArgs st) (defBody st) (defScope st) .none kV doc pm an (.ref c) ct ∧ K.lookup f = some ⟨oc, od, .func fd, osl⟩ ∧ PySem.W.codeIn K (.ref c) qual = true
  kp : PySem.W.keepIn K (.ref f) = true
section
variable {P : Program} {w : World} {K : PySem.W.Frag} {mg : Str → Option Value} {base : Heap}
theorem FunC.ok {x qual : Str} {st : Stmt} {f c : Addr} {fd : FuncData} {N ps : List Str} {k : Nat} {sp : Sp} (F : FunC K x qual st f c fd) (S : FnScope N ps (defScope st)) (len : ∀ vs H Q E, sp vs H Q E → vs.length = ps.length)
    (hbody : ∀ (A : Around) (outer : List Env) (s : Shared) (H : Hp) (vs : List V) (Q : VK) (E : XK), Room k (A.deeper (envOfC qual (defScope st) s.heap.objs.size f (.ref c))) → sp vs H Q E →
      ∃ t, PSs (cxOf CX0 P w K mg base N qual (defScope st) f (.ref c) A outer s H E).nox (defBody st) t ∧ t { nx := fun _ H' => Q .non H', rt := Q } (start N vs) H) : FnOk P w K mg base CX0 (k + 1) f fd ps sp := by
  obtain ⟨oc, od, kV, doc, pm, an, ct, osl, rfl, lk, hcd⟩ := F.ex
  refine fn_of lk hcd S len fun A outer s H vs Q E hr h => ?_
  obtain ⟨t, z, q⟩ := hbody A outer s H vs Q E hr h
  exact ⟨t, z.nox, q⟩
theorem FunC.okX {x qual : Str} {st : Stmt} {f c : Addr} {fd : FuncData} {N ps : List Str} {k : Nat} {sp : Sp} (F : FunC K x qual st f c fd) (S : FnScope N ps (defScope st)) (len : ∀ vs H Q E, sp vs H Q E → vs.length = ps.length)
    (hbody : ∀ (A : Around) (outer : List Env) (s : Shared) (H : Hp) (vs : List V) (Q : VK) (E : XK), Room k (A.deeper (envOfC qual (defScope st) s.heap.objs.size f (.ref c))) → sp vs H Q E →
      ∃ t, PSs (cxOf (L2.CX P w) P w K mg base N qual (defScope st) f (.ref c) A outer s H E) (defBody st) t ∧ t { nx := fun _ H' => Q .non H', rt := Q } (start N vs) H) : FnOk P w K mg base (L2.CX P w) (k + 1) f fd ps sp := by
  obtain ⟨oc, od, kV, doc, pm, an, ct, osl, rfl, lk, hcd⟩ := F.ex
  exact fn_of lk hcd S len fun A outer s H vs Q E hr h => hbody A outer s H vs Q E hr h
end
def gscC (outer sc : Scope) : Bool := (match sc.kind with | .function => true | _ => false) && !sc.isCoroutine && (match sc.names.lookup (".0" : Str) with | some .local => true | _ => false) &&
  (sc.names.all fun y => match y.2 with
    | .cell => false
    | .free => (match outer.names.lookup y.1 with | some .cell => true | _ => false)
    | _ => true)
theorem gsc_by {env : Env} {outer sc : Scope} (ho : env.scope = outer) (hc : env.cells = cellsFrom (env.locals + 1) env.scope.names []) (h : gscC outer sc = true) : GSc env sc := by
  subst ho
  unfold gscC at h
  simp only [Bool.and_eq_true, List.all_eq_true] at h
  obtain ⟨⟨⟨h1, h2⟩, h3⟩, h4⟩ := h
  refine ⟨?_, by simpa using h2, fun y hy e => ?_, ?_, fun y hy e => ?_⟩
  · split at h1
    · assumption
    · cases h1
  · have q := h4 y hy
    rw [e] at q
    cases q
  · split at h3
    · assumption
    · cases h3
  · have q := h4 y hy
    rw [e] at q
    have q2 : (match env.scope.names.lookup y.1 with | some .cell => true | _ => false) = true := q
    split at q2
    · rename_i z
      rw [hc]
      exact cell_has z
    · cases q2
def gfrC (XN : List Str) (outer sc : Scope) (N : List Str) (fr : List (Option Nat)) : Bool := decide (fr.length = N.length) && ((N.zip fr).all fun p => match p.2 with
  | none => true
  | some j => (match sc.names.lookup p.1 with | some .free => true | _ => false) && decide (XN[j]? = some p.1) && (match outer.names.lookup p.1 with | some .cell => true | _ => false))
theorem gfr_by {X : Cx} {outer sc : Scope} {XN N : List Str} {fr : List (Option Nat)} (ho : X.env.scope = outer) (hn : X.N = XN) (h : gfrC XN outer sc N fr = true) : GFr X sc N fr := by
  subst ho hn
  unfold gfrC at h
  simp only [Bool.and_eq_true, List.all_eq_true, decide_eq_true_eq] at h
  obtain ⟨h1, h2⟩ := h
  refine ⟨h1, fun i y j e1 e2 => ?_⟩
  have m : (y, some j) ∈ N.zip fr := by
    refine List.mem_of_getElem? (i := i) ?_
    rw [List.getElem?_zip_eq_some]
    exact ⟨e1, e2⟩
  have q := h2 _ m
  simp only [Bool.and_eq_true, decide_eq_true_eq] at q
  obtain ⟨⟨q1, q2⟩, q3⟩ := q
  refine ⟨?_, q2, .inl ?_⟩
  · split at q1
    · assumption
    · cases q1
  · split at q3
    · assumption
    · cases q3
end Pk
namespace Pk
open PySem L2 PySem.Spec PyProof.Rows
theorem dcT_list {K : PySem.W.Frag} {a : Addr} {xs : List V} {g : TG} {tk tv : TE} {vs : List Nat} {σ : L2.St} {H1 : Hp} {D : Addr} {Qd : Hp → Prop} (Pv : Nat → Hp → Prop) (h0 : Pv 0 (upd H1 D (.dT []))) (hl : ∀ i H, i ≤ xs.length → Pv i H → SqL K H a xs)
    (hs : ∀ i x H, xs[i]? = some x → Pv i H → g x (wipe σ vs) H fun σ2 H2 => wipe σ2 vs = wipe σ vs ∧ tk σ2 H2 fun y H4 => tv σ2 H4 fun z H5 =>
      ∃ b kvs k, y = .ref b ∧ H5 b = some (.tup (k.map kV)) ∧ H5 D = some (.dT kvs) ∧ kvs.length < sizeLine ∧ Pv (i + 1) (upd H5 D (.dT (putK kvs k z)))) (hd : ∀ H, Pv xs.length H → Qd H) :
    ∃ W : Nat → Nat → Hp → Prop, (∃ m, W 0 m (upd H1 D (.dT []))) ∧ ∀ i m H, W i m H →
      ((Itl K a).stop i H ∧ Qd H) ∨ ((Itl K a).go i H ∧ ∃ Nx : Hp → Prop, (∀ H', Nx H' → ∃ m', m' < m ∧ W (i + 1) m' H') ∧
        ∀ x H', (Itl K a).yld i H x H' → g x (wipe σ vs) H' fun σ2 H2 => wipe σ2 vs = wipe σ vs ∧ tk σ2 H2 fun y H4 => tv σ2 H4 fun z H5 =>
          ∃ b kvs k, y = .ref b ∧ H5 b = some (.tup (k.map kV)) ∧ H5 D = some (.dT kvs) ∧ kvs.length < sizeLine ∧ Nx (upd H5 D (.dT (putK kvs k z)))) := by
  refine ⟨fun i m H => m = xs.length - i ∧ i ≤ xs.length ∧ Pv i H, ⟨xs.length, by simp, Nat.zero_le _, h0⟩, fun i m H w => ?_⟩
  obtain ⟨rfl, le, p⟩ := w
  have q := hl i H le p
  by_cases lt : i < xs.length
  · refine .inr ⟨⟨xs, xs[i], q, List.getElem?_eq_getElem lt⟩, Pv (i + 1), fun H' p' => ⟨xs.length - (i + 1), by omega, rfl, lt, p'⟩, fun x H' y => ?_⟩
    obtain ⟨rfl, y⟩ := y
    exact hs i x _ (y xs q) p
  · obtain rfl : i = xs.length := by omega
    exact .inl ⟨⟨xs, q, Nat.le_refl _⟩, hd H p⟩
theorem snoc_ind {α : Type} {P : List α → Prop} (h0 : P []) (h1 : ∀ l x, P l → P (l ++ [x])) (l : List α) : P l := by
  rw [← List.reverse_reverse l]
  induction l.reverse with
  | nil => exact h0
  | cons x r ih =>
    rw [List.reverse_cons]
    exact h1 _ _ ih
/-- laid one after another -/
def ded (ks : List Tk) : List (Tk × V) := ks.foldl (fun kvs k => putK kvs k (.bl true)) []
theorem ded_snoc (ks : List Tk) (k : Tk) : ded (ks ++ [k]) = putK (ded ks) k (.bl true) := by
  unfold ded
  rw [List.foldl_append]
  rfl
theorem ded_mem : ∀ (ks : List Tk) (k : Tk), (valV (ded ks) k).isSome = decide (k ∈ ks) := by
  intro ks
  refine snoc_ind (P := fun ks : List Tk => ∀ k : Tk, (valV (ded ks) k).isSome = decide (k ∈ ks)) (fun k => by simp [ded, valV_nil]) (fun ks x ih k => ?_) ks
  rw [ded_snoc, valV_put]
  by_cases h : k = x
  · subst h
    simp
  · rw [if_neg h, ih k]
    simp [h]
theorem ded_le (ks : List Tk) : (ded ks).length ≤ ks.length := by
  refine snoc_ind (P := fun ks : List Tk => (ded ks).length ≤ ks.length) (Nat.le_refl _) (fun ks x ih => ?_) ks
  rw [ded_snoc, List.length_append]
  have q := length_putK (ded ks) x (.bl true)
  show _ ≤ ks.length + 1
  omega
theorem putK_old {kvs : List (Tk × V)} {k : Tk} (v : V) (h : (valV kvs k).isSome = true) : (putK kvs k v).length = kvs.length := by
  unfold putK
  rw [if_pos (by rw [valV_any]; exact h), List.length_map]
theorem ded_eq (ks : List Tk) : (ks.Nodup → ded ks = ks.map fun k => (k, V.bl true)) ∧ (¬ ks.Nodup → (ded ks).length < ks.length) := by
  refine snoc_ind (P := fun ks : List Tk => (ks.Nodup → ded ks = ks.map fun k => (k, V.bl true)) ∧ (¬ ks.Nodup → (ded ks).length < ks.length)) ⟨fun _ => rfl, fun h => (h .nil).elim⟩ (fun ks x ih => ?_) ks
  obtain ⟨ih1, ih2⟩ := ih
  have le := ded_le ks
  by_cases hx : x ∈ ks
  · have hv : (valV (ded ks) x).isSome = true := by rw [ded_mem]; exact decide_eq_true hx
    refine ⟨fun h => ?_, fun _ => ?_⟩
    · have z := (List.nodup_append.mp h).2.2 x hx x (by simp)
      exact (z rfl).elim
    · rw [ded_snoc, putK_old _ hv, List.length_append]
      show _ < ks.length + 1
      omega
  · have hv : valV (ded ks) x = none := by
      have q := ded_mem ks x
      rw [decide_eq_false hx] at q
      cases e : valV (ded ks) x with
      | none => rfl
      | some y => rw [e] at q; cases q
    have step : ded (ks ++ [x]) = ded ks ++ [(x, .bl true)] := by rw [ded_snoc, putK_new _ hv]
    refine ⟨fun h => ?_, fun h => ?_⟩
    · rw [step, ih1 (List.nodup_append.mp h).1, List.map_append]
      rfl
    · have hn : ¬ ks.Nodup := fun z => h (List.nodup_append.mpr ⟨z, by simp, fun y hy y' hy' e => by
        rw [List.mem_singleton.mp hy'] at e
        rw [e] at hy
        exact hx hy⟩)
      have q := ih2 hn
      rw [step, List.length_append, List.length_append]
      show (ded ks).length + 1 < ks.length + 1
      omega
end Pk
namespace Pk
open PySem L2 PySem.Spec PyProof.Rows GxR NdefX
/-- a relation of a value in a heap, kept as heaps grow -/
structure Rel where
  p : Hp → V → Prop
  mn : ∀ {H H' : Hp} {v : V}, Kp H H' → p H v → p H' v
/-- what an object that is being changed is -/
structure Own where
  p : Hp → HO → Prop
  mn : ∀ {H H' : Hp} {o : HO}, Kp H H' → p H o → p H' o
  ok : ∀ {H : Hp} {o : HO}, p H o → Mut (some o)
inductive Slot where
  | any
  | fz (R : Rel)
  | own (C : Own)
/-- where one stands: the heap at the start, facts of the heap, what is hidden, the slots -/
structure Ct where
  hs : Hp
  h0 : Hp
  om : Addr → Prop
  g : List Slot
abbrev Ct.set (c : Ct) (i : Nat) (s : Slot) : Ct := { c with g := c.g.set i s }
abbrev Ct.at (c : Ct) (g : List Slot) : Ct := { c with g := g }
def isOwn (g : List Slot) (σ : L2.St) (a : Addr) : Prop := ∃ (i : Nat) (C : Own), g[i]? = some (.own C) ∧ σ[i]? = some (some (.ref a))
open Classical in
/-- the heap without these -/
noncomputable def less (H : Hp) (M : Addr → Prop) : Hp := fun a => if M a then none else H a
noncomputable abbrev bas (c : Ct) (σ : L2.St) (H : Hp) : Hp := less H fun a => isOwn c.g σ a ∨ c.om a
theorem less_in {H : Hp} {M : Addr → Prop} {a : Addr} (h : M a) : less H M a = none := if_pos h
theorem less_out {H : Hp} {M : Addr → Prop} {a : Addr} (h : ¬ M a) : less H M a = H a := if_neg h
theorem less_some {H : Hp} {M : Addr → Prop} {a : Addr} {o : HO} (e : less H M a = some o) : ¬ M a ∧ H a = some o := by
  by_cases h : M a
  · rw [less_in h] at e
    cases e
  · rw [less_out h] at e
    exact ⟨h, e⟩
theorem bas_in {c : Ct} {σ : L2.St} {H : Hp} {a : Addr} (h : isOwn c.g σ a ∨ c.om a) : bas c σ H a = none := if_pos h
theorem bas_out {c : Ct} {σ : L2.St} {H : Hp} {a : Addr} (h : ¬ (isOwn c.g σ a ∨ c.om a)) : bas c σ H a = H a := if_neg h
theorem kp_of {H H' : Hp} (h : ∀ b o, H b = some o → H' b = some o) : Kp H H' := kpS h
theorem kp_less {H : Hp} {M : Addr → Prop} : Kp (less H M) H := kp_of fun b o e => (less_some e).2
theorem less_kp {H H' : Hp} {M : Addr → Prop} (k : Kp H H') : Kp (less H M) (less H' M) := by
  refine ⟨fun b o e n => ?_, fun P ⟨ps, e, t⟩ => ?_⟩
  · obtain ⟨h, e⟩ := less_some e
    rw [less_out h]
    exact k.at_ b o e n
  · obtain ⟨h, e⟩ := less_some e
    obtain ⟨qs, e', t'⟩ := k.tab P ⟨ps, e, t⟩
    exact ⟨qs, by rw [less_out h]; exact e', t'⟩
/-- less is hidden: more stands -/
theorem less_mono {H : Hp} {M M' : Addr → Prop} (h : ∀ a, M' a → M a) : Kp (less H M) (less H M') := kp_of fun b o e => by
  obtain ⟨n, e⟩ := less_some e
  rw [less_out fun z => n (h b z)]
  exact e
theorem kp_new {H : Hp} {p : Addr} {o : HO} (n : H p = none) : Kp H (upd H p o) := kp_of fun b u e => by
  rw [upd_ne (ne_of_none e n)]
  exact e
/-- new behind the heap at the start -/
def Fre (hs : Hp) (p : Addr) : Prop := (∀ o, hs p = some o → ∃ ps, o = .tbl ps) ∧ ¬ TabG hs p
theorem Fre.of {hs H : Hp} {p : Addr} (k : Kp hs H) (n : H p = none) : Fre hs p := by
  refine ⟨fun o e => ?_, fun t => ?_⟩
  · by_cases z : ∃ ps, o = .tbl ps
    · exact z
    · have := k.at_ p o e fun ps q => z ⟨ps, q⟩
      rw [n] at this
      cases this
  · obtain ⟨ps, e, _⟩ := k.tab p t
    rw [n] at e
    cases e
theorem Fre.upd {hs H : Hp} {p : Addr} {o : HO} (f : Fre hs p) (k : Kp hs H) : Kp hs (upd H p o) := by
  refine ⟨fun b u e n => ?_, fun P t => ?_⟩
  · have hb : b ≠ p := fun z => by
      subst z
      obtain ⟨ps, z⟩ := f.1 u e
      exact n ps z
    rw [upd_ne hb]
    exact k.at_ b u e n
  · have hb : P ≠ p := fun z => by
      subst z
      exact f.2 t
    obtain ⟨qs, e, t'⟩ := k.tab P t
    exact ⟨qs, by rw [upd_ne hb]; exact e, t'⟩
/-- the slots hold what they should -/
structure Sta (c : Ct) (σ : L2.St) (H : Hp) : Prop where
  len : σ.length = c.g.length
  fz : ∀ (i : Nat) (R : Rel), c.g[i]? = some (.fz R) → ∃ v, σ[i]? = some (some v) ∧ R.p (bas c σ H) v
  own : ∀ (i : Nat) (C : Own), c.g[i]? = some (.own C) → ∃ p o, σ[i]? = some (some (.ref p)) ∧ H p = some o ∧ C.p (bas c σ H) o ∧ Fre c.hs p ∧ ¬ c.om p
  ne : ∀ (i j : Nat) (C C' : Own) (p : Addr), c.g[i]? = some (.own C) → c.g[j]? = some (.own C') → σ[i]? = some (some (.ref p)) → σ[j]? = some (some (.ref p)) → i = j
  k0 : Kp c.h0 (bas c σ H)
  ks : Kp c.hs H
  hid : ∀ a, c.om a → ∃ o, H a = some o ∧ Mut (some o)
theorem notTbl {o : HO} (h : Mut (some o)) : ∀ ps, o ≠ .tbl ps := fun ps e => by
  subst e
  exact h
/-- a heap that grows -/
theorem Sta.kp {c : Ct} {σ : L2.St} {H H' : Hp} (h : Sta c σ H) (k : Kp H H') : Sta c σ H' := by
  have kb : Kp (bas c σ H) (bas c σ H') := less_kp k
  refine ⟨h.len, fun i R e => ?_, fun i C e => ?_, h.ne, h.k0.trans kb, h.ks.trans k, fun a z => ?_⟩
  · obtain ⟨v, e1, e2⟩ := h.fz i R e
    exact ⟨v, e1, R.mn kb e2⟩
  · obtain ⟨p, o, e1, e2, e3, e4, e5⟩ := h.own i C e
    exact ⟨p, o, e1, k.at_ p o e2 (notTbl (C.ok e3)), C.mn kb e3, e4, e5⟩
  · obtain ⟨o, e, m⟩ := h.hid a z
    exact ⟨o, k.at_ a o e (notTbl m), m⟩
theorem Sta.kb {c : Ct} {σ : L2.St} {H H' : Hp} (h : Sta c σ H) (k : Kp H H') : Kp (bas c σ H) (bas c σ H') := less_kp k
/-- what is new is not hidden -/
theorem Sta.free {c : Ct} {σ : L2.St} {H : Hp} (h : Sta c σ H) {p : Addr} (n : H p = none) : ¬ (isOwn c.g σ p ∨ c.om p) := by
  rintro (⟨i, C, e1, e2⟩ | z)
  · obtain ⟨q, o, e3, e4, _⟩ := h.own i C e1
    rw [e2] at e3
    cases e3
    rw [n] at e4
    cases e4
  · obtain ⟨o, e, _⟩ := h.hid p z
    rw [n] at e
    cases e
theorem getset {α : Type} {l : List α} {i j : Nat} {a b : α} (h : (l.set i a)[j]? = some b) : (j = i ∧ b = a) ∨ (j ≠ i ∧ l[j]? = some b) := by
  by_cases e : i = j
  · subst e
    left
    rw [List.getElem?_set] at h
    simp only [if_pos rfl, ite_true] at h
    split at h
    · cases h
      exact ⟨rfl, rfl⟩
    · cases h
  · right
    rw [List.getElem?_set_ne e] at h
    exact ⟨fun z => e z.symm, h⟩
theorem setget {α : Type} {l : List α} {i : Nat} {a : α} (h : i < l.length) : (l.set i a)[i]? = some a := by
  rw [List.getElem?_set]
  simp [h]
/-- a name holds a value that stays -/
theorem Sta.set {c : Ct} {σ : L2.St} {H : Hp} (h : Sta c σ H) {i : Nat} {R : Rel} {v : V} (hi : i < c.g.length) (hv : R.p (bas c σ H) v) :
    Sta (c.set i (.fz R)) (σ.set i (some v)) H ∧ Kp (bas c σ H) (bas (c.set i (.fz R)) (σ.set i (some v)) H) := by
  have back : ∀ {j : Nat} {C : Own}, (c.g.set i (.fz R))[j]? = some (.own C) → j ≠ i ∧ c.g[j]? = some (.own C) := fun {j C} e => by
    rcases getset e with ⟨_, z⟩ | z
    · cases z
    · exact z
  have kb : Kp (bas c σ H) (bas (c.set i (.fz R)) (σ.set i (some v)) H) := less_mono fun a => by
    rintro (⟨j, C, e1, e2⟩ | z)
    · obtain ⟨n, e1⟩ := back e1
      rw [List.getElem?_set_ne fun z => n z.symm] at e2
      exact .inl ⟨j, C, e1, e2⟩
    · exact .inr z
  refine ⟨⟨by rw [List.length_set, List.length_set]; exact h.len, fun j S e => ?_, fun j C e => ?_, fun j k C C' p e1 e2 e3 e4 => ?_, h.k0.trans kb, h.ks, h.hid⟩, kb⟩
  · rcases getset e with ⟨rfl, z⟩ | ⟨n, z⟩
    · cases z
      exact ⟨v, setget (by rw [h.len]; exact hi), R.mn kb hv⟩
    · obtain ⟨u, e1, e2⟩ := h.fz j S z
      exact ⟨u, by rw [List.getElem?_set_ne fun z => n z.symm]; exact e1, S.mn kb e2⟩
  · obtain ⟨n, z⟩ := back e
    obtain ⟨p, o, e1, e2, e3, e4, e5⟩ := h.own j C z
    exact ⟨p, o, by rw [List.getElem?_set_ne fun z => n z.symm]; exact e1, e2, C.mn kb e3, e4, e5⟩
  · obtain ⟨n1, e1⟩ := back e1
    obtain ⟨n2, e2⟩ := back e2
    rw [List.getElem?_set_ne fun z => n1 z.symm] at e3
    rw [List.getElem?_set_ne fun z => n2 z.symm] at e4
    exact h.ne j k C C' p e1 e2 e3 e4
/-- a slot of which nothing more is said -/
theorem Sta.drop {c : Ct} {σ : L2.St} {H : Hp} (h : Sta c σ H) (i : Nat) (o : Option V) : Sta (c.set i .any) (σ.set i o) H ∧ Kp (bas c σ H) (bas (c.set i .any) (σ.set i o) H) := by
  have back : ∀ {j : Nat} {s : Slot}, s ≠ .any → (c.g.set i .any)[j]? = some s → j ≠ i ∧ c.g[j]? = some s := fun {j s} ns e => by
    rcases getset e with ⟨_, z⟩ | z
    · exact absurd z ns
    · exact z
  have kb : Kp (bas c σ H) (bas (c.set i .any) (σ.set i o) H) := less_mono fun a => by
    rintro (⟨j, C, e1, e2⟩ | z)
    · obtain ⟨n, e1⟩ := back (by intro z; cases z) e1
      rw [List.getElem?_set_ne fun z => n z.symm] at e2
      exact .inl ⟨j, C, e1, e2⟩
    · exact .inr z
  refine ⟨⟨by rw [List.length_set, List.length_set]; exact h.len, fun j S e => ?_, fun j C e => ?_, fun j k C C' p e1 e2 e3 e4 => ?_, h.k0.trans kb, h.ks, h.hid⟩, kb⟩
  · obtain ⟨n, z⟩ := back (by intro z; cases z) e
    obtain ⟨u, e1, e2⟩ := h.fz j S z
    exact ⟨u, by rw [List.getElem?_set_ne fun z => n z.symm]; exact e1, S.mn kb e2⟩
  · obtain ⟨n, z⟩ := back (by intro z; cases z) e
    obtain ⟨p, u, e1, e2, e3, e4, e5⟩ := h.own j C z
    exact ⟨p, u, by rw [List.getElem?_set_ne fun z => n z.symm]; exact e1, e2, C.mn kb e3, e4, e5⟩
  · obtain ⟨n1, e1⟩ := back (by intro z; cases z) e1
    obtain ⟨n2, e2⟩ := back (by intro z; cases z) e2
    rw [List.getElem?_set_ne fun z => n1 z.symm] at e3
    rw [List.getElem?_set_ne fun z => n2 z.symm] at e4
    exact h.ne j k C C' p e1 e2 e3 e4
theorem setsame {α : Type} {l : List α} {i : Nat} {a : α} (h : l[i]? = some a) : l.set i a = l := by
  refine List.ext_getElem? fun j => ?_
  by_cases e : i = j
  · subst e
    obtain ⟨hi, _⟩ := List.getElem?_eq_some_iff.mp h
    rw [setget hi, h]
  · rw [List.getElem?_set_ne e]
/-- the slot of a name, weakened -/
theorem Sta.weak {c : Ct} {σ : L2.St} {H : Hp} (h : Sta c σ H) {i : Nat} {R S : Rel} (e : c.g[i]? = some (.fz R)) (k : ∀ H v, R.p H v → S.p H v) : Sta (c.set i (.fz S)) σ H := by
  obtain ⟨v, e1, e2⟩ := h.fz i R e
  have hi : i < c.g.length := (List.getElem?_eq_some_iff.mp e).1
  have := (h.set (R := S) hi (k _ _ e2)).1
  rw [setsame e1] at this
  exact this
/-- a name holds a new object that is going to be changed -/
theorem Sta.new {c : Ct} {σ : L2.St} {H : Hp} (h : Sta c σ H) {i : Nat} {C : Own} {p : Addr} {o : HO} (hi : i < c.g.length) (n : H p = none) (hv : C.p (bas c σ H) o) :
    Sta (c.set i (.own C)) (σ.set i (some (.ref p))) (upd H p o) ∧ Kp (bas c σ H) (bas (c.set i (.own C)) (σ.set i (some (.ref p))) (upd H p o)) := by
  have hf := h.free n
  have kb : Kp (bas c σ H) (bas (c.set i (.own C)) (σ.set i (some (.ref p))) (upd H p o)) := kp_of fun b u e => by
    obtain ⟨nb, e⟩ := less_some e
    have bp : b ≠ p := ne_of_none e n
    rw [bas_out, upd_ne bp]
    · exact e
    · rintro (⟨j, C', e1, e2⟩ | z)
      · by_cases ji : j = i
        · subst ji
          rw [setget (by rw [h.len]; exact hi)] at e2
          cases e2
          exact bp rfl
        · rcases getset e1 with ⟨z, _⟩ | ⟨_, z⟩
          · exact ji z
          · rw [List.getElem?_set_ne fun z => ji z.symm] at e2
            exact nb (.inl ⟨j, C', z, e2⟩)
      · exact nb (.inr z)
  have old : ∀ {j : Nat} {C' : Own} {q : Addr}, c.g[j]? = some (.own C') → σ[j]? = some (some (.ref q)) → q ≠ p := fun {j C' q} e1 e2 z => hf (.inl ⟨j, C', e1, by rw [← z]; exact e2⟩)
  refine ⟨⟨by rw [List.length_set, List.length_set]; exact h.len, fun j S e => ?_, fun j C' e => ?_, fun j k C1 C2 q e1 e2 e3 e4 => ?_, h.k0.trans kb, h.ks.trans (kp_new n), fun a z => ?_⟩, kb⟩
  · rcases getset e with ⟨_, z⟩ | ⟨nj, z⟩
    · cases z
    · obtain ⟨u, e1, e2⟩ := h.fz j S z
      exact ⟨u, by rw [List.getElem?_set_ne fun z => nj z.symm]; exact e1, S.mn kb e2⟩
  · rcases getset e with ⟨rfl, z⟩ | ⟨nj, z⟩
    · cases z
      exact ⟨p, o, setget (by rw [h.len]; exact hi), upd_same, C.mn kb hv, .of h.ks n, fun z => hf (.inr z)⟩
    · obtain ⟨q, u, e1, e2, e3, e4, e5⟩ := h.own j C' z
      exact ⟨q, u, by rw [List.getElem?_set_ne fun z => nj z.symm]; exact e1, by rw [upd_ne (old z e1)]; exact e2, C'.mn kb e3, e4, e5⟩
  · rcases getset e1 with ⟨rfl, z⟩ | ⟨nj, z⟩ <;> rcases getset e2 with ⟨rfl, y⟩ | ⟨nk, y⟩
    · rfl
    · rw [setget (by rw [h.len]; exact hi)] at e3
      cases e3
      rw [List.getElem?_set_ne fun z => nk z.symm] at e4
      exact absurd rfl (old y e4)
    · rw [setget (by rw [h.len]; exact hi)] at e4
      cases e4
      rw [List.getElem?_set_ne fun z => nj z.symm] at e3
      exact absurd rfl (old z e3)
    · rw [List.getElem?_set_ne fun z => nj z.symm] at e3
      rw [List.getElem?_set_ne fun z => nk z.symm] at e4
      exact h.ne j k C1 C2 q z y e3 e4
  · obtain ⟨u, e, m⟩ := h.hid a z
    exact ⟨u, by rw [upd_ne (ne_of_none e n)]; exact e, m⟩
/-- more is known of the heap -/
theorem Sta.h0 {c : Ct} {σ : L2.St} {H : Hp} (h : Sta c σ H) {h1 : Hp} (k : Kp h1 (bas c σ H)) : Sta { c with h0 := h1 } σ H := ⟨h.len, h.fz, h.own, h.ne, k, h.ks, h.hid⟩
end Pk
namespace Pk
open PySem L2 PySem.Spec PyProof.Rows GxR NdefX
mutual
inductive Dt (H : Hp) : V → PyData → Prop
  | non : Dt H .non .none
  | bl (b : Bool) : Dt H (.bl b) (.bool b)
  | int (i : Int) : Dt H (.int i) (.int i)
  | str (x : Str) : Dt H (.str x) (.str x)
  | lst {a : Addr} {xs : List V} {ds : List PyData} : H a = some (.lst xs) → DtAll H xs ds → Dt H (.ref a) (.list ds)
  | tup {a : Addr} {xs : List V} {ds : List PyData} : H a = some (.tup xs) → DtAll H xs ds → Dt H (.ref a) (.tuple ds)
  | dT {a : Addr} {kvs : List (Tk × V)} {ds : List (PyData × PyData)} : H a = some (.dT kvs) → DtKv H dK kvs ds → Dt H (.ref a) (.dict ds)
  | dK {a : Addr} {kvs : List (L2.Key × V)} {ds : List (PyData × PyData)} : H a = some (.dK kvs) → DtKk H kvs ds → Dt H (.ref a) (.dict ds)
inductive DtAll (H : Hp) : List V → List PyData → Prop
  | nil : DtAll H [] []
  | cons {v : V} {vs : List V} {d : PyData} {ds : List PyData} : Dt H v d → DtAll H vs ds → DtAll H (v :: vs) (d :: ds)
inductive DtKv (H : Hp) : (Tk → PyData) → List (Tk × V) → List (PyData × PyData) → Prop
  | nil {f : Tk → PyData} : DtKv H f [] []
  | cons {f : Tk → PyData} {k : Tk} {v : V} {vs : List (Tk × V)} {d : PyData} {ds : List (PyData × PyData)} : Dt H v d → DtKv H f vs ds → DtKv H f ((k, v) :: vs) ((f k, d) :: ds)
inductive DtKk (H : Hp) : List (L2.Key × V) → List (PyData × PyData) → Prop
  | nil : DtKk H [] []
  | cons {k : L2.Key} {v : V} {vs : List (L2.Key × V)} {d : PyData} {ds : List (PyData × PyData)} : Dt H v d → DtKk H vs ds → DtKk H ((k, v) :: vs) ((kd k, d) :: ds)
end
section
variable {H H' : Hp}
mutual
theorem Dt.kp (k : Kp H H') : ∀ {v : V} {d : PyData}, Dt H v d → Dt H' v d
  | _, _, .non => .non
  | _, _, .bl b => .bl b
  | _, _, .int i => .int i
  | _, _, .str x => .str x
  | _, _, .lst e a => .lst (k.lst e) (DtAll.kp k a)
  | _, _, .tup e a => .tup (k.tup e) (DtAll.kp k a)
  | _, _, .dT e a => .dT (k.dT e) (DtKv.kp k a)
  | _, _, .dK e a => .dK (k.at_ _ _ e fun _ z => nomatch z) (DtKk.kp k a)
theorem DtAll.kp (k : Kp H H') : ∀ {vs : List V} {ds : List PyData}, DtAll H vs ds → DtAll H' vs ds
  | _, _, .nil => .nil
  | _, _, .cons a b => .cons (Dt.kp k a) (DtAll.kp k b)
theorem DtKv.kp (k : Kp H H') : ∀ {f : Tk → PyData} {vs : List (Tk × V)} {ds : List (PyData × PyData)}, DtKv H f vs ds → DtKv H' f vs ds
  | _, _, _, .nil => .nil
  | _, _, _, .cons a b => .cons (Dt.kp k a) (DtKv.kp k b)
theorem DtKk.kp (k : Kp H H') : ∀ {vs : List (L2.Key × V)} {ds : List (PyData × PyData)}, DtKk H vs ds → DtKk H' vs ds
  | _, _, .nil => .nil
  | _, _, .cons a b => .cons (Dt.kp k a) (DtKk.kp k b)
end
end
mutual
/-- data without lists and dicts -/
def flat : PyData → Bool
  | .list _ => false
  | .dict _ => false
  | .tuple ds => flats ds
  | _ => true
def flats : List PyData → Bool
  | [] => true
  | d :: ds => flat d && flats ds
end
section
variable {H : Hp} {M : Addr → Prop} (hM : ∀ a, M a → ∃ o, H a = some o ∧ Mut (some o))
include hM
mutual
theorem Dt.less : ∀ {v : V} {d : PyData}, Dt H v d → flat d = true → Dt (less H M) v d
  | _, _, .non, _ => .non
  | _, _, .bl b, _ => .bl b
  | _, _, .int i, _ => .int i
  | _, _, .str x, _ => .str x
  | _, _, .lst _ _, h => by cases h
  | _, _, .dT _ _, h => by cases h
  | _, _, .dK _ _, h => by cases h
  | _, .tuple ds, .tup (a := a) e q, h => by
    refine .tup ?_ (DtAll.less q h)
    rw [less_out]
    · exact e
    · intro z
      obtain ⟨o, e1, e2⟩ := hM a z
      rw [e] at e1
      cases e1
      exact e2
theorem DtAll.less : ∀ {vs : List V} {ds : List PyData}, DtAll H vs ds → flats ds = true → DtAll (less H M) vs ds
  | _, _, .nil, _ => .nil
  | _, d :: ds, .cons a b, h => by
    have h' : (flat d && flats ds) = true := h
    rw [Bool.and_eq_true] at h'
    exact .cons (Dt.less a h'.1) (DtAll.less b h'.2)
end
end
section
variable {H : Hp} {K : PySem.W.Frag}
mutual
/-- no dict within -/
def nod : PyData → Bool
  | .dict _ => false
  | .tuple ds => nods ds
  | .list ds => nods ds
  | _ => true
def nods : List PyData → Bool
  | [] => true
  | d :: ds => nod d && nods ds
end
mutual
theorem Dt.dp : ∀ {v : V} {d : PyData}, Dt H v d → nod d = true → Dp K H v d
  | _, _, .non, _ => .non
  | _, _, .bl b, _ => .bl b
  | _, _, .int i, _ => .int i
  | _, _, .str x, _ => .str x
  | _, .list ds, .lst e q, h => .lst (SqL.of e) (DtAll.dp q h)
  | _, _, .dT _ _, h => by cases h
  | _, _, .dK _ _, h => by cases h
  | _, .tuple ds, .tup (a := a) e q, h => .tup (SqT.of e) (DtAll.dp q h)
theorem DtAll.dp : ∀ {vs : List V} {ds : List PyData}, DtAll H vs ds → nods ds = true → DpAll K H vs ds
  | _, _, .nil, _ => .nil
  | _, d :: ds, .cons a b, h => by
    have h' : (nod d && nods ds) = true := h
    rw [Bool.and_eq_true] at h'
    exact .cons (Dt.dp a h'.1) (DtAll.dp b h'.2)
end
theorem DtAll.len : ∀ {vs : List V} {ds : List PyData}, DtAll H vs ds → vs.length = ds.length
  | _, _, .nil => rfl
  | _, _, .cons _ b => congrArg (· + 1) b.len
theorem DtAll.app : ∀ {vs us : List V} {ds es : List PyData}, DtAll H vs ds → DtAll H us es → DtAll H (vs ++ us) (ds ++ es)
  | _, _, _, _, .nil, h => h
  | _, _, _, _, .cons a b, h => .cons a (b.app h)
theorem DtAll.at {vs : List V} {ds : List PyData} (h : DtAll H vs ds) : ∀ {i : Nat} {d : PyData}, ds[i]? = some d → ∃ v, vs[i]? = some v ∧ Dt H v d := by
  induction vs generalizing ds with
  | nil => cases h; intro i d e; cases e
  | cons v vs ih =>
    cases h with
    | cons a b =>
      intro i d e
      cases i with
      | zero => cases e; exact ⟨_, rfl, a⟩
      | succ i => exact ih b e
theorem DtAll.at' {vs : List V} {ds : List PyData} (h : DtAll H vs ds) : ∀ {i : Nat} {v : V}, vs[i]? = some v → ∃ d, ds[i]? = some d ∧ Dt H v d := by
  induction vs generalizing ds with
  | nil => intro i d e; cases e
  | cons v vs ih =>
    cases h with
    | cons a b =>
      intro i d e
      cases i with
      | zero => cases e; exact ⟨_, rfl, a⟩
      | succ i => exact ih b e
theorem DtAll.atI {vs : List V} {ds : List PyData} (h : DtAll H vs ds) {i : Int} {d : PyData} (e : L2.atI ds i = some d) : ∃ v, L2.atI vs i = some v ∧ Dt H v d := by
  unfold L2.atI at *
  rw [← h.len] at e
  cases q : ixN vs.length i with
  | none => rw [q] at e; cases e
  | some j => rw [q] at e; exact h.at e
theorem DtAll.take {vs : List V} {ds : List PyData} (h : DtAll H vs ds) : ∀ n, DtAll H (vs.take n) (ds.take n) := by
  induction vs generalizing ds with
  | nil => cases h; intro n; simp only [List.take_nil]; exact .nil
  | cons v vs ih =>
    cases h with
    | cons a b =>
      intro n
      cases n with
      | zero => exact .nil
      | succ n => exact .cons a (ih b n)
theorem DtAll.drop {vs : List V} {ds : List PyData} (h : DtAll H vs ds) : ∀ n, DtAll H (vs.drop n) (ds.drop n) := by
  induction vs generalizing ds with
  | nil => cases h; intro n; simp only [List.drop_nil]; exact .nil
  | cons v vs ih =>
    cases h with
    | cons a b =>
      intro n
      cases n with
      | zero => exact .cons a b
      | succ n => exact ih b n
end
/-- the slice of a list -/
def cutD (xs : List PyData) (lo hi : Option Int) : List PyData := (xs.drop (HT.sIx xs.length 0 lo)).take (HT.sIx xs.length xs.length hi - HT.sIx xs.length 0 lo)
theorem DtAll.cut {H : Hp} {vs : List V} {ds : List PyData} (h : DtAll H vs ds) (lo hi : Option Int) : DtAll H (cutV vs lo hi) (cutD ds lo hi) := by
  unfold cutV cutD
  rw [h.len]
  exact (h.drop _).take _
/-- data of a type, by its picture -/
def RD (d : PyData) : Rel := ⟨fun H v => Dt H v d, fun k h => h.kp k⟩
/-- a list that is being changed -/
def OL (ds : List PyData) : Own := ⟨fun H o => ∃ vs, o = .lst vs ∧ DtAll H vs ds, fun k ⟨vs, e, h⟩ => ⟨vs, e, h.kp k⟩, fun ⟨vs, e, _⟩ => by subst e; exact trivial⟩
noncomputable def msk (b : Bool) (c : Ct) (σ : L2.St) : Addr → Prop := fun a => b = true ∧ (isOwn c.g σ a ∨ c.om a)
noncomputable abbrev hb (b : Bool) (c : Ct) (σ : L2.St) (H : Hp) : Hp := less H (msk b c σ)
theorem hb_t {c : Ct} {σ : L2.St} {H : Hp} : hb true c σ H = bas c σ H := by
  funext a
  by_cases h : isOwn c.g σ a ∨ c.om a
  · rw [bas_in h]
    exact less_in ⟨rfl, h⟩
  · rw [bas_out h]
    exact less_out fun z => h z.2
theorem hb_f {c : Ct} {σ : L2.St} {H : Hp} : hb false c σ H = H := by
  funext a
  exact less_out fun z => Bool.false_ne_true z.1
theorem hb_kp {b : Bool} {c : Ct} {σ : L2.St} {H H' : Hp} (k : Kp H H') : Kp (hb b c σ H) (hb b c σ H') := less_kp k
theorem bas_hb {b : Bool} {c : Ct} {σ : L2.St} {H : Hp} : Kp (bas c σ H) (hb b c σ H) := less_mono fun _ z => z.2
/-- what is hidden stands, and is of those that may change -/
theorem Sta.hides {c : Ct} {σ : L2.St} {H : Hp} (h : Sta c σ H) {b : Bool} (a : Addr) (m : msk b c σ a) : ∃ o, H a = some o ∧ Mut (some o) := by
  rcases m.2 with ⟨i, C, e1, e2⟩ | z
  · obtain ⟨p, o, e3, e4, e5, _⟩ := h.own i C e1
    rw [e2] at e3
    cases e3
    exact ⟨o, e4, C.ok e5⟩
  · exact h.hid a z
/-- a value's reading: it gives a value as R says, in the heap (false), in the heap without what is being changed (true) -/
def E (b : Bool) (c : Ct) (t : TE) (R : Rel) : Prop := ∀ σ H, Sta c σ H → ∀ Q : VK, (∀ H' v, Kp H H' → R.p (hb b c σ H') v → Q v H') → t σ H Q
def ET (c : Ct) (t : TT) (b : Bool) : Prop := ∀ σ H, Sta c σ H → ∀ Q : Bool → Hp → Prop, (∀ H', Kp H H' → Q b H') → t σ H Q
def Rok : List Rel → Hp → List V → Prop
  | [], _, vs => vs = []
  | R :: Rs, H, vs => ∃ v r, vs = v :: r ∧ R.p H v ∧ Rok Rs H r
theorem Rok.kp {H H' : Hp} (k : Kp H H') : ∀ {Rs : List Rel} {vs : List V}, Rok Rs H vs → Rok Rs H' vs
  | [], _, h => h
  | R :: _, _, ⟨v, r, e, h1, h2⟩ => ⟨v, r, e, R.mn k h1, Rok.kp k h2⟩
def EA (b : Bool) (c : Ct) (t : TA) (Rs : List Rel) : Prop := ∀ σ H, Sta c σ H → ∀ Q : List V → Hp → Prop, (∀ H' vs, Kp H H' → Rok Rs (hb b c σ H') vs → Q vs H') → t σ H Q
/-- a list whose items stay, itself perhaps among what is being changed -/
def EI (c : Ct) (t : TE) (ds : List PyData) : Prop := ∀ σ H, Sta c σ H → ∀ Q : VK, (∀ H' a vs, Kp H H' → H' a = some (.lst vs) → DtAll (bas c σ H') vs ds → Q (.ref a) H') → t σ H Q
section
variable {b : Bool} {c : Ct} {R S : Rel} {t ta tb tc : TE} {d e : PyData}
theorem E.low (h : E true c t R) : E b c t R := fun σ H s Q q => h σ H s Q fun H' v k r => q H' v k (R.mn (by rw [hb_t]; exact bas_hb) r)
theorem E.imp (h : E b c t R) (k : ∀ H v, R.p H v → S.p H v) : E b c t S := fun σ H s Q q => h σ H s Q fun H' v k' r => q H' v k' (k _ _ r)
theorem E.eq (h : E b c t (RD d)) (z : d = e) : E b c t (RD e) := z ▸ h
theorem E.flat (h : E false c t (RD d)) (f : flat d = true) : E b c t (RD d) := fun σ H s Q q => h σ H s Q fun H' v k r => by
  rw [hb_f] at r
  exact q H' v k (Dt.less (fun a m => (s.kp k).hides a m) r f)
theorem ET.eq {t : TT} {a a' : Bool} (h : ET c t a) (z : a = a') : ET c t a' := z ▸ h
theorem e_var {i : Nat} (h : c.g[i]? = some (.fz R)) : E b c (tVar i) R := fun σ H s Q q => by
  obtain ⟨v, e, r⟩ := s.fz i R h
  exact ⟨v, e, q H v (Kp.refl _) (R.mn bas_hb r)⟩
theorem i_of {ds : List PyData} (h : E true c t (RD (.list ds))) : EI c t ds := fun σ H s Q q => h σ H s Q fun H' v k r => by
  rw [hb_t] at r
  cases r with
  | lst e a => exact q H' _ _ k (less_some e).2 a
theorem e_int {i : Int} : E b c (tC (.int i)) (RD (.int i)) := fun σ H s Q q => q H _ (Kp.refl _) (.int i)
theorem e_str {x : Str} : E b c (tC (.str x)) (RD (.str x)) := fun σ H s Q q => q H _ (Kp.refl _) (.str x)
theorem e_bl {x : Bool} : E b c (tC (.bl x)) (RD (.bool x)) := fun σ H s Q q => q H _ (Kp.refl _) (.bl x)
/-- an operation on values: M is hidden from it -/
def Hd (H : Hp) (M : Addr → Prop) : Prop := ∀ a, M a → ∃ o, H a = some o ∧ Mut (some o)
def O2 (r : R2) (R1 R2 R : Rel) : Prop := ∀ H M x y, Hd H M → R1.p (less H M) x → R2.p (less H M) y → ∀ Q : VK, (∀ H' v, Kp H H' → R.p (less H' M) v → Q v H') → r x y H Q
def On (r : List V → Hp → VK → Prop) (Rs : List Rel) (R : Rel) : Prop := ∀ H M vs, Hd H M → Rok Rs (less H M) vs → ∀ Q : VK, (∀ H' v, Kp H H' → R.p (less H' M) v → Q v H') → r vs H Q
theorem e_op {r : R2} {R1 R2 : Rel} (o : O2 r R1 R2 R) (ha : E b c ta R1) (hc : E b c tb R2) : E b c (tOp r ta tb) R := fun σ H s Q q =>
  ha σ H s _ fun H1 x k1 r1 => hc σ H1 (s.kp k1) _ fun H2 y k2 r2 => o H2 (msk b c σ) x y (fun a m => ((s.kp k1).kp k2).hides a m) (R1.mn (hb_kp k2) r1) r2 Q fun H' v k r => q H' v ((k1.trans k2).trans k) r
theorem a_nil : EA b c tNil [] := fun σ H s Q q => q H [] (Kp.refl _) rfl
theorem a_cons {u : TA} {Rs : List Rel} (ha : E b c t R) (hr : EA b c u Rs) : EA b c (tCons t u) (R :: Rs) := fun σ H s Q q =>
  ha σ H s _ fun H1 x k1 r1 => hr σ H1 (s.kp k1) _ fun H2 vs k2 r2 => q H2 _ (k1.trans k2) ⟨x, vs, rfl, R.mn (hb_kp k2) r1, r2⟩
theorem e_cb {r : List V → Hp → VK → Prop} {u : TA} {Rs : List Rel} (o : On r Rs R) (ha : EA b c u Rs) : E b c (tCB r u) R := fun σ H s Q q =>
  ha σ H s _ fun H1 vs k1 r1 => o H1 (msk b c σ) vs (fun a m => (s.kp k1).hides a m) r1 Q fun H' v k r => q H' v (k1.trans k) r
theorem o_I0 {g : Int → Int → Int} {i j : Int} : O2 (rI0 fun i j => .int (g i j)) (RD (.int i)) (RD (.int j)) (RD (.int (g i j))) := fun H M x y _ r1 r2 Q q => by
  cases r1
  cases r2
  exact ⟨i, j, rfl, rfl, q H _ (Kp.refl _) (.int _)⟩
theorem o_I {C : Int → Int → Prop} {g : Int → Int → Int} {i j : Int} (h : C i j) : O2 (rI C fun i j => .int (g i j)) (RD (.int i)) (RD (.int j)) (RD (.int (g i j))) := fun H M x y _ r1 r2 Q q => by
  cases r1
  cases r2
  exact ⟨i, j, rfl, rfl, h, q H _ (Kp.refl _) (.int _)⟩
theorem o_add {i j : Int} : O2 (rI0 fun i j => .int (i + j)) (RD (.int i)) (RD (.int j)) (RD (.int (i + j))) := o_I0
theorem o_sub {i j : Int} : O2 (rI0 fun i j => .int (i - j)) (RD (.int i)) (RD (.int j)) (RD (.int (i - j))) := o_I0
theorem o_cmpI0 {g : Int → Int → Bool} {i j : Int} : O2 (rI0 fun i j => .bl (g i j)) (RD (.int i)) (RD (.int j)) (RD (.bool (g i j))) := fun H M x y _ r1 r2 Q q => by
  cases r1
  cases r2
  exact ⟨i, j, rfl, rfl, q H _ (Kp.refl _) (.bl _)⟩
theorem o_eqI {i j : Int} : O2 rEq (RD (.int i)) (RD (.int j)) (RD (.bool (decide (i = j)))) := fun H M x y _ r1 r2 Q q => by
  cases r1
  cases r2
  refine ⟨rfl, q H _ (Kp.refl _) ?_⟩
  rw [show decide (V.int i = V.int j) = decide (i = j) by simp]
  exact .bl _
theorem o_neI {i j : Int} : O2 rNe (RD (.int i)) (RD (.int j)) (RD (.bool (!decide (i = j)))) := fun H M x y _ r1 r2 Q q => by
  cases r1
  cases r2
  refine ⟨rfl, q H _ (Kp.refl _) ?_⟩
  rw [show decide (V.int i = V.int j) = decide (i = j) by simp]
  exact .bl _
theorem t_T {x : Bool} (h : E false c t (RD (.bool x))) : ET c (tTest t) x := fun σ H s Q q => h σ H s _ fun H' v k r => by
  cases r
  exact ⟨x, rfl, q H' k⟩
theorem t_or {t u : TT} {x y : Bool} (h : ET c t x) (g : x = false → ET c u y) : ET c (tOr t u) (x || y) := fun σ H s Q q => h σ H s _ fun H1 k1 => by
  cases x with
  | true => rw [if_pos rfl]; exact q H1 k1
  | false => rw [if_neg Bool.false_ne_true]; exact g rfl σ H1 (s.kp k1) Q fun H2 k2 => q H2 (k1.trans k2)
theorem e_and {x y : Bool} (h : E false c ta (RD (.bool x))) (g : x = true → E false c tb (RD (.bool y))) : E b c (tAndV ta tb) (RD (.bool (x && y))) := E.flat (fun σ H s Q q => h σ H s _ fun H1 v k1 r => by
  cases r
  refine ⟨x, rfl, ?_⟩
  cases x with
  | false => rw [if_neg Bool.false_ne_true]; exact q H1 _ k1 (.bl _)
  | true => rw [if_pos rfl]; exact g rfl σ H1 (s.kp k1) Q fun H2 v k2 r => q H2 v (k1.trans k2) r) rfl
end
end Pk
namespace Pk
open PySem L2 PySem.Spec PyProof.Rows GxR NdefX
/-- the picture of a type's things: told apart by ==, of depth n at most, laid out where P -/
structure Enc {α : Type} [DecidableEq α] (f : α → PyData) (n : Nat) (P : α → Prop) : Prop where
  eqv : ∀ a b, PyData.eqv (f a) (f b) = decide (a = b)
  lay : ∀ a, P a → (f a).canLay0 = true
  dep : ∀ a, (f a).depth ≤ n
  nod : ∀ a, Pk.nod (f a) = true
section
variable {α β γ : Type} [DecidableEq α] [DecidableEq β] [DecidableEq γ] {f : α → PyData} {g : β → PyData} {k : γ → PyData} {n m l : Nat} {P : α → Prop} {S : β → Prop} {T : γ → Prop}
theorem Enc.imp {P' : α → Prop} (h : Enc f n P) (e : ∀ a, P' a → P a) : Enc f n P' := ⟨h.eqv, fun a k => h.lay a (e a k), h.dep, h.nod⟩
theorem Enc.shaped (h : Enc f n P) (hn : n ≤ 64) {a : α} (q : P a) : SeqAt.shaped (f a) = true := by
  unfold SeqAt.shaped
  rw [h.lay a q, Bool.true_and]
  exact decide_eq_true (Nat.le_trans (h.dep a) hn)
end
theorem new_at {H : Hp} {M : Addr → Prop} (h : Hd H M) {p : Addr} {o : HO} (n : H p = none) : less (upd H p o) M = upd (less H M) p o := by
  have np : ¬ M p := fun z => by
    obtain ⟨o, e, _⟩ := h p z
    rw [n] at e
    cases e
  funext a
  by_cases e : a = p
  · subst e
    rw [upd_same, less_out np, upd_same]
  · rw [upd_ne e]
    by_cases m : M a
    · rw [less_in m, less_in m]
    · rw [less_out m, less_out m, upd_ne e]
theorem hb_new {b : Bool} {c : Ct} {σ : L2.St} {H : Hp} (s : Sta c σ H) {p : Addr} {o : HO} (n : H p = none) : hb b c σ (upd H p o) = upd (hb b c σ H) p o := new_at (fun a m => s.hides a m) n
theorem less_none {H : Hp} {M : Addr → Prop} {p : Addr} (n : H p = none) : less H M p = none := by
  by_cases m : M p
  · exact less_in m
  · rw [less_out m]
    exact n
section
variable {b : Bool} {c : Ct} {R S : Rel} {t ta tb tc : TE} {d e : PyData}
/-- a reading gives a new object -/
def EN (c : Ct) (t : TE) (C : Own) : Prop := ∀ σ H, Sta c σ H → ∀ Q : VK, (∀ H' p o, Kp H H' → H' p = none → C.p (bas c σ H') o → Q (.ref p) (upd H' p o)) → t σ H Q
theorem n_e {ds : List PyData} (h : EN c t (OL ds)) : E b c t (RD (.list ds)) := fun σ H s Q q => h σ H s Q fun H' p o k n ⟨vs, e, a⟩ => by
  subst e
  refine q _ _ (k.trans (kp_new n)) ?_
  rw [hb_new (s.kp k) n]
  exact .lst upd_same ((a.kp bas_hb).kp (kp_new (less_none n)))
theorem i_n {ds : List PyData} (h : EN c t (OL ds)) : EI c t ds := i_of (n_e h)
/-- the values of arguments that are data -/
def EM (b : Bool) (c : Ct) (t : TA) (ds : List PyData) : Prop := ∀ σ H, Sta c σ H → ∀ Q : List V → Hp → Prop, (∀ H' vs, Kp H H' → DtAll (hb b c σ H') vs ds → Q vs H') → t σ H Q
theorem m_nil : EM b c tNil [] := fun σ H s Q q => q H [] (Kp.refl _) .nil
theorem m_cons {u : TA} {ds : List PyData} (ha : E b c t (RD d)) (hr : EM b c u ds) : EM b c (tCons t u) (d :: ds) := fun σ H s Q q =>
  ha σ H s _ fun H1 x k1 r1 => hr σ H1 (s.kp k1) _ fun H2 vs k2 r2 => q H2 _ (k1.trans k2) (.cons (Dt.kp (hb_kp k2) r1) r2)
theorem n_lst {u : TA} {ds : List PyData} (h : EM true c u ds) (l : Nat.ble ds.length sizeLine = true := by rfl) : EN c (tLst u) (OL ds) := fun σ H s Q q =>
  h σ H s _ fun H1 vs k1 r1 => ⟨by rw [r1.len]; exact Nat.le_of_ble_eq_true l, fun p n => q H1 p _ k1 n ⟨vs, rfl, by rw [← hb_t]; exact r1⟩⟩
theorem o_ixL {K : PySem.W.Frag} {ds : List PyData} {i : Int} {d : PyData} (h : atI ds i = some d) : O2 (rIxL K) (RD (.list ds)) (RD (.int i)) (RD d) := fun H M x y _ r1 r2 Q q => by
  cases r2
  cases r1 with
  | lst e a =>
    obtain ⟨v, h1, h2⟩ := a.atI h
    exact ⟨_, _, i, v, rfl, rfl, SqL.of (less_some e).2, h1, q H _ (Kp.refl _) h2⟩
def EO (c : Ct) (t : TO) (o : Option Int) : Prop := ∀ σ H, Sta c σ H → ∀ Q : Option Int → Hp → Prop, (∀ H', Kp H H' → Q o H') → t σ H Q
theorem p_none : EO c tNoPart none := fun σ H s Q q => q H (Kp.refl _)
theorem p_some {i : Int} (h : E false c t (RD (.int i))) : EO c (tPart t) (some i) := fun σ H s Q q => h σ H s _ fun H1 x k r => by
  cases r
  exact ⟨i, rfl, q H1 k⟩
theorem n_sl {K : PySem.W.Frag} {ds : List PyData} {lo hi : Option Int} {tl th : TO} (h : EI c t ds) (hl : EO c tl lo) (hh : EO c th hi) : EN c (tSl (rSlL K) t tl th) (OL (cutD ds lo hi)) := fun σ H s Q q =>
  h σ H s _ fun H1 a vs k1 e1 r1 => hl σ H1 (s.kp k1) _ fun H2 k2 => hh σ H2 ((s.kp k1).kp k2) _ fun H3 k3 =>
    ⟨a, vs, rfl, SqL.of ((k2.trans k3).lst e1), fun p n => q H3 p _ ((k1.trans k2).trans k3) n ⟨_, rfl, (r1.kp ((s.kp k1).kb (k2.trans k3))).cut lo hi⟩⟩
theorem n_cat {ds es : List PyData} (h : EI c ta ds) (g : EI c tb es) (l : ds.length + es.length ≤ sizeLine) : EN c (tOp rCat ta tb) (OL (ds ++ es)) := fun σ H s Q q =>
  h σ H s _ fun H1 a vs k1 e1 r1 => g σ H1 (s.kp k1) _ fun H2 a2 ws k2 e2 r2 =>
    ⟨a, a2, vs, ws, rfl, rfl, k2.lst e1, e2, by rw [r1.len, r2.len]; exact l, fun p n => q H2 p _ (k1.trans k2) n ⟨_, rfl, (r1.kp ((s.kp k1).kb k2)).app r2⟩⟩
theorem o_lenL {K : PySem.W.Frag} {ds : List PyData} : On (fun xs H Q => ∃ x n, xs = [x] ∧ LenV K x H n ∧ Q (.int n) H) [RD (.list ds)] (RD (.int ds.length)) := fun H M vs _ r Q q => by
  obtain ⟨v, r', rfl, h1, rfl⟩ := r
  cases h1 with
  | lst e a => exact ⟨_, _, rfl, .inl ⟨_, SqL.of (less_some e).2, rfl⟩, by rw [a.len]; exact q H _ (Kp.refl _) (.int _)⟩
theorem o_int {i : Int} : On (fun xs H Q => (∃ i, xs = [.int i] ∧ Q (.int i) H) ∨ ∃ k, xs = [.bl k] ∧ Q (.int (if k then 1 else 0)) H) [RD (.int i)] (RD (.int i)) := fun H M vs _ r Q q => by
  obtain ⟨v, r', rfl, h1, rfl⟩ := r
  cases h1
  exact .inl ⟨_, rfl, q H _ (Kp.refl _) (.int _)⟩
end
end Pk
namespace Pk
open PySem L2 PySem.Spec PyProof.Rows GxR NdefX
def notOwn : Option Slot → Bool
  | some (.own _) => false
  | _ => true
theorem bas_iff {c c' : Ct} {σ σ' : L2.St} {H H' : Hp} (h : ∀ a, (isOwn c.g σ a ∨ c.om a) ↔ (isOwn c'.g σ' a ∨ c'.om a)) (e : ∀ a, ¬ (isOwn c.g σ a ∨ c.om a) → H a = H' a) : bas c σ H = bas c' σ' H' := by
  funext a
  by_cases m : isOwn c.g σ a ∨ c.om a
  · rw [bas_in m, bas_in ((h a).mp m)]
  · rw [bas_out m, bas_out fun z => m ((h a).mpr z)]
    exact e a m
theorem own_set {g : List Slot} {σ : L2.St} {i : Nat} {s : Slot} {o : Option V} (h : notOwn g[i]? = true) (hs : notOwn (some s) = true) (a : Addr) : isOwn (g.set i s) (σ.set i o) a ↔ isOwn g σ a := by
  constructor
  · rintro ⟨j, C, e1, e2⟩
    rcases getset e1 with ⟨_, z⟩ | ⟨n, z⟩
    · rw [← z] at hs
      cases hs
    · rw [List.getElem?_set_ne fun z => n z.symm] at e2
      exact ⟨j, C, z, e2⟩
  · rintro ⟨j, C, e1, e2⟩
    have n : i ≠ j := fun z => by
      subst z
      rw [e1] at h
      cases h
    exact ⟨j, C, by rw [List.getElem?_set_ne n]; exact e1, by rw [List.getElem?_set_ne n]; exact e2⟩
theorem wipe_set {σ : L2.St} {i : Nat} {o : Option V} : ∀ {vs : List Nat}, i ∈ vs → wipe (σ.set i o) vs = wipe σ vs
  | v :: vs, h => by
    show (wipe (σ.set i o) vs).set v none = (wipe σ vs).set v none
    by_cases m : i ∈ vs
    · rw [wipe_set m]
    · have e : i = v := by
        rcases List.mem_cons.mp h with z | z
        · exact z
        · exact absurd z m
      subst e
      have : ∀ (ws : List Nat), i ∉ ws → wipe (σ.set i o) ws = (wipe σ ws).set i o := fun ws => by
        induction ws with
        | nil => intro _; rfl
        | cons w ws ih =>
          intro q
          show (wipe (σ.set i o) ws).set w none = ((wipe σ ws).set w none).set i o
          rw [ih fun z => q (.tail _ z), List.set_comm _ _ (fun z => q (by rw [z]; exact .head _))]
      rw [this vs m, List.set_set]
/-- a target takes a value: the slots are then g', those at `is` new -/
def EG (c : Ct) (g : TG) (R : Rel) (g' : List Slot) (is : List Nat) : Prop := ∀ σ H v, Sta c σ H → R.p (bas c σ H) v → ∀ Q : L2.St → Hp → Prop,
  (∀ σ', Sta (c.at g') σ' H → (∀ H', bas (c.at g') σ' H' = bas c σ H') → (∀ vs, (∀ i ∈ is, i ∈ vs) → wipe σ' vs = wipe σ vs) → Q σ' H) → g v σ H Q
def EGs (c : Ct) (u : TGs) (ds : List PyData) (g' : List Slot) (is : List Nat) : Prop := ∀ σ H vs, Sta c σ H → DtAll (bas c σ H) vs ds → ∀ Q : L2.St → Hp → Prop,
  (∀ σ', Sta (c.at g') σ' H → (∀ H', bas (c.at g') σ' H' = bas c σ H') → (∀ vs, (∀ i ∈ is, i ∈ vs) → wipe σ' vs = wipe σ vs) → Q σ' H) → u vs σ H Q
section
variable {c : Ct} {R : Rel} {g1 g2 : List Slot} {is js : List Nat} {d : PyData} {ds : List PyData}
theorem g_name {i : Nat} (hi : Nat.blt i c.g.length = true := by rfl) (hn : notOwn c.g[i]? = true := by rfl) : EG c (gName i) R (c.g.set i (.fz R)) [i] := fun σ H v s r Q q => by
  have hi' : i < c.g.length := by simpa using hi
  refine q _ (s.set hi' r).1 (fun H' => ?_) fun vs h => wipe_set (h i (.head _))
  exact bas_iff (fun a => or_congr (own_set hn rfl a) Iff.rfl) fun _ _ => rfl
theorem gs_nil : EGs c gNil [] c.g [] := fun σ H vs s r Q q => by
  cases r
  exact ⟨rfl, q σ s (fun _ => rfl) fun _ _ => rfl⟩
theorem gs_cons {t : TG} {u : TGs} (h : EG c t (RD d) g1 is) (k : EGs (c.at g1) u ds g2 js) : EGs c (gCons t u) (d :: ds) g2 (is ++ js) := fun σ H vs s r Q q => by
  cases r with
  | cons a b =>
    refine ⟨_, _, rfl, h σ H _ s a _ fun σ1 s1 e1 w1 => k σ1 H _ s1 (by rw [e1]; exact b) Q fun σ2 s2 e2 w2 => q σ2 s2 (fun H' => (e2 H').trans (e1 H')) fun vs hv => ?_⟩
    exact (w2 vs fun i m => hv i (List.mem_append_right _ m)).trans (w1 vs fun i m => hv i (List.mem_append_left _ m))
theorem g_tup {K : PySem.W.Frag} {n : Nat} {u : TGs} (h : EGs c u ds g1 is) (e : ds.length = n := by rfl) : EG c (gTup K n u) (RD (.tuple ds)) g1 is := fun σ H v s r Q q => by
  cases r with
  | tup e1 a => exact ⟨_, _, rfl, SqT.of (less_some e1).2, by rw [a.len]; exact e, h σ H _ s a Q q⟩
end
/-- a hidden object is changed -/
theorem Sta.hmut {c : Ct} {σ : L2.St} {H : Hp} (s : Sta c σ H) {p : Addr} {o : HO} (hp : c.om p) (f : Fre c.hs p) (m : Mut (some o)) : Sta c σ (upd H p o) ∧ bas c σ (upd H p o) = bas c σ H := by
  have eb : bas c σ (upd H p o) = bas c σ H := bas_iff (fun _ => Iff.rfl) fun a z => upd_ne fun e => z (.inr (e ▸ hp))
  refine ⟨⟨s.len, fun i R e => by rw [eb]; exact s.fz i R e, fun i C e => ?_, s.ne, by rw [eb]; exact s.k0, f.upd s.ks, fun a z => ?_⟩, eb⟩
  · obtain ⟨q, u, e1, e2, e3, e4, e5⟩ := s.own i C e
    exact ⟨q, u, e1, by rw [upd_ne fun z => e5 (by rw [z]; exact hp)]; exact e2, by rw [eb]; exact e3, e4, e5⟩
  · obtain ⟨u, e, k⟩ := s.hid a z
    by_cases y : a = p
    · subst y
      exact ⟨o, upd_same, m⟩
    · exact ⟨u, by rw [upd_ne y]; exact e, k⟩
noncomputable def wo (H : Hp) (p : Addr) : Hp := less H fun a => a = p
theorem wo_at {H : Hp} {p : Addr} : wo H p p = none := if_pos rfl
theorem wo_ne {H : Hp} {p a : Addr} (h : ¬ a = p) : wo H p a = H a := if_neg h
theorem less_upd {H : Hp} {p : Addr} {o : HO} : wo (upd H p o) p = wo H p := by
  funext a
  by_cases z : a = p
  · subst z
    rw [wo_at, wo_at]
  · rw [wo_ne z, wo_ne z, upd_ne z]
/-- what a comprehension keeps -/
structure Kc (c : Ct) (σ : L2.St) (H1 : Hp) (D : Addr) (ds : List PyData) (H : Hp) : Prop where
  ex : ∃ acc, H D = some (.lst acc) ∧ DtAll (bas ⟨c.hs, c.h0, fun a => c.om a ∨ a = D, c.g⟩ σ H) acc ds
  st : Sta ⟨c.hs, c.h0, fun a => c.om a ∨ a = D, c.g⟩ σ H
  kp : Kp H1 (wo H D)
theorem Kc.put {c : Ct} {σ : L2.St} {H1 H : Hp} {D : Addr} {acc : List V} {ds : List PyData} {y : V} {d : PyData} (h : Kc c σ H1 D ds H) (f : Fre c.hs D) (e : H D = some (.lst acc)) (r : Dt (bas ⟨c.hs, c.h0, fun a => c.om a ∨ a = D, c.g⟩ σ H) y d) :
    Kc c σ H1 D (ds ++ [d]) (upd H D (.lst (acc ++ [y]))) := by
  obtain ⟨acc', e', a⟩ := h.ex
  rw [e] at e'
  cases e'
  obtain ⟨s, eb⟩ := h.st.hmut (p := D) (o := .lst (acc ++ [y])) (.inr rfl) f trivial
  exact ⟨⟨_, upd_same, by rw [eb]; exact a.app (.cons r .nil)⟩, s, by rw [less_upd]; exact h.kp⟩
end Pk
namespace Pk
open PySem L2 PySem.Spec PyProof.Rows GxR NdefX
/-- what is wanted holds wherever the slots hold what they should -/
def WC (c : Ct) (k : L2.St → Hp → Prop) : Prop := ∀ σ H, Sta c σ H → k σ H
/-- one of these holds -/
def Nx (c : Ct) (I : List Slot → Prop) : L2.St → Hp → Prop := fun σ H => ∃ g, I g ∧ Sta (c.at g) σ H
section
variable {c : Ct} {R S : Rel} {C : Own} {t te tl : TE} {tt : TT} {g : TG} {i : Nat} {D : Ends} {k : L2.St → Hp → Prop} {a u : TS} {K : PySem.W.Frag}
theorem s_of {I : List Slot → Prop} {hs h0 : Hp} {om : Addr → Prop} {gs : List Slot} (h : I gs) : WC ⟨hs, h0, om, gs⟩ (Nx ⟨hs, h0, om, []⟩ I) := fun σ H s => ⟨gs, h, s⟩
theorem s_seq (h : WC c (a { D with nx := u D })) : WC c (tSeq a u D) := h
theorem s_pass (h : WC c D.nx) : WC c (tNext D) := h
theorem s_set (h : E true c te R) (q : WC (c.set i (.fz R)) D.nx) (hi : Nat.blt i c.g.length = true := by rfl) : WC c (tAsg te (gName i) D) := fun σ H s => h σ H s _ fun H' v kp r => by
  rw [hb_t] at r
  exact q _ H' ((s.kp kp).set (by simpa using hi) r).1
theorem s_if {x : Bool} (h : ET c tt x) (ha : x = true → WC c (a D)) (hb : x = false → WC c (u D)) : WC c (tIfS tt a u D) := fun σ H s => h σ H s _ fun H' kp => by
  cases x with
  | true => rw [if_pos rfl]; exact ha rfl σ H' (s.kp kp)
  | false => rw [if_neg Bool.false_ne_true]; exact hb rfl σ H' (s.kp kp)
theorem s_ret (h : E true c te R) (q : ∀ H' v, Kp c.hs H' → R.p (less H' c.om) v → D.rt v H') : WC c (tRet te D) := fun σ H s => h σ H s _ fun H' v kp r => by
  rw [hb_t] at r
  exact q H' v (s.ks.trans kp) (R.mn (less_mono fun _ z => .inr z) r)
/-- nothing more is said of a slot -/
theorem s_drop (i : Nat) (q : WC (c.set i .any) k) : WC c k := fun σ H s => by
  cases e : σ[i]? with
  | none =>
    have := (s.drop i none).1
    rw [List.set_eq_of_length_le (List.getElem?_eq_none_iff.mp e)] at this
    exact q σ H this
  | some o =>
    have := (s.drop i o).1
    rw [setsame e] at this
    exact q σ H this
end
section
variable {c : Ct} {tl : TE} {wi : TI} {g : TG} {D : Ends} {tb : TS} {K : PySem.W.Frag} {tt : TT}
abbrev inL (hs h1 : Hp) (om : Addr → Prop) (I : List Slot → Prop) (D : Ends) : Ends := { D with nx := Nx ⟨hs, h1, om, []⟩ I, ct := Nx ⟨hs, h1, om, []⟩ I, bk := D.nx }
theorem s_for {α : Type} {xs : List α} {enc : α → PyData} (I : Nat → List Slot → Prop) (hs : E true c tl (RD (.list (xs.map enc)))) (h0 : I 0 c.g)
    (hb : ∀ h1 i x gs, Kp c.h0 h1 → xs[i]? = some x → I i gs → ∃ g' is, EG ⟨c.hs, h1, c.om, gs⟩ g (RD (enc x)) g' is ∧ WC ⟨c.hs, h1, c.om, g'⟩ (tb (inL c.hs h1 c.om (I (i + 1)) D)))
    (hd : ∀ gs, I xs.length gs → WC (c.at gs) D.nx) : WC c (tFor (iList K tl) g tb D) := fun σ H s => hs σ H s _ fun H1 v k1 r1 => by
  rw [hb_t] at r1
  have s1 := s.kp k1
  cases r1 with
  | @lst a0 vs0 _ e a =>
    refine ⟨a0, rfl, ⟨vs0, SqL.of (less_some e).2⟩, ?_⟩
    have hl := a.len
    rw [List.length_map] at hl
    refine for_list (K := K) (a := a0) (xs := vs0) (fun i σ' H' => Nx ⟨c.hs, bas c σ H1, c.om, []⟩ (I i) σ' H') ⟨c.g, h0, s1.h0 (Kp.refl _)⟩ ?_ ?_ ?_
    · rintro i σ' H' _ ⟨gs, _, s'⟩
      exact SqL.of (less_some (s'.k0.lst e)).2
    · rintro i v σ' H' hv ⟨gs, hi, s'⟩
      obtain ⟨d, hd', rd⟩ := a.at' hv
      rw [List.getElem?_map] at hd'
      obtain ⟨x, ex, rfl⟩ := Option.map_eq_some_iff.mp hd'
      obtain ⟨g', is, hg, hw⟩ := hb (bas c σ H1) i x gs s1.k0 ex hi
      exact hg σ' H' v s' (rd.kp s'.k0) _ fun σ2 s2 _ _ => hw σ2 H' s2
    · rintro σ' H' ⟨gs, hi, s'⟩
      rw [hl] at hi
      exact hd gs hi σ' H' (s'.h0 (s1.k0.trans s'.k0))
end
/-- for arguments that are as Rs says, and P: a value as R says -/
def Sps {α : Type} (Rs : α → List Rel) (P : α → Hp → Prop) (R : α → Rel) : Sp := fun vs H Q _ => ∃ (a : α) (om : Addr → Prop), Hd H om ∧ Rok (Rs a) (less H om) vs ∧ P a (less H om) ∧ ∀ H' v, Kp H H' → (R a).p (less H' om) v → Q v H'
/-- a promise serves such arguments -/
def Sok (sp : Sp) (Rs : List Rel) (P : Hp → Prop) (R : Rel) : Prop := ∀ H om vs, Hd H om → Rok Rs (less H om) vs → P (less H om) → ∀ (Q : VK) (E : XK), (∀ H' v, Kp H H' → R.p (less H' om) v → Q v H') → sp vs H Q E
theorem sok_sps {α : Type} {Rs : α → List Rel} {P : α → Hp → Prop} {R : α → Rel} (a : α) : Sok (Sps Rs P R) (Rs a) (P a) (R a) := fun H om vs ho hr hp Q E q => ⟨a, om, ho, hr, hp, q⟩
section
variable {b : Bool} {c : Ct} {R R0 : Rel} {Rs : List Rel} {P : Hp → Prop} {sp : Sp} {te : TE} {ta : TA} {E' : XK} {C : Addr} {m : Str}
theorem Sta.hd {σ : L2.St} {H : Hp} (s : Sta c σ H) : Hd H (msk b c σ) := fun a m => s.hides a m
theorem c_call (hsp : Sok sp Rs P R) (ha : EA b c ta Rs) (hp : ∀ H, Kp c.h0 H → P H) : E b c (tCall sp [] E' ta) R := fun σ H s Q q => ha σ H s _ fun H1 vs k1 r1 => by
  rw [List.append_nil]
  exact hsp H1 (msk b c σ) vs (s.kp k1).hd r1 (hp _ ((s.kp k1).k0.trans bas_hb)) Q E' fun H' v k r => q H' v (k1.trans k) r
theorem c_meth (hi : ∀ H v, R0.p H v → ∃ a dx fs, v = .ref a ∧ H a = some (.ins C dx fs) ∧ fs.lookup m = none) (hsp : Sok sp (R0 :: Rs) P R) (ho : E b c te R0) (ha : EA b c ta Rs) (hp : ∀ H, Kp c.h0 H → P H) : E b c (tMeth C m sp [] E' te ta) R := fun σ H s Q q =>
  ho σ H s _ fun H1 x k1 r1 => by
    obtain ⟨a, dx, fs, rfl, e, l⟩ := hi _ _ r1
    refine ⟨a, dx, fs, rfl, (less_some e).2, l, ha σ H1 (s.kp k1) _ fun H2 vs k2 r2 => ?_⟩
    rw [List.append_nil]
    have s2 := (s.kp k1).kp k2
    exact hsp H2 (msk b c σ) _ s2.hd ⟨_, _, rfl, R0.mn (hb_kp k2) r1, r2⟩ (hp _ (s2.k0.trans bas_hb)) Q E' fun H' v k r => q H' v ((k1.trans k2).trans k) r
end
/-- the slots at the start of a def -/
def slots0 (Rs : List Rel) (n : Nat) : List Slot := Rs.map .fz ++ List.replicate (n - Rs.length) .any
theorem Rok.len : ∀ {Rs : List Rel} {H : Hp} {vs : List V}, Rok Rs H vs → vs.length = Rs.length
  | [], _, _, h => by rw [show _ = [] from h]; rfl
  | _ :: Rs, _, _, ⟨v, r, e, _, h⟩ => by rw [e]; exact congrArg (· + 1) h.len
theorem Rok.at : ∀ {Rs : List Rel} {H : Hp} {vs : List V}, Rok Rs H vs → ∀ {i : Nat} {R : Rel}, Rs[i]? = some R → ∃ v, vs[i]? = some v ∧ R.p H v
  | [], _, _, _, i, _, e => by simp at e
  | _ :: Rs, _, _, ⟨v, r, rfl, h1, h2⟩, 0, _, e => by cases e; exact ⟨v, rfl, h1⟩
  | _ :: Rs, _, _, ⟨v, r, rfl, h1, h2⟩, i + 1, _, e => h2.at e
theorem no_own {Rs : List Rel} {n : Nat} {i : Nat} {C : Own} : (slots0 Rs n)[i]? ≠ some (.own C) := fun e => by
  unfold slots0 at e
  have m := List.mem_of_getElem? e
  rcases List.mem_append.mp m with z | z
  · obtain ⟨R, _, q⟩ := List.mem_map.mp z
    cases q
  · cases (List.eq_of_mem_replicate z)
theorem sta_start {H : Hp} {om : Addr → Prop} {Rs : List Rel} {N : List Str} {vs : List V} (ho : Hd H om) (h : Rok Rs (less H om) vs) : Sta ⟨H, less H om, om, slots0 Rs N.length⟩ (L2.start N vs) H := by
  have hl := h.len
  have eb : bas ⟨H, less H om, om, slots0 Rs N.length⟩ (L2.start N vs) H = less H om := by
    funext a
    by_cases m : om a
    · rw [less_in m]
      exact bas_in (c := ⟨H, less H om, om, slots0 Rs N.length⟩) (.inr m)
    · rw [less_out m]
      exact bas_out (c := ⟨H, less H om, om, slots0 Rs N.length⟩) fun z => z.elim (fun ⟨i, C, e, _⟩ => no_own e) m
  refine ⟨?_, fun i R e => ?_, fun i C e => absurd e no_own, fun i j C _ _ e => absurd e no_own, by rw [eb]; exact Kp.refl _, Kp.refl _, ho⟩
  · show (vs.map some ++ List.replicate (N.length - vs.length) none).length = (Rs.map Slot.fz ++ List.replicate (N.length - Rs.length) Slot.any).length
    rw [List.length_append, List.length_append, List.length_map, List.length_map, List.length_replicate, List.length_replicate, hl]
  · rw [eb]
    have e : (Rs.map Slot.fz ++ List.replicate (N.length - Rs.length) Slot.any)[i]? = some (.fz R) := e
    by_cases hi : i < Rs.length
    · rw [List.getElem?_append_left (by rw [List.length_map]; exact hi), List.getElem?_map] at e
      obtain ⟨R', e1, e2⟩ := Option.map_eq_some_iff.mp e
      cases e2
      obtain ⟨v, e3, e4⟩ := h.at e1
      refine ⟨v, ?_, e4⟩
      show (vs.map some ++ List.replicate (N.length - vs.length) none)[i]? = _
      rw [List.getElem?_append_left (by rw [List.length_map, hl]; exact hi), List.getElem?_map, e3]
      rfl
    · rw [List.getElem?_append_right (by rw [List.length_map]; omega)] at e
      cases (List.eq_of_mem_replicate (List.mem_of_getElem? e))
end Pk
namespace Pk
open PySem L2 PySem.Spec PyProof.Rows GxR NdefX
abbrev eL {α : Type} (f : α → PyData) : List α → PyData := fun xs => .list (xs.map f)
abbrev eTL {α : Type} (f : α → PyData) : List α → PyData := fun xs => .tuple (xs.map f)
abbrev eT3 {α β γ : Type} (f : α → PyData) (g : β → PyData) (k : γ → PyData) : α × β × γ → PyData := fun p => .tuple [f p.1, g p.2.1, k p.2.2]
abbrev dLk : Str × Int × Int → PyData := fun c => .tuple [.str c.1, .int c.2.1, .int c.2.2]
/-- the item at i, counted from the end if i is negative -/
def ix {α : Type} [Inhabited α] (xs : List α) (i : Int) : α := (atI xs i).getD default
theorem atI_in {α : Type} {xs : List α} {i : Int} (h : -(xs.length : Int) ≤ i ∧ i < xs.length) : ∃ a, atI xs i = some a := by
  unfold atI ixN
  by_cases h0 : 0 ≤ i
  · rw [if_pos h0, if_pos h.2]
    show ∃ a, xs[i.toNat]? = some a
    exact ⟨_, List.getElem?_eq_getElem (by omega)⟩
  · rw [if_neg h0, if_pos h.1]
    show ∃ a, xs[(i + xs.length).toNat]? = some a
    exact ⟨_, List.getElem?_eq_getElem (by omega)⟩
theorem atI_map {α β : Type} (f : α → β) (xs : List α) (i : Int) : atI (xs.map f) i = (atI xs i).map f := by
  unfold atI
  rw [List.length_map]
  cases ixN xs.length i with
  | none => rfl
  | some j => exact List.getElem?_map ..
theorem ix_some {α : Type} [Inhabited α] {xs : List α} {i : Int} (h : -(xs.length : Int) ≤ i ∧ i < xs.length) : atI xs i = some (ix xs i) := by
  obtain ⟨a, e⟩ := atI_in h
  unfold ix
  rw [e]
  rfl
theorem ix_at {α : Type} [Inhabited α] {enc : α → PyData} {xs : List α} {i : Int} (h : -(xs.length : Int) ≤ i ∧ i < xs.length) : atI (xs.map enc) i = some (enc (ix xs i)) := by
  rw [atI_map, ix_some h]
  rfl
theorem ix_nat {α : Type} [Inhabited α] {xs : List α} {j : Nat} {a : α} (h : xs[j]? = some a) : ix xs (j : Int) = a := by
  unfold ix
  rw [atI_nat h]
  rfl
def cutL {α : Type} (xs : List α) (lo hi : Option Int) : List α := (xs.drop (HT.sIx xs.length 0 lo)).take (HT.sIx xs.length xs.length hi - HT.sIx xs.length 0 lo)
theorem cutD_map {α : Type} (f : α → PyData) (xs : List α) (lo hi : Option Int) : cutD (xs.map f) lo hi = (cutL xs lo hi).map f := by
  unfold cutD cutL
  rw [List.length_map, List.map_take, List.map_drop]
section
variable {b : Bool} {c : Ct} {α β γ : Type} {t ta tb tc te tl : TE} {K : PySem.W.Frag} {R S : Rel} {d e : PyData}
theorem EN.eqL {ds es : List PyData} (h : EN c t (OL ds)) (e : ds = es) : EN c t (OL es) := e ▸ h
theorem n_catM {xs ys : List α} {enc : α → PyData} (h : EI c ta (xs.map enc)) (g : EI c tb (ys.map enc)) (l : xs.length + ys.length ≤ 16777216) : EN c (tOp rCat ta tb) (OL ((xs ++ ys).map enc)) :=
  (n_cat h g (by rw [List.length_map, List.length_map]; exact l)).eqL (List.map_append ..).symm
theorem n_lstM {xs : List α} {enc : α → PyData} {u : TA} (h : EM true c u (xs.map enc)) (l : Nat.ble (xs.map enc).length sizeLine = true := by rfl) : EN c (tLst u) (OL (xs.map enc)) := n_lst h l
theorem n_slM {xs : List α} {enc : α → PyData} {lo hi : Option Int} {tl th : TO} (h : EI c t (xs.map enc)) (hl : EO c tl lo) (hh : EO c th hi) : EN c (tSl (rSlL K) t tl th) (OL ((cutL xs lo hi).map enc)) :=
  (n_sl h hl hh).eqL (cutD_map _ _ _ _)
theorem o_lenM {xs : List α} {enc : α → PyData} : On (fun xs H Q => ∃ x n, xs = [x] ∧ LenV K x H n ∧ Q (.int n) H) [RD (.list (xs.map enc))] (RD (.int xs.length)) := by
  have := o_lenL (K := K) (ds := xs.map enc)
  rw [List.length_map] at this
  exact this
theorem o_mod {i j : Int} (h : 0 < j) : O2 (rI (fun _ j => 0 < j) fun i j => .int (i % j)) (RD (.int i)) (RD (.int j)) (RD (.int (i % j))) := o_I (C := fun _ j => 0 < j) h
theorem o_cats {x y : Str} (h : x.length + y.length ≤ sizeLine) : O2 (fun x y H Q => ∃ i j, x = .str i ∧ y = .str j ∧ i.length + j.length ≤ sizeLine ∧ Q (.str (i ++ j)) H) (RD (.str x)) (RD (.str y)) (RD (.str (x ++ y))) := fun H M u v _ r1 r2 Q q => by
  cases r1
  cases r2
  exact ⟨x, y, rfl, rfl, h, q H _ (Kp.refl _) (.str _)⟩
theorem DtAll.ints {H : Hp} : ∀ {vs : List V} {ns : List Int}, DtAll H vs (ns.map PyData.int) → vs = ns.map V.int
  | [], [], _ => rfl
  | [], _ :: _, h => by cases h
  | _ :: _, [], h => by cases h
  | v :: vs, x :: ns, .cons a r => by
    cases a
    rw [r.ints]
    rfl
theorem DtAll.ofInts {H : Hp} : ∀ ns : List Int, DtAll H (ns.map V.int) (ns.map PyData.int)
  | [] => .nil
  | n :: ns => .cons (.int n) (DtAll.ofInts ns)
theorem o_sum {ns : List Int} : On (rSum K) [RD (.list (ns.map PyData.int))] (RD (.int ns.sum)) := fun H M vs _ r Q q => by
  obtain ⟨v, r', rfl, h1, rfl⟩ := r
  cases h1 with
  | lst e a => exact ⟨_, ns, rfl, by rw [← a.ints]; exact SqL.of (less_some e).2, q H _ (Kp.refl _) (.int _)⟩
end
end Pk
namespace Pk
open PySem PySem.Spec PyProof.Rows L2
abbrev zObj (f0 : Value) (g : Bool) (TI TO : Addr) : Obj := { cls := .type "zip", dict := none, data := .fields #[f0, .bool g, .bool false, .ref TI, .ref TO], slots := #[] }
/-- a zip in the midst of its walk; the tuple that it gave last still stands -/
structure ZS (h : Heap) (z TI TO i1 i2 l1 l2 : Addr) (i : Nat) (xs ys : Array Value) : Prop where
  ob : h.get? z = some (zObj .none false TI TO) ∨ ∃ (T : Addr) (o : Obj) (g : Bool), h.get? z = some (zObj (rawInt T) g TI TO) ∧ h.get? T = some o ∧ T ≠ z ∧ T ≠ TO ∧ T ≠ i1 ∧ T ≠ i2
  ti : IsPair h TI (.ref i1) (.ref i2)
  to_ : ∃ a b, IsPair h TO a b
  it1 : h.IsListIter i1 l1 i
  it2 : h.IsListIter i2 l2 i
  ls1 : h.IsList l1 xs
  ls2 : h.IsList l2 ys
section
variable {P : Program} {w : World} {A : Around} {E : Value → Shared → Prop} {s : Shared} {z TI TO i1 i2 l1 l2 : Addr} {i : Nat} {xs ys : Array Value}
theorem ZS.over {h h' : Heap} {n : Addr} (S : ZS h z TI TO i1 i2 l1 l2 i xs ys) (k : ∀ b u, b ≠ n → h.get? b = some u → h'.get? b = some u) (nz : z ≠ n) (nI : TI ≠ n) (nO : TO ≠ n) (n1 : i1 ≠ n) (n2 : i2 ≠ n) (m1 : l1 ≠ n) (m2 : l2 ≠ n)
    (nT : ∀ (T : Addr) (g : Bool), h.get? z = some (zObj (rawInt T) g TI TO) → T ≠ n) : ZS h' z TI TO i1 i2 l1 l2 i xs ys := by
  refine ⟨?_, k _ _ nI S.ti, ?_, S.it1.at fun o e => k _ o n1 e, S.it2.at fun o e => k _ o n2 e, S.ls1.at fun o e => k _ o m1 e, S.ls2.at fun o e => k _ o m2 e⟩
  · rcases S.ob with e | ⟨T, o, g, e, q, r⟩
    · exact .inl (k _ _ nz e)
    · exact .inr ⟨T, o, g, k _ _ nz e, k _ _ (nT T g e) q, r⟩
  · obtain ⟨a, b, e⟩ := S.to_
    exact ⟨a, b, k _ _ nO e⟩
/-- the pairs that were laid -/
structure Laid (h : Heap) (lo : Addr) (xs ys : Array Value) (as : List Addr) : Prop where
  rise : as.Pairwise (· < ·)
  above : ∀ a ∈ as, lo < a
  prs : ∀ (j : Nat) (a : Addr), as[j]? = some a → ∃ x y, xs[j]? = some x ∧ ys[j]? = some y ∧ IsPair h a x y
theorem Laid.there {h : Heap} {lo : Addr} {as : List Addr} (L : Laid h lo xs ys as) {a : Addr} (ha : a ∈ as) : a < h.objs.size := by
  obtain ⟨j, hj⟩ := List.mem_iff_getElem?.mp ha
  obtain ⟨_, _, _, _, e⟩ := L.prs j a hj
  exact Heap.lt_size e
section
variable {R : Result → Shared → Prop} {S : Addr}
theorem ZS.type {h : Heap} (S : ZS h z TI TO i1 i2 l1 l2 i xs ys) : ∃ o, h.get? z = some o ∧ o.cls = .type "zip" := by
  rcases S.ob with e | ⟨T, o, g, e, _⟩
  · exact ⟨_, e, rfl⟩
  · exact ⟨_, e, rfl⟩
/-- a fresh zip -/
structure Z0 (h : Heap) (z TI TO i1 i2 l1 l2 : Addr) (xs ys : Array Value) : Prop where
  ob : h.get? z = some (zObj .none false TI TO)
  zs : ZS h z TI TO i1 i2 l1 l2 0 xs ys
theorem Z0.over {h h' : Heap} {n : Addr} (S : Z0 h z TI TO i1 i2 l1 l2 xs ys) (k : ∀ b u, b ≠ n → h.get? b = some u → h'.get? b = some u) (nz : z ≠ n) (nI : TI ≠ n) (nO : TO ≠ n) (n1 : i1 ≠ n) (n2 : i2 ≠ n) (m1 : l1 ≠ n) (m2 : l2 ≠ n) : Z0 h' z TI TO i1 i2 l1 l2 xs ys := by
  refine ⟨k _ _ nz S.ob, S.zs.over k nz nI nO n1 n2 m1 m2 fun T g e => ?_⟩
  rw [S.ob] at e
  have q := congrArg Obj.data (Option.some.inj e)
  injection q with q
  have q2 := congrArg (fun v : Array Value => v[0]?) q
  simp [rawInt] at q2
end
end
end Pk
namespace Pk
open PySem PySem.Spec PyProof.Rows L2 GxR NdefX
theorem DtAll.zip {H : Hp} : ∀ {ts : List Addr} {ds es : List PyData}, ts.length = ds.length → es.length = ds.length → (∀ (j : Nat) (t : Addr) (d e : PyData), ts[j]? = some t → ds[j]? = some d → es[j]? = some e → ∃ x y, H t = some (.tup [x, y]) ∧ Dt H x d ∧ Dt H y e) → DtAll H (ts.map V.ref) ((ds.zip es).map fun p => .tuple [p.1, p.2])
  | [], [], [], _, _, _ => .nil
  | [], _ :: _, _, h, _, _ => by cases h
  | _ :: _, [], _, h, _, _ => by cases h
  | _, [], _ :: _, _, h, _ => by cases h
  | _, _ :: _, [], _, h, _ => by cases h
  | t :: ts, d :: ds, e :: es, h1, h2, f => by
    obtain ⟨x, y, q, r1, r2⟩ := f 0 t d e rfl rfl rfl
    exact .cons (.tup q (.cons r1 (.cons r2 .nil))) (DtAll.zip (Nat.succ.inj h1) (Nat.succ.inj h2) fun j t' d' e' a b c => f (j + 1) t' d' e' a b c)
end Pk
namespace Pk
open PySem L2 PySem.Spec PyProof.Rows GxR NdefX
def SpN {α : Type} (Rs : α → List Rel) (P : α → Hp → Prop) (C : α → Own) : Sp := fun vs H Q _ => ∃ (a : α) (om : Addr → Prop), Hd H om ∧ Rok (Rs a) (less H om) vs ∧ P a (less H om) ∧
  ∀ H' p o, Kp H H' → H' p = none → (C a).p (less H' om) o → Q (.ref p) (upd H' p o)
def Skn (sp : Sp) (Rs : List Rel) (P : Hp → Prop) (C : Own) : Prop := ∀ H om vs, Hd H om → Rok Rs (less H om) vs → P (less H om) → ∀ (Q : VK) (E : XK), (∀ H' p o, Kp H H' → H' p = none → C.p (less H' om) o → Q (.ref p) (upd H' p o)) → sp vs H Q E
theorem skn_spn {α : Type} {Rs : α → List Rel} {P : α → Hp → Prop} {C : α → Own} (a : α) : Skn (SpN Rs P C) (Rs a) (P a) (C a) := fun H om vs ho hr hp Q E q => ⟨a, om, ho, hr, hp, q⟩
/-- a reading gives a value of which it is told that it is one of these -/
def EX {β : Type} (c : Ct) (t : TE) (R : β → Rel) (G : β → Prop) : Prop := ∀ σ H, Sta c σ H → ∀ Q : VK, (∀ H' v y, Kp H H' → G y → (R y).p (bas c σ H') v → Q v H') → t σ H Q
section
variable {b : Bool} {c : Ct} {R R0 : Rel} {C : Own} {Rs : List Rel} {P : Hp → Prop} {sp : Sp} {te : TE} {ta : TA} {E' : XK} {Cl : Addr} {m : Str} {D : Ends} {i : Nat}
theorem n_call (hsp : Skn sp Rs P C) (ha : EA true c ta Rs) (hp : ∀ H, Kp c.h0 H → P H) : EN c (tCall sp [] E' ta) C := fun σ H s Q q => ha σ H s _ fun H1 vs k1 r1 => by
  rw [List.append_nil]
  refine hsp H1 (msk true c σ) vs (s.kp k1).hd r1 (hp _ ((s.kp k1).k0.trans bas_hb)) Q E' fun H' p o k n r => q H' p o (k1.trans k) n ?_
  rw [← hb_t]
  exact r
theorem s_setX {β : Type} {R : β → Rel} {G : β → Prop} (h : EX c te R G) (q : ∀ y, G y → WC (c.set i (.fz (R y))) D.nx) (hi : Nat.blt i c.g.length = true := by rfl) : WC c (tAsg te (gName i) D) := fun σ H s => h σ H s _ fun H' v y kp g r => 
  q y g _ H' ((s.kp kp).set (by simpa using hi) r).1
theorem s_asgX {β : Type} {R : β → Rel} {G : β → Prop} {g : TG} {g' : β → List Slot} {is : List Nat} (h : EX c te R G) (hg : ∀ y, G y → EG c g (R y) (g' y) is) (q : ∀ y, G y → WC (c.at (g' y)) D.nx) : WC c (tAsg te g D) := fun σ H s => h σ H s _ fun H' v y kp gd r =>
  hg y gd σ H' v (s.kp kp) r _ fun σ' s' _ _ => q y gd σ' H' s'
/-- a new object is handed back -/
theorem s_retNew (h : EN c te C) (q : ∀ H' p o, Kp c.hs H' → H' p = none → C.p (less H' c.om) o → D.rt (.ref p) (upd H' p o)) : WC c (tRet te D) := fun σ H s => h σ H s _ fun H' p o kp n r => q H' p o (s.ks.trans kp) n (C.mn (less_mono fun _ z => .inr z) r)
end
section
variable {P : Program} {w : World} {K : PySem.W.Frag} {mg : Str → Option Value} {base : Heap} {x qual : Str} {st : Stmt} {f c : Addr} {fd : FuncData} {N ps : List Str} {k : Nat} {α β : Type} {Rs : α → List Rel} {Pr : α → Hp → Prop} {C : α → Own} {R : β → Rel} {G : α → β → Prop}
theorem fn_okN (F : Fun K x qual st f fd) (S : FnScope N ps (defScope st)) (hl : ∀ a, (Rs a).length = ps.length)
    (hbody : ∀ (cdv : Value) (A : Around) (outer : List Env) (s : Shared) (H : Hp) (E : XK), Room k (A.deeper (envOfC qual (defScope st) s.heap.objs.size f cdv)) →
      ∃ t, PSs (cxOf CX0 P w K mg base N qual (defScope st) f cdv A outer s H E).nox (defBody st) t ∧ ∀ (a : α) (hs : Hp) (om : Addr → Prop) (Q : VK), Pr a (less hs om) → (∀ H' p o, Kp hs H' → H' p = none → (C a).p (less H' om) o → Q (.ref p) (upd H' p o)) → WC ⟨hs, less hs om, om, slots0 (Rs a) N.length⟩ (t { nx := fun _ H' => Q .non H', rt := Q })) :
    FnOk P w K mg base CX0 (k + 1) f fd ps (SpN Rs Pr C) := by
  refine F.ok S (fun vs H Q E h => ?_) (fun cdv A outer s H vs Q E hr h => ?_)
  · obtain ⟨a, om, ho, hr, _⟩ := h
    rw [hr.len, hl]
  · obtain ⟨a, om, ho, hR, hP, q⟩ := h
    obtain ⟨t, ht, hw⟩ := hbody cdv A outer s H E hr
    exact ⟨t, ht, hw a H om Q hP q _ _ (sta_start ho hR)⟩
end
/-- a list of the script's numbers, locked -/
def RScr (K : PySem.W.Frag) (ns : List Int) : Rel := ⟨fun H v => ∃ a, v = .ref a ∧ SqL K H a (ns.map V.int), fun k ⟨a, e, h⟩ => ⟨a, e, k.seq h⟩⟩
end Pk
namespace Pk
open PySem L2 PySem.Spec PyProof.Rows GxR NdefX
def noOwn (g : List Slot) : Bool := g.all fun s => notOwn (some s)
theorem bas_all {hs h0 : Hp} {g : List Slot} {σ : L2.St} {H : Hp} (h : noOwn g = true) : bas ⟨hs, h0, fun _ => False, g⟩ σ H = H := by
  funext a
  refine bas_out ?_
  rintro (⟨i, C, e, _⟩ | z)
  · have := List.all_eq_true.mp h _ (List.mem_of_getElem? e)
    cases this
  · exact z
theorem less_no {H : Hp} : less H (fun _ => False) = H := by
  funext a
  exact less_out id
/-- promises told of the whole heap -/
def Skx0 {β : Type} (sp : Sp) (Rs : List Rel) (P : Hp → Prop) (R : β → Rel) (G : β → Prop) : Prop := ∀ H vs, Rok Rs H vs → P H → ∀ (Q : VK) (E : XK), (∀ H' v y, Kp H H' → G y → (R y).p H' v → Q v H') → sp vs H Q E
section
variable {hs h0 : Hp} {g : List Slot} {R : Rel} {C : Own} {Rs : List Rel} {P : Hp → Prop} {sp : Sp} {te : TE} {ta : TA} {E' : XK} {Cl : Addr} {m : Str} {D : Ends}
theorem x_call0 {β : Type} {R : β → Rel} {G : β → Prop} (hsp : Skx0 sp Rs P R G) (ha : EA true ⟨hs, h0, fun _ => False, g⟩ ta Rs) (hp : ∀ H, Kp h0 H → P H) (no : noOwn g = true := by rfl) : EX ⟨hs, h0, fun _ => False, g⟩ (tCall sp [] E' ta) R G := fun σ H s Q q => ha σ H s _ fun H1 vs k1 r1 => by
  rw [List.append_nil]
  rw [hb_t, bas_all no] at r1
  have k0 := (s.kp k1).k0
  rw [bas_all no] at k0
  refine hsp H1 vs r1 (hp _ k0) Q E' fun H' v y k gd r => q H' v y (k1.trans k) gd ?_
  rw [bas_all no]
  exact r
end
section
variable {P : Program} {w : World} {K : PySem.W.Frag} {mg : Str → Option Value} {base : Heap} {x qual : Str} {st : Stmt} {f c : Addr} {fd : FuncData} {N ps : List Str} {k : Nat}
/-- a law: for each script, with these tables, True -/
def spLawT (K : PySem.W.Frag) (Ts : List Addr) : Sp := fun vs H Q _ => ∃ (a : Addr) (ns : List Int), vs = [.ref a] ∧ SqL K H a (ns.map V.int) ∧ ns.length ≤ 63 ∧ (∀ T ∈ Ts, TabG H T) ∧ ∀ H', Q (.bl true) H'
theorem fn_okL {Ts : List Addr} (F : Fun K x qual st f fd) (S : FnScope N ["script"] (defScope st))
    (hbody : ∀ (cdv : Value) (A : Around) (outer : List Env) (s : Shared) (H : Hp) (E : XK), Room k (A.deeper (envOfC qual (defScope st) s.heap.objs.size f cdv)) →
      ∃ t, PSs (cxOf CX0 P w K mg base N qual (defScope st) f cdv A outer s H E).nox (defBody st) t ∧ ∀ (ns : List Int) (hs : Hp) (Q : VK), ns.length ≤ 63 → (∀ T ∈ Ts, TabG hs T) → (∀ H', Q (.bl true) H') → WC ⟨hs, hs, fun _ => False, slots0 [RScr K ns] N.length⟩ (t { nx := fun _ H' => Q .non H', rt := Q })) :
    FnOk P w K mg base CX0 (k + 1) f fd ["script"] (spLawT K Ts) := by
  refine F.ok S (fun vs H Q E h => ?_) (fun cdv A outer s H vs Q E hr h => ?_)
  · obtain ⟨a, ns, rfl, _⟩ := h
    rfl
  · obtain ⟨a, ns, rfl, hS, hl, hT, q⟩ := h
    obtain ⟨t, ht, hw⟩ := hbody cdv A outer s H E hr
    have z := sta_start (H := H) (om := fun _ => False) (Rs := [RScr K ns]) (N := N) (vs := [.ref a]) (fun _ z => z.elim) ⟨_, _, rfl, ⟨a, rfl, by rw [less_no]; exact hS⟩, rfl⟩
    rw [less_no] at z
    exact ⟨t, ht, hw ns H Q hl hT q _ _ z⟩
end
end Pk
namespace L2
open PySem PySem.Spec PyProof.Rows
section
variable {P : Program} {w : World} {A : Around} {E : Value → Shared → Prop} {s : Shared} {a x : Addr} {L : List (Addr × List Int)} {es : Array (Int × Value)} {ep : Nat} {t : SetTable} {k : List Int}
/-- what a search needs of the set -/
structure Seek (P : Program) (w : World) (h : Heap) (a : Addr) (L : List (Addr × List Int)) (es : Array (Int × Value)) (ep : Nat) (t : SetTable) : Prop where
  ob : ∃ o, h.get? a = some o ∧ o.ExactSet ∧ o.data = .set es ep t
  row : ∀ {i : Nat} {p : Addr × List Int}, L[i]? = some p → es[i]? = some (thash P w p.2, Value.ref p.1)
  all : es.toList = rowsOf P w L
  tab : TabOk t (L.map fun p => thash P w p.2)
  tup : ∀ p ∈ L, IsT P w h p.2 p.1
  room : L.length * 5 < t.mask * 3
theorem Seek.of (R : SetTR P w s.heap a L es ep t) : Seek P w s.heap a L es ep t := ⟨R.ob, fun h => R.entry h, R.rows, R.tab, R.tup, R.room⟩
variable {K : Nat} {Q : SetFound → Shared → Prop}
end
end L2
namespace Pk
open PySem L2 PySem.Spec PyProof.Rows GxR NdefX
section
variable {P : Program} {w : World} {K : PySem.W.Frag} {c : Ct} {b : Bool} {ta : TE} {ps : List Pl}
theorem SetOf.kp {H H' : Hp} {a : Addr} (h : SetOf P w H a ps) (k : Kp H H') : SetOf P w H' a ps := by
  obtain ⟨L, h1, h2, h3⟩ := h
  refine ⟨L, k.at_ _ _ h1 (fun _ z => nomatch z), fun x hx => ?_, h3⟩
  obtain ⟨p, m, e, z⟩ := h2 x hx
  exact ⟨p, m, e, k.tup z⟩
theorem o_isB {x y : Bool} : O2 rIsB (RD (.bool x)) (RD (.bool y)) (RD (.bool (decide (x = y)))) := fun H M u v _ r1 r2 Q q => by
  cases r1
  cases r2
  exact ⟨x, y, rfl, rfl, q H _ (Kp.refl _) (.bl _)⟩
end
end Pk
namespace Pk
open PySem L2 PySem.Spec PyProof.Rows GxR NdefX
section
variable {c : Ct} {wi : TI} {ta : TA} {tl te ti : TE} {tt : TT} {g : TG} {D : Ends} {tb : TS} {K : PySem.W.Frag} {α β : Type} {xs : List α} {ys : List β} {R : α → Rel} {f : α → PyData} {h : β → PyData}
theorem DtAll.set {H : Hp} {vs : List V} {ds : List PyData} (h : DtAll H vs ds) : ∀ {j : Nat} {v : V} {d : PyData}, Dt H v d → DtAll H (vs.set j v) (ds.set j d) := by
  induction vs generalizing ds with
  | nil => cases h; intro j v d _; exact .nil
  | cons u vs ih =>
    cases h with
    | cons a b =>
      intro j v d r
      cases j with
      | zero => exact .cons r b
      | succ j => exact .cons a (ih b r)
end
abbrev eH3 {α β γ : Type} (f : α → PyData) (g : β → PyData) (k : γ → PyData) : α × β × γ → PyData := fun p => .list [f p.1, g p.2.1, k p.2.2]
/-- a tuple of numbers, written or made -/
def RTI (K : PySem.W.Frag) (ns : List Int) : Rel := ⟨fun H v => ∃ a, v = .ref a ∧ SqT K H a (ns.map V.int), fun k ⟨a, e, h⟩ => ⟨a, e, by
  rcases h with (h | ⟨o, h⟩) | h
  · exact .inl (.inl (k.tup h))
  · exact .inl (.inr ⟨o, k.at_ _ _ h fun _ z => nomatch z⟩)
  · exact .inr h⟩⟩
theorem RTI.dp {K : PySem.W.Frag} {ns : List Int} {H : Hp} {v : V} (h : (RTI K ns).p H v) : Dp K H v (.tuple (ns.map PyData.int)) := by
  obtain ⟨a, rfl, h⟩ := h
  refine .tup h ?_
  clear h
  induction ns with
  | nil => exact .nil
  | cons n ns ih => exact .cons (.int n) ih
end Pk
namespace Pk
open PySem L2 PySem.Spec PyProof.Rows
section
variable {P : Program} {w : World} {K : PySem.W.Frag} {mg : Str → Option Value} {base : Heap}
/-- a def whose errors were made where nothing was handled -/
theorem fun_okN {x qual : Str} {st : Stmt} {f : Addr} {fd : FuncData} {N ps : List Str} {k : Nat} {sp : Sp} (F : Fun K x qual st f fd) (S : FnScope N ps (defScope st))
    (len : ∀ vs H Q E, sp vs H Q E → vs.length = ps.length)
    (hbody : ∀ (cd : Value) (A : Around) (outs : List Env) (s : Shared) (H : Hp) (vs : List V) (Q : VK) (E : XK), Room k (A.deeper (envOfC qual (defScope st) s.heap.objs.size f cd)) → sp vs H Q E →
      ∃ t, PSs (cxOf (L2N.CX P w) P w K mg base N qual (defScope st) f cd A outs s H E) (defBody st) t ∧ t { nx := fun _ G => Q .non G, rt := Q } (start N vs) H) :
    FnOk P w K mg base (L2N.CX P w) (k + 1) f fd ps sp := by
  obtain ⟨_, _, _, _, _, _, cd, _, _, rfl, look, code⟩ := F.ex
  exact fn_of look code S len fun A outs s H vs Q E hr z => hbody cd A outs s H vs Q E hr z
/-- the same, called while an exception is handled -/
theorem fun_okH {x qual : Str} {st : Stmt} {f : Addr} {fd : FuncData} {N ps : List Str} {k : Nat} {sp : Sp} {CX : CXT} (F : Fun K x qual st f fd) (S : FnScope N ps (defScope st))
    (len : ∀ vs H Q E, sp vs H Q E → vs.length = ps.length)
    (hbody : ∀ (cd : Value) (A : Around) (outs : List Env) (s : Shared) (H : Hp) (vs : List V) (Q : VK) (E : XK) (p : Addr × Obj), L2H.Hot1 A p → L2H.RoomH k (A.deeper (envOfC qual (defScope st) s.heap.objs.size f cd)) → sp vs H Q E →
      ∃ t, PSs (L2H.cxH CX P w K mg base N qual (defScope st) f cd A outs s H E p) (defBody st) t ∧ t { nx := fun _ G => Q .non G, rt := Q } (start N vs) H) :
    L2H.FnH P w K mg base CX (k + 1) f fd ps sp := by
  obtain ⟨_, _, _, _, _, _, cd, _, _, rfl, look, code⟩ := F.ex
  exact L2H.fn_ofH look code S len fun A outs s H vs Q E p hot hr z => hbody cd A outs s H vs Q E p hot hr z
end
/-- what is wished of an error of the body -/
def wPair (K : PySem.W.Frag) (cs : List Value) (ts : Sui) (Wo : WX) (D : Ends) : WX := fun cls d τ G =>
  ∃ b, PySem.W.exmAny K cls cs = some b ∧ (b = true → ∀ a, G a = none → ts a cls d D τ G) ∧ (b = false → Wo cls d τ G)
def wOut (K : PySem.W.Frag) (cs : List Value) (Wo : WX) : WX := fun cls d τ G => PySem.W.exmAny K cls cs = some false ∧ Wo cls d τ G
section
variable {X : Cx} {x1 x2 : Str} {c1 c2 : Value} {body suite : List Stmt} {b₀ : Stmt} {n1 n2 n3 pos pos' : Pos} {kk : Nat} {tb : WX → TS} {ts : Sui} {Wo : WX}
theorem flying_push {h B : Heap} {l : List Env} {a : Addr} {Z : Obj → Prop} {o : Obj} (x : HandSPX.FlyingZ B l a Z h) : HandSPX.FlyingZ B l a Z (h.push o) := by
  obtain ⟨y1, y2, y3, oe, vs, T, oT, us, he, hz, hd, g1, gn, gT, hT, hdT, g3⟩ := x
  have up : ∀ {b q}, h.get? b = some q → (h.push o).get? b = some q := fun z => Heap.get?_push_of_some _ z
  exact ⟨fun b q z => up (y1 b q z), y2, y3.of_keeps fun b q z _ => ⟨q, up z, rfl⟩, oe, vs, T, oT, us, up he, hz, hd, g1, gn, gT, up hT, hdT, g3⟩
theorem ps_try_pair (hst : X.stack = X.env :: X.outer) (hfm : X.env.frame = some X.env.locals) (k1 : Names X x1 c1) (k2 : Names X x2 c2) (own : ∀ hd : Option Value, PassesOwnAt (model X.prog X.w) (X.A.mark hd) X.A X.env X.xe) (tk : Takes X Wo)
    (hb : ∀ (W : WX) (pn : List (Addr × Obj)) (xe : Value → Shared → Prop), L2N.Takes (X.tr pn xe) W → Takes (X.tr pn xe) (wOut X.K [c1, c2] Wo) → PassesOwn (model X.prog X.w) X.A X.env xe → PSs (X.tr pn xe) body (tb W))
    (hsu : ∀ (a : Addr) (oe : Obj) (cls : Value) (d : Option Addr) (pn : List (Addr × Obj)), L2N.Zn cls d oe → (∃ vs, oe.data = .fields vs) → Takes (L2H.suiteX X a ((a, oe) :: pn)) Wo → L2H.HotC (L2H.suiteX X a ((a, oe) :: pn)) →
      PSs (L2H.suiteX X a ((a, oe) :: pn)) (b₀ :: suite) (ts a cls d)) :
    PS X (.Try body [.ExceptHandler (some (.Tuple [.Name x1 n1, .Name x2 n2] kk n3)) none (b₀ :: suite) pos'] [] [] pos) (fun D τ G => tb (wPair X.K [c1, c2] ts Wo D) D τ G) := by
  refine ⟨fun pins s τ G D I hw => ?_⟩
  have okX := I.ok
  have frs0 : X.A.frames = some (X.env :: X.outer) := by rw [okX.frames, hst]
  let M := model X.prog X.w
  have apart : ∀ {B h : Heap} {a : Addr} {o : Obj} {vs : Array Value}, h.FunFrames B (X.env :: X.outer) → h.get? a = some o → o.data = .fields vs → a ∉ frs (X.env :: X.outer) := fun {B h a o vs} ff z dd hm => by
    obtain ⟨_, o', z', hnf⟩ := ff.mem hm
    rw [z] at z'
    cases z'
    exact hnf _ dd
  have goesOn : ∀ {a : Addr} {B : Heap} {sI s' : Shared} {τ' : L2.St} {G' : Hp} {cls : Value} {d : Option Addr} {h3 : Heap}, Inv X pins τ' G' sI → (∀ b o, sI.heap.get? b = some o → b ∉ frs X.stack → B.get? b = some o) → sI.heap.UpToSlots h3 →
      HandSPX.FlyingZ B (X.env :: X.outer) a (Zc cls d) h3 → G' a = none → s'.os = sI.os → AllBare s'.gens → Wo cls d τ' G' → wpAny M X.A (handleBy (.ref a) X.env []) (SP X pins D) X.xe { s' with heap := h3 } := by
    intro a B sI s' τ' G' cls d h3 J nb up fl na hos hag wo
    refine wpAny_handleBy_nil ?_
    obtain ⟨_, _, _, oe, vs, T, oT, us, he, hz, hd, g1, _⟩ := id fl
    unfold PySem.passOn
    refine wpAny_bind (wpAny_field he hd g1 ?_)
    rw [if_neg (show ¬ ((Value.ref T == Value.none) = true) from by simp)]
    have out : wpAny M X.A (setFlight (.ref a) X.env.frame) (fun _ s4 => wpAny M X.A (throw (.ref a) : Sem Flow) (SP X pins D) X.xe s4) X.xe { s' with heap := h3 } := by
      rw [hfm]
      refine HandSPX.setFlight_upZ fl fun h4 hh4 up4 => wpAny_throw (tk _ _ ?_)
      exact ⟨a, B, sI, pins, τ', G', cls, d, rfl, J, nb, up.trans up4, .inr (.inr (by rw [hst]; exact hh4)), na, hos, hag, wo⟩
    first
      | exact wpAny_bind (wpAny_pure (wpAny_bind out))
      | exact wpAny_bind out
  have named : ∀ {x : Str} {c : Value} {np : Pos} {a : Addr} {oe : Obj} {τ' : L2.St} {G' : Hp} {s5 : Shared} {Q : Value → Shared → Prop} {E : Value → Shared → Prop}, Names X x c → Inv (X.suite a ((a, oe) :: (X.pn ++ pins))) [] τ' G' s5 → Q c s5 →
      wpAny M (X.A.mark (some (.ref a))) (eval (.Name x np) X.env) Q E s5 := fun {x c np a oe τ' G' s5 Q E} hc S5 q => by
    obtain ⟨hg, hdbg, hm | ⟨hm, hv, hnn⟩⟩ := hc
    · exact ld_glob (X := X.suite a ((a, oe) :: (X.pn ++ pins))) S5 hg hm q hdbg
    · exact ld_blt (X := X.suite a ((a, oe) :: (X.pn ++ pins))) S5 hg hm hv q hnn hdbg
  refine wpAny_Try_except ?_
  refine wpAny_mono ((hb (wPair X.K [c1, c2] ts Wo D) (X.pn ++ pins) (fun e s₁ => wpAny M X.A (noteFrame e X.env) (fun _ s₂ => wpAny M X.A (setFlight e none) (fun _ s₃ =>
    wpAny M X.A (handleBy e X.env [.ExceptHandler (some (.Tuple [.Name x1 n1, .Name x2 n2] kk n3)) none (b₀ :: suite) pos']) (SP X pins D) X.xe s₃) X.xe s₂) X.xe s₁) (fun u s' xx => ?_) (fun u s' xx => ?_) PassesOwn.looking).run [] s τ G D (I.toTry _) hw) (fun fl s1 hsp => ?_) (fun e s1 z => z)
  · obtain ⟨a, B, sI, pins', τ', G', cls, d, rfl, J0, nb, up, sky, na, hos, hag, b, hb1, yes, no⟩ := xx
    have J : Inv X pins τ' G' sI := J0.ofTry okX
    have sk : Sky B (X.env :: X.outer) a (L2N.Zn cls d) X.env.locals s'.heap := hst ▸ sky
    show wpAny M X.A (noteFrame (.ref a) X.env) _ _ _
    refine L2N.Sky.land L2N.Zn.steady frs0 hfm sk fun h3 fl3 up3 => ?_
    have J3 : Inv X pins τ' G' { s' with heap := h3 } := J.landed nb fl3.1 (up.trans up3) hos hag
    obtain ⟨oe3, vs3, he3, hz3, hd3⟩ := fl3.there
    have nfr := apart fl3.2.2.1 he3 hd3
    have nL : a ≠ X.env.locals := fun z => nfr (List.mem_filterMap.mpr ⟨X.env, List.mem_cons_self, by rw [hfm, z]⟩)
    have nF : a ∉ X.fs := fun hm => by
      obtain ⟨e, he, q⟩ := List.mem_filterMap.mp hm
      exact nfr (List.mem_filterMap.mpr ⟨e, List.mem_cons_of_mem _ he, q⟩)
    have S3 := J3.suite he3 hd3 na nL nF
    refine wpAny_handleBy_cons (codeAny_handlers_test ?_) (by intro q; cases q)
    refine wpAny_Tuple (wpAny_items_cons (named k1 S3 (wpAny_items_cons (named k2 S3 (wpAny_items_nil ⟨by size_fits, ?_⟩)))))
    have kp : ∀ q o, h3.get? q = some o → (h3.push { cls := .type "tuple", data := .seq [c1, c2].toArray }).get? q = some o := fun _ _ z => Heap.get?_push_of_some _ z
    have LT : PySem.W.Looks M (h3.push { cls := .type "tuple", data := .seq [c1, c2].toArray }) (typeOf (.ref a)) cls := fun A Q E s k q => wpAny_typeOf_ref (k _ _ (kp _ _ he3)) (by rw [hz3.1]; exact q)
    have KI := J3.kIn.keeps kp
    refine (PySem.W.exm_tup2 KI LT (Heap.get?_push_size h3 rfl) hb1).here ?_
    have fl5 := flying_push (o := { cls := .type "tuple", data := .seq [c1, c2].toArray }) fl3
    have up5 : h3.UpToSlots (h3.push { cls := .type "tuple", data := .seq [c1, c2].toArray }) := fun b o z _ => ⟨o.slots, kp b _ z⟩
    cases b with
    | true =>
      refine codeAny_handlers_suite ?_
      refine HandSPX.lands_againZ fl5 fun h4 fl4 up4 => ?_
      have J4 : Inv X pins τ' G' { s' with heap := h4 } := J.landed nb fl4.1 (((up.trans up3).trans up5).trans up4) hos hag
      obtain ⟨oe4, vs4, he4, hz4, hd4⟩ := fl4.there
      have S4 := J4.suite he4 hd4 na nL nF
      have tkS : Takes (L2H.suiteX X a ((a, oe4) :: (X.pn ++ pins))) Wo := fun u2 s2 y => by
        obtain ⟨a2, B2, sI2, pn2, τ2, G2, cls2, d2, e2, I2, nb2, up2, sky2, na2, os2, ag2, w2⟩ := y
        exact tk u2 s2 ⟨a2, B2, sI2, pins, τ2, G2, cls2, d2, e2, L2H.unsuiteX I2 okX, nb2, up2, sky2, na2, os2, ag2, w2⟩
      have hot : L2H.HotC (L2H.suiteX X a ((a, oe4) :: (X.pn ++ pins))) := ⟨(a, oe4), ⟨rfl, vs4, hd4, hz4.2.2 vs4 hd4⟩, List.mem_cons_self⟩
      refine wpAny_mono ((hsu a oe4 cls d (X.pn ++ pins) hz4 ⟨_, hd4⟩ tkS hot).run [] _ _ G' _ (L2H.suiteX_of S4) (yes rfl a na)) (fun f s6 hsp => ?_) (fun e6 s6 z => own (some (.ref a)) e6 s6 z)
      cases f with
      | next =>
        obtain ⟨τ6, G6, S6, q6⟩ := hsp
        exact ⟨_, _, L2H.unsuiteX S6 okX, q6⟩
      | brk =>
        obtain ⟨τ6, G6, S6, q6⟩ := hsp
        exact ⟨_, _, L2H.unsuiteX S6 okX, q6⟩
      | cont =>
        obtain ⟨τ6, G6, S6, q6⟩ := hsp
        exact ⟨_, _, L2H.unsuiteX S6 okX, q6⟩
      | ret u =>
        obtain ⟨v6, τ6, G6, S6, r6, q6⟩ := hsp
        exact ⟨_, _, _, L2H.unsuiteX S6 okX, r6, q6⟩
    | false =>
      show wpAny M X.A (handleBy (.ref a) X.env []) _ _ _
      exact goesOn J nb ((up.trans up3).trans up5) (L2H.flyingZ_imp (fun o z => z.zc) fl5) na hos hag (no rfl)
  · obtain ⟨a, B, sI, pins', τ', G', cls, d, rfl, J0, nb, up, sky, na, hos, hag, hb1, no⟩ := xx
    have J : Inv X pins τ' G' sI := J0.ofTry okX
    have sk : Sky B (X.env :: X.outer) a (Zc cls d) X.env.locals s'.heap := hst ▸ sky
    show wpAny M X.A (noteFrame (.ref a) X.env) _ _ _
    refine Sky.land Zc.steady frs0 hfm sk fun h3 fl3 up3 => ?_
    have J3 : Inv X pins τ' G' { s' with heap := h3 } := J.landed nb fl3.1 (up.trans up3) hos hag
    obtain ⟨oe3, vs3, he3, hz3, hd3⟩ := fl3.there
    have nfr := apart fl3.2.2.1 he3 hd3
    have nL : a ≠ X.env.locals := fun z => nfr (List.mem_filterMap.mpr ⟨X.env, List.mem_cons_self, by rw [hfm, z]⟩)
    have nF : a ∉ X.fs := fun hm => by
      obtain ⟨e, he, q⟩ := List.mem_filterMap.mp hm
      exact nfr (List.mem_filterMap.mpr ⟨e, List.mem_cons_of_mem _ he, q⟩)
    have S3 := J3.suite he3 hd3 na nL nF
    refine wpAny_handleBy_cons (codeAny_handlers_test ?_) (by intro q; cases q)
    refine wpAny_Tuple (wpAny_items_cons (named k1 S3 (wpAny_items_cons (named k2 S3 (wpAny_items_nil ⟨by size_fits, ?_⟩)))))
    have kp : ∀ q o, h3.get? q = some o → (h3.push { cls := .type "tuple", data := .seq [c1, c2].toArray }).get? q = some o := fun _ _ z => Heap.get?_push_of_some _ z
    have LT : PySem.W.Looks M (h3.push { cls := .type "tuple", data := .seq [c1, c2].toArray }) (typeOf (.ref a)) cls := fun A Q E s k q => wpAny_typeOf_ref (k _ _ (kp _ _ he3)) (by rw [hz3.1]; exact q)
    have KI := J3.kIn.keeps kp
    refine (PySem.W.exm_tup2 KI LT (Heap.get?_push_size h3 rfl) hb1).here ?_
    have up5 : h3.UpToSlots (h3.push { cls := .type "tuple", data := .seq [c1, c2].toArray }) := fun b o z _ => ⟨o.slots, kp b _ z⟩
    show wpAny M X.A (handleBy (.ref a) X.env []) _ _ _
    exact goesOn J nb ((up.trans up3).trans up5) (flying_push fl3) na hos hag no
  · cases fl with
    | next =>
      obtain ⟨τ', G', J', q⟩ := hsp
      exact wpAny_execs_nil ⟨τ', G', J'.ofTry okX, q⟩
    | brk =>
      obtain ⟨τ', G', J', q⟩ := hsp
      exact ⟨τ', G', J'.ofTry okX, q⟩
    | cont =>
      obtain ⟨τ', G', J', q⟩ := hsp
      exact ⟨τ', G', J'.ofTry okX, q⟩
    | ret u =>
      obtain ⟨v, τ', G', J', r, q⟩ := hsp
      exact ⟨v, τ', G', J'.ofTry okX, r, q⟩
end
end Pk
namespace Pk
open PySem L2 PySem.Spec PyProof.Rows SX PySem.Builtin PySem.Builtin.Str
theorem cut_one {p q : List Nat} {c : Nat} (hp : c ∉ p) : ∃ i, occurrences (S (p ++ c :: q)) (S [c]) 0 (S (p ++ c :: q)).length 1 = [i] ∧ strSub (S (p ++ c :: q)) 0 i = S p ∧ strSub (S (p ++ c :: q)) (i + 1) (S (p ++ c :: q)).length = S q := by
  have pa : TL.par [c] [] (p ++ ([c] ++ q)) = some ([] ++ p, q) := TL.par_part1 hp
  have e := partition_some (a := p ++ c :: q) (b := [c]) (by simp) pa
  have le := StrLaws.occ_length_le (S (p ++ c :: q)) (S [c]) 0 (S (p ++ c :: q)).length 1
  unfold Txt.partition at e
  cases h : occurrences (S (p ++ c :: q)) (S [c]) 0 (S (p ++ c :: q)).length 1 with
  | nil =>
    rw [h] at e
    have e2 := congrArg (fun x : Str × Str × Str => x.2.1) e
    have e2 : Str.empty = S [c] := e2
    have := congrArg Str.length e2
    rw [S_len] at this
    cases this
  | cons i r =>
    rw [h] at e le
    have rn : r = [] := by cases r with | nil => rfl | cons _ _ => simp at le
    subst rn
    refine ⟨i, rfl, ?_, ?_⟩
    · exact congrArg (fun x : Str × Str × Str => x.1) e
    · exact congrArg (fun x : Str × Str × Str => x.2.2) e
theorem glued_two (z p q : List Nat) : glued (S z) [S p, S q] = S (p ++ z ++ q) := by
  unfold glued
  simp [S]
section
variable {prog : Program} {w : World} {A : Around} {E : Value → Shared → Prop} {s : Shared} {t u v k : Tok} {Q : Value → Shared → Prop} {p q z : List Nat} {c : Nat}
theorem replace_first (hu : u ≠ 0) (hv : v ≠ 0) (huv : u ≠ v) (hp : c ∉ p) (hz : z ≠ [c]) (hb : (p ++ c :: q).length + z.length ≤ 1000000)
    (fin : ∀ t' k', Q (.str (S (p ++ z ++ q)) t') { s with toks := k' }) : wpAny (model prog w) A (call (.builtin "str.replace") [.str (S (p ++ c :: q)) t, .str (S [c]) u, .str (S z) v, .int 1 k]) Q E s := by
  obtain ⟨i, ho, h1, h2⟩ := cut_one (q := q) hp
  have hyz : (S [c] == S z) = false := by
    rw [S_beq_eq]
    exact decide_eq_false fun e => hz e.symm
  have hl : tooLong ((S (p ++ c :: q)).length + [i].length * (S z).length) = false := by
    unfold tooLong
    rw [S_len, S_len]
    have : (1000000 : Nat) < sizeLine := by decide
    exact decide_eq_false (by simp only [List.length_singleton]; omega)
  have pb : partsBetween (S (p ++ c :: q)) [i] 1 = [S p, S q] := by
    unfold partsBetween
    show [strSub _ 0 i, strSub _ (i + 1) _] = _
    rw [h1, h2]
  have g : Gives («str.replace» ⟨[.str (S (p ++ c :: q)) t, .str (S [c]) u, .str (S z) v, .int 1 k], []⟩) (.str (S (p ++ z ++ q))) := by
    have hk := countLimit_int "str.replace" 1 k ((S (p ++ c :: q)).length + 1) (by decide)
    show Gives (do
      let limit ← countLimit "str.replace" (some (.int 1 k)) ((S (p ++ c :: q)).length + 1)
      if ((occurrences (S (p ++ c :: q)) (S [c]) 0 (S (p ++ c :: q)).length limit).isEmpty || ((S [c]).length == 0 && (S z).length == 0)) = true then (do rule "str.replace.nothing"; ret (.str (S (p ++ c :: q)) t)) else
          (do let same ← isSame (.str (S [c]) u) (.str (S z) v)
              if same = true then (do rule "str.replace.old-is-new"; ret (.str (S (p ++ c :: q)) t)) else
              if tooLong ((S (p ++ c :: q)).length + (occurrences (S (p ++ c :: q)) (S [c]) 0 (S (p ++ c :: q)).length limit).length * (S z).length) = true then unsupported "str.replace:memory" else
              retStr (glued (S z) (partsBetween (S (p ++ c :: q)) (occurrences (S (p ++ c :: q)) (S [c]) 0 (S (p ++ c :: q)).length limit) (S [c]).length)))) _
    rw [hk]
    have e1 : (if (1 : Int) < 0 then (S (p ++ c :: q)).length + 1 else (1 : Int).toNat) = 1 := rfl
    rw [e1]
    show Gives (if ((occurrences (S (p ++ c :: q)) (S [c]) 0 (S (p ++ c :: q)).length 1).isEmpty || ((S [c]).length == 0 && (S z).length == 0)) = true then (do rule "str.replace.nothing"; ret (.str (S (p ++ c :: q)) t)) else
          (do let same ← isSame (.str (S [c]) u) (.str (S z) v)
              if same = true then (do rule "str.replace.old-is-new"; ret (.str (S (p ++ c :: q)) t)) else
              if tooLong ((S (p ++ c :: q)).length + (occurrences (S (p ++ c :: q)) (S [c]) 0 (S (p ++ c :: q)).length 1).length * (S z).length) = true then unsupported "str.replace:memory" else
              retStr (glued (S z) (partsBetween (S (p ++ c :: q)) (occurrences (S (p ++ c :: q)) (S [c]) 0 (S (p ++ c :: q)).length 1) (S [c]).length)))) _
    rw [ho, isSame_str_other (S [c]) (S z) u v (by simp [hu, hv]) (by simp [huv]) hyz, hl]
    rw [show (S [c]).length = 1 from rfl, pb, glued_two]
    exact .of_eq rfl
  refine call_gives PySem.F.slot_str_replace (typeIs_str _ _ _) PySem.F.entry_str_replace (PySem.F.args_str_replace_4 _ _ _ _) g ?_
  exact ⟨by rw [S_len]; exact Nat.le_trans (show (p ++ z ++ q).length ≤ 1000001 from by simp only [List.length_append, List.length_cons] at hb ⊢; omega) (by decide), fin _ _⟩
end
end Pk
namespace Pk
open PySem L2 PySem.Spec PyProof.Rows SX
section
variable {X : Cx} {o e : Expr} {es : List Expr} {to : TE} {ta : TA} {j0 j1 j2 : Nat} {c0 c1 c2 apos pos : Pos} {c : Nat} {z : List Nat}
theorem call_meth3 {prog : Program} {w : World} {A : Around} {E : Value → Shared → Prop} {s : Shared} {env : Env} {o e1 e2 e3 : Expr} {name : Str} {apos pos : Pos} {Q : Value → Shared → Prop}
    (hbase : attributeBase o name env (eval o env) = eval o env) (hs : starEach [e1, e2, e3] env = [(false, eval e1 env), (false, eval e2 env), (false, eval e3 env)]) (hline : (apos.endLine == pos.line) = true)
    (h : wpAny (model prog w) A (eval o env) (fun ov s1 => MethodOnS prog w A E name ov pos [(false, eval e1 env), (false, eval e2 env), (false, eval e3 env)] Q s1) E s) :
    wpAny (model prog w) A (eval (.Call (.Attribute o name apos) [e1, e2, e3] [] pos) env) Q E s := by
  refine wpAny_Call_method_lateS hbase (by rw [hs]; rfl) hline ?_
  rw [hs]
  exact h
theorem pet_of {te : TE} (h : PE X e te) : PET X e te := fun pins s σ H Q _ I q => h.run pins s σ H Q I q
end
end Pk
namespace Pk
open PySem L2 PySem.Spec PyProof.Rows SX PySem.Builtin PySem.Builtin.Str
/-- the first c replaced -/
def repC (c : Nat) (z : List Nat) : List Nat → List Nat
  | [] => []
  | d :: r => if d = c then z ++ r else d :: repC c z r
theorem repC_none {c : Nat} {z : List Nat} : ∀ {l : List Nat}, c ∉ l → repC c z l = l
  | [], _ => rfl
  | d :: r, h => by
    unfold repC
    rw [if_neg (fun e => h (by rw [e]; exact List.mem_cons_self)), repC_none fun m => h (List.mem_cons_of_mem _ m)]
theorem repC_some {c : Nat} {z q : List Nat} : ∀ {p : List Nat}, c ∉ p → repC c z (p ++ c :: q) = p ++ z ++ q
  | [], _ => by
    show (if c = c then z ++ q else _) = _
    rw [if_pos rfl]
    rfl
  | d :: r, h => by
    show (if d = c then z ++ (r ++ c :: q) else d :: repC c z (r ++ c :: q)) = d :: (r ++ z ++ q)
    rw [if_neg (fun e => h (by rw [e]; exact List.mem_cons_self)), repC_some fun m => h (List.mem_cons_of_mem _ m)]
theorem repC_split {c : Nat} : ∀ {l : List Nat}, c ∈ l → ∃ p q, l = p ++ c :: q ∧ c ∉ p
  | [], h => nomatch h
  | d :: r, h => by
    by_cases e : d = c
    · exact ⟨[], r, by rw [e]; rfl, fun z => nomatch z⟩
    · rcases List.mem_cons.mp h with z | z
      · exact absurd z.symm e
      · obtain ⟨p, q, rfl, hp⟩ := repC_split z
        exact ⟨d :: p, q, rfl, fun m => (List.mem_cons.mp m).elim (fun y => e y.symm) hp⟩
theorem cut_none {l : List Nat} {c : Nat} (h : c ∉ l) : occurrences (S l) (S [c]) 0 (S l).length 1 = [] := by
  have e := partition_none (a := l) (b := [c]) (by simp) (TL.par_none1 h)
  unfold Txt.partition at e
  cases k : occurrences (S l) (S [c]) 0 (S l).length 1 with
  | nil => rfl
  | cons i r =>
    rw [k] at e
    have e2 := congrArg (fun x : Str × Str × Str => x.2.1) e
    have e2 : S [c] = S [] := e2
    have := congrArg Str.length e2
    rw [S_len, S_len] at this
    cases this
section
variable {prog : Program} {w : World} {A : Around} {E : Value → Shared → Prop} {s : Shared} {t u v k : Tok} {Q : Value → Shared → Prop} {l z : List Nat} {c : Nat}
theorem replace_none (hp : c ∉ l) (fin : ∀ t' k', Q (.str (S l) t') { s with toks := k' }) : wpAny (model prog w) A (call (.builtin "str.replace") [.str (S l) t, .str (S [c]) u, .str (S z) v, .int 1 k]) Q E s := by
  have ho := cut_none hp
  have g : Gives («str.replace» ⟨[.str (S l) t, .str (S [c]) u, .str (S z) v, .int 1 k], []⟩) (.val (.str (S l) t)) := by
    have hk := countLimit_int "str.replace" 1 k ((S l).length + 1) (by decide)
    show Gives (do
      let limit ← countLimit "str.replace" (some (.int 1 k)) ((S l).length + 1)
      if ((occurrences (S l) (S [c]) 0 (S l).length limit).isEmpty || ((S [c]).length == 0 && (S z).length == 0)) = true then (do rule "str.replace.nothing"; ret (.str (S l) t)) else
          (do let same ← isSame (.str (S [c]) u) (.str (S z) v)
              if same = true then (do rule "str.replace.old-is-new"; ret (.str (S l) t)) else
              if tooLong ((S l).length + (occurrences (S l) (S [c]) 0 (S l).length limit).length * (S z).length) = true then unsupported "str.replace:memory" else
              retStr (glued (S z) (partsBetween (S l) (occurrences (S l) (S [c]) 0 (S l).length limit) (S [c]).length)))) _
    rw [hk]
    have e1 : (if (1 : Int) < 0 then (S l).length + 1 else (1 : Int).toNat) = 1 := rfl
    rw [e1]
    show Gives (if ((occurrences (S l) (S [c]) 0 (S l).length 1).isEmpty || ((S [c]).length == 0 && (S z).length == 0)) = true then (do rule "str.replace.nothing"; ret (.str (S l) t)) else _) _
    rw [ho]
    exact Gives.rule (.of_eq rfl)
  refine call_gives PySem.F.slot_str_replace (typeIs_str _ _ _) PySem.F.entry_str_replace (PySem.F.args_str_replace_4 _ _ _ _) g ?_
  exact fin _ _
end
section
variable {X : Cx} {o e a b : Expr} {es : List Expr} {to ta tb : TE} {t : TA} {j0 j1 j2 j : Nat} {c0 c1 c2 apos pos p1 p2 : Pos} {c : Nat} {z : List Nat}
def tReplC (to : TE) (c : Nat) (z : List Nat) : TE := fun σ H Q => to σ H fun v H1 => ∃ l : List Nat, v = .str (S l) ∧ l.length + z.length ≤ 1000000 ∧ Q (.str (S (repC c z l))) H1
theorem pet_replC {y0 z0 : Str} (ho : PE X o to) (ey : y0 = S [c]) (ez : z0 = S z) (hz : z ≠ [c])
    (hst : starEach [.Constant (.str y0) j0 c0, .Constant (.str z0) j1 c1, .Constant (.int 1) j2 c2] X.env = [(false, eval (.Constant (.str y0) j0 c0) X.env), (false, eval (.Constant (.str z0) j1 c1) X.env), (false, eval (.Constant (.int 1) j2 c2) X.env)] := by rfl)
    (hbase : attributeBase o "replace" X.env (eval o X.env) = eval o X.env := by rfl) (hline : (apos.endLine == pos.line) = true := by rfl) :
    PET X (.Call (.Attribute o "replace" apos) [.Constant (.str y0) j0 c0, .Constant (.str z0) j1 c1, .Constant (.int 1) j2 c2] [] pos) (tReplC to c z) := by
  intro pins s σ H Q h0 I h
  subst ey ez
  refine call_meth3 hbase hst hline (wpAny_mono (PySem.wpAny_toks (ho.run pins s σ H _ I h)) (fun v s1 q => ?_) fun _ _ z => z.2)
  obtain ⟨hk, v', H1, I1, r1, l, e1, hb, qq⟩ := q
  subst e1
  obtain ⟨tx, e2⟩ := r1
  subst e2
  refine ⟨"str", _, PySem.F.plainAttrs_str, PySem.F.slot_str_replace, PySem.F.type_str_replace, typeIs_str _ _ _, (fun _ e => nomatch e), Calls.callWith_builtin rfl (Calls.evalArgs_plain (Calls.spliced_cons ?_))⟩
  refine Calls.Constant_str (Calls.spliced_cons (Calls.Constant_str (Calls.spliced_cons (wpAny_Constant_int (Calls.spliced_nil ?_)))))
  by_cases hc : c ∈ l
  · obtain ⟨p, q2, rfl, hp⟩ := repC_split hc
    rw [repC_some hp] at qq
    exact replace_first (by show s1.toks ≠ 0; omega) (by show s1.toks + 1 ≠ 0; omega) (by show s1.toks ≠ s1.toks + 1; omega) hp hz hb fun t' k => ⟨.str (S (p ++ z ++ q2)), H1, I1.tok k, ⟨t', rfl⟩, qq⟩
  · rw [repC_none hc] at qq
    exact replace_none hc fun t' k => ⟨.str (S l), H1, I1.tok k, ⟨t', rfl⟩, qq⟩
/-- a sum, its left side so -/
theorem pet_op {op : Operator} {r : R2} (ho : OpR X (binaryOp op) r) (ha : PET X a ta) (hb : PE X b tb) : PET X (.BinOp a op b pos) (tOp r ta tb) := fun pins s σ H Q h0 I h => by
  refine wpAny_BinOp (thn (ha pins s σ H _ h0 I h) fun v s1 q1 => ?_)
  obtain ⟨x, H1, I1, r1, q1⟩ := q1
  refine thn (hb.run pins s1 σ H1 _ I1 q1) fun u s2 q2 => ?_
  obtain ⟨y, H2, I2, r2, q2⟩ := q2
  exact ho pins s2 σ H2 x y v u Q I2 r1 r2 q2
/-- a written list whose first item ends in a written text -/
theorem pe_lstC {op : Operator} {r : R2} {y0 : Str} (ho : OpR X (binaryOp op) r) (ha : PE X a ta) (h : PAT X es t) (hs : starEach (.BinOp a op (.Constant (.str y0) j0 c0) p1 :: es) X.env = (false, eval (.BinOp a op (.Constant (.str y0) j0 c0) p1) X.env) :: starEach es X.env := by rfl) :
    PE X (.List (.BinOp a op (.Constant (.str y0) j0 c0) p1 :: es) pos) (tLst (tCons (tOp r ta (tC (.str y0))) t)) := by
  refine ⟨fun pins s σ H Q I hq => ?_⟩
  refine wpAny_List_spliced ?_
  rw [hs]
  show wpAny _ _ (spliced ((false, eval (.BinOp a op (.Constant (.str y0) j0 c0) p1) X.env) :: backTo pos (starEach es X.env))) _ _ s
  refine Calls.spliced_cons (wpAny_BinOp (thn (ha.run pins s σ H _ I hq) fun v s1 q1 => ?_))
  obtain ⟨x, H1, I1, r1, q1⟩ := q1
  refine Calls.Constant_str ?_
  have I2 : Inv X pins σ H1 { s1 with toks := s1.toks + 1 } := I1.tok _
  refine wpAny_mono (PySem.wpAny_toks_of (n := 1) (by show 1 ≤ s1.toks + 1; omega) (ho pins { s1 with toks := s1.toks + 1 } σ H1 x (.str y0) v (.str y0 s1.toks) _ I2 r1 ⟨_, rfl⟩ q1)) (fun u s2 q2 => ?_) fun _ _ y => y.2
  obtain ⟨hk, y, H2, I3, r2, q2⟩ := q2
  refine thn (h pos pins s2 σ H2 _ hk I3 q2) fun us s3 got => ?_
  obtain ⟨xs, H3, I4, r3, zz, q3⟩ := got
  have r4 : Vals (y :: xs) (u :: us) := .cons r2 r3
  refine ⟨by rw [← r4.length]; exact zz, ?_⟩
  have hf : H3 s3.heap.objs.size = none := I4.hok.fresh (Nat.le_refl _)
  refine ⟨.ref s3.heap.objs.size, upd H3 s3.heap.objs.size (.lst (y :: xs)), I4.laid (t' := s3.toks) (fun b u e => Heap.get?_push_of_some _ e) (Nat.le_refl _) ?_, rfl, q3 _ hf⟩
  exact ⟨zz, _, 0, r4, Heap.get?_push_size _ rfl⟩
end
end Pk
namespace Pk
open PySem L2 PySem.Spec PyProof.Rows SX
theorem starts_S (a b : List Nat) : Txt.startswith (S a) (S b) = (a.take b.length == b) := by
  unfold Txt.startswith
  rw [StrLaws.subAt_eq, S_len, S_len, List.drop_zero, Nat.zero_add]
  show (decide (b.length ≤ a.length) && ((a.take (S b).length) == b)) = _
  rw [S_len]
  by_cases h : a.take b.length = b
  · rw [h, beq_self_eq_true, Bool.and_true]
    refine decide_eq_true ?_
    have e := congrArg List.length h
    rw [List.length_take] at e
    omega
  · rw [beq_false_of_ne h, Bool.and_false]
theorem digit_asc {c : Nat} (h : c < 128) : Unicode.isDigit c = (decide (48 ≤ c) && decide (c ≤ 57)) := by
  have k : ∀ n : Fin 128, Unicode.isDigit n.val = (decide (48 ≤ n.val) && decide (n.val ≤ 57)) := by decide +kernel
  exact k ⟨c, h⟩
/-- of signs below 128 -/
def asc (z : Str) : Prop := ∀ c ∈ TL.tl z, c < 128
theorem isdigit_S {a : List Nat} (h : ∀ c ∈ a, c < 128) : Txt.isdigit (S a) = (decide (a ≠ []) && a.all fun c => decide (48 ≤ c) && decide (c ≤ 57)) := by
  unfold Txt.isdigit
  rw [S_len]
  have e : (S a).cps.all Unicode.isDigit = a.all fun c => decide (48 ≤ c) && decide (c ≤ 57) := by
    show a.toArray.all Unicode.isDigit = _
    rw [List.all_toArray]
    induction a with
    | nil => rfl
    | cons x xs ih =>
      rw [List.all_cons, List.all_cons, digit_asc (h x List.mem_cons_self), ih fun c hc => h c (List.mem_cons_of_mem _ hc)]
  rw [e]
  cases a with
  | nil => rfl
  | cons x xs => rfl
/-- has the word the form of a number -/
def isNum (z : Str) : Bool := Txt.isdigit z && decide (z.length ≤ 4) && (decide (z = S [48]) || !Txt.startswith z (S [48]))
/-- the number that it writes -/
def numV (z : Str) : Int := ((NumText.digitsVal (TL.tl z) : Nat) : Int)
theorem isNum_int {z : Str} (ha : asc z) (h : isNum z = true) : intText? z = some (numV z) ∧ z.length ≤ 640 := by
  unfold isNum at h
  rw [Bool.and_eq_true, Bool.and_eq_true] at h
  obtain ⟨⟨h1, h2⟩, _⟩ := h
  have h2' := of_decide_eq_true h2
  rw [show z = S (TL.tl z) from (S_tl z).symm, isdigit_S ha, Bool.and_eq_true] at h1
  refine ⟨?_, by omega⟩
  have q := int_S h1.2 (of_decide_eq_true h1.1) (by rw [← TL.len_tl]; omega)
  rw [S_tl] at q
  exact q
/-- the codes of a number's text -/
def dg (n : Int) : List Nat := TL.numL n.toNat
theorem dg_str {n : Int} (h : 0 ≤ n) : (Str.ofString (toString n)) = S (dg n) := by
  obtain ⟨k, rfl⟩ := Int.eq_ofNat_of_zero_le h
  exact num_S k
theorem dg_digit {n : Int} : ∀ c ∈ dg n, 48 ≤ c ∧ c ≤ 57 := fun c h => TL.numL_digits _ c h
theorem dg_ne (n : Int) : dg n ≠ [] := TL.numL_ne _
theorem dg_len {n : Int} {k : Nat} (hk : 0 < k) (h1 : n < 10 ^ k) : (dg n).length ≤ k := by
  refine TL.numL_len hk ?_
  have : (n.toNat : Int) < 10 ^ k ∨ n < 0 := by omega
  rcases this with h | h
  · exact_mod_cast h
  · rw [Int.toNat_of_nonpos (by omega)]
    exact Nat.pow_pos (by decide)
theorem numL_head : ∀ n : Nat, 0 < n → ∃ c r, TL.numL n = c :: r ∧ 49 ≤ c := by
  intro n
  induction n using Nat.strongRecOn with
  | _ n ih =>
    intro h
    by_cases h10 : n < 10
    · exact ⟨48 + n, [], TL.numL_lt h10, by omega⟩
    · obtain ⟨c, r, e, hc⟩ := ih (n / 10) (by omega) (by omega)
      exact ⟨c, r ++ [48 + n % 10], by rw [TL.numL_step (by omega), e]; rfl, hc⟩
theorem asc_S {a : List Nat} (h : ∀ c ∈ a, c < 128) : asc (S a) := h
theorem asc_dg (n : Int) : asc (S (dg n)) := fun c h => by
  have := dg_digit c h
  omega
theorem isNum_dg {n : Int} (h0 : 0 ≤ n) (h1 : n < 10000) : isNum (S (dg n)) = true ∧ numV (S (dg n)) = n := by
  constructor
  · unfold isNum
    have a1 : Txt.isdigit (S (dg n)) = true := by
      rw [isdigit_S (asc_dg n), decide_eq_true (dg_ne n), Bool.true_and, List.all_eq_true]
      intro c hc
      obtain ⟨x, y⟩ := dg_digit c hc
      rw [decide_eq_true x, decide_eq_true y]
      rfl
    have a2 : (dg n).length ≤ 4 := dg_len (by decide) (by simpa using h1)
    rw [a1, S_len, decide_eq_true a2, Bool.and_self, Bool.true_and]
    by_cases hz : n = 0
    · subst hz
      have : dg 0 = [48] := by
        unfold dg
        exact TL.numL_lt (by decide)
      rw [this, decide_eq_true rfl]
      rfl
    · obtain ⟨c, r, e, hc⟩ := numL_head n.toNat (by omega)
      have : dg n = c :: r := e
      rw [starts_S, this]
      have : (([c] : List Nat) == [48]) = false := by
        refine beq_false_of_ne fun z => ?_
        injection z with z
        omega
      show (_ || !(([c] : List Nat) == [48])) = true
      rw [this]
      exact Bool.or_true _
  · unfold numV dg
    show ((NumText.digitsVal (TL.numL n.toNat) : Nat) : Int) = n
    rw [TL.numL_val]
    omega
theorem mem_joinL {c : Nat} {sep : List Nat} : ∀ {ps : List (List Nat)}, c ∈ TL.joinL sep ps → c ∈ sep ∨ ∃ p ∈ ps, c ∈ p
  | [], h => by cases h
  | [p], h => .inr ⟨p, List.mem_singleton.mpr rfl, h⟩
  | p :: q :: r, h => by
    have h' : c ∈ p ++ (sep ++ TL.joinL sep (q :: r)) := h
    rcases List.mem_append.mp h' with z | z
    · exact .inr ⟨p, List.mem_cons_self, z⟩
    · rcases List.mem_append.mp z with z | z
      · exact .inl z
      · rcases mem_joinL z with z | ⟨x, hx, z⟩
        · exact .inl z
        · exact .inr ⟨x, List.mem_cons_of_mem _ hx, z⟩
theorem joinL_len {sep : List Nat} {m : Nat} (hs : sep.length ≤ m) : ∀ {ps : List (List Nat)}, (∀ p ∈ ps, p.length ≤ m) → (TL.joinL sep ps).length ≤ 2 * m * ps.length
  | [], _ => Nat.le_refl _
  | [p], h => by
    have := h p (List.mem_singleton.mpr rfl)
    show p.length ≤ 2 * m * 1
    omega
  | p :: q :: r, h => by
    have h1 := h p List.mem_cons_self
    have h2 := joinL_len hs (ps := q :: r) fun x hx => h x (List.mem_cons_of_mem _ hx)
    show (p ++ (sep ++ TL.joinL sep (q :: r))).length ≤ 2 * m * ((q :: r).length + 1)
    rw [List.length_append, List.length_append, Nat.mul_add]
    omega
theorem sum_len {m : Nat} : ∀ {ps : List (List Nat)}, (∀ p ∈ ps, p.length ≤ m) → ((ps.map S).map (·.length)).sum ≤ m * ps.length
  | [], _ => Nat.le_refl _
  | p :: ps, h => by
    have h1 := h p List.mem_cons_self
    have h2 := sum_len (ps := ps) fun x hx => h x (List.mem_cons_of_mem _ hx)
    rw [List.map_cons, List.map_cons, List.sum_cons, S_len, List.length_cons, Nat.mul_add]
    omega
theorem split_joinL {c : Nat} (hc : c < 256) {ps : List (List Nat)} (hne : ps ≠ []) (h : ∀ p ∈ ps, c ∉ p) : Txt.split (S (TL.joinL [c] ps)) (S [c]) = ps.map S := by
  rw [split_S (by simp) (by simpa using hc), spl_join hne h]
theorem spl_mem {sep : List Nat} : ∀ (l : List Nat) (k : Nat) (acc p : List Nat), p ∈ TL.spl sep k acc l → ∀ c ∈ p, c ∈ acc ∨ c ∈ l := by
  intro l
  induction l with
  | nil =>
    intro k acc p h c hc
    rw [TL.spl_nil, List.mem_singleton] at h
    rw [h] at hc
    exact .inl hc
  | cons x r ih =>
    intro k acc p h c hc
    cases k with
    | succ k =>
      have h' : p ∈ TL.spl sep k acc r := h
      rcases ih k acc p h' c hc with z | z
      · exact .inl z
      · exact .inr (List.mem_cons_of_mem _ z)
    | zero =>
      cases hp : TL.pre sep (x :: r) with
      | true =>
        rw [TL.spl_hit hp, List.mem_cons] at h
        rcases h with h | h
        · rw [h] at hc
          exact .inl hc
        · rcases ih _ _ p h c hc with z | z
          · cases z
          · exact .inr (List.mem_cons_of_mem _ z)
      | false =>
        rw [TL.spl_miss hp] at h
        rcases ih _ _ p h c hc with z | z
        · rcases List.mem_append.mp z with z | z
          · exact .inl z
          · rw [List.mem_singleton] at z
            rw [z]
            exact .inr List.mem_cons_self
        · exact .inr (List.mem_cons_of_mem _ z)
theorem asc_split {z p : Str} {c : Nat} (hc : c < 256) (ha : asc z) (h : p ∈ Txt.split z (S [c])) : asc p := by
  rw [show z = S (TL.tl z) from (S_tl z).symm, split_S (by simp) (by simpa using hc), List.mem_map] at h
  obtain ⟨q, hq, rfl⟩ := h
  exact fun x hx => (spl_mem _ _ _ _ hq x hx).elim (fun z => nomatch z) fun z => ha x z
def dS (xs : List Str) : PyData := .list (xs.map PyData.str)
theorem eqv_str (a b : Str) : PyData.eqv (.str a) (.str b) = decide (a = b) := by
  rw [PyData.eqv]
  by_cases h : a = b
  · subst h
    simp
  · simp [h]
theorem eqvAll_str : ∀ xs ys : List Str, PyData.eqvAll (xs.map PyData.str) (ys.map PyData.str) = decide (xs = ys)
  | [], [] => by simp [PyData.eqvAll]
  | [], _ :: _ => by simp [PyData.eqvAll]
  | _ :: _, [] => by simp [PyData.eqvAll]
  | x :: xs, y :: ys => by
    simp only [List.map_cons, PyData.eqvAll, eqv_str, eqvAll_str xs ys, List.cons.injEq]
    by_cases h1 : x = y <;> by_cases h2 : xs = ys <;> simp [h1, h2]
theorem eqv_dS (xs ys : List Str) : PyData.eqv (dS xs) (dS ys) = decide (xs = ys) := by
  unfold dS
  rw [PyData.eqv, eqvAll_str]
theorem dps_S {K : PySem.W.Frag} {H : Hp} : ∀ xs : List Str, DpAll K H (xs.map V.str) (xs.map PyData.str)
  | [] => .nil
  | x :: xs => .cons (.str x) (dps_S xs)
theorem dp_S {K : PySem.W.Frag} {H : Hp} {l : Addr} {xs : List Str} (h : SqL K H l (xs.map V.str)) : Dp K H (.ref l) (dS xs) := .lst h (dps_S xs)
theorem lay_asc {x : Str} (h : asc x) : PyData.canLay0 (.str x) = true := by
  show x.cps.all (fun c => decide (c < 0x110000)) = true
  rw [← Array.all_toList, List.all_eq_true]
  intro c hc
  have := h c hc
  exact decide_eq_true (by omega)
theorem lay_dS : ∀ xs : List Str, (∀ x ∈ xs, asc x) → PyData.canLayAll0 (xs.map PyData.str) = true
  | [], _ => rfl
  | x :: xs, h => by
    show (PyData.canLay0 (.str x) && PyData.canLayAll0 (xs.map PyData.str)) = true
    rw [lay_dS xs fun y hy => h y (List.mem_cons_of_mem _ hy), lay_asc (h x List.mem_cons_self)]
    rfl
theorem depth_dS : ∀ xs : List Str, PyData.depthAll (xs.map PyData.str) ≤ 1
  | [] => by show 0 ≤ 1; omega
  | _ :: xs => by
    have ih := depth_dS xs
    show max 0 (PyData.depthAll (xs.map PyData.str)) ≤ 1
    omega
theorem sh_dS {xs : List Str} (hk : ∀ x ∈ xs, asc x) : SeqAt.shaped (dS xs) = true := by
  have h := depth_dS xs
  unfold SeqAt.shaped dS
  rw [show PyData.canLay0 (.list (xs.map PyData.str)) = PyData.canLayAll0 (xs.map PyData.str) from rfl, lay_dS xs hk]
  refine decide_eq_true ?_
  show PyData.depthAll (xs.map PyData.str) + 1 ≤ 64
  omega
theorem cut_from (xs : List V) (m : Nat) : cutV xs (some (m : Int)) none = xs.drop m := by
  unfold cutV
  rw [HT.sIx_none, HT.sIx_nat]
  rcases Nat.le_total m xs.length with h | h
  · rw [Nat.min_eq_left h, List.take_of_length_le (by rw [List.length_drop]; omega)]
  · rw [Nat.min_eq_right h, Nat.sub_self, List.take_zero, List.drop_eq_nil_of_le h]
end Pk
namespace Pk
open PySem L2 PySem.Spec PyProof.Rows GxR NdefX
section
variable {α : Type} (lt : α → α → Bool)
/-- the item at i is not less than that above it -/
def OkH (ts : Array α) (i : Nat) : Prop := ∀ (h : i < ts.size) (_ : 0 < i), lt ts[i] (ts[(i - 1) / 2]'(by omega)) = false
variable {lt}
end
section
variable {prog : Program} {w : World} {A : Around} {s0 : Shared} {l : Addr} {α : Type} {val : α → Value} {lt : α → α → Bool} {R : Result → Shared → Prop} {res : Value}
/-- the list at l holds these; all else stands as it did -/
structure Hl (h0 : Heap) (l : Addr) (val : α → Value) (ts : Array α) (h : Heap) : Prop where
  at_ : ∃ n : Nat, h.get? l = some { cls := .type "list", data := .seq (ts.map val) n }
  keep : ∀ b o, b ≠ l → h0.get? b = some o → h.get? b = some o
theorem Hl.push {h0 h : Heap} {l : Addr} {val : α → Value} {ts : Array α} (H : Hl h0 l val ts h) (a : α) : Hl h0 l val (ts.push a) (h.update l (Obj.mapSeq (·.push (val a)))) := by
  obtain ⟨n, e⟩ := H.at_
  have q := PySem.IsL.update e (·.push (val a))
  rw [← Array.map_push] at q
  exact ⟨⟨_, q⟩, fun b o hb eo => (Heap.get?_update_other h _ (Ne.symm hb)).trans (H.keep b o hb eo)⟩
end
abbrev QI : Type := Int × Pl
def ltQ (p q : QI) : Bool := decide (p.1 < q.1 ∨ (p.1 = q.1 ∧ (p.2.1 < q.2.1 ∨ (p.2.1 = q.2.1 ∧ p.2.2 < q.2.2))))
def HeapQ (qs : List QI) : Prop := ∀ i, OkH ltQ qs.toArray i
theorem HeapQ.nil : HeapQ [] := fun i h => absurd h (Nat.not_lt_zero _)
end Pk
namespace Pk
section
variable {α : Type} [DecidableEq α] {e : α → List (α × Int)} {s : α}
/-- a walk of this length leads from s to p -/
inductive Wk (e : α → List (α × Int)) (s : α) : α → Int → Prop
  | nil : Wk e s s 0
  | snoc {q p : α} {d l : Int} : Wk e s q d → (p, l) ∈ e q → Wk e s p (d + l)
/-- the distance -/
def Dst (e : α → List (α × Int)) (s p : α) (d : Int) : Prop := Wk e s p d ∧ ∀ d', Wk e s p d' → d ≤ d'
def PosE (e : α → List (α × Int)) : Prop := ∀ q p l, (p, l) ∈ e q → 1 ≤ l
theorem Wk.nn (hp : PosE e) {p : α} {d : Int} (h : Wk e s p d) : 0 ≤ d := by
  induction h with
  | nil => exact Int.le_refl 0
  | snoc _ m ih =>
    have := hp _ _ _ m
    omega
theorem Dst.uniq {p : α} {d d' : Int} (h : Dst e s p d) (h' : Dst e s p d') : d = d' := Int.le_antisymm (h.2 _ h'.1) (h'.2 _ h.1)
theorem Dst.self (hp : PosE e) : Dst e s s 0 := ⟨.nil, fun _ h => h.nn hp⟩
theorem Dst.pred (hp : PosE e) {p : α} {d : Int} (h : Dst e s p d) : (p = s ∧ d = 0) ∨ ∃ q dq l, Dst e s q dq ∧ (p, l) ∈ e q ∧ d = dq + l := by
  obtain ⟨w, m⟩ := h
  cases w with
  | nil => exact .inl ⟨rfl, rfl⟩
  | @snoc q _ d l w k => exact .inr ⟨q, d, l, ⟨w, fun d1 w1 => by have := m _ (.snoc w1 k); omega⟩, k, rfl⟩
theorem Dst.zero (hp : PosE e) {p : α} (h : Dst e s p 0) : p = s := by
  rcases h.pred hp with ⟨h1, _⟩ | ⟨q, dq, l, h1, h2, h3⟩
  · exact h1
  · have := h1.1.nn hp
    have := hp _ _ _ h2
    omega
/-- a table that leaves nothing to do tells the distances -/
theorem closed_dst (hp : PosE e) {f : α → Option Int} (h0 : f s = some 0) (hw : ∀ p d, f p = some d → Wk e s p d) (hc : ∀ q d p l, f q = some d → (p, l) ∈ e q → ∃ d', f p = some d' ∧ d' ≤ d + l) (p : α) (d : Int) : f p = some d ↔ Dst e s p d := by
  have key : ∀ {p : α} {d' : Int}, Wk e s p d' → ∃ d'', f p = some d'' ∧ d'' ≤ d' := fun {p d'} w => by
    induction w with
    | nil => exact ⟨0, h0, Int.le_refl _⟩
    | snoc _ m ih =>
      obtain ⟨d2, h2, l2⟩ := ih
      obtain ⟨d3, h3, l3⟩ := hc _ _ _ _ h2 m
      exact ⟨d3, h3, by omega⟩
  constructor
  · intro h
    refine ⟨hw _ _ h, fun d' w => ?_⟩
    obtain ⟨d2, h2, l2⟩ := key w
    rw [h] at h2
    cases h2
    exact l2
  · intro h
    obtain ⟨d2, h2, l2⟩ := key h.1
    have := h.2 _ (hw _ _ h2)
    rw [h2, show d2 = d by omega]
/-- how many places are nearer -/
noncomputable def cnt (e : α → List (α × Int)) (s : α) (V : List α) (d : Int) : Nat := by
  classical exact (V.filter fun q => decide (∃ dq, Dst e s q dq ∧ dq < d)).length
/-- a turn over the places hs of a table f0 has come to f; ch: something has changed -/
structure Turn (e : α → List (α × Int)) (s : α) (f0 : α → Option Int) (hs : List α) (f : α → Option Int) (ch : Bool) : Prop where
  zero : f s = some 0
  walk : ∀ p d, f p = some d → Wk e s p d
  mono : ∀ p d, f0 p = some d → ∃ d', f p = some d' ∧ d' ≤ d
  done : ∀ q ∈ hs, ∀ dq, Dst e s q dq → f0 q = some dq → ∀ p l, (p, l) ∈ e q → ∃ d', f p = some d' ∧ d' ≤ dq + l
  same : ch = false → (∀ p, f p = f0 p) ∧ ∀ q ∈ hs, ∀ dq, f0 q = some dq → ∀ p l, (p, l) ∈ e q → ∃ d', f p = some d' ∧ d' ≤ dq + l
/-- inside: at the place q with the number dq, the first links es of it -/
structure Step (e : α → List (α × Int)) (s : α) (f0 : α → Option Int) (hs : List α) (q : α) (es : List (α × Int)) (f : α → Option Int) (ch : Bool) : Prop extends Turn e s f0 hs f ch where
  part : ∀ dq, Dst e s q dq → f0 q = some dq → ∀ p l, (p, l) ∈ es → ∃ d', f p = some d' ∧ d' ≤ dq + l
  samp : ch = false → ∀ dq, f0 q = some dq → ∀ p l, (p, l) ∈ es → ∃ d', f p = some d' ∧ d' ≤ dq + l
theorem Turn.start {f0 : α → Option Int} (h0 : f0 s = some 0) (hw : ∀ p d, f0 p = some d → Wk e s p d) : Turn e s f0 [] f0 false :=
  ⟨h0, hw, fun _ d h => ⟨d, h, Int.le_refl _⟩, (fun _ z => nomatch z), fun _ => ⟨fun _ => rfl, fun _ z => nomatch z⟩⟩
theorem Turn.step {f0 f : α → Option Int} {hs : List α} {ch : Bool} (t : Turn e s f0 hs f ch) (q : α) : Step e s f0 hs q [] f ch :=
  { t with part := (fun _ _ _ _ _ z => nomatch z), samp := fun _ _ _ _ _ z => nomatch z }
/-- the value at an exact place stays -/
theorem Turn.exact {f0 f : α → Option Int} {hs : List α} {ch : Bool} (t : Turn e s f0 hs f ch) {q : α} {dq : Int} (h : Dst e s q dq) (h0 : f0 q = some dq) : f q = some dq := by
  obtain ⟨d', h1, h2⟩ := t.mono q dq h0
  have := h.2 _ (t.walk _ _ h1)
  rw [h1, show d' = dq by omega]
/-- a link that changes nothing -/
theorem Step.keep {f0 f : α → Option Int} {hs : List α} {q p : α} {es : List (α × Int)} {ch : Bool} {d l d' : Int} (t : Step e s f0 hs q es f ch) (hq : f q = some d) (hp : f p = some d') (le : d' ≤ d + l) : Step e s f0 hs q (es ++ [(p, l)]) f ch := by
  refine { t with part := fun dq h1 h2 p' l' m => ?_, samp := fun c dq h2 p' l' m => ?_ }
  · rcases List.mem_append.mp m with z | z
    · exact t.part dq h1 h2 p' l' z
    · have e1 := List.mem_singleton.mp z
      cases e1
      have := t.exact h1 h2
      rw [hq] at this
      cases this
      exact ⟨d', hp, le⟩
  · rcases List.mem_append.mp m with z | z
    · exact t.samp c dq h2 p' l' z
    · have e1 := List.mem_singleton.mp z
      cases e1
      have := (t.same c).1 q
      rw [hq, h2] at this
      cases this
      exact ⟨d', hp, le⟩
/-- a turn without a change -/
theorem Turn.stop {f0 f : α → Option Int} {hs : List α} (hpos : PosE e) (hk : ∀ q, f0 q ≠ none → q ∈ hs) (t : Turn e s f0 hs f false) (p : α) (d : Int) : f p = some d ↔ Dst e s p d := by
  obtain ⟨h1, h2⟩ := t.same rfl
  refine closed_dst hpos t.zero t.walk (fun q dq p l hq m => ?_) p d
  rw [h1] at hq
  exact h2 q (hk q (by rw [hq]; exact fun z => nomatch z)) dq hq p l m
end
end Pk
namespace Pk
section
variable {α : Type} [DecidableEq α] {e : α → List (α × Int)} {s : α}
/-- what is known when the nearest is taken out again and again: q the queue -/
structure Near1 (e : α → List (α × Int)) (s : α) (f : α → Option Int) (qs : List (Int × α)) : Prop where
  ok : ∀ p d, f p = some d → Dst e s p d
  walk : ∀ x ∈ qs, Wk e s x.2 x.1
  edge : ∀ q d p l, f q = some d → (p, l) ∈ e q → f p ≠ none ∨ (d + l, p) ∈ qs
  root : f s ≠ none ∨ (0, s) ∈ qs
/-- .. while what lies beside h is looked at -/
structure Near2 (e : α → List (α × Int)) (s h : α) (n : Int) (es : List (α × Int)) (f : α → Option Int) (qs : List (Int × α)) : Prop where
  ok : ∀ p d, f p = some d → Dst e s p d
  at_ : f h = some n
  walk : ∀ x ∈ qs, Wk e s x.2 x.1
  edge : ∀ q d p l, f q = some d → (p, l) ∈ e q → (q = h → (p, l) ∈ es) → f p ≠ none ∨ (d + l, p) ∈ qs
  root : f s ≠ none
theorem Near1.start : Near1 e s (fun _ => none) [(0, s)] := by
  refine ⟨fun _ _ h => (nomatch h), fun x hx => ?_, fun _ _ _ _ h => (nomatch h), .inr (.head _)⟩
  rw [List.mem_singleton.mp hx]
  exact .nil
theorem Near2.push {f : α → Option Int} {qs qs' : List (Int × α)} {n : Int} {h : α} {es : List (α × Int)} {p : α} {l : Int} (N : Near2 e s h n es f qs) (m0 : (p, l) ∈ e h) (pm : qs'.Perm (qs ++ [(n + l, p)])) : Near2 e s h n (es ++ [(p, l)]) f qs' := by
  refine ⟨N.ok, N.at_, fun x hx => ?_, fun q d p' l' fq m c => ?_, N.root⟩
  · rcases List.mem_append.mp (pm.mem_iff.mp hx) with z | z
    · exact N.walk x z
    · rw [List.mem_singleton.mp z]
      exact .snoc (N.ok _ _ N.at_).1 m0
  · by_cases ch : q = h
    · rcases List.mem_append.mp (c ch) with w | w
      · rcases N.edge q d p' l' fq m fun _ => w with z | z
        · exact .inl z
        · exact .inr (pm.mem_iff.mpr (List.mem_append_left _ z))
      · have z := List.mem_singleton.mp w
        injection z with z1 z2
        rw [ch, N.at_] at fq
        cases fq
        rw [z1, z2]
        exact .inr (pm.mem_iff.mpr (by simp))
    · rcases N.edge q d p' l' fq m fun y => absurd y ch with z | z
      · exact .inl z
      · exact .inr (pm.mem_iff.mpr (List.mem_append_left _ z))
theorem Near2.done {f : α → Option Int} {qs : List (Int × α)} {n : Int} {h : α} (N : Near2 e s h n (e h) f qs) : Near1 e s f qs := ⟨N.ok, N.walk, fun q d p l fq m => N.edge q d p l fq m fun c => by rw [← c]; exact m, .inl N.root⟩
structure Way (e : α → List (α × Int)) (s : α) (D : α → Int) (ws : List α) : Prop where
  ne : ws ≠ []
  on : ∀ p ∈ ws, ∃ d, Dst e s p d
  step : ∀ (j : Nat) (h : j + 1 < ws.length), ∃ l, (ws[j + 1], l) ∈ e (ws[j]'(by omega)) ∧ D ws[j + 1] + l = D (ws[j]'(by omega))
theorem Way.snoc {D : α → Int} {ws : List α} {p q : α} {l d : Int} (W : Way e s D (ws ++ [p])) (m : (q, l) ∈ e p) (hq : D q + l = D p) (hd : Dst e s q d) : Way e s D ((ws ++ [p]) ++ [q]) := by
  refine ⟨by simp, fun x hx => ?_, fun j hj => ?_⟩
  · rcases List.mem_append.mp hx with z | z
    · exact W.on x z
    · rw [List.mem_singleton.mp z]
      exact ⟨d, hd⟩
  · rw [List.length_append, List.length_singleton] at hj
    by_cases c : j + 1 < (ws ++ [p]).length
    · obtain ⟨l', h1, h2⟩ := W.step j c
      refine ⟨l', ?_⟩
      rw [List.getElem_append_left c, List.getElem_append_left (show j < (ws ++ [p]).length by omega)]
      exact ⟨h1, h2⟩
    · have ej : j = ws.length := by
        rw [List.length_append, List.length_singleton] at c hj
        omega
      subst ej
      refine ⟨l, ?_⟩
      have e1 : ((ws ++ [p]) ++ [q])[ws.length + 1]'(by simp) = q := by simp
      have e2 : ((ws ++ [p]) ++ [q])[ws.length]'(by simp) = p := by simp
      rw [e1, e2]
      exact ⟨m, hq⟩
theorem Way.fall (hp : PosE e) {D : α → Int} {ws : List α} (W : Way e s D ws) : ∀ (n j : Nat) (h : j + n < ws.length), D ws[j + n] + n ≤ D (ws[j]'(by omega))
  | 0, j, h => by simp
  | n + 1, j, h => by
    have a := W.fall hp n j (by omega)
    obtain ⟨l, m, q⟩ := W.step (j + n) h
    have := hp _ _ _ m
    have e1 : D ws[j + (n + 1)] = D ws[j + n + 1] := rfl
    omega
theorem Way.nodup (hp : PosE e) {D : α → Int} {ws : List α} (W : Way e s D ws) : ws.Nodup := by
  rw [List.nodup_iff_pairwise_ne, List.pairwise_iff_getElem]
  intro i j hi hj lt z
  have := W.fall hp (j - i) i (by omega)
  have e1 : ws[i + (j - i)]'(by omega) = ws[j] := by congr 1; omega
  rw [e1, ← z] at this
  omega
theorem Way.most (hp : PosE e) {D : α → Int} {ws U : List α} (W : Way e s D ws) (hU : ∀ p d, Wk e s p d → p ∈ U) : ws.length ≤ U.length := by
  have : ∀ {a b : List α}, a.Nodup → (∀ x ∈ a, x ∈ b) → a.length ≤ b.length := fun {a} => by
    induction a with
    | nil => intro b _ _; exact Nat.zero_le _
    | cons x a ih =>
      intro b nd h
      have hx := h x List.mem_cons_self
      have ih := ih (b := b.erase x) (List.nodup_cons.mp nd).2 fun y hy => by
        have ne : y ≠ x := fun z => (List.nodup_cons.mp nd).1 (by rw [← z]; exact hy)
        exact (List.mem_erase_of_ne ne).mpr (h y (List.mem_cons_of_mem _ hy))
      rw [List.length_erase_of_mem hx] at ih
      have := List.length_pos_of_mem hx
      rw [List.length_cons]
      omega
  exact this (W.nodup hp) fun x hx => by
    obtain ⟨d, h⟩ := W.on x hx
    exact hU _ _ h.1
end
end Pk
namespace Pk
open PySem L2
def topS (i : Nat) : Stmt := PySem.Challenge.pw_pickaisle_k08_house_texts_refused.main.body.getD i (.Pass ⟨0, 0, 0, 0⟩)
abbrev s_InvalidNotation___init__ : Stmt := inClass (topS 6) 0
theorem sc_InvalidNotation___init__ : FnScope ["self", "line"] ["self", "line"] (defScope s_InvalidNotation___init__) := ⟨rfl, rfl, rfl, by decide +kernel, rfl, by decide +kernel, by decide +kernel⟩
abbrev s_House___init__ : Stmt := inClass (topS 12) 0
theorem sc_House___init__ : FnScope ["self", "lengths", "gaps", "closed", "link"] ["self", "lengths", "gaps", "closed"] (defScope s_House___init__) := ⟨rfl, rfl, rfl, by decide +kernel, rfl, by decide +kernel, by decide +kernel⟩
abbrev s_House_lengths : Stmt := inClass (topS 12) 1
theorem sc_House_lengths : FnScope ["self"] ["self"] (defScope s_House_lengths) := ⟨rfl, rfl, rfl, by decide +kernel, rfl, by decide +kernel, by decide +kernel⟩
abbrev s_House_gaps : Stmt := inClass (topS 12) 2
theorem sc_House_gaps : FnScope ["self"] ["self"] (defScope s_House_gaps) := ⟨rfl, rfl, rfl, by decide +kernel, rfl, by decide +kernel, by decide +kernel⟩
abbrev s_House_closed : Stmt := inClass (topS 12) 3
theorem sc_House_closed : FnScope ["self"] ["self"] (defScope s_House_closed) := ⟨rfl, rfl, rfl, by decide +kernel, rfl, by decide +kernel, by decide +kernel⟩
abbrev s_House_is_link : Stmt := inClass (topS 12) 9
theorem sc_House_is_link : FnScope ["self", "link", "word", "aisle", "height"] ["self", "link"] (defScope s_House_is_link) := ⟨rfl, rfl, rfl, by decide +kernel, rfl, by decide +kernel, by decide +kernel⟩
abbrev s_House_is_closed : Stmt := inClass (topS 12) 10
theorem sc_House_is_closed : FnScope ["self", "link"] ["self", "link"] (defScope s_House_is_closed) := ⟨rfl, rfl, rfl, by decide +kernel, rfl, by decide +kernel, by decide +kernel⟩
abbrev s_House_with_closed : Stmt := inClass (topS 12) 17
theorem sc_House_with_closed : FnScope ["self", "link"] ["self", "link"] (defScope s_House_with_closed) := ⟨rfl, rfl, rfl, by decide +kernel, rfl, by decide +kernel, by decide +kernel⟩
abbrev s_House_same_as : Stmt := inClass (topS 12) 19
theorem sc_House_same_as : FnScope ["self", "other"] ["self", "other"] (defScope s_House_same_as) := ⟨rfl, rfl, rfl, by decide +kernel, rfl, by decide +kernel, by decide +kernel⟩
abbrev s__are_long : Stmt := topS 13
theorem sc__are_long : FnScope ["numbers", "number"] ["numbers"] (defScope s__are_long) := ⟨rfl, rfl, rfl, by decide +kernel, rfl, by decide +kernel, by decide +kernel⟩
abbrev s__cross_heights : Stmt := topS 14
theorem sc__cross_heights : FnScope ["lengths", "heights", "length"] ["lengths"] (defScope s__cross_heights) := ⟨rfl, rfl, rfl, by decide +kernel, rfl, by decide +kernel, by decide +kernel⟩
abbrev s_format_house : Stmt := topS 17
theorem sc_format_house : FnScope ["house", "lines", "word", "aisle", "height"] ["house"] (defScope s_format_house) := ⟨rfl, rfl, rfl, by decide +kernel, rfl, by decide +kernel, by decide +kernel⟩
abbrev s_parse_house : Stmt := topS 18
theorem sc_parse_house : FnScope ["text", "lines", "lengths", "gaps", "house", "number"] ["text"] (defScope s_parse_house) := ⟨rfl, rfl, rfl, by decide +kernel, rfl, by decide +kernel, by decide +kernel⟩
abbrev s__row : Stmt := topS 19
theorem sc__row : FnScope ["head", "numbers", "number"] ["head", "numbers"] (defScope s__row) := ⟨rfl, rfl, rfl, by decide +kernel, rfl, by decide +kernel, by decide +kernel⟩
abbrev s_is_number : Stmt := topS 20
theorem sc_is_number : FnScope ["word"] ["word"] (defScope s_is_number) := ⟨rfl, rfl, rfl, by decide +kernel, rfl, by decide +kernel, by decide +kernel⟩
abbrev s__numbers_of : Stmt := topS 21
theorem sc__numbers_of : FnScope ["words", "number", "word"] ["words", "number"] (defScope s__numbers_of) := ⟨rfl, rfl, rfl, by decide +kernel, rfl, by decide +kernel, by decide +kernel⟩
abbrev s__numbers_in : Stmt := topS 22
theorem sc__numbers_in : FnScope ["lines", "number", "head", "words"] ["lines", "number", "head"] (defScope s__numbers_in) := ⟨rfl, rfl, rfl, by decide +kernel, rfl, by decide +kernel, by decide +kernel⟩
abbrev s__house_of : Stmt := topS 23
theorem sc__house_of : FnScope ["lengths", "gaps", "number"] ["lengths", "gaps", "number"] (defScope s__house_of) := ⟨rfl, rfl, rfl, by decide +kernel, rfl, by decide +kernel, by decide +kernel⟩
abbrev s__house_with_line : Stmt := topS 24
theorem sc__house_with_line : FnScope ["house", "lines", "number", "word", "numbers"] ["house", "lines", "number"] (defScope s__house_with_line) := ⟨rfl, rfl, rfl, by decide +kernel, rfl, by decide +kernel, by decide +kernel⟩
abbrev s__law_row : Stmt := topS 26
theorem sc__law_row : FnScope ["cell", "many", "row", "rest", "state", "k"] ["cell", "many"] (defScope s__law_row) := ⟨rfl, rfl, rfl, by decide +kernel, rfl, by decide +kernel, by decide +kernel⟩
abbrev s__law_numbers : Stmt := topS 27
theorem sc__law_numbers : FnScope ["script", "many", "cells", "each", "numbers", "cell", "number"] ["script", "many"] (defScope s__law_numbers) := ⟨rfl, rfl, rfl, by decide +kernel, rfl, by decide +kernel, by decide +kernel⟩
abbrev s__law_parts : Stmt := topS 28
theorem sc__law_parts : FnScope ["numbers", "at", "most", "lengths", "gaps", "closed", "k", "aisle", "spot", "link"] ["numbers", "at"] (defScope s__law_parts) := ⟨rfl, rfl, rfl, by decide +kernel, rfl, by decide +kernel, by decide +kernel⟩
abbrev s__law_told : Stmt := topS 31
theorem sc__law_told : FnScope ["text", "error"] ["text"] (defScope s__law_told) := ⟨rfl, rfl, rfl, by decide +kernel, rfl, by decide +kernel, by decide +kernel⟩
abbrev s__law_spoilt : Stmt := topS 32
theorem sc__law_spoilt : FnScope ["line", "at", "aisles", "top", "bad", "parts"] ["line", "at", "aisles", "top"] (defScope s__law_spoilt) := ⟨rfl, rfl, rfl, by decide +kernel, rfl, by decide +kernel, by decide +kernel⟩
abbrev s_law : Stmt := topS 33
theorem sc_law : FnScope ["script", "numbers", "lengths", "gaps", "closed", "house", "good", "lines", "at", "line"] ["script"] (defScope s_law) := ⟨rfl, rfl, rfl, by decide +kernel, rfl, by decide +kernel, by decide +kernel⟩
theorem same_upd {H : Hp} {p : Addr} {o : HO} (h : H p = none) : Same H (upd H p o) := fun b x e => by
  rw [upd_ne (ne_of_none e h)]
  exact e
/-- a list of numbers below 1009 -/
def Small (ns : List Int) : Prop := ∀ n ∈ ns, 0 ≤ n ∧ n < 1009
theorem Small.nil : Small [] := fun _ h => nomatch h
theorem Small.snoc {ns : List Int} (h : Small ns) {n : Int} (h0 : 0 ≤ n) (h1 : n < 1009) : Small (ns ++ [n]) := fun k hk => by
  rcases List.mem_append.mp hk with z | z
  · exact h k z
  · rw [List.mem_singleton] at z
    subst z
    exact ⟨h0, h1⟩
theorem small1e7 {n : Nat} (h : n ≤ 100000) : n < sizeLine := Nat.lt_of_le_of_lt h (by decide)
section
local macro_rules | `(tactic| walk_at "rd1") => `(tactic| first
  | (refine Exists.intro _ (And.intro rfl ?_))
  | (refine ⟨_, _, rfl, rfl, ?_⟩)
  | (refine Or.inl (Exists.intro _ (And.intro rfl ?_)))
  | (refine ⟨_, _, _, rfl, rfl, by assumption, by assumption, ?_⟩)
  | (refine And.intro (Or.inl ⟨rfl, _, SqL.of (by assumption)⟩) ?_)
  | (refine And.intro (by (first | omega | (dsimp only; omega) | (constructor <;> omega) | (refine Or.inl ?_; constructor <;> omega) | (refine Or.inr ?_; constructor <;> omega) | exact ⟨by decide, by decide, by decide⟩)) ?_))
local macro_rules | `(tactic| walk_at "rd") => `(tactic| repeat walk_at "rd1")
variable {P : Program} {w : World} {K : PySem.W.Frag} {mg : Str → Option Value} {base : Heap}
/-- the names of built-ins that no def of the text hides -/
structure DrawTxt (mg : Str → Option Value) (fR : Addr) : Prop where
  abs : mg "abs" = none
  int : mg "int" = none
  range : mg "range" = none
  len : mg "len" = none
  max : mg "max" = none
  row : mg "_law_row" = some (.ref fR)
/-- a row of numbers: a new list of as many numbers as asked, each from 0 to 1008 -/
def spRow : Sp := fun vs H Q _ => ∃ (c : Int) (m : Nat), vs = [.int c, .int m] ∧ m ≤ 1000 ∧
  ∀ (H' : Hp) (p : Addr) (ns : List Int), Same H H' → H p = none → H' p = some (.lst (ns.map V.int)) → ns.length = m → Small ns → Q (.ref p) H'
theorem ok_row {f fR : Addr} {fd : FuncData} {k : Nat} (F : Fun K "_law_row" "_law_row" s__law_row f fd) (T : DrawTxt mg fR) : FnOk P w K mg base CX0 (k + 1) f fd ["cell", "many"] spRow := by
  refine F.ok sc__law_row (fun vs H Q E h => ?_) (fun cdv A outer s H vs Q E hr h => ?_)
  · obtain ⟨c, m, rfl, _⟩ := h
    rfl
  · obtain ⟨c, m, rfl, hm, q⟩ := h
    have nd := sc__law_row.nd
    refine ⟨_, pss_cons (ps_set (i := 2) nd rfl (.inl rfl) (pe_lst pa_nil))
      (pss_cons (ps_set (i := 3) nd rfl (.inl rfl) pe_int)
      (pss_cons (ps_if (pt_cmpR op_ge (pe_callB call_abs (by rfl) T.abs (by decide +kernel) (pa_cons (pv 0) pa_nil)) (pe_op op_pow pe_int pe_int) (nomark _))
          (pss_one (ps_set (i := 3) nd rfl (.inl rfl) (pe_callB call_abs (by rfl) T.abs (by decide +kernel) (pa_cons (pv 0) pa_nil)))) pss_nil)
      (pss_cons (ps_set (i := 4) nd rfl (.inl rfl) (pe_op op_mod (pe_callTy call_int1 (by rfl) T.int (by decide +kernel) (pa_cons (pe_callB call_abs (by rfl) T.abs (by decide +kernel) (pa_cons (pv 0) pa_nil)) pa_nil)) pe_int))
      (pss_cons (ps_for PassesOwn.never rfl (pi_range1 rfl T.range (pa_cons (pv 1) pa_nil)) (pg_name (i := 5) nd rfl (.inl rfl))
        (pss_cons (ps_set (i := 4) nd rfl (.inl rfl) (pe_op op_mod (pe_callTy call_int1 (by rfl) T.int (by decide +kernel)
            (pa_cons (pe_op op_add (pe_op op_mul (pe_op op_add (pv 4) pe_int) pe_int) (pe_op op_mul pe_int (pv 5))) pa_nil)) pe_int))
        (pss_one (ps_if (pt_cmpR op_gt (pv 3) pe_int (nomark _))
          (pss_cons (ps_expr (pe_bm PySem.F.plainAttrs_list PySem.F.slot_list_append PySem.F.type_list_append mt_append (pv 2)
              (pa_cons (pe_op op_mod (pe_callTy call_int1 (by rfl) T.int (by decide +kernel) (pa_cons (pv 3) pa_nil)) pe_int) pa_nil)))
            (pss_one (ps_set (i := 3) nd rfl (.inl rfl) (pe_op op_fdiv (pv 3) pe_int))))
          (pss_one (ps_expr (pe_bm PySem.F.plainAttrs_list PySem.F.slot_list_append PySem.F.type_list_append mt_append (pv 2)
              (pa_cons (pe_op op_mod (pe_callTy call_int1 (by rfl) T.int (by decide +kernel) (pa_cons (pe_op op_fdiv (pv 4) pe_int) pa_nil)) pe_int) pa_nil))))))))
      (pss_one (ps_ret (pv 2))))))), ?_⟩
    refine ⟨Nat.zero_le _, fun r nr => ?_⟩
    have s1 : Same H (upd H r (.lst [])) := same_upd nr
    walk_at "rd"
    refine ite2 (fun hc => ?_) (fun hc => ?_)
    all_goals
      walk_at "rd"
      refine for_range (lo := 0) (n := m) (fun i σ H' => ∃ (ns : List Int) (rst st : Int) (vk : Option V), σ = [some (.int c), some (.int m), some (.ref r), some (.int rst), some (.int st), vk] ∧ Same H H' ∧ H' r = some (.lst (ns.map V.int)) ∧ ns.length = i ∧ Small ns ∧ 0 ≤ st ∧ st < 2147483647)
        ⟨[], _, _, none, rfl, s1, upd_same, rfl, Small.nil, Int.emod_nonneg _ (by decide), Int.emod_lt_of_pos _ (by decide)⟩ ?_ ?_
      · rintro i σ H' hi ⟨ns, rst, st, vk, rfl, sm, hrow, hl, hs, h0, h1⟩
        have hlen : (ns.map V.int).length < sizeLine := by
          rw [List.length_map]
          exact small1e7 (by omega)
        walk_at "rd"
        refine ite2 (fun hc2 => ?_) (fun hc2 => ?_)
        · walk_at "rd"
          refine ⟨ns ++ [rst % 1009], _, _, _, rfl, fun b o e => ?_, ?_, ?_, hs.snoc (Int.emod_nonneg _ (by decide)) (Int.emod_lt_of_pos _ (by decide)), Int.emod_nonneg _ (by decide), Int.emod_lt_of_pos _ (by decide)⟩
          · rw [upd_ne (ne_of_none e nr)]
            exact sm b o e
          · rw [upd_same, List.map_append]
            rfl
          · rw [List.length_append, hl]
            rfl
        · walk_at "rd"
          refine ⟨ns ++ [((st + 1) * 48271 + 69621 * (0 + (i : Int))) % 2147483647 / 2048 % 1009], _, _, _, rfl, fun b o e => ?_, ?_, ?_, hs.snoc (Int.emod_nonneg _ (by decide)) (Int.emod_lt_of_pos _ (by decide)), Int.emod_nonneg _ (by decide), Int.emod_lt_of_pos _ (by decide)⟩
          · rw [upd_ne (ne_of_none e nr)]
            exact sm b o e
          · rw [upd_same, List.map_append]
            rfl
          · rw [List.length_append, hl]
            rfl
      · rintro σ H' ⟨ns, rst, st, vk, rfl, sm, hrow, hl, hs, h0, h1⟩
        exact ⟨_, rfl, q H' r ns sm nr hrow hl hs⟩
/-- as many numbers as asked, drawn from the script: a new list, each from 0 to 1008 -/
def spNumbers (K : PySem.W.Frag) : Sp := fun vs H Q _ => ∃ (a : Addr) (xs : List Int) (m : Nat), vs = [.ref a, .int m] ∧ SqL K H a (xs.map V.int) ∧ xs.length ≤ 63 ∧ m ≤ 200 ∧
  ∀ (H' : Hp) (p : Addr) (ns : List Int), Same H H' → H p = none → H' p = some (.lst (ns.map V.int)) → ns.length = m → Small ns → Q (.ref p) H'
theorem cut_all (xs : List V) (h : xs.length ≤ 63) : cutV xs none (some 63) = xs := by
  unfold cutV
  rw [show HT.sIx xs.length xs.length (some 63) = min 63 xs.length from HT.sIx_nat xs.length xs.length 63, HT.sIx_none, List.drop_zero, Nat.sub_zero, Nat.min_eq_right h, List.take_length]
theorem cut_to (xs : List V) (m : Nat) : cutV xs none (some (m : Int)) = xs.take m := by
  unfold cutV
  rw [HT.sIx_nat, HT.sIx_none, List.drop_zero, Nat.sub_zero]
  rcases Nat.le_total m xs.length with h | h
  · rw [Nat.min_eq_left h]
  · rw [Nat.min_eq_right h, List.take_length, List.take_of_length_le h]
def lenAt (H : Hp) (p : Addr) : Nat := match H p with
  | some (.lst xs) => xs.length
  | _ => 0
theorem lenAt_of {H : Hp} {p : Addr} {xs : List V} (h : H p = some (.lst xs)) : lenAt H p = xs.length := by
  unfold lenAt
  rw [h]
theorem each_nat (m n : Nat) (hm : m ≤ 200) : ∃ e : Nat, 1 + (m : Int).fdiv (if (n : Int) > 1 then (n : Int) else 1) = (e : Int) ∧ e ≤ 201 := by
  have hp : 0 < (if (n : Int) > 1 then (n : Int) else 1) := by split <;> omega
  have e1 : (m : Int).fdiv (if (n : Int) > 1 then (n : Int) else 1) = (m : Int) / (if (n : Int) > 1 then (n : Int) else 1) := Int.fdiv_eq_ediv_of_nonneg _ (Int.le_of_lt hp)
  have h0 : 0 ≤ (m : Int) / (if (n : Int) > 1 then (n : Int) else 1) := Int.ediv_nonneg (by omega) (Int.le_of_lt hp)
  have h1 : (m : Int) / (if (n : Int) > 1 then (n : Int) else 1) ≤ m := Int.ediv_le_self _ (by omega)
  rw [e1]
  exact ⟨(1 + (m : Int) / (if (n : Int) > 1 then (n : Int) else 1)).toNat, by omega, by omega⟩
theorem ok_numbers {f fR : Addr} {fd fdR : FuncData} (F : Fun K "_law_numbers" "_law_numbers" s__law_numbers f fd) (T : DrawTxt mg fR) (FR : Fun K "_law_row" "_law_row" s__law_row fR fdR) (bR : Binds K fdR ["cell", "many"] []) :
    FnOk P w K mg base CX0 2 f fd ["script", "many"] (spNumbers K) := by
  have GR : FnOk P w K mg base CX0 1 fR fdR ["cell", "many"] spRow := ok_row FR T
  refine F.ok sc__law_numbers (fun vs H Q E h => ?_) (fun cdv A outer s H vs Q E hr h => ?_)
  · obtain ⟨a, xs, m, rfl, _⟩ := h
    rfl
  · obtain ⟨a, xs, m, rfl, hS, hx, hm, q⟩ := h
    have nd := sc__law_numbers.nd
    refine ⟨_, pss_cons (ps_set (i := 2) nd rfl (.inl rfl) (pe_slice sl_list (pv 0) po_none (po_some pe_int)))
      (pss_cons (ps_set (i := 3) nd rfl (.inl rfl) (pe_op op_add pe_int (pe_op op_fdivN (pv 1) (pe_callB (call_max2 rfl) (by rfl) T.max (by decide +kernel)
          (pa_cons pe_int (pa_cons (pe_callB call_len (by rfl) T.len (by decide +kernel) (pa_cons (pv 2) pa_nil)) pa_nil))))))
      (pss_cons (ps_set (i := 4) nd rfl (.inl rfl) (pe_lst pa_nil))
      (pss_cons (ps_for PassesOwn.never rfl (pi_list (pv 2)) (pg_name (i := 5) nd rfl (.inl rfl))
        (pss_one (ps_for PassesOwn.never rfl (pi_list (pe_call GR hr (by rfl) T.row FR.kp bR .nil pass0 (pa_cons (pv 5) (pa_cons (pv 3) pa_nil)))) (pg_name (i := 6) nd rfl (.inl rfl))
          (pss_one (ps_expr (pe_bm PySem.F.plainAttrs_list PySem.F.slot_list_append PySem.F.type_list_append mt_append (pv 4) (pa_cons (pv 6) pa_nil)))))))
      (pss_cons (ps_while PassesOwn.never (pt_cmpR op_lt (pe_callB call_len (by rfl) T.len (by decide +kernel) (pa_cons (pv 4) pa_nil)) (pv 1) (nomark _))
        (pss_one (ps_expr (pe_bm PySem.F.plainAttrs_list PySem.F.slot_list_append PySem.F.type_list_append mt_append (pv 4) (pa_cons pe_int pa_nil)))))
      (pss_one (ps_ret (pe_slice sl_list (pv 4) po_none (po_some (pv 1))))))))), ?_⟩
    refine ⟨_, rfl, _, rfl, a, _, rfl, hS, fun c nc => ?_⟩
    rw [cut_all _ (by rw [List.length_map]; exact hx)]
    have s1 : Same H (upd H c (.lst (xs.map V.int))) := same_upd nc
    refine ⟨_, rfl, _, rfl, _, _, rfl, .inl ⟨_, SqL.of upd_same, rfl⟩, _, _, rfl, _, _, rfl, rfl, ?_, ?_⟩
    · constructor
      · rw [List.length_map]
        split <;> omega
      · rw [List.length_map]
        split <;> omega
    refine ⟨_, _, rfl, rfl, ?_⟩
    dsimp only
    obtain ⟨e, he, hle⟩ := each_nat m (List.map V.int xs).length hm
    rw [he]
    refine ⟨Nat.zero_le _, fun b nb => ?_⟩
    have s2 : Same (upd H c (.lst (xs.map V.int))) (upd (upd H c (.lst (xs.map V.int))) b (.lst [])) := same_upd nb
    have nbc : c ≠ b := ne_of_none upd_same nb
    have nb0 : H b = none := s1.free nb
    -- for cell in cells
    refine ⟨_, rfl, c, rfl, ⟨_, SqL.of (s2 _ _ upd_same)⟩, for_list (K := K) (a := c) (xs := xs.map V.int) (fun i σ H' => ∃ (ns : List Int) (v5 v6 : Option V), σ = [some (.ref a), some (.int m), some (.ref c), some (.int e), some (.ref b), v5, v6] ∧ Same H H' ∧ H' c = some (.lst (xs.map V.int)) ∧ H' b = some (.lst (ns.map V.int)) ∧ ns.length ≤ i * 201 ∧ Small ns)
      ⟨[], none, none, rfl, s1.trans s2, s2 _ _ upd_same, upd_same, Nat.zero_le _, Small.nil⟩ (fun i σ H' _ ⟨_, _, _, _, _, hc, _⟩ => SqL.of hc) ?_ ?_⟩
    · rintro i y σ H' hi ⟨ns, v5, v6, rfl, sm, hc, hb, hl, hs⟩
      obtain ⟨z, hz, rfl⟩ : ∃ z, xs[i]? = some z ∧ y = V.int z := by
        rw [List.getElem?_map] at hi
        cases e : xs[i]? with
        | none =>
          rw [e] at hi
          cases hi
        | some z =>
          rw [e] at hi
          exact ⟨z, rfl, (Option.some.inj hi).symm⟩
      have hil : i < xs.length := (List.getElem?_eq_some_iff.mp hz).1
      -- for number in _law_row(cell, each)
      refine ⟨_, rfl, _, rfl, z, e, rfl, by omega, fun H2 r rs s3 nr hr2 hrl hrs => ?_⟩
      refine ⟨r, rfl, ⟨_, SqL.of hr2⟩, for_list (K := K) (a := r) (xs := rs.map V.int) (fun j σ H3 => ∃ (ms : List Int) (v6 : Option V), σ = [some (.ref a), some (.int m), some (.ref c), some (.int e), some (.ref b), some (.int z), v6] ∧ Same H H3 ∧ H3 r = some (.lst (rs.map V.int)) ∧ H3 c = some (.lst (xs.map V.int)) ∧ H3 b = some (.lst (ms.map V.int)) ∧ ms.length = ns.length + j ∧ Small ms)
        ⟨ns, v6, rfl, sm.trans s3, hr2, s3 _ _ hc, s3 _ _ hb, rfl, hs⟩ (fun j σ H3 _ ⟨_, _, _, _, h, _⟩ => SqL.of h) ?_ ?_⟩
      · rintro j y σ H3 hj ⟨ms, v6, rfl, sm3, hr3, hc3, hb3, hl3, hs3⟩
        obtain ⟨n, hn, rfl⟩ : ∃ n, rs[j]? = some n ∧ y = V.int n := by
          rw [List.getElem?_map] at hj
          cases e : rs[j]? with
          | none =>
            rw [e] at hj
            cases hj
          | some z =>
            rw [e] at hj
            exact ⟨z, rfl, (Option.some.inj hj).symm⟩
        have hjl : j < rs.length := (List.getElem?_eq_some_iff.mp hn).1
        have hb3l : (ms.map V.int).length < sizeLine := by
          rw [List.length_map]
          exact small1e7 (by omega)
        have nrb : r ≠ b := fun z => by
          rw [z] at nr
          rw [nr] at hb
          cases hb
        obtain ⟨g0, g1⟩ := hrs n (List.mem_of_getElem? hn)
        walk_at "rd"
        refine ⟨ms ++ [n], _, rfl, fun d o e => ?_, by rw [upd_ne nrb]; exact hr3, by rw [upd_ne nbc]; exact hc3, ?_, ?_, hs3.snoc g0 g1⟩
        · rw [upd_ne (ne_of_none e nb0)]
          exact sm3 d o e
        · rw [upd_same, List.map_append]
          rfl
        · rw [List.length_append, hl3]
          rfl
      · rintro σ H3 ⟨ms, v6, rfl, sm3, hr3, hc3, hb3, hl3, hs3⟩
        rw [List.length_map] at hl3
        exact ⟨ms, _, _, rfl, sm3, hc3, hb3, by rw [Nat.succ_mul]; omega, hs3⟩
    · rintro σ H' ⟨ns, v5, v6, rfl, sm, hc, hb, hl, hs⟩
      rw [List.length_map] at hl
      -- while len(numbers) < many
      refine while_by (fun σ H' => ∃ ns : List Int, σ = [some (.ref a), some (.int m), some (.ref c), some (.int e), some (.ref b), v5, v6] ∧ Same H H' ∧ H' b = some (.lst (ns.map V.int)) ∧ Small ns) (fun _ H' => m - lenAt H' b)
        ⟨ns, rfl, sm, hb, hs⟩ ?_ ?_
      · rintro σ H' ⟨ns, rfl, sm, hb, hs⟩
        refine ⟨_, rfl, _, _, rfl, .inl ⟨_, SqL.of hb, rfl⟩, _, rfl, _, _, rfl, rfl, _, rfl, ?_⟩
        rw [List.length_map]
        refine ite2 (fun hlt => ?_) (fun hlt => ?_)
        · have hlt' : ns.length < m := by
            have := of_decide_eq_true hlt
            omega
          have hbl : (ns.map V.int).length < sizeLine := by
            rw [List.length_map]
            exact small1e7 (by omega)
          walk_at "rd"
          refine ⟨⟨ns ++ [0], rfl, fun d o e => ?_, ?_, hs.snoc (by decide) (by decide)⟩, ?_⟩
          · rw [upd_ne (ne_of_none e nb0)]
            exact sm d o e
          · rw [upd_same, List.map_append]
            rfl
          · rw [lenAt_of upd_same, lenAt_of hb, List.length_append, List.length_map]
            show m - (ns.length + 1) < m - ns.length
            omega
        · have hge : m ≤ ns.length := by
            have : ¬ ((ns.length : Int) < (m : Int)) := fun z => hlt (decide_eq_true z)
            omega
          refine ⟨_, rfl, _, rfl, _, rfl, b, _, rfl, SqL.of hb, fun p np => ?_⟩
          rw [cut_to, ← List.map_take]
          refine q _ p (ns.take m) (fun d o e => ?_) (sm.free np) upd_same (by rw [List.length_take]; omega) (fun n hn => hs n (List.mem_of_mem_take hn))
          rw [upd_ne (ne_of_none (sm d o e) np)]
          exact sm d o e
      · rintro σ H Q Q' h ⟨v, e1, x, n, e2, l, u, e3, i, j, ei, ej, k, ek, q⟩
        exact ⟨v, e1, x, n, e2, l, u, e3, i, j, ei, ej, k, ek, h _ _ q⟩
end
section
open GxR NdefX PySem.Spec PyProof.Rows
variable {P : Program} {w : World} {K : PySem.W.Frag} {mg : Str → Option Value} {base : Heap}
def longN (n : Int) : Bool := decide (1 ≤ n) && decide (n ≤ 40)
/-- what the top has left for them -/
structure HouseTop (mg : Str → Option Value) : Prop where
  all : mg "all" = none
  len : mg "len" = none
  sum : mg "sum" = none
  list : mg "list" = none
  sorted : mg "sorted" = none
  range : mg "range" = none
  longest : ∃ t, mg "LONGEST" = some (.int 40 t)
  stretches : ∃ t, mg "MOST_STRETCHES" = some (.int 2 t)
  mostGaps : ∃ t, mg "MOST_GAPS" = some (.int 11 t)
  mostClosed : ∃ t, mg "MOST_CLOSED" = some (.int 200 t)
def spLong (K : PySem.W.Frag) (T : Addr) : Sp := fun vs H Q _ => ∃ (l : Addr) (ns : List Int), vs = [.ref l] ∧ SqL K H l (ns.map V.int) ∧ TabG H T ∧
  ∀ H', Tabbed T H H' → Q (.bl (ns.all longN)) H'
theorem ok_long {f c T : Addr} {fd : FuncData} (F : FunC K "_are_long" "_are_long" s__are_long f c fd) (Z : HouseTop mg) (TB : TabB base mg c T) : FnOk P w K mg base CX0 3 f fd ["numbers"] (spLong K T) := by
  refine F.ok sc__are_long (fun vs H Q E h => ?_) (fun A outer s H vs Q E hr h => ?_)
  · obtain ⟨l, ns, rfl, _⟩ := h
    rfl
  · obtain ⟨l, ns, rfl, hl, ht, q⟩ := h
    obtain ⟨t, hlong⟩ := Z.longest
    refine ⟨_, pss_one (ps_ret (pe_allG (k := 1) (N := ["number"]) (fr := [none]) (g := gName 0) hr (by rfl) Z.all (by decide +kernel) TB rfl (gsc_by (outer := defScope s__are_long) rfl rfl (by decide +kernel)) (gfr_by (outer := defScope s__are_long) (XN := ["numbers", "number"]) rfl rfl (by decide +kernel)) (pi_list (pv 0))
      (fun B s0 H0 cd fp rB => ⟨pg_name (i := 0) (show (["number"] : List Str).Nodup by decide) rfl (.inl rfl), pe_chain op_le op_le pe_int (pv 0) (pe_glob (v := .int 40) rfl hlong ⟨_, rfl⟩)⟩) (fun _ => rfl))), ?_⟩
    refine ⟨_, rfl, l, rfl, ⟨_, hl⟩, ht, fun H2 t2 => ?_⟩
    have hl2 : SqL K H2 l (ns.map V.int) := (Tabbed.kp t2 ht).seq hl
    refine for_list (K := K) (a := l) (xs := ns.map V.int) (fun i σ H' => (∃ z, σ = [z]) ∧ H' = H2 ∧ (ns.take i).all longN = true) ?_ ?_ ?_ ?_
    · exact ⟨⟨none, rfl⟩, rfl, rfl⟩
    · rintro i σ H' _ ⟨_, rfl, _⟩
      exact hl2
    · rintro i x σ H' hx ⟨⟨z, rfl⟩, rfl, hp⟩
      rw [List.getElem?_map] at hx
      cases hn : ns[i]? with
      | none => rw [hn] at hx; cases hx
      | some n =>
        rw [hn] at hx
        cases hx
        have et : ns.take (i + 1) = ns.take i ++ [n] := by rw [List.take_add_one, hn]; rfl
        have fals : longN n = false → ns.all longN = false := fun e => by
          rw [Bool.eq_false_iff]
          intro z
          rw [List.all_eq_true] at z
          rw [z n (List.mem_of_getElem? hn)] at e
          cases e
        refine ⟨_, rfl, _, _, rfl, rfl, _, rfl, ?_⟩
        refine ite2 (fun h1 => ?_) (fun h1 => ?_)
        · refine ⟨_, _, rfl, rfl, _, rfl, ?_⟩
          refine ite2 (fun h2 => ?_) (fun h2 => ?_)
          · have e : longN n = false := by
              unfold longN
              rw [h2, Bool.and_false]
            have z := q H' t2
            rw [fals e] at z
            exact z
          · refine ⟨⟨_, rfl⟩, rfl, ?_⟩
            have e2 : decide (n ≤ 40) = true := by simpa using h2
            rw [et, List.all_append, hp]
            show (true && (longN n && true)) = true
            unfold longN
            rw [h1, e2]
            rfl
        · refine ⟨_, rfl, ?_⟩
          rw [if_pos rfl]
          have e : longN n = false := by
            unfold longN
            rw [show decide (1 ≤ n) = false by simpa using h1]
            rfl
          have z := q H' t2
          rw [fals e] at z
          exact z
    · rintro σ H' ⟨_, rfl, hp⟩
      rw [List.length_map, List.take_length] at hp
      have z := q H' t2
      rw [hp] at z
      exact z
end
section
open GxR NdefX PySem.Spec PyProof.Rows
variable {P : Program} {w : World} {K : PySem.W.Frag} {mg : Str → Option Value} {base : Heap}
def crossN (ns : List Int) : List Int := (List.range (ns.length + 1)).map fun k => (ns.take k).sum
theorem atI_last {α : Type} (xs : List α) (x : α) : atI (xs ++ [x]) (-1) = some x := by
  unfold atI ixN
  rw [if_neg (by decide), List.length_append]
  have h : (-(1 : Int) : Int) + ((xs.length + [x].length : Nat) : Int) = (xs.length : Int) := by
    show (-1 : Int) + ((xs.length + 1 : Nat) : Int) = _
    omega
  split
  · show (xs ++ [x])[(-1 + ((xs.length + [x].length : Nat) : Int)).toNat]? = some x
    rw [h]
    simp
  · rename_i z
    exact absurd (by show -((xs.length + 1 : Nat) : Int) ≤ -1; omega) z
def spCross (K : PySem.W.Frag) : Sp := fun vs H Q _ => ∃ (l : Addr) (ns : List Int), vs = [.ref l] ∧ SqL K H l (ns.map V.int) ∧ ns.length ≤ 1000 ∧
  ∀ (H' : Hp) (p : Addr), Same H H' → H p = none → H' p = some (.lst ((crossN ns).map V.int)) → Q (.ref p) H'
theorem ok_cross {f : Addr} {fd : FuncData} (F : Fun K "_cross_heights" "_cross_heights" s__cross_heights f fd) : FnOk P w K mg base CX0 2 f fd ["lengths"] (spCross K) := by
  refine F.ok sc__cross_heights (fun vs H Q E h => ?_) (fun cdv A outer s H vs Q E hr h => ?_)
  · obtain ⟨l, ns, rfl, _⟩ := h
    rfl
  · obtain ⟨l, ns, rfl, hl, hn, q⟩ := h
    have nd := sc__cross_heights.nd
    refine ⟨_, (pss_cons (ps_set (i := 1) nd rfl (.inl rfl) (pe_lst (pa_cons pe_int pa_nil)))
      (pss_cons (ps_for PassesOwn.never rfl (pi_list (pv 0)) (pg_name (i := 2) nd rfl (.inl rfl)) (pss_one (ps_expr (pe_bm PySem.F.plainAttrs_list PySem.F.slot_list_append PySem.F.type_list_append mt_append (pv 1) (pa_cons (pe_op op_add (pe_ix ix_list (pv 1) (pe_un un_neg pe_int) (fun _ _ => rfl)) (pv 2)) pa_nil)))))
      (pss_one (ps_ret (pv 1))))), ?_⟩
    refine ⟨by decide, fun r nr => ?_⟩
    have sR : ∀ o, Same H (upd H r o) := fun o => same_upd nr
    refine ⟨_, rfl, l, rfl, ⟨_, (sR _).seq hl⟩, ?_⟩
    refine for_list (K := K) (a := l) (xs := ns.map V.int) (fun i σ H' => (∃ z, σ = [some (.ref l), some (.ref r), z]) ∧ H' = upd H r (.lst (((List.range (i + 1)).map fun k => (ns.take k).sum).map V.int))) ?_ ?_ ?_ ?_
    · exact ⟨⟨none, rfl⟩, rfl⟩
    · rintro i σ H' _ ⟨_, rfl⟩
      exact (sR _).seq hl
    · rintro i x σ H' hx ⟨⟨z, rfl⟩, rfl⟩
      rw [List.getElem?_map] at hx
      cases hi : ns[i]? with
      | none => rw [hi] at hx; cases hx
      | some n =>
        rw [hi] at hx
        cases hx
        have lt := (List.getElem?_eq_some_iff.mp hi).1
        have et : ns.take (i + 1) = ns.take i ++ [n] := by rw [List.take_add_one, hi]; rfl
        have er : ((List.range (i + 1)).map fun k => (ns.take k).sum).map V.int = (((List.range i).map fun k => (ns.take k).sum).map V.int) ++ [V.int (ns.take i).sum] := by
          rw [List.range_succ, List.map_append, List.map_append]
          rfl
        refine ⟨_, rfl, ?_⟩
        refine And.intro (Or.inl ⟨rfl, _, SqL.of upd_same⟩) ?_
        refine ⟨_, rfl, _, rfl, r, _, -1, _, rfl, rfl, SqL.of upd_same, by rw [er]; exact atI_last _ _, _, rfl, _, _, rfl, rfl, ?_⟩
        refine ⟨r, _, _, rfl, rfl, upd_same, ?_, ⟨_, rfl⟩, ?_⟩
        · rw [List.length_map, List.length_map, List.length_range, sizeLine_eq]
          omega
        · rw [upd_upd, List.range_succ (n := i + 1), List.map_append, List.map_append]
          show upd H r (.lst (_ ++ [V.int ((ns.take i).sum + n)])) = upd H r (.lst (_ ++ [V.int (ns.take (i + 1)).sum]))
          rw [et, List.sum_append]
          simp
    · rintro σ H' ⟨⟨z, rfl⟩, rfl⟩
      refine ⟨_, rfl, ?_⟩
      rw [List.length_map]
      exact q _ r (sR _) nr upd_same
end
section
open GxR NdefX PySem.Spec PyProof.Rows
variable {P : Program} {w : World} {K : PySem.W.Frag} {mg : Str → Option Value} {base : Heap}
def hf (l g c t d : V) : List (Str × V) := putF "_closed" d (putF "_top" t (putF "_crosses" c (putF "_gaps" g (putF "_lengths" l []))))
theorem hk1 : ¬ (("_lengths" : Str) = "_gaps") := by decide +kernel
theorem hk2 : ¬ (("_lengths" : Str) = "_crosses") := by decide +kernel
theorem hk3 : ¬ (("_lengths" : Str) = "_top") := by decide +kernel
theorem hk4 : ¬ (("_lengths" : Str) = "_closed") := by decide +kernel
theorem hk5 : ¬ (("_gaps" : Str) = "_crosses") := by decide +kernel
theorem hk6 : ¬ (("_gaps" : Str) = "_top") := by decide +kernel
theorem hk7 : ¬ (("_gaps" : Str) = "_closed") := by decide +kernel
theorem hk8 : ¬ (("_crosses" : Str) = "_top") := by decide +kernel
theorem hk9 : ¬ (("_crosses" : Str) = "_closed") := by decide +kernel
theorem hk10 : ¬ (("_top" : Str) = "_closed") := by decide +kernel
section
variable (l g c t d : V)
theorem hf_lengths : (hf l g c t d).lookup ("_lengths" : Str) = some l := by
  unfold hf
  rw [lookup_putF, if_neg hk4, lookup_putF, if_neg hk3, lookup_putF, if_neg hk2, lookup_putF, if_neg hk1, lookup_putF, if_pos rfl]
theorem hf_gaps : (hf l g c t d).lookup ("_gaps" : Str) = some g := by
  unfold hf
  rw [lookup_putF, if_neg hk7, lookup_putF, if_neg hk6, lookup_putF, if_neg hk5, lookup_putF, if_pos rfl]
theorem hf_crosses : (hf l g c t d).lookup ("_crosses" : Str) = some c := by
  unfold hf
  rw [lookup_putF, if_neg hk9, lookup_putF, if_neg hk8, lookup_putF, if_pos rfl]
theorem hf_top : (hf l g c t d).lookup ("_top" : Str) = some t := by
  unfold hf
  rw [lookup_putF, if_neg hk10, lookup_putF, if_pos rfl]
theorem hf_closed : (hf l g c t d).lookup ("_closed" : Str) = some d := by
  unfold hf
  rw [lookup_putF, if_pos rfl]
theorem hf_no {m : Str} (h1 : ¬ m = "_lengths") (h2 : ¬ m = "_gaps") (h3 : ¬ m = "_crosses") (h4 : ¬ m = "_top") (h5 : ¬ m = "_closed") : (hf l g c t d).lookup m = none := by
  unfold hf
  rw [lookup_putF, if_neg h5, lookup_putF, if_neg h4, lookup_putF, if_neg h3, lookup_putF, if_neg h2, lookup_putF, if_neg h1]
  rfl
end
/-- a link's key -/
def lk (x : Str) (a h : Int) : Tk := [.inr x, .inl a, .inl h]
/-- it is one of the house -/
def isLk (ls gs : List Int) (x : Str) (a h : Int) : Bool :=
  if x = "up" then (decide (0 ≤ a) && decide (a ≤ gs.length)) && (decide (0 ≤ h) && decide (h < ls.sum))
  else decide (x = "over") && ((decide (0 ≤ a) && decide (a < gs.length)) && decide (h ∈ crossN ls))
/-- the fields that do not tell the closed links -/
def PartAt (C : Addr) (H : Hp) (p : Addr) (ls gs : List Int) : Prop := ∃ (dx l g c : Addr) (d : V), H p = some (.ins C dx (hf (.ref l) (.ref g) (.ref c) (.int ls.sum) d)) ∧
  H l = some (.lst (ls.map V.int)) ∧ H g = some (.lst (gs.map V.int)) ∧ H c = some (.lst ((crossN ls).map V.int))
theorem PartAt.kp {C : Addr} {H H' : Hp} {p : Addr} {ls gs : List Int} (h : PartAt C H p ls gs) (k : Kp H H') : PartAt C H' p ls gs := by
  obtain ⟨dx, l, g, c, d, h1, h2, h3, h4⟩ := h
  exact ⟨dx, l, g, c, d, k.ins h1, k.lst h2, k.lst h3, k.lst h4⟩
structure HouseTxt (K : PySem.W.Frag) (mg : Str → Option Value) (C : Addr) : Prop where
  cl : Cls K C
  nL : NoAttr K C "_lengths"
  nG : NoAttr K C "_gaps"
  nX : NoAttr K C "_crosses"
  nT : NoAttr K C "_top"
  nC : NoAttr K C "_closed"
theorem inV_ints (x : Int) (ns : List Int) : inV (.int x) (ns.map V.int) = decide (x ∈ ns) := by
  unfold inV
  induction ns with
  | nil => simp
  | cons n ns ih =>
    rw [List.map_cons, List.any_cons, ih]
    have e : eqV (.int n) (.int x) = decide (n = x) := by rfl
    rw [e]
    by_cases h : n = x
    · subst h; simp
    · have h2 : ¬ x = n := fun z => h z.symm
      simp [h, h2]
theorem flat_ints (ns : List Int) : (ns.map V.int).all flatV = true := by
  rw [List.all_eq_true]
  intro x hx
  obtain ⟨n, _, rfl⟩ := List.mem_map.mp hx
  rfl
/-- the reading of te hands out v and changes nothing -/
def Tells (te : TE) (σ : L2.St) (H : Hp) (v : V) : Prop := ∀ Q : VK, Q v H → te σ H Q
theorem tells_chain {tb tc : TE} {σ : L2.St} {H : Hp} {i0 j n : Int} {f : Int → Int → Bool} (hb : Tells tb σ H (.int j)) (hc : Tells tc σ H (.int n)) :
    Tells (tChain (rI0 fun i j => V.bl (decide (i ≤ j))) (rI0 fun i j => V.bl (f i j)) (tC (.int i0)) tb tc) σ H (.bl (decide (i0 ≤ j) && f j n)) := fun Q q => by
  refine hb _ ⟨_, _, rfl, rfl, _, rfl, ?_⟩
  refine ite2 (fun h => ?_) (fun h => ?_)
  · refine hc _ ⟨_, _, rfl, rfl, ?_⟩
    rw [h, Bool.true_and] at q
    exact q
  · rw [show decide (i0 ≤ j) = false by simpa using h, Bool.false_and] at q
    exact q
theorem tells_and {ta tb : TE} {σ : L2.St} {H : Hp} {a b : Bool} (ha : Tells ta σ H (.bl a)) (hb : Tells tb σ H (.bl b)) : Tells (tAndV ta tb) σ H (.bl (a && b)) := fun Q q => by
  refine ha _ ⟨_, rfl, ?_⟩
  cases a with
  | true => exact hb _ q
  | false => exact q
def spLink (C : Addr) : Sp := fun vs H Q _ => ∃ (p : Addr) (v : V) (ls gs : List Int) (x : Str) (a h : Int), vs = [.ref p, v] ∧ PartAt C H p ls gs ∧ Kr H v (lk x a h) ∧ Q (.bl (isLk ls gs x a h)) H
theorem ok_link {f C : Addr} {fd : FuncData} (F : Fun K "is_link" "House.is_link" s_House_is_link f fd) (Z : HouseTop mg) (T : HouseTxt K mg C) : FnOk P w K mg base CX0 1 f fd ["self", "link"] (spLink C) := by
  refine F.ok sc_House_is_link (fun vs H Q E h => ?_) (fun cdv A outer s H vs Q E hr h => ?_)
  · obtain ⟨p, v, ls, gs, x, a, h, rfl, _⟩ := h
    rfl
  · obtain ⟨p, v, ls, gs, x, a, h, rfl, ⟨dx, l, g, c, d, h1, h2, h3, h4⟩, ⟨t, rfl, ht⟩, q⟩ := h
    have nd := sc_House_is_link.nd
    refine ⟨_, (pss_cons (ps_asg (pv 1) (pg_tup rfl (pgs_cons (pg_name (i := 2) nd rfl (.inl rfl)) (pgs_cons (pg_name (i := 3) nd rfl (.inl rfl)) (pgs_cons (pg_name (i := 4) nd rfl (.inl rfl)) pgs_nil)))))
      (pss_cons (ps_if (pt_cmpR op_eq (pv 2) pe_str (nomark _)) (pss_one (ps_ret (pe_and (pe_chain op_le op_le pe_int (pv 3) (pe_callB call_len (by rfl) Z.len (by decide +kernel) (pa_cons (pe_fld (pv 0) rfl) pa_nil))) (pe_one (pe_chain op_le op_lt pe_int (pv 4) (pe_fld (pv 0) rfl)))))) pss_nil)
      (pss_one (ps_ret (pe_and (pe_cmpR op_eq (pv 2) pe_str (nomark _)) (pe_and (pe_chain op_le op_lt pe_int (pv 3) (pe_callB call_len (by rfl) Z.len (by decide +kernel) (pa_cons (pe_fld (pv 0) rfl) pa_nil))) (pe_one (pe_cmpR op_in_seq (pv 4) (pe_fld (pv 0) rfl) (by rfl))))))))), ?_⟩
    refine ⟨_, rfl, t, _, rfl, SqT.of ht, rfl, _, _, rfl, _, _, rfl, _, _, rfl, rfl, ?_⟩
    have var : ∀ {σ : L2.St} {i : Nat} {v : V}, σ[i]? = some (some v) → Tells (tVar i) σ H v := fun e Q q => ⟨_, e, q⟩
    have fld : ∀ {σ : L2.St} {f : Str} {v : V}, σ[0]? = some (some (V.ref p)) → NoAttr K C f → (hf (.ref l) (.ref g) (.ref c) (.int ls.sum) d).lookup f = some v → Tells (tFld K (tVar 0) f) σ H v := fun e n z Q q =>
      ⟨_, e, p, C, dx, _, _, rfl, h1, T.cl, n, z, q⟩
    have cnt : ∀ {σ : L2.St}, σ[0]? = some (some (V.ref p)) → Tells (tCB (fun xs H1 Q => ∃ x n, xs = [x] ∧ LenV K x H1 n ∧ Q (V.int (n : Nat)) H1) (tCons (tFld K (tVar 0) "_gaps") tNil)) σ H (.int gs.length) := fun e Q q =>
      fld e T.nG (hf_gaps _ _ _ _ _) _ ⟨_, _, rfl, .inl ⟨_, SqL.of h3, rfl⟩, by rw [List.length_map]; exact q⟩
    refine ⟨_, rfl, rfl, _, rfl, ?_⟩
    refine ite2 (fun hc => ?_) (fun hc => ?_)
    · have hx : x = "up" := V.str.inj (of_decide_eq_true hc)
      refine tells_and (tells_chain (f := fun i j => decide (i ≤ j)) (var rfl) (cnt rfl)) (tells_chain (f := fun i j => decide (i < j)) (var rfl) (fld rfl T.nT (hf_top _ _ _ _ _))) _ ?_
      unfold isLk at q
      rw [if_pos hx] at q
      exact q
    · have hx : ¬ x = "up" := fun z => by
        rw [z] at hc
        exact hc (decide_eq_true rfl)
      have eqq : Tells (tOp rEq (tVar 2) (tC (V.str "over"))) [some (.ref p), some (.ref t), some (.str x), some (.int a), some (.int h)] H (.bl (decide (x = "over"))) := fun Q q =>
        ⟨_, rfl, rfl, by rw [show decide (V.str x = V.str "over") = decide (x = "over") by simp]; exact q⟩
      have inn : Tells (tOp (rIn K false) (tVar 4) (tFld K (tVar 0) "_crosses")) [some (.ref p), some (.ref t), some (.str x), some (.int a), some (.int h)] H (.bl (decide (h ∈ crossN ls))) := fun Q q =>
        ⟨_, rfl, fld rfl T.nX (hf_crosses _ _ _ _ _) _ ⟨c, _, rfl, .inl (SqL.of h4), rfl, flat_ints _, by rw [inV_ints]; exact q⟩⟩
      refine tells_and eqq (tells_and (tells_chain (f := fun i j => decide (i < j)) (var rfl) (cnt rfl)) inn) _ ?_
      unfold isLk at q
      rw [if_neg hx] at q
      exact q
end
section
open GxR NdefX PySem.Spec PyProof.Rows
variable {P : Program} {w : World} {K : PySem.W.Frag} {mg : Str → Option Value} {base : Heap}
theorem Room.units0 {k : Nat} {A : Around} (r : Room k A) : A.units < cLine := by
  have := r.un
  omega
/-- all but what is at p is as it was, tables aside -/
structure KpB (p : Addr) (H H' : Hp) : Prop where
  at_ : ∀ b o, H b = some o → b ≠ p → (∀ ps, o ≠ .tbl ps) → H' b = some o
  tab : ∀ P, TabG H P → TabG H' P
section
variable {p : Addr} {H H1 H2 : Hp}
theorem KpB.refl : KpB p H H := ⟨fun _ _ e _ _ => e, fun _ t => t⟩
theorem KpB.kp (k : KpB p H H1) (m : Kp H1 H2) : KpB p H H2 := ⟨fun b o e n t => m.at_ b o (k.at_ b o e n t) t, fun P t => m.tab P (k.tab P t)⟩
theorem KpB.new {r : Addr} {o : HO} (k : KpB p H H1) (n : H1 r = none) : KpB p H (upd H1 r o) := k.kp (kpS (same_upd n))
theorem KpB.put {C dx : Addr} {fs gs : List (Str × V)} (k : KpB p H H1) (hp : H1 p = some (.ins C dx fs)) : KpB p H (upd H1 p (.ins C dx gs)) :=
  ⟨fun b o e n t => by rw [upd_ne n]; exact k.at_ b o e n t, fun P t => by
    obtain ⟨ps, e, t'⟩ := k.tab P t
    exact ⟨ps, by rw [upd_ne (ne_of hp e fun z => nomatch z).symm]; exact e, t'⟩⟩
end
/-- a new object is laid, then a field of p is set -/
theorem stepF {p r C dx : Addr} {fs gs : List (Str × V)} {H H2 : Hp} {o : HO} (kb : KpB p H H2) (hp : H2 p = some (.ins C dx fs)) (n : H2 r = none) :
    ∃ H3, upd (upd H2 r o) p (.ins C dx gs) = H3 ∧ KpB p H H3 ∧ H3 p = some (.ins C dx gs) ∧ H3 r = some o ∧ (∀ b u, H2 b = some u → b ≠ p → H3 b = some u) ∧ ∀ b, H3 b = none → H2 b = none := by
  have pr : p ≠ r := ne_of_none hp n
  refine ⟨_, rfl, (kb.new n).put (fs := fs) (by rw [upd_ne pr]; exact hp), upd_same, by rw [upd_ne pr.symm, upd_same], fun b u e h => ?_, fun b e => ?_⟩
  · rw [upd_ne h, upd_ne (ne_of_none e n)]
    exact e
  · cases q : H2 b with
    | none => rfl
    | some u =>
      by_cases z : b = p
      · rw [z, upd_same] at e
        cases e
      · rw [upd_ne z, upd_ne (ne_of_none q n), q] at e
        cases e
theorem stepP {p C dx : Addr} {fs gs : List (Str × V)} {H H2 : Hp} (kb : KpB p H H2) (hp : H2 p = some (.ins C dx fs)) :
    ∃ H3, upd H2 p (.ins C dx gs) = H3 ∧ KpB p H H3 ∧ H3 p = some (.ins C dx gs) ∧ (∀ b u, H2 b = some u → b ≠ p → H3 b = some u) ∧ ∀ b, H3 b = none → H2 b = none := by
  refine ⟨_, rfl, kb.put hp, upd_same, fun b u e h => by rw [upd_ne h]; exact e, fun b e => ?_⟩
  by_cases z : b = p
  · rw [z, upd_same] at e
    cases e
  · rw [upd_ne z] at e
    exact e
theorem lenF {f : Str} {v : V} {fs : List (Str × V)} {n : Nat} (h : fs.length < n) : (putF f v fs).length < n + 1 := by
  have q := length_putF f v fs
  omega
theorem seqP {K : PySem.W.Frag} {p C dx a : Addr} {fs : List (Str × V)} {H H2 : Hp} {xs : List V} (hp : H p = some (.ins C dx fs)) (k : ∀ b u, H b = some u → b ≠ p → H2 b = some u) (h : SqL K H a xs) : SqL K H2 a xs := by
  rcases h with (h | ⟨o, h⟩) | h
  · exact .inl (.inl (k _ _ h (ne_of hp h fun z => nomatch z).symm))
  · exact .inl (.inr ⟨o, k _ _ h (ne_of hp h fun z => nomatch z).symm⟩)
  · exact .inr h
theorem krsP {p C dx : Addr} {fs : List (Str × V)} {H H2 : Hp} {xs : List V} {ks : List Tk} (hp : H p = some (.ins C dx fs)) (k : ∀ b u, H b = some u → b ≠ p → H2 b = some u) (h : Krs H xs ks) : Krs H2 xs ks := by
  induction h with
  | nil => exact .nil
  | cons a _ ih =>
    obtain ⟨t, rfl, e⟩ := a
    exact .cons ⟨t, rfl, k _ _ e (ne_of hp e fun z => nomatch z).symm⟩ ih
/-- what the house's keys are -/
def kOf (cs : List (Str × Int × Int)) : List Tk := cs.map fun c => lk c.1 c.2.1 c.2.2
def Valid (ls gs : List Int) (cs : List (Str × Int × Int)) : Prop := ((1 ≤ ls.length ∧ ls.length ≤ 2) ∧ ls.all longN = true) ∧ (gs.length ≤ 11 ∧ gs.all longN = true) ∧ cs.length ≤ 200 ∧ (kOf cs).Nodup ∧ ∀ c ∈ cs, isLk ls gs c.1 c.2.1 c.2.2 = true
/-- a house stands at p -/
def HouseAt (C : Addr) (H : Hp) (p : Addr) (ls gs : List Int) (cs : List (Str × Int × Int)) : Prop := Valid ls gs cs ∧ ∃ dx l g c d : Addr, H p = some (.ins C dx (hf (.ref l) (.ref g) (.ref c) (.int ls.sum) (.ref d))) ∧
  H l = some (.lst (ls.map V.int)) ∧ H g = some (.lst (gs.map V.int)) ∧ H c = some (.lst ((crossN ls).map V.int)) ∧ H d = some (.dT ((kOf cs).map fun k => (k, V.bl true)))
structure ErrTxt (K : PySem.W.Frag) (mg : Str → Option Value) (CI : Addr) (x : Str) : Prop where
  gI : mg x = some (.ref CI)
  kI : PySem.W.keepIn K (.ref CI) = true
  xI : PySem.W.excIn K CI [.type "ValueError", .type "Exception", .type "BaseException", .type "object"] "ValueError.__new__" = true
  bI : PySem.W.subIn K (.ref CI) (.type "BaseException") = some true
  tI : PySem.W.typeIn K (.ref CI) = some (.type "type")
/-- no list stands there -/
def NoLst (H : Hp) (b : Addr) : Prop := ∀ zs, H b ≠ some (.lst zs)
theorem Kp.noLst {H H' : Hp} {b : Addr} (k : Kp H H') (n : H' b = none) : NoLst H b := fun zs e => by
  rcases k.free n with z | ⟨ps, z⟩
  · rw [z] at e
    cases e
  · rw [z] at e
    cases e
def spHouse (K : PySem.W.Frag) (C CI TL TI : Addr) : Sp := fun vs H Q E => ∃ (p dx l g c : Addr) (ls gs : List Int) (xs : List V) (cs : List (Str × Int × Int)), vs = [.ref p, .ref l, .ref g, .ref c] ∧ H p = some (.ins C dx []) ∧
  SqL K H l (ls.map V.int) ∧ SqL K H g (gs.map V.int) ∧ SqL K H c xs ∧ Krs H xs (kOf cs) ∧ ls.length ≤ 1000 ∧ gs.length ≤ 1000 ∧ cs.length ≤ 1000 ∧ TabG H TL ∧ TabG H TI ∧
  (Valid ls gs cs → ∀ H', HouseAt C H' p ls gs cs → KpB p H H' → (∀ (dx l g c : Addr) (t d : V), H' p = some (.ins C dx (hf (.ref l) (.ref g) (.ref c) t d)) → NoLst H l ∧ NoLst H g ∧ NoLst H c) → Q .non H') ∧
  (¬ Valid ls gs cs → ∀ H', KpB p H H' → E (.ref CI) none H')
theorem ok_house {f cI TI C CI fL fA cA TL fX : Addr} {fd fdL fdA fdX : FuncData} (F : FunC K "__init__" "House.__init__" s_House___init__ f cI fd) (TB : TabB base mg cI TI) (Z : HouseTop mg) (T : HouseTxt K mg C) (U : ErrTxt K mg CI "InvalidHouse")
    (FL : Fun K "is_link" "House.is_link" s_House_is_link fL fdL) (bL : Binds K fdL ["self", "link"] []) (mL : Meth K C "is_link" fL)
    (FA : FunC K "_are_long" "_are_long" s__are_long fA cA fdA) (TBA : TabB base mg cA TL) (bA : Binds K fdA ["numbers"] []) (gA : mg "_are_long" = some (.ref fA))
    (FX : Fun K "_cross_heights" "_cross_heights" s__cross_heights fX fdX) (bX : Binds K fdX ["lengths"] []) (gX : mg "_cross_heights" = some (.ref fX)) :
    FnOk P w K mg base (L2.CX P w) 5 f fd ["self", "lengths", "gaps", "closed"] (spHouse K C CI TL TI) := by
  have GL : FnOk P w K mg base CX0 1 fL fdL ["self", "link"] (spLink C) := ok_link FL Z T
  have GA : FnOk P w K mg base CX0 3 fA fdA ["numbers"] (spLong K TL) := ok_long FA Z TBA
  have GX : FnOk P w K mg base CX0 2 fX fdX ["lengths"] (spCross K) := ok_cross FX
  refine F.okX sc_House___init__ (fun vs H Q E h => ?_) (fun A outer s H vs Q E hr h => ?_)
  · obtain ⟨p, dx, l, g, c, ls, gs, xs, cs, rfl, _⟩ := h
    rfl
  · obtain ⟨p, dx, l, g, c, ls, gs, xs, cs, rfl, hp, hl, hg, hc, hx, bl, bg, bc, tL, tI, q, e⟩ := h
    obtain ⟨_, hStr⟩ := Z.stretches
    obtain ⟨_, hGap⟩ := Z.mostGaps
    obtain ⟨_, hClo⟩ := Z.mostClosed
    have nd := sc_House___init__.nd
    have hxl := hx.len
    refine ⟨_, (pss_cons (ps_if (PW.pt (pw_or (pt_not (pt_chain op_le op_le pe_int (pe_callB call_len (by rfl) Z.len (by decide +kernel) (pa_cons (pv 1) pa_nil)) (pe_glob (v := .int 2) rfl hStr ⟨_, rfl⟩))) (pw_or1 (pt_not (pt_val (pe_call GA (by exact hr.mono (by decide)) (by rfl) gA FA.kp bA .nil pass0 (pa_cons (pv 1) pa_nil))))))) (pss_one (ps_raise rfl (takes_of rfl rfl rfl rfl) (pmk_own PySem.F.excBase_ValueError U.xI U.gI U.kI (raises_own U.bI U.tI) rfl))) pss_nil)
      (pss_cons (ps_if (PW.pt (pw_or (pt_cmpR op_gt (pe_callB call_len (by rfl) Z.len (by decide +kernel) (pa_cons (pv 2) pa_nil)) (pe_glob (v := .int 11) rfl hGap ⟨_, rfl⟩) (nomark _)) (pw_or1 (pt_not (pt_val (pe_call GA (by exact hr.mono (by decide)) (by rfl) gA FA.kp bA .nil pass0 (pa_cons (pv 2) pa_nil))))))) (pss_one (ps_raise rfl (takes_of rfl rfl rfl rfl) (pmk_own PySem.F.excBase_ValueError U.xI U.gI U.kI (raises_own U.bI U.tI) rfl))) pss_nil)
      (pss_cons (ps_fld (pv 0) (pe_callTy call_list_of (by rfl) Z.list (by decide +kernel) (pa_cons (pv 1) pa_nil)) rfl)
      (pss_cons (ps_fld (pv 0) (pe_callTy call_list_of (by rfl) Z.list (by decide +kernel) (pa_cons (pv 2) pa_nil)) rfl)
      (pss_cons (ps_fld (pv 0) (pe_call GX (by exact hr.mono (by decide)) (by rfl) gX FX.kp bX .nil pass0 (pa_cons (pv 1) pa_nil)) rfl)
      (pss_cons (ps_fld (pv 0) (pe_callB (cr_sum rfl) (by rfl) Z.sum (by decide +kernel) (pa_cons (pv 1) pa_nil)) rfl)
      (pss_cons (ps_fld (pv 0) (pe_dcT (own := [("link", 4)]) (g := gName 4) rfl (by exact hr.units0) nd (pi_list (pv 3)) (blkOk_by (N := ["self", "lengths", "gaps", "closed", "link"]) (sc := defScope s_House___init__) (by decide +kernel)) (fun _ _ _ _ _ => ⟨pg_name (i := 4) nd rfl (.inl rfl), pv 4, pe_bl⟩)) rfl)
      (pss_cons (ps_if (PW.pt (pw_or (pt_cmpR op_gt (pe_callB call_len (by rfl) Z.len (by decide +kernel) (pa_cons (pv 3) pa_nil)) (pe_glob (v := .int 200) rfl hClo ⟨_, rfl⟩) (nomark _)) (pw_or1 (pt_cmpR op_lt (pe_callB call_len_dT (by rfl) Z.len (by decide +kernel) (pa_cons (pe_fld (pv 0) rfl) pa_nil)) (pe_callB call_len (by rfl) Z.len (by decide +kernel) (pa_cons (pv 3) pa_nil)) (nomark _))))) (pss_one (ps_raise rfl (takes_of rfl rfl rfl rfl) (pmk_own PySem.F.excBase_ValueError U.xI U.gI U.kI (raises_own U.bI U.tI) rfl))) pss_nil)
      (pss_one (ps_if (pt_not (pt_val (pe_allG (k := 3) (N := ["link", "self"]) (fr := [none, some 0]) (g := gName 0) (by exact hr) (by rfl) Z.all (by decide +kernel) TB rfl (gsc_by (outer := defScope s_House___init__) rfl rfl (by decide +kernel)) (gfr_by (outer := defScope s_House___init__) (XN := ["self", "lengths", "gaps", "closed", "link"]) rfl rfl (by decide +kernel)) (pi_list (pv 3)) (fun B s0 H0 cd fp rB => ⟨pg_name (i := 0) (show (["link", "self"] : List Str).Nodup by decide) rfl (.inl rfl), (pe_meth (pv 1) T.cl mL GL (by exact rB.mono (by decide)) bL .nil pass0 (pa_cons (pv 0) pa_nil))⟩) (fun _ => rfl)))) (pss_one (ps_raise rfl (takes_of rfl rfl rfl rfl) (pmk_own PySem.F.excBase_ValueError U.xI U.gI U.kI (raises_own U.bI U.tI) rfl))) pss_nil)))))))))), ?_⟩
    have bad : ∀ {H' : Hp}, ¬ Valid ls gs cs → KpB p H H' → E (.ref CI) none H' := fun {H'} n k => e n H' k
    refine (tells_chain (f := fun i j => decide (i ≤ j)) (j := (ls.length : Int)) (n := 2) (fun Q q => ⟨_, rfl, _, _, rfl, .inl ⟨_, hl, rfl⟩, by rw [List.length_map]; exact q⟩) (fun Q q => q)) _ ⟨_, rfl, ?_⟩
    refine ite2 (fun h1 => ?_) (fun h1 => ?_)
    · exact bad (fun v => by
        have v1 := v.1.1
        simp at h1
        omega) KpB.refl
    refine ⟨_, rfl, l, ls, rfl, hl, tL, fun H1 t1 => ⟨_, rfl, ?_⟩⟩
    have k1 : Kp H H1 := Tabbed.kp t1 tL
    refine ite2 (fun h2 => ?_) (fun h2 => ?_)
    · exact bad (fun v => by
        rw [v.1.2] at h2
        cases h2) (KpB.refl.kp k1)
    have v1 : (1 ≤ ls.length ∧ ls.length ≤ 2) ∧ ls.all longN = true := ⟨by simp at h1; omega, by simpa using h2⟩
    refine ⟨_, rfl, _, _, rfl, .inl ⟨_, k1.seq hg, rfl⟩, _, _, rfl, rfl, _, rfl, ?_⟩
    refine ite2 (fun h3 => ?_) (fun h3 => ?_)
    · exact bad (fun v => by
        have v2 := v.2.1.1
        simp at h3
        omega) (KpB.refl.kp k1)
    refine ⟨_, rfl, g, gs, rfl, k1.seq hg, k1.tab _ tL, fun H2 t2 => ⟨_, rfl, ?_⟩⟩
    have k2 : Kp H H2 := k1.trans (Tabbed.kp t2 (k1.tab _ tL))
    refine ite2 (fun h4 => ?_) (fun h4 => ?_)
    · exact bad (fun v => by
        rw [v.2.1.2] at h4
        cases h4) (KpB.refl.kp k2)
    have v2 : gs.length ≤ 11 ∧ gs.all longN = true := ⟨by simp at h3; omega, by simpa using h4⟩
    have kb2 : KpB p H H2 := KpB.refl.kp k2
    have hp2 := k2.ins hp
    -- self._lengths
    refine ⟨_, rfl, l, _, rfl, .inl (k2.seq hl), fun r1 n1 => ⟨_, rfl, p, C, dx, [], rfl, by rw [upd_ne (ne_of_none hp2 n1)]; exact hp2, T.cl, T.nL, by show 0 < 1000; decide, ?_⟩⟩
    obtain ⟨H3, e3, kb3, hp3, g3, s3, f3⟩ := stepF (o := .lst (ls.map V.int)) (gs := putF "_lengths" (.ref r1) []) kb2 hp2 n1
    rw [e3]
    have l3 := seqP hp2 s3 (k2.seq hl)
    have q3 := seqP hp2 s3 (k2.seq hg)
    have c3 := seqP hp2 s3 (k2.seq hc)
    have x3 := krsP hp2 s3 (hx.kp k2)
    -- self._gaps
    refine ⟨_, rfl, g, _, rfl, .inl q3, fun r2 n2 => ⟨_, rfl, p, C, dx, _, rfl, by rw [upd_ne (ne_of_none hp3 n2)]; exact hp3, T.cl, T.nG, by show 1 < 1000; decide, ?_⟩⟩
    obtain ⟨H4, e4, kb4, hp4, g4, s4, f4⟩ := stepF (o := .lst (gs.map V.int)) (gs := putF "_gaps" (.ref r2) (putF "_lengths" (.ref r1) [])) kb3 hp3 n2
    rw [e4]
    have l4 := seqP hp3 s4 l3
    have c4 := seqP hp3 s4 c3
    have x4 := krsP hp3 s4 x3
    have gL4 := s4 _ _ g3 (ne_of hp3 g3 fun z => nomatch z).symm
    have len0 : ([] : List (Str × V)).length < 1 := by decide
    -- self._crosses
    refine ⟨_, rfl, l, ls, rfl, l4, bl, fun H5 r3 sm5 n3 g5 => ⟨_, rfl, p, C, dx, _, rfl, sm5 _ _ hp4, T.cl, T.nX, Nat.lt_of_lt_of_le (lenF (lenF len0)) (by decide), ?_⟩⟩
    obtain ⟨H6, e6, kb6, hp6, s6, f6⟩ := stepP (gs := putF "_crosses" (.ref r3) (putF "_gaps" (.ref r2) (putF "_lengths" (.ref r1) []))) (kb4.kp (kpS sm5)) (sm5 _ _ hp4)
    rw [e6]
    have hp5 := sm5 _ _ hp4
    have l6 := seqP hp5 s6 (sm5.seq l4)
    have c6 := seqP hp5 s6 (sm5.seq c4)
    have x6 := krsP hp5 s6 (x4.same sm5)
    have gL6 := s6 _ _ (sm5 _ _ gL4) (ne_of hp5 (sm5 _ _ gL4) fun z => nomatch z).symm
    have gG6 := s6 _ _ (sm5 _ _ g4) (ne_of hp5 (sm5 _ _ g4) fun z => nomatch z).symm
    have gX6 := s6 _ _ g5 (ne_of hp5 g5 fun z => nomatch z).symm
    -- self._top
    refine ⟨_, rfl, l, ls, rfl, l6, _, rfl, p, C, dx, _, rfl, hp6, T.cl, T.nT, Nat.lt_of_lt_of_le (lenF (lenF (lenF len0))) (by decide), ?_⟩
    obtain ⟨H7, e7, kb7, hp7, s7, f7⟩ := stepP (gs := putF "_top" (.int ls.sum) (putF "_crosses" (.ref r3) (putF "_gaps" (.ref r2) (putF "_lengths" (.ref r1) [])))) kb6 hp6
    rw [e7]
    have c7 := seqP hp6 s7 c6
    have x7 := krsP hp6 s7 x6
    have gL7 := s7 _ _ gL6 (ne_of hp6 gL6 fun z => nomatch z).symm
    have gG7 := s7 _ _ gG6 (ne_of hp6 gG6 fun z => nomatch z).symm
    have gX7 := s7 _ _ gX6 (ne_of hp6 gX6 fun z => nomatch z).symm
    -- self._closed
    refine ⟨_, rfl, c, rfl, ⟨_, c7⟩, fun D nD => ?_⟩
    have sD : ∀ o, Same H7 (upd H7 D o) := fun o => same_upd nD
    refine dcT_list (K := K) (a := c) (xs := xs) (fun i H' => H' = upd H7 D (.dT (ded ((kOf cs).take i)))) rfl ?_ ?_ ?_
    · rintro i H' _ rfl
      exact (sD _).seq c7
    · rintro i x H' hi rfl
      obtain ⟨y, hy, t, rfl, ht⟩ := (x7.same (sD (.dT (ded ((kOf cs).take i))))).at hi
      refine ⟨rfl, _, rfl, t, _, y, rfl, ht, upd_same, ?_, ?_⟩
      · have z1 := ded_le ((kOf cs).take i)
        have z2 : ((kOf cs).take i).length ≤ (kOf cs).length := List.length_take_le' _ _
        have z3 : (kOf cs).length = cs.length := List.length_map _
        rw [sizeLine_eq]
        omega
      · rw [upd_upd, List.take_add_one, hy]
        show _ = upd H7 D (.dT (ded ((kOf cs).take i ++ [y])))
        rw [ded_snoc]
    · rintro H' rfl
      rw [hxl, List.take_length]
      refine ⟨_, rfl, p, C, dx, _, rfl, sD _ _ _ hp7, T.cl, T.nC, Nat.lt_of_lt_of_le (lenF (lenF (lenF (lenF len0)))) (by decide), ?_⟩
      obtain ⟨H8, e8, kb8, hp8, g8, s8, f8⟩ := stepF (o := .dT (ded (kOf cs))) (gs := hf (.ref r1) (.ref r2) (.ref r3) (.int ls.sum) (.ref D)) kb7 hp7 nD
      have e8' : upd (upd H7 D (.dT (ded (kOf cs)))) p (.ins C dx (putF "_closed" (.ref D) (putF "_top" (.int ls.sum) (putF "_crosses" (.ref r3) (putF "_gaps" (.ref r2) (putF "_lengths" (.ref r1) [])))))) = H8 := e8
      rw [e8']
      have c8 := seqP hp7 s8 c7
      have x8 := krsP hp7 s8 x7
      have gL8 := s8 _ _ gL7 (ne_of hp7 gL7 fun z => nomatch z).symm
      have gG8 := s8 _ _ gG7 (ne_of hp7 gG7 fun z => nomatch z).symm
      have gX8 := s8 _ _ gX7 (ne_of hp7 gX7 fun z => nomatch z).symm
      have kl : (kOf cs).length = cs.length := List.length_map _
      -- too many, or one twice
      refine ⟨_, rfl, _, _, rfl, .inl ⟨_, c8, rfl⟩, _, _, rfl, rfl, _, rfl, ?_⟩
      refine ite2 (fun h5 => ?_) (fun h5 => ?_)
      · exact bad (fun v => by
          have v3 := v.2.2.1
          simp at h5
          omega) kb8
      have v3 : cs.length ≤ 200 := by
        simp at h5
        omega
      refine ⟨_, rfl, p, C, dx, _, _, rfl, hp8, T.cl, T.nC, hf_closed _ _ _ _ _, D, _, rfl, g8, _, rfl, _, _, rfl, .inl ⟨_, c8, rfl⟩, _, _, rfl, rfl, _, rfl, ?_⟩
      refine ite2 (fun h6 => ?_) (fun h6 => ?_)
      · exact bad (fun v => by
          rw [(ded_eq (kOf cs)).1 v.2.2.2.1, List.length_map] at h6
          have z := of_decide_eq_true h6
          omega) kb8
      have v4 : (kOf cs).Nodup := Decidable.byContradiction fun n => h6 (decide_eq_true (by
        have z := (ded_eq (kOf cs)).2 n
        omega))
      -- each is a link
      have tab8 : TabG H8 TI := kb8.tab _ tI
      refine ⟨_, rfl, c, rfl, ⟨_, c8⟩, tab8, fun H9 t9 => ?_⟩
      have k9 : Kp H8 H9 := Tabbed.kp t9 tab8
      have kb9 : KpB p H H9 := kb8.kp k9
      have hp9 := k9.ins hp8
      have x9 := x8.kp k9
      have part : PartAt C H9 p ls gs := ⟨dx, r1, r2, r3, _, hp9, k9.lst gL8, k9.lst gG8, k9.lst gX8⟩
      refine for_list (K := K) (a := c) (xs := xs) (fun i σ H' => (∃ z, σ = [z, some (.ref p)]) ∧ H' = H9 ∧ ∀ c ∈ cs.take i, isLk ls gs c.1 c.2.1 c.2.2 = true) ?_ ?_ ?_ ?_
      · exact ⟨⟨none, rfl⟩, rfl, fun c z => by simp at z⟩
      · rintro i σ H' _ ⟨_, rfl, _⟩
        exact k9.seq c8
      · rintro i x H0 H' hi ⟨⟨z, rfl⟩, rfl, hall⟩
        obtain ⟨y, hy, hk⟩ := x9.at hi
        unfold kOf at hy
        rw [List.getElem?_map] at hy
        cases hci : cs[i]? with
        | none => rw [hci] at hy; cases hy
        | some ci =>
          rw [hci] at hy
          cases hy
          refine ⟨_, rfl, p, dx, _, rfl, hp9, hf_no _ _ _ _ _ (by decide +kernel) (by decide +kernel) (by decide +kernel) (by decide +kernel) (by decide +kernel), _, rfl, p, x, ls, gs, ci.1, ci.2.1, ci.2.2, rfl, part, hk, _, rfl, ?_⟩
          refine ite2 (fun h7 => ?_) (fun h7 => ?_)
          · refine ⟨_, rfl, ?_⟩
            exact bad (fun v => by
              rw [v.2.2.2.2 ci (List.mem_of_getElem? hci)] at h7
              cases h7) kb9
          · refine ⟨⟨_, rfl⟩, rfl, fun c' hc' => ?_⟩
            rw [List.take_add_one, hci] at hc'
            rcases List.mem_append.mp hc' with z1 | z1
            · exact hall c' z1
            · have z2 : c' = ci := by simpa using z1
              rw [z2]
              simpa using h7
      · rintro σ H' ⟨⟨z, rfl⟩, rfl, hall⟩
        rw [hxl, kl, List.take_length] at hall
        have va : Valid ls gs cs := ⟨v1, v2, v3, v4, hall⟩
        refine ⟨_, rfl, ?_⟩
        refine q va H' ⟨va, dx, r1, r2, r3, D, hp9, k9.lst gL8, k9.lst gG8, k9.lst gX8, ?_⟩ kb9 (fun dx' l' g' c' t' d' z => ?_)
        · rw [← (ded_eq (kOf cs)).1 v4]
          exact k9.dT g8
        · rw [hp9] at z
          have z2 := Option.some.inj z
          injection z2 with _ _ z3
          have e1 := hf_lengths (.ref r1) (.ref r2) (.ref r3) (.int ls.sum) (.ref D)
          have e2 := hf_gaps (.ref r1) (.ref r2) (.ref r3) (.int ls.sum) (.ref D)
          have e3' := hf_crosses (.ref r1) (.ref r2) (.ref r3) (.int ls.sum) (.ref D)
          rw [z3, hf_lengths] at e1
          rw [z3, hf_gaps] at e2
          rw [z3, hf_crosses] at e3'
          obtain rfl : l' = r1 := V.ref.inj (Option.some.inj e1)
          obtain rfl : g' = r2 := V.ref.inj (Option.some.inj e2)
          obtain rfl : c' = r3 := V.ref.inj (Option.some.inj e3')
          exact ⟨Kp.noLst k2 n1, Kp.noLst k2 (f3 _ n2), Kp.noLst k2 (f3 _ (f4 _ n3))⟩
end
section
open GxR NdefX PySem.Spec PyProof.Rows
variable {P : Program} {w : World} {K : PySem.W.Frag} {mg : Str → Option Value} {base : Heap}
theorem HouseAt.kp {C : Addr} {H H' : Hp} {p : Addr} {ls gs : List Int} {cs : List (Str × Int × Int)} (h : HouseAt C H p ls gs cs) (k : Kp H H') : HouseAt C H' p ls gs cs := by
  obtain ⟨v, dx, l, g, c, d, h1, h2, h3, h4, h5⟩ := h
  exact ⟨v, dx, l, g, c, d, k.ins h1, k.lst h2, k.lst h3, k.lst h4, k.dT h5⟩
theorem HouseAt.part {C : Addr} {H : Hp} {p : Addr} {ls gs : List Int} {cs : List (Str × Int × Int)} (h : HouseAt C H p ls gs cs) : PartAt C H p ls gs := by
  obtain ⟨v, dx, l, g, c, d, h1, h2, h3, h4, h5⟩ := h
  exact ⟨dx, l, g, c, _, h1, h2, h3, h4⟩
theorem fit_kOf (cs : List (Str × Int × Int)) : Fit (kOf cs) := ⟨[true, false, false], by decide, fun k hk => by
  obtain ⟨c, _, rfl⟩ := List.mem_map.mp hk
  rfl⟩
/-- a list of numbers of the house's own, handed out anew -/
def spNums (C : Addr) (f : List Int → List Int → List Int) : Sp := fun vs H Q _ => ∃ (p : Addr) (ls gs : List Int) (cs : List (Str × Int × Int)), vs = [.ref p] ∧ HouseAt C H p ls gs cs ∧
  ∀ r, H r = none → Q (.ref r) (upd H r (.lst ((f ls gs).map V.int)))
def spClosed (C : Addr) : Sp := fun vs H Q _ => ∃ (p : Addr) (ls gs : List Int) (cs : List (Str × Int × Int)), vs = [.ref p] ∧ HouseAt C H p ls gs cs ∧
  ∀ (r : Addr) (ys : List V), H r = none → Krs H ys (sortK (kOf cs)) → Q (.ref r) (upd H r (.lst ys))
theorem ok_lengths {f C : Addr} {fd : FuncData} (F : Fun K "lengths" "House.lengths" s_House_lengths f fd) (Z : HouseTop mg) (T : HouseTxt K mg C) : FnOk P w K mg base CX0 1 f fd ["self"] (spNums C (fun ls _ => ls)) := by
  refine F.ok sc_House_lengths (fun vs H Q E h => ?_) (fun cdv A outer s H vs Q E hr h => ?_)
  · obtain ⟨p, ls, gs, cs, rfl, _⟩ := h
    rfl
  · obtain ⟨p, ls, gs, cs, rfl, ⟨_, dx, l, g, c, d, h1, h2, h3, h4, h5⟩, q⟩ := h
    exact ⟨_, (pss_one (ps_ret (pe_callTy call_list_of (by rfl) Z.list (by decide +kernel) (pa_cons (pe_fld (pv 0) rfl) pa_nil)))), _, rfl, p, C, dx, _, _, rfl, h1, T.cl, T.nL, hf_lengths _ _ _ _ _, l, _, rfl, .inl (SqL.of h2), q⟩
theorem ok_gaps {f C : Addr} {fd : FuncData} (F : Fun K "gaps" "House.gaps" s_House_gaps f fd) (Z : HouseTop mg) (T : HouseTxt K mg C) : FnOk P w K mg base CX0 1 f fd ["self"] (spNums C (fun _ gs => gs)) := by
  refine F.ok sc_House_gaps (fun vs H Q E h => ?_) (fun cdv A outer s H vs Q E hr h => ?_)
  · obtain ⟨p, ls, gs, cs, rfl, _⟩ := h
    rfl
  · obtain ⟨p, ls, gs, cs, rfl, ⟨_, dx, l, g, c, d, h1, h2, h3, h4, h5⟩, q⟩ := h
    exact ⟨_, (pss_one (ps_ret (pe_callTy call_list_of (by rfl) Z.list (by decide +kernel) (pa_cons (pe_fld (pv 0) rfl) pa_nil)))), _, rfl, p, C, dx, _, _, rfl, h1, T.cl, T.nG, hf_gaps _ _ _ _ _, g, _, rfl, .inl (SqL.of h3), q⟩
theorem ok_closed {f C : Addr} {fd : FuncData} (F : Fun K "closed" "House.closed" s_House_closed f fd) (Z : HouseTop mg) (T : HouseTxt K mg C) : FnOk P w K mg base CX0 2 f fd ["self"] (spClosed C) := by
  refine F.ok sc_House_closed (fun vs H Q E h => ?_) (fun cdv A outer s H vs Q E hr h => ?_)
  · obtain ⟨p, ls, gs, cs, rfl, _⟩ := h
    rfl
  · obtain ⟨p, ls, gs, cs, rfl, ⟨_, dx, l, g, c, d, h1, h2, h3, h4, h5⟩, q⟩ := h
    have ek : ((kOf cs).map fun k => (k, V.bl true)).map (·.1) = kOf cs := by
      rw [List.map_map]
      exact List.map_id _
    refine ⟨_, (pss_one (ps_ret (pe_callB (call_sortDT rfl (by exact hr.units)) (by rfl) Z.sorted (by decide +kernel) (pa_cons (pe_fld (pv 0) rfl) pa_nil)))), _, rfl, p, C, dx, _, _, rfl, h1, T.cl, T.nC, hf_closed _ _ _ _ _, d, _, rfl, .inl h5, by rw [ek]; exact fit_kOf cs, fun r ys nr hy => ?_⟩
    rw [ek] at hy
    exact q r ys nr hy
end
section
open GxR NdefX PySem.Spec PyProof.Rows
variable {P : Program} {w : World} {K : PySem.W.Frag} {mg : Str → Option Value} {base : Heap}
theorem room65 {k : Nat} {A : Around} (r : Room k A) : A.units + 65 < cLine := by
  have := r.un
  omega
structure LawTop (mg : Str → Option Value) : Prop where
  int : mg "int" = none
  len : mg "len" = none
  sum : mg "sum" = none
  max : mg "max" = none
  range : mg "range" = none
section
variable {σ : L2.St} {H : Hp} {ta tb : TE} {i j : Int}
theorem Tells.go {te : TE} {v : V} {Q : VK} (h : Tells te σ H v) (q : Q v H) : te σ H Q := h Q q
theorem tells_var {n : Nat} {v : V} (e : σ[n]? = some (some v)) : Tells (tVar n) σ H v := fun Q q => ⟨_, e, q⟩
theorem tells_c {v : V} : Tells (tC v) σ H v := fun Q q => q
theorem tells_I {C : Int → Int → Prop} {g : Int → Int → V} (ha : Tells ta σ H (.int i)) (hb : Tells tb σ H (.int j)) (h : C i j) : Tells (tOp (rI C g) ta tb) σ H (g i j) := fun Q q => ha _ (hb _ ⟨_, _, rfl, rfl, h, q⟩)
theorem tells_int (ha : Tells ta σ H (.int i)) : Tells (tCB (fun xs H Q => (∃ i, xs = [.int i] ∧ Q (.int i) H) ∨ ∃ k, xs = [.bl k] ∧ Q (.int (if k then 1 else 0)) H) (tCons ta tNil)) σ H (.int i) := fun Q q => ha _ (.inl ⟨_, rfl, q⟩)
def nth (ns : List Int) (i : Int) : Int := (ns[i.toNat]?).getD 0
theorem nth_small {ns : List Int} (h : Small ns) (i : Int) : 0 ≤ nth ns i ∧ nth ns i < 1009 := by
  unfold nth
  cases e : ns[i.toNat]? with
  | none => decide
  | some n => exact h n (List.mem_of_getElem? e)
theorem atI_nth {ns : List Int} {i : Int} (h0 : 0 ≤ i) (h1 : i < ns.length) : atI (ns.map V.int) i = some (V.int (nth ns i)) := by
  have e : ((i.toNat : Nat) : Int) = i := Int.toNat_of_nonneg h0
  have lt : i.toNat < ns.length := by omega
  have z : atI (ns.map V.int) ((i.toNat : Nat) : Int) = some (V.int (nth ns i)) := by
    refine atI_nat ?_
    unfold nth
    rw [List.getElem?_map, List.getElem?_eq_getElem lt]
    rfl
  rw [e] at z
  exact z
theorem tells_ix {l : Addr} {ns : List Int} (ha : Tells ta σ H (.ref l)) (hb : Tells tb σ H (.int i)) (hl : SqL K H l (ns.map V.int)) (h0 : 0 ≤ i) (h1 : i < ns.length) : Tells (tOp (rIxL K) ta tb) σ H (.int (nth ns i)) := fun Q q => ha _ (hb _ ⟨l, _, i, _, rfl, rfl, hl, atI_nth h0 h1, q⟩)
end
theorem ok_lk {x : Str} (h : PyData.canLay0 (.str x) = true) (a b : Int) : okk (lk x a b) = true := by
  show (PyData.canLay0 (.str x) && (true && (true && true))) = true
  rw [h]
  rfl
theorem pick4 {z : Int} (h0 : 0 ≤ z) (h4 : z < 4) : ∃ mo : Int, atI [V.int 4, V.int 9, V.int 12, V.int 40] z = some (.int mo) ∧ 4 ≤ mo ∧ mo ≤ 40 := by
  have : z = 0 ∨ z = 1 ∨ z = 2 ∨ z = 3 := by omega
  rcases this with rfl | rfl | rfl | rfl
  · exact ⟨4, rfl, by decide, by decide⟩
  · exact ⟨9, rfl, by decide, by decide⟩
  · exact ⟨12, rfl, by decide, by decide⟩
  · exact ⟨40, rfl, by decide, by decide⟩
/-- numbers from 1 to 40 -/
def Lens (ls : List Int) : Prop := ∀ x ∈ ls, 1 ≤ x ∧ x ≤ 40
theorem Lens.all {ls : List Int} (h : Lens ls) : ls.all longN = true := List.all_eq_true.mpr fun x hx => by
  have q := h x hx
  unfold longN
  rw [decide_eq_true q.1, decide_eq_true q.2]
  rfl
theorem Lens.snoc {ls : List Int} (h : Lens ls) {x : Int} (h1 : 1 ≤ x) (h2 : x ≤ 40) : Lens (ls ++ [x]) := fun y hy => by
  rcases List.mem_append.mp hy with z | z
  · exact h y z
  · rw [List.mem_singleton.mp z]
    exact ⟨h1, h2⟩
theorem Lens.pos {ls : List Int} (h : Lens ls) : ∀ k, 0 ≤ (ls.take k).sum := by
  intro k
  have all : ∀ xs : List Int, (∀ x ∈ xs, 1 ≤ x ∧ x ≤ 40) → 0 ≤ xs.sum := by
    intro xs
    induction xs with
    | nil => intro _; decide
    | cons x xs ih =>
      intro q
      have q1 := q x List.mem_cons_self
      have q2 := ih fun y hy => q y (List.mem_cons_of_mem _ hy)
      rw [List.sum_cons]
      omega
  exact all _ fun x hx => h x (List.mem_of_mem_take hx)
theorem Lens.pos1 {ls : List Int} (h : Lens ls) (hl : 1 ≤ ls.length) : 1 ≤ ls.sum := by
  cases ls with
  | nil => simp at hl
  | cons x ls =>
    have q1 := h x List.mem_cons_self
    have q2 := Lens.pos (ls := ls) (fun y hy => h y (List.mem_cons_of_mem _ hy)) ls.length
    rw [List.take_length] at q2
    rw [List.sum_cons]
    omega
theorem made {H : Hp} {a : Addr} {o : HO} (h : H a = none) : ∃ H', upd H a o = H' ∧ Same H H' ∧ H' a = some o := ⟨_, rfl, same_upd h, upd_same⟩
end
section
open GxR NdefX PySem.Spec PyProof.Rows
variable {P : Program} {w : World} {K : PySem.W.Frag} {mg : Str → Option Value} {base : Heap}
/-- behind a new object: all but it is as it was -/
theorem mkKp {H H' : Hp} {x dx : Addr} {o u : HO} (n : H x = none) (m : H dx = none) (k : KpB x (upd (upd H dx u) x o) H') : Kp H H' := by
  have step : ∀ b z, H b = some z → (upd (upd H dx u) x o) b = some z := fun b z e => by
    rw [upd_ne (ne_of_none e n), upd_ne (ne_of_none e m)]
    exact e
  exact ⟨fun b z e t => k.at_ b z (step b z e) (ne_of_none e n) t, fun P ⟨ps, e, t⟩ => k.tab P ⟨ps, step _ _ e, t⟩⟩
structure PropD (P : Program) (w : World) (K : PySem.W.Frag) (mg : Str → Option Value) (base : Heap) (C : Addr) (k : Nat) (x : Str) (sp : Sp) where
  f : Addr
  p : Addr
  fd : FuncData
  h : PropOf K C x p f
  G : FnOk P w K mg base CX0 k f fd ["self"] sp
  b : Binds K fd ["self"] []
structure MethD (P : Program) (w : World) (K : PySem.W.Frag) (mg : Str → Option Value) (base : Heap) (C : Addr) (k : Nat) (x : Str) (ps : List Str) (sp : Sp) where
  f : Addr
  fd : FuncData
  m : Meth K C x f
  G : FnOk P w K mg base CX0 k f fd ps sp
  b : Binds K fd ps []
structure TopD (P : Program) (w : World) (K : PySem.W.Frag) (mg : Str → Option Value) (base : Heap) (k : Nat) (x : Str) (ps : List Str) (sp : Sp) where
  f : Addr
  fd : FuncData
  G : FnOk P w K mg base CX0 k f fd ps sp
  b : Binds K fd ps []
  g : mg x = some (.ref f)
  kp : PySem.W.keepIn K (.ref f) = true
theorem Lens.pos2 {ls : List Int} (h : Lens ls) : 0 ≤ ls.sum := by
  have q := h.pos ls.length
  rw [List.take_length] at q
  exact q
theorem Lens.le {ls : List Int} (h : Lens ls) (k : Nat) : (ls.take k).sum ≤ ls.sum := by
  have e : ls.sum = (ls.take k).sum + (ls.drop k).sum := by
    rw [← List.sum_append, List.take_append_drop]
  have q : Lens (ls.drop k) := fun x hx => h x (List.mem_of_mem_drop hx)
  have z := q.pos2
  omega
theorem Lens.top {ls : List Int} (h : Lens ls) (hl : ls.length ≤ 2) : ls.sum ≤ 80 := by
  match ls, h, hl with
  | [], _, _ => decide
  | [x], h, _ =>
    have := h x (by simp)
    simp
    omega
  | [x, y], h, _ =>
    have := h x (by simp)
    have := h y (by simp)
    simp
    omega
  | _ :: _ :: _ :: _, _, hl => simp at hl
theorem Lens.cross {ls : List Int} (h : Lens ls) {y : Int} (hy : y ∈ crossN ls) : 0 ≤ y ∧ y ≤ ls.sum := by
  unfold crossN at hy
  obtain ⟨k, _, rfl⟩ := List.mem_map.mp hy
  exact ⟨h.pos k, h.le k⟩
def dN (ns : List Int) : PyData := .list (ns.map PyData.int)
theorem eqvAll_N : ∀ a b : List Int, PyData.eqvAll (a.map PyData.int) (b.map PyData.int) = decide (a = b)
  | [], [] => by simp [PyData.eqvAll]
  | [], _ :: _ => by simp [PyData.eqvAll]
  | _ :: _, [] => by simp [PyData.eqvAll]
  | p :: ps, q :: qs => by
    simp only [List.map_cons, PyData.eqvAll, eqv_int, eqvAll_N ps qs, List.cons.injEq]
    by_cases h1 : p = q <;> by_cases h2 : ps = qs <;> simp [h1, h2]
theorem eqv_dN (a b : List Int) : PyData.eqv (dN a) (dN b) = decide (a = b) := by
  unfold dN
  rw [PyData.eqv, eqvAll_N]
theorem dp_ns {H : Hp} : ∀ ns : List Int, DpAll K H (ns.map V.int) (ns.map PyData.int)
  | [] => .nil
  | n :: ns => .cons (.int n) (dp_ns ns)
theorem dp_dN {H : Hp} {a : Addr} {ns : List Int} (h : SqL K H a (ns.map V.int)) : Dp K H (.ref a) (dN ns) := .lst h (dp_ns ns)
theorem lay_N : ∀ ns : List Int, PyData.canLayAll0 (ns.map PyData.int) = true
  | [] => rfl
  | _ :: ns => by
    show (true && PyData.canLayAll0 (ns.map PyData.int)) = true
    rw [lay_N ns]
    rfl
theorem depth_N : ∀ ns : List Int, PyData.depthAll (ns.map PyData.int) = 0
  | [] => rfl
  | _ :: ns => by
    show max 0 (PyData.depthAll (ns.map PyData.int)) = 0
    rw [depth_N ns]
    rfl
def d3 (ls gs : List Int) (ks : List Tk) : PyData := .list [dN ls, dN gs, dKs ks]
theorem sh_d3 {ls gs : List Int} {ks : List Tk} (h : ∀ k ∈ ks, okk k = true) : SeqAt.shaped (d3 ls gs ks) = true := by
  have e : PyData.canLay0 (d3 ls gs ks) = true := by
    show (PyData.canLayAll0 (ls.map PyData.int) && (PyData.canLayAll0 (gs.map PyData.int) && (PyData.canLayAll0 (ks.map dK) && true))) = true
    rw [lay_N, lay_N, lay_dKs ks h]
    rfl
  unfold SeqAt.shaped
  rw [e]
  refine decide_eq_true ?_
  have q := depth_dKs ks
  show max (PyData.depthAll (ls.map PyData.int) + 1) (max (PyData.depthAll (gs.map PyData.int) + 1) (max (PyData.depthAll (ks.map dK) + 1) 0)) + 1 ≤ 64
  rw [depth_N, depth_N]
  omega
theorem okk_valid {ls gs : List Int} {cs : List (Str × Int × Int)} (v : Valid ls gs cs) : ∀ k ∈ kOf cs, okk k = true := fun k hk => by
  obtain ⟨c, hc, rfl⟩ := List.mem_map.mp hk
  have q := v.2.2.2.2 c hc
  refine ok_lk ?_ _ _
  unfold isLk at q
  by_cases h1 : c.1 = "up"
  · rw [h1]
    decide +kernel
  · rw [if_neg h1] at q
    have h2 : c.1 = "over" := by
      simp only [Bool.and_eq_true, decide_eq_true_eq] at q
      exact q.1
    rw [h2]
    decide +kernel
theorem Room.units1 {k : Nat} {A : Around} (r : Room k A) : A.units + 1 < cLine := by
  have := r.un
  omega
theorem val_closed {ls gs : List Int} {cs : List (Str × Int × Int)} (v : Valid ls gs cs) (k : Tk) : (valV ((kOf cs).map fun k => (k, V.bl true)) k).isSome = decide (k ∈ kOf cs) := by
  rw [← (ded_eq (kOf cs)).1 v.2.2.2.1]
  exact ded_mem _ _
theorem Valid.lens {ls gs : List Int} {cs : List (Str × Int × Int)} (v : Valid ls gs cs) : Lens ls := fun x hx => by
  have z := List.all_eq_true.mp v.1.2 x hx
  unfold longN at z
  rw [Bool.and_eq_true, decide_eq_true_eq, decide_eq_true_eq] at z
  exact z
def spClosedQ (C : Addr) : Sp := fun vs H Q _ => ∃ (p : Addr) (v : V) (ls gs : List Int) (cs : List (Str × Int × Int)) (k : Tk), vs = [.ref p, v] ∧ HouseAt C H p ls gs cs ∧ Kr H v k ∧ Q (.bl (decide (k ∈ kOf cs))) H
theorem ok_is_closed {f C : Addr} {fd : FuncData} (F : Fun K "is_closed" "House.is_closed" s_House_is_closed f fd) (T : HouseTxt K mg C) : FnOk P w K mg base CX0 1 f fd ["self", "link"] (spClosedQ C) := by
  refine F.ok sc_House_is_closed (fun vs H Q E h => ?_) (fun cdv A outer s H vs Q E hr h => ?_)
  · obtain ⟨p, v, ls, gs, cs, k, rfl, _⟩ := h
    rfl
  · obtain ⟨p, v, ls, gs, cs, k, rfl, hH, ⟨t, rfl, ht⟩, q⟩ := h
    obtain ⟨va, dx, l, g, c, d, h1, h2, h3, h4, h5⟩ := id hH
    refine ⟨_, (pss_one (ps_ret (pe_cmp (pc_din (by exact Room.units1 hr) (pv 1) (pe_fld (pv 0) rfl))))), ?_⟩
    refine ⟨_, rfl, _, rfl, p, C, dx, _, _, rfl, h1, T.cl, T.nC, hf_closed _ _ _ _ _, d, _, rfl, DGet.t h5 ht, ?_⟩
    rw [val_closed va]
    exact q
end
open SX
section
open GxR NdefX PySem.Spec PyProof.Rows
variable {P : Program} {w : World} {K : PySem.W.Frag} {mg : Str → Option Value} {base : Heap}
theorem raised {H : Hp} {a d C : Addr} {f : Str} {v : V} (ha : H a = none) (hd : (upd H a (exo a C none)) d = none) (hne : d ≠ a) :
    (upd (upd (upd H a (exo a C none)) d (exd d [(f, v)])) a (exo a C (some d))) a = some (exo a C (some d)) ∧ (upd (upd (upd H a (exo a C none)) d (exd d [(f, v)])) a (exo a C (some d))) d = some (exd d [(f, v)]) ∧ H d = none ∧
    Same H (upd (del (upd (upd (upd H a (exo a C none)) d (exd d [(f, v)])) a (exo a C (some d))) a) d (.xd [(f, v)])) := by
  have hdn : H d = none := by
    rw [upd_ne hne] at hd
    exact hd
  refine ⟨upd_same, by rw [upd_ne hne, upd_same], hdn, fun b o e => ?_⟩
  have h1 : b ≠ a := ne_of_none e ha
  have h2 : b ≠ d := ne_of_none e hdn
  rw [upd_ne h2, del_ne h1, upd_ne h1, upd_ne h2, upd_ne h1]
  exact e
end
section
open GxR NdefX PySem.Spec PyProof.Rows
variable {P : Program} {w : World} {K : PySem.W.Frag} {mg : Str → Option Value} {base : Heap}
/-- a line's codes -/
def rowL (hd : List Nat) (ns : List Int) : List Nat := TL.joinL [32] (hd :: ns.map dg)
/-- names of built-ins that no def hides, a constant -/
structure NoteTop (mg : Str → Option Value) : Prop where
  str : mg "str" = none
  len : mg "len" = none
  all : mg "all" = none
  int : mg "int" = none
  range : mg "range" = none
  digits : ∃ t, mg "MOST_DIGITS" = some (.int 4 t)
/-- the error of notation -/
structure NotTxt (K : PySem.W.Frag) (mg : Str → Option Value) (CN fN : Addr) : Prop where
  g : mg "InvalidNotation" = some (.ref CN)
  o : OexC K CN
  n : PySem.W.findIn K (.ref CN) "line" = some none
  i : PySem.W.findIn K (.ref CN) "__init__" = some (some (.ref fN))
  y : PySem.W.typeIn K (.ref fN) = some (.type "function")
theorem ok_notinit {f C : Addr} {fd : FuncData} (F : Fun K "__init__" "InvalidNotation.__init__" s_InvalidNotation___init__ f fd) : FnOk P w K mg base CX0 1 f fd ["self", "line"] (spXI K C "line") := by
  refine F.ok sc_InvalidNotation___init__ (fun vs H Q E h => ?_) (fun cdv A outer s H vs Q E hr h => ?_)
  · obtain ⟨a, v, rfl, _⟩ := h
    rfl
  · obtain ⟨a, v, rfl, T, hno, ha, q⟩ := h
    exact ⟨_, pss_one (ps_ost (pv 0) (pv 1)), v, rfl, _, rfl, a, C, rfl, T, hno, .inl ⟨ha, q⟩⟩
theorem sp_S : (" " : Str) = S [32] := by decide +kernel
theorem nl_S : ("\n" : Str) = S [10] := by decide +kernel
theorem ze_S : ("0" : Str) = S [48] := by decide +kernel
theorem small_log {n : Int} (h0 : 0 ≤ n) (h1 : n < 100000) : n.natAbs.log2 < 1920 := by
  by_cases h : n.natAbs = 0
  · rw [h]
    decide
  · rw [Nat.log2_lt h]
    have h2 : n.natAbs < 2 ^ 17 := by omega
    exact Nat.lt_of_lt_of_le h2 (Nat.pow_le_pow_right (by decide) (by decide))
def spIsNum : Sp := fun vs H Q _ => ∃ z : Str, vs = [.str z] ∧ z.length ≤ 1000000 ∧ Q (.bl (isNum z)) H
theorem ok_isnum {f : Addr} {fd : FuncData} (F : Fun K "is_number" "is_number" s_is_number f fd) (T : NoteTop mg) : FnOk P w K mg base CX0 1 f fd ["word"] spIsNum := by
  refine F.ok sc_is_number (fun vs H Q E h => ?_) (fun cdv A outer s H vs Q E hr h => ?_)
  · obtain ⟨z, rfl, _⟩ := h
    rfl
  · obtain ⟨z, rfl, hz, q⟩ := h
    obtain ⟨t, hdig⟩ := T.digits
    have hz' : z.length ≤ sizeLine := by
      rw [sizeLine_eq]
      omega
    refine ⟨_, (pss_cons (ps_if (PW.pt (pw_or (pt_not (pt_val (pe_m0 PySem.F.slot_str_isdigit PySem.F.type_str_isdigit mt_isdigit (pv 0)))) (pw_or1 (pt_cmpR op_gt (pe_callB call_len_str (by rfl) T.len (by decide +kernel) (pa_cons (pv 0) pa_nil)) (pe_glob (v := .int 4) rfl hdig ⟨_, rfl⟩) (nomark _))))) (pss_one (ps_ret pe_bl)) pss_nil)
      (pss_one (ps_ret (pe_or (pe_cmpR op_eq (pv 0) pe_str (nomark _)) (pe_one (pe_not (pe_m1 PySem.F.slot_str_startswith PySem.F.type_str_startswith mt_startswith (pv 0) pe_str))))))), ?_⟩
    refine ⟨_, rfl, ⟨_, rfl⟩, _, rfl, rfl, trivial, _, rfl, ?_⟩
    unfold isNum at q
    cases h1 : Txt.isdigit z with
    | false =>
      rw [h1] at q
      exact q
    | true =>
      rw [h1] at q
      refine iteF ?_
      refine ⟨_, rfl, _, rfl, hz', _, _, rfl, rfl, _, rfl, ?_⟩
      refine ite2 (fun hc => ?_) (fun hc => ?_)
      · have : ¬ z.length ≤ 4 := by
          have := of_decide_eq_true hc
          omega
        rw [decide_eq_false this] at q
        exact q
      · have : z.length ≤ 4 := by
          have : ¬ ((z.length : Int) > 4) := fun y => hc (decide_eq_true y)
          omega
        rw [decide_eq_true this] at q
        refine ⟨_, rfl, rfl, _, rfl, ?_⟩
        have e : decide (V.str z = V.str ("0" : Str)) = decide (z = S [48]) := by
          rw [ze_S]
          by_cases h : z = S [48]
          · rw [h, decide_eq_true rfl, decide_eq_true rfl]
          · rw [decide_eq_false h, decide_eq_false fun y => h (V.str.inj y)]
        rw [e]
        cases h2 : decide (z = S [48]) with
        | true =>
          rw [h2] at q
          exact iteT q
        | false =>
          rw [h2] at q
          refine iteF ?_
          refine ⟨_, rfl, ⟨_, rfl⟩, _, _, rfl, rfl, _, rfl, ?_⟩
          rw [ze_S]
          exact q
/-- raises the error of notation with this number of a line -/
def RaisesN (CN : Addr) (k : Int) (H : Hp) (E : XK) : Prop := ∀ (H' : Hp) (d : Addr), Kp H H' → H' d = some (.xd [("line", .int k)]) → E (.ref CN) (some d) H'
def spWNums (K : PySem.W.Frag) (T CN : Addr) : Sp := fun vs H Q E => ∃ (l : Addr) (ws : List Str) (k : Int), vs = [.ref l, .int k] ∧ SqL K H l (ws.map V.str) ∧ (∀ z ∈ ws, z.length ≤ 1000000 ∧ asc z) ∧ ws.length ≤ 1000000 ∧ TabG H T ∧
  (ws.all isNum = true → ∀ (H' : Hp) (r : Addr), Kp H H' → H' r = some (.lst ((ws.map numV).map V.int)) → Q (.ref r) H') ∧ (ws.all isNum = false → RaisesN CN k H E)
theorem ok_nums {f c T0 CN fN fI : Addr} {fd fdN fdI : FuncData} (F : FunC K "_numbers_of" "_numbers_of" s__numbers_of f c fd) (T : NoteTop mg) (TB : TabB base mg c T0) (U : NotTxt K mg CN fI) (GI : FnOk P w K mg base CX0 1 fI fdI ["self", "line"] (spXI K CN "line")) (bI : Binds K fdI ["self", "line"] [])
    (FN : Fun K "is_number" "is_number" s_is_number fN fdN) (GN : FnOk P w K mg base CX0 1 fN fdN ["word"] spIsNum) (bN : Binds K fdN ["word"] []) (gN : mg "is_number" = some (.ref fN)) : FnOk P w K mg base (L2.CX P w) 4 f fd ["words", "number"] (spWNums K T0 CN) := by
  refine F.okX sc__numbers_of (fun vs H Q E h => ?_) (fun A outer s H vs Q E hr h => ?_)
  · obtain ⟨l, ws, k, rfl, _⟩ := h
    rfl
  · obtain ⟨l, ws, k, rfl, hl, hw, hwl, ht, q1, q2⟩ := h
    have nd := sc__numbers_of.nd
    refine ⟨_, (pss_cons (ps_if (pt_not (pt_val (pe_allG (k := 2) (N := ["word"]) (fr := [none]) (g := gName 0) (by exact hr.mono (by decide)) (by rfl) T.all (by decide +kernel) TB rfl (gsc_by (outer := defScope s__numbers_of) rfl rfl (by decide +kernel)) (gfr_by (outer := defScope s__numbers_of) (XN := ["words", "number", "word"]) rfl rfl (by decide +kernel)) (pi_list (pv 0)) (fun B s0 H0 cd fp rB => ⟨pg_name (i := 0) (show (["word"] : List Str).Nodup by decide) rfl (.inl rfl), (pe_call GN (by exact rB.mono (by decide)) (by rfl) gN FN.kp bN .nil pass0 (pa_cons (pv 0) pa_nil))⟩) (fun _ => rfl)))) (pss_one (ps_raise rfl (takes_of rfl rfl rfl rfl) (pmk_oex U.o U.i U.y GI (by exact hr.mono (by decide)) bI .nil pass0 (by rfl) U.g (pa_cons (pv 1) pa_nil)))) pss_nil)
      (pss_one (ps_ret (pe_lc (own := [("word", 2)]) (g := gName 2) (tt := tYes) rfl nd (pi_list (pv 0)) (blkOk_by (N := ["words", "number", "word"]) (sc := defScope s__numbers_of) (by decide +kernel)) (fun _ _ _ _ _ => pg_name (i := 2) nd rfl (Or.inl rfl)) (fun _ _ _ _ _ => pts_nil) (fun _ _ _ _ _ => (pe_callTy call_int_str (by rfl) T.int (by decide +kernel) (pa_cons (pv 2) pa_nil))))))), ?_⟩
    refine ⟨_, rfl, l, rfl, ⟨_, hl⟩, ht, fun H2 t2 => ?_⟩
    have k2 : Kp H H2 := Tabbed.kp t2 ht
    have hl2 : SqL K H2 l (ws.map V.str) := k2.seq hl
    refine for_list (K := K) (a := l) (xs := ws.map V.str) (fun i σ H' => (∃ z, σ = [z]) ∧ H' = H2 ∧ (ws.take i).all isNum = true) ?_ ?_ ?_ ?_
    · exact ⟨⟨none, rfl⟩, rfl, rfl⟩
    · rintro i σ H' _ ⟨_, rfl, _⟩
      exact hl2
    · rintro i x σ H' hx ⟨⟨z, rfl⟩, rfl, hp⟩
      rw [List.getElem?_map] at hx
      cases hn : ws[i]? with
      | none => rw [hn] at hx; cases hx
      | some y =>
        rw [hn] at hx
        cases hx
        have hy := hw y (List.mem_of_getElem? hn)
        have et : ws.take (i + 1) = ws.take i ++ [y] := by rw [List.take_add_one, hn]; rfl
        refine ⟨_, rfl, _, rfl, hy.1, _, rfl, ?_⟩
        refine ite2 (fun h7 => ?_) (fun h7 => ?_)
        · have hi : isNum y = false := by simpa using h7
          have e : ws.all isNum = false := by
            rw [Bool.eq_false_iff]
            intro z
            rw [List.all_eq_true] at z
            rw [z y (List.mem_of_getElem? hn)] at hi
            cases hi
          refine ⟨_, rfl, ?_⟩
          refine iteT ?_
          refine ⟨_, rfl, by show 1 ≤ 1000; decide, fun a na => ⟨a, .int k, rfl, U.o, U.n, upd_same, fun dd hd hne => ⟨rfl, dd, [("line", .int k)], ?_⟩⟩⟩
          obtain ⟨g1, g2, g3, g4⟩ := raised (f := "line") (v := .int k) na hd hne
          exact ⟨g1, g2, g3, q2 e _ dd (k2.trans (kpS g4)) upd_same⟩
        · have hi : isNum y = true := by simpa using h7
          refine ⟨⟨_, rfl⟩, rfl, ?_⟩
          rw [et, List.all_append, hp, List.all_cons, hi]
          rfl
    · rintro σ H' ⟨_, rfl, hp⟩
      rw [List.length_map, List.take_length] at hp
      refine ⟨_, rfl, ?_⟩
      refine iteF ?_
      refine ⟨_, rfl, l, rfl, ⟨_, hl2⟩, fun D hD => ?_⟩
      refine lc_list (K := K) (a := l) (xs := ws.map V.str) (fun i H1 => Same H' H1 ∧ H1 D = some (.lst (((ws.take i).map numV).map V.int))) ?_ ?_ ?_ ?_
      · exact ⟨same_upd hD, upd_same⟩
      · rintro i H1 _ ⟨k1, _⟩
        exact k1.seq hl2
      · rintro i x H1 hx ⟨k1, hd⟩
        rw [List.getElem?_map] at hx
        cases hn : ws[i]? with
        | none => rw [hn] at hx; cases hx
        | some y =>
          rw [hn] at hx
          cases hx
          have hy := hw y (List.mem_of_getElem? hn)
          have hil : i < ws.length := (List.getElem?_eq_some_iff.mp hn).1
          rw [List.all_eq_true] at hp
          obtain ⟨n1, n2⟩ := isNum_int hy.2 (hp y (List.mem_of_getElem? hn))
          refine ⟨rfl, _, rfl, _, _, rfl, n1, n2, _, hd, ?_, ?_, ?_⟩
          · rw [List.length_map, List.length_map, List.length_take, sizeLine_eq]
            omega
          · intro b o e
            rw [upd_ne (ne_of_none e hD)]
            exact k1 b o e
          · rw [upd_same, List.take_add_one, hn]
            simp only [List.map_append, Option.toList, List.map_cons, List.map_nil]
      · rintro H1 ⟨k1, g1⟩
        rw [List.length_map, List.take_length] at g1
        exact q1 hp H1 D (k2.trans (kpS k1)) g1
end
open SX
section
open GxR NdefX PySem.Spec PyProof.Rows
variable {P : Program} {w : World} {K : PySem.W.Frag} {mg : Str → Option Value} {base : Heap}
/-- the numbers that a line writes behind these words -/
def numsIn (ls : List Str) (n : Nat) (hd : List Str) : Option (List Int) :=
  if ls.length < n then none else
    if (Txt.split (ls.getD (n - 1) Str.empty) (S [32])).take hd.length = hd ∧ ((Txt.split (ls.getD (n - 1) Str.empty) (S [32])).drop hd.length).all isNum = true then
      some (((Txt.split (ls.getD (n - 1) Str.empty) (S [32])).drop hd.length).map numV) else none
/-- what all lines keep -/
def LinesOk (ls : List Str) : Prop := ls.length ≤ 100000 ∧ ∀ z ∈ ls, z.length ≤ 900000 ∧ asc z
theorem note_raised {H : Hp} {CN fI : Addr} (U : NotTxt K mg CN fI) {k : Int} {E : XK} (q : RaisesN CN k H E) {H0 : Hp} (k0 : Kp H H0) : ∀ y, H0 y = none → ∃ a v, [V.ref y, .int k] = [.ref a, v] ∧ OexC K CN ∧ PySem.W.findIn K (.ref CN) "line" = some none ∧ (upd H0 y (exo y CN none)) a = some (exo a CN none) ∧
    ∀ dx, (upd H0 y (exo y CN none)) dx = none → dx ≠ a → V.non = .non ∧ ∃ d fs, (upd (upd (upd H0 y (exo y CN none)) dx (exd dx [("line", v)])) a (exo a CN (some dx))) y = some (exo y CN (some d)) ∧ (upd (upd (upd H0 y (exo y CN none)) dx (exd dx [("line", v)])) a (exo a CN (some dx))) d = some (exd d fs) ∧ H0 d = none ∧
      E (.ref CN) (some d) (upd (del (upd (upd (upd H0 y (exo y CN none)) dx (exd dx [("line", v)])) a (exo a CN (some dx))) y) d (.xd fs)) := fun y ny => by
  refine ⟨y, .int k, rfl, U.o, U.n, upd_same, fun dd hd hne => ⟨rfl, dd, [("line", .int k)], ?_⟩⟩
  obtain ⟨g1, g2, g3, g4⟩ := raised (f := "line") (v := .int k) ny hd hne
  exact ⟨g1, g2, g3, q _ dd (k0.trans (kpS g4)) upd_same⟩
def spIn (K : PySem.W.Frag) (T CN : Addr) : Sp := fun vs H Q E => ∃ (l h : Addr) (ls hd : List Str) (n : Nat), vs = [.ref l, .int n, .ref h] ∧ SqL K H l (ls.map V.str) ∧ SqL K H h (hd.map V.str) ∧ LinesOk ls ∧ 1 ≤ n ∧ n ≤ 1000000 ∧ hd.length ≤ 1000 ∧ (∀ x ∈ hd, asc x) ∧ TabG H T ∧
  (∀ ns, numsIn ls n hd = some ns → ∀ (H' : Hp) (r : Addr), Kp H H' → H' r = some (.lst (ns.map V.int)) → Q (.ref r) H') ∧ (numsIn ls n hd = none → RaisesN CN n H E)
theorem ok_in {f T0 CN fN fI : Addr} {fd fdN fdI : FuncData} (F : Fun K "_numbers_in" "_numbers_in" s__numbers_in f fd) (T : NoteTop mg) (U : NotTxt K mg CN fI) (GI : FnOk P w K mg base CX0 1 fI fdI ["self", "line"] (spXI K CN "line")) (bI : Binds K fdI ["self", "line"] [])
    (FNk : PySem.W.keepIn K (.ref fN) = true) (GN : FnOk P w K mg base (L2.CX P w) 4 fN fdN ["words", "number"] (spWNums K T0 CN)) (bN : Binds K fdN ["words", "number"] []) (gN : mg "_numbers_of" = some (.ref fN)) : FnOk P w K mg base (L2.CX P w) 5 f fd ["lines", "number", "head"] (spIn K T0 CN) := by
  refine F.okX sc__numbers_in (fun vs H Q E h => ?_) (fun cdv A outer s H vs Q E hr h => ?_)
  · obtain ⟨l, h, ls, hd, n, rfl, _⟩ := h
    rfl
  · obtain ⟨l, h, ls, hd, n, rfl, hl, hh, hls, hn1, hn2, hhd, hha, ht, q1, q2⟩ := h
    have nd := sc__numbers_in.nd
    have hz : 1000000 < sizeLine := by decide
    refine ⟨_, (pss_cons (ps_if (pt_cmpR op_gt (pv 1) (pe_callB call_len (by rfl) T.len (by decide +kernel) (pa_cons (pv 0) pa_nil)) (nomark _)) (pss_one (ps_raise rfl (takes_of rfl rfl rfl rfl) (pmk_oex U.o U.i U.y GI (by exact hr.mono (by decide)) bI .nil pass0 (by rfl) U.g (pa_cons (pv 1) pa_nil)))) pss_nil)
      (pss_cons (ps_set (i := 3) nd rfl (.inl rfl) (pe_split (pe_ix ix_list (pv 0) (pe_op op_sub (pv 1) pe_int) (fun _ _ => rfl)) pe_str))
      (pss_cons (ps_if (pt_cmpR (r := rNeD K) (op_neD (by exact hr.units)) (pe_slice sl_list (pv 3) po_none (po_some (pe_callB call_len (by rfl) T.len (by decide +kernel) (pa_cons (pv 2) pa_nil)))) (pv 2) (nomark _)) (pss_one (ps_raise rfl (takes_of rfl rfl rfl rfl) (pmk_oex U.o U.i U.y GI (by exact hr.mono (by decide)) bI .nil pass0 (by rfl) U.g (pa_cons (pv 1) pa_nil)))) pss_nil)
      (pss_one (ps_ret (pe_call GN (by exact hr.mono (by decide)) (by rfl) gN FNk bN .nil (passes_call (takes_of rfl rfl rfl rfl) fun _ _ _ _ h => h) (pa_cons (pe_slice sl_list (pv 3) (po_some (pe_callB call_len (by rfl) T.len (by decide +kernel) (pa_cons (pv 2) pa_nil))) po_none) (pa_cons (pv 1) pa_nil)))))))), ?_⟩
    refine ⟨_, rfl, _, rfl, _, _, rfl, .inl ⟨_, hl, rfl⟩, _, _, rfl, rfl, _, rfl, ?_⟩
    unfold numsIn at q1 q2
    refine ite2 (fun hc => ?_) (fun hc => ?_)
    · have hc' := of_decide_eq_true hc
      rw [List.length_map] at hc'
      rw [if_pos (show ls.length < n by omega)] at q2
      exact ⟨_, rfl, by show 1 ≤ 1000; decide, note_raised U (q2 rfl) (Kp.refl H)⟩
    have hle : ¬ ls.length < n := fun z => hc (decide_eq_true (by rw [List.length_map]; omega))
    rw [if_neg hle] at q1 q2
    obtain ⟨ln, hln⟩ : ∃ z, ls[n - 1]? = some z := ⟨_, List.getElem?_eq_getElem (by omega)⟩
    have hget : ls.getD (n - 1) Str.empty = ln := by
      rw [List.getD_eq_getElem?_getD, hln]
      rfl
    rw [hget] at q1 q2
    obtain ⟨hll, hla⟩ := hls.2 ln (List.mem_of_getElem? hln)
    -- words = lines[number - 1].split(" ")
    refine ⟨_, rfl, _, rfl, _, _, rfl, rfl, ?_⟩
    refine ⟨l, _, _, .str ln, rfl, rfl, hl, ?_, ⟨_, rfl⟩, _, _, rfl, rfl, rfl, ?_, fun m nm => ?_⟩
    · rw [show (n : Int) - 1 = ((n - 1 : Nat) : Int) by omega]
      exact atI_nat (by rw [List.getElem?_map, hln]; rfl)
    · omega
    obtain ⟨H1, e1, k1, g1⟩ := made (o := .lst ((Txt.split ln (S [32])).map V.str)) nm
    rw [sp_S, e1]
    generalize hws : Txt.split ln (S [32]) = ws at *
    have hw : ∀ z ∈ ws, z.length ≤ 900000 ∧ asc z := fun z hz2 => by
      rw [← hws] at hz2
      exact ⟨Nat.le_trans (part_short hz2) hll, asc_split (by decide) hla hz2⟩
    have hwl : ws.length ≤ 1000000 := by
      have := split_le ln (S [32])
      rw [hws] at this
      omega
    -- words[:len(head)] != head
    refine ⟨_, rfl, _, rfl, _, _, rfl, .inl ⟨_, k1.seq hh, rfl⟩, _, rfl, m, _, rfl, SqL.of g1, fun c nc => ?_⟩
    rw [List.length_map, cut_to, ← List.map_take]
    obtain ⟨H2, e2, k2, g2⟩ := made (o := .lst ((ws.take hd.length).map V.str)) nc
    rw [e2]
    have k12 := k1.trans k2
    refine ⟨_, rfl, dS (ws.take hd.length), dS hd, dp_S (SqL.of g2), dp_S (k12.seq hh), sh_dS (fun z hz2 => (hw z (List.mem_of_mem_take hz2)).2), sh_dS hha, _, rfl, ?_⟩
    rw [eqv_dS]
    by_cases he : ws.take hd.length = hd
    · rw [decide_eq_true he]
      refine iteF ?_
      refine ⟨_, rfl, _, rfl, _, _, rfl, .inl ⟨_, k12.seq hh, rfl⟩, _, rfl, m, _, rfl, SqL.of (k2 _ _ g1), fun c2 nc2 => ?_⟩
      rw [List.length_map, cut_from, ← List.map_drop]
      obtain ⟨H3, e3, k3, g3⟩ := made (o := .lst ((ws.drop hd.length).map V.str)) nc2
      rw [e3]
      have k13 := k12.trans k3
      refine ⟨_, rfl, c2, ws.drop hd.length, n, rfl, SqL.of g3, fun z hz2 => ?_, ?_, (kpS k13).tab _ ht, fun ha H4 r k4 g4 => ?_, fun ha H4 d k4 g4 => ?_⟩
      · obtain ⟨x, y⟩ := hw z (List.mem_of_mem_drop hz2)
        exact ⟨by omega, y⟩
      · rw [List.length_drop]
        omega
      · exact q1 _ (if_pos ⟨he, ha⟩) H4 r ((kpS k13).trans k4) g4
      · exact q2 (if_neg fun z => by rw [ha] at z; cases z.2) H4 d ((kpS k13).trans k4) g4
    · rw [decide_eq_false he]
      refine iteT ?_
      exact ⟨_, rfl, by show 1 ≤ 1000; decide, note_raised U (q2 (if_neg fun z => he z.1)) (kpS k12)⟩
end
open SX
section
open GxR NdefX PySem.Spec PyProof.Rows
variable {P : Program} {w : World} {K : PySem.W.Frag} {mg : Str → Option Value} {base : Heap}
def spRowL (K : PySem.W.Frag) : Sp := fun vs H Q _ => ∃ (hd : List Nat) (t : Addr) (ns : List Int), vs = [.str (S hd), .ref t] ∧ SqL K H t (ns.map V.int) ∧ (∀ n ∈ ns, 0 ≤ n ∧ n < 100000) ∧ hd.length ≤ 1000 ∧ ns.length ≤ 1000 ∧
  ∀ H', Same H H' → Q (.str (S (rowL hd ns))) H'
theorem ok_rowL {f : Addr} {fd : FuncData} (F : Fun K "_row" "_row" s__row f fd) (T : NoteTop mg) : FnOk P w K mg base CX0 1 f fd ["head", "numbers"] (spRowL K) := by
  refine F.ok sc__row (fun vs H Q E h => ?_) (fun cdv A outer s H vs Q E hr h => ?_)
  · obtain ⟨hd, t, ns, rfl, _⟩ := h
    rfl
  · obtain ⟨hd, t, ns, rfl, ht, hb, hl1, hl2, q⟩ := h
    have nd := sc__row.nd
    refine ⟨_, (pss_one (ps_ret (pe_join pe_str (pe_op op_cat (pe_lst (pa_cons (pv 0) pa_nil)) (pe_lc (own := [("number", 2)]) (g := gName 2) (tt := tYes) rfl nd (pi_list (pv 1)) (blkOk_by (N := ["head", "numbers", "number"]) (sc := defScope s__row) (by decide +kernel)) (fun _ _ _ _ _ => pg_name (i := 2) nd rfl (Or.inl rfl)) (fun _ _ _ _ _ => pts_nil) (fun _ _ _ _ _ => (pe_callTy call_str_int (by rfl) T.str (by decide +kernel) (pa_cons (pv 2) pa_nil)))))))), ?_⟩
    refine ⟨⟨_, rfl⟩, _, rfl, (by show 1 ≤ sizeLine; decide), fun m nm => ?_⟩
    obtain ⟨H1, e1, k1, g1⟩ := made (o := .lst [.str (S hd)]) nm
    rw [e1]
    refine ⟨_, rfl, t, rfl, ⟨_, k1.seq ht⟩, fun D hD => ?_⟩
    have hz : 100000 < sizeLine := by decide
    refine lc_list (K := K) (a := t) (xs := ns.map V.int) (fun i H' => Same H1 H' ∧ H' D = some (.lst ((((ns.take i).map dg).map S).map V.str))) ?_ ?_ ?_ ?_
    · exact ⟨same_upd hD, upd_same⟩
    · rintro i H' _ ⟨k, _⟩
      exact k.seq (k1.seq ht)
    · rintro i x H' hx ⟨k, hd'⟩
      rw [List.getElem?_map] at hx
      cases hn : ns[i]? with
      | none => rw [hn] at hx; cases hx
      | some n =>
        rw [hn] at hx
        cases hx
        obtain ⟨b0, b1⟩ := hb n (List.mem_of_getElem? hn)
        have hil : i < ns.length := (List.getElem?_eq_some_iff.mp hn).1
        refine ⟨rfl, _, rfl, _, rfl, small_log b0 b1, _, hd', ?_, ?_, ?_⟩
        · rw [List.length_map, List.length_map, List.length_map, List.length_take]
          omega
        · intro b o e
          rw [upd_ne (ne_of_none e hD)]
          exact k b o e
        · rw [upd_same, show (toString n : Str) = S (dg n) from dg_str b0, List.take_add_one, hn]
          simp only [List.map_append, Option.toList, List.map_cons, List.map_nil]
    · rintro H2 ⟨k2, g2⟩
      rw [List.length_map, List.take_length] at g2
      refine ⟨_, _, _, _, rfl, rfl, k2 _ _ g1, g2, ?_, fun p np => ?_⟩
      · rw [List.length_map, List.length_map, List.length_map]
        show 1 + ns.length ≤ sizeLine
        omega
      obtain ⟨H3, e3, k3, g3⟩ := made (o := .lst ([.str (S hd)] ++ (((ns.map dg).map S).map V.str))) np
      rw [e3]
      refine ⟨_, p, (hd :: ns.map dg).map S, rfl, rfl, .inl (SqL.of g3), ?_, ?_⟩
      · have hs : ∀ y ∈ hd :: ns.map dg, y.length ≤ 1000 := fun y hy => by
          rcases List.mem_cons.mp hy with rfl | hy
          · exact hl1
          · obtain ⟨n, hn, rfl⟩ := List.mem_map.mp hy
            have := dg_len (n := n) (k := 5) (by decide) (by have := (hb n hn).2; omega)
            omega
        have z := sum_len hs
        have e : (hd :: ns.map dg).length = ns.length + 1 := by rw [List.length_cons, List.length_map]
        rw [List.length_map, e, show (" " : Str).length = 1 from rfl]
        rw [e] at z
        omega
      · rw [sp_S, join_S]
        exact q H3 ((k1.trans k2).trans k3)
def wdL (x : Str) : List Nat := if x = "up" then [117, 112] else [111, 118, 101, 114]
/-- "closed " -/
def clW : List Nat := [99, 108, 111, 115, 101, 100]
def lenW : List Nat := [108, 101, 110, 103, 116, 104, 115]
def gapW : List Nat := [103, 97, 112, 115]
/-- the codes of a closed link's line -/
def clL (c : Str × Int × Int) : List Nat := rowL (clW ++ [32] ++ wdL c.1) [c.2.1, c.2.2]
def rowsH (ls gs : List Int) (cs : List (Str × Int × Int)) : List (List Nat) := rowL lenW ls :: rowL gapW gs :: cs.map clL
def houseL (ls gs : List Int) (cs : List (Str × Int × Int)) : List Nat := TL.joinL [10] (rowsH ls gs cs)
/-- links in ascending order -/
def sortC (cs : List (Str × Int × Int)) : List (Str × Int × Int) := cs.mergeSort fun a b => leK (lk a.1 a.2.1 a.2.2) (lk b.1 b.2.1 b.2.2)
theorem kOf_sortC (cs : List (Str × Int × Int)) : kOf (sortC cs) = sortK (kOf cs) := List.map_mergeSort fun a _ b _ => rfl
theorem sortC_perm (cs : List (Str × Int × Int)) : (sortC cs).Perm cs := List.mergeSort_perm _ _
/-- what a link of a house keeps -/
def okC (c : Str × Int × Int) : Prop := (c.1 = "up" ∨ c.1 = "over") ∧ 0 ≤ c.2.1 ∧ c.2.1 < 1000 ∧ 0 ≤ c.2.2 ∧ c.2.2 < 1000
theorem valid_lens {ls gs : List Int} {cs : List (Str × Int × Int)} (v : Valid ls gs cs) : (∀ n ∈ ls, 1 ≤ n ∧ n ≤ 40) ∧ ∀ n ∈ gs, 1 ≤ n ∧ n ≤ 40 := by
  refine ⟨v.lens, fun x hx => ?_⟩
  have z := List.all_eq_true.mp v.2.1.2 x hx
  unfold longN at z
  rw [Bool.and_eq_true, decide_eq_true_eq, decide_eq_true_eq] at z
  exact z
theorem valid_okC {ls gs : List Int} {cs : List (Str × Int × Int)} (v : Valid ls gs cs) {c : Str × Int × Int} (hc : c ∈ cs) : okC c := by
  have e := v.2.2.2.2 c hc
  have hL := v.lens
  have h2 := v.1.1.2
  have hg := v.2.1.1
  have t80 := hL.top h2
  obtain ⟨x, a, h⟩ := c
  unfold isLk at e
  by_cases hx : x = "up"
  · rw [if_pos hx] at e
    simp only [Bool.and_eq_true, decide_eq_true_eq] at e
    obtain ⟨⟨e1, e2⟩, e3, e4⟩ := e
    exact ⟨.inl hx, e1, by show a < 1000; omega, e3, by show h < 1000; omega⟩
  · rw [if_neg hx] at e
    simp only [Bool.and_eq_true, decide_eq_true_eq] at e
    obtain ⟨e0, ⟨e1, e2⟩, e3⟩ := e
    have c12 := hL.cross e3
    exact ⟨.inr e0, e1, by show a < 1000; omega, c12.1, by show h < 1000; omega⟩
theorem cl_S {x : Str} (h : x = "up" ∨ x = "over") : ("closed " : Str) ++ x = S (clW ++ [32] ++ wdL x) := by
  rcases h with rfl | rfl <;> decide +kernel
theorem rowL_len {hd : List Nat} {ns : List Int} (h1 : hd.length ≤ 20) (h2 : ∀ n ∈ ns, 0 ≤ n ∧ n < 100000) (h3 : ns.length ≤ 20) : (rowL hd ns).length ≤ 1000 := by
  unfold rowL
  have z := joinL_len (sep := [32]) (m := 20) (by decide) (ps := hd :: ns.map dg) fun y hy => by
    rcases List.mem_cons.mp hy with rfl | hy
    · exact h1
    · obtain ⟨n, hn, rfl⟩ := List.mem_map.mp hy
      have := dg_len (n := n) (k := 5) (by decide) (by have := (h2 n hn).2; omega)
      omega
  rw [List.length_cons, List.length_map] at z
  omega
theorem okC.nums {c : Str × Int × Int} (h : okC c) : ∀ n ∈ [c.2.1, c.2.2], 0 ≤ n ∧ n < 100000 := fun n hn => by
  obtain ⟨_, a, b, d, e⟩ := h
  rcases List.mem_cons.mp hn with rfl | hn
  · omega
  · rw [List.mem_singleton] at hn
    omega
theorem wdL_len (x : Str) : (wdL x).length ≤ 4 := by
  unfold wdL
  split <;> decide
theorem head_len (x : Str) : (clW ++ [32] ++ wdL x).length ≤ 20 := by
  have := wdL_len x
  rw [List.length_append]
  show 7 + (wdL x).length ≤ 20
  omega
theorem rowsH_len {ls gs : List Int} {cs : List (Str × Int × Int)} (h1 : ∀ n ∈ ls, 1 ≤ n ∧ n ≤ 40) (h2 : ∀ n ∈ gs, 1 ≤ n ∧ n ≤ 40) (l1 : ls.length ≤ 2) (l2 : gs.length ≤ 11) (h3 : ∀ c ∈ cs, okC c) : ∀ y ∈ rowsH ls gs cs, y.length ≤ 1000 := fun y hy => by
  rcases List.mem_cons.mp hy with rfl | hy
  · exact rowL_len (by decide) (fun n hn => by have := h1 n hn; omega) (by omega)
  · rcases List.mem_cons.mp hy with rfl | hy
    · exact rowL_len (by decide) (fun n hn => by have := h2 n hn; omega) (by omega)
    · obtain ⟨c, hc, rfl⟩ := List.mem_map.mp hy
      exact rowL_len (head_len _) (h3 c hc).nums (by show 2 ≤ 20; decide)
theorem rowsH_sum {ls gs : List Int} {cs : List (Str × Int × Int)} (h1 : ∀ n ∈ ls, 1 ≤ n ∧ n ≤ 40) (h2 : ∀ n ∈ gs, 1 ≤ n ∧ n ≤ 40) (l1 : ls.length ≤ 2) (l2 : gs.length ≤ 11) (h3 : ∀ c ∈ cs, okC c) (l3 : cs.length ≤ 200) : (((rowsH ls gs cs).map S).map (·.length)).sum + ((rowsH ls gs cs).map S).length * ("\n" : Str).length ≤ 16777216 := by
  have z := sum_len (rowsH_len h1 h2 l1 l2 h3)
  have e : (rowsH ls gs cs).length = cs.length + 2 := by
    unfold rowsH
    rw [List.length_cons, List.length_cons, List.length_map]
  rw [List.length_map, e, show ("\n" : Str).length = 1 from rfl]
  rw [e] at z
  omega
theorem lens_S : ("lengths" : Str) = S lenW := by decide +kernel
theorem gaps_S : ("gaps" : Str) = S gapW := by decide +kernel
def spFH (C : Addr) : Sp := fun vs H Q _ => ∃ (p : Addr) (ls gs : List Int) (cs : List (Str × Int × Int)), vs = [.ref p] ∧ HouseAt C H p ls gs cs ∧ ∀ H', Same H H' → Q (.str (S (houseL ls gs (sortC cs)))) H'
/-- all but the one at L stays -/
def Bt (L : Addr) (H H' : Hp) : Prop := ∀ b o, H b = some o → b ≠ L → H' b = some o
theorem Bt.refl (L : Addr) (H : Hp) : Bt L H H := fun _ _ e _ => e
theorem Bt.same {L : Addr} {H H1 H2 : Hp} (a : Bt L H H1) (b : Same H1 H2) : Bt L H H2 := fun c o e n => b c o (a c o e n)
theorem Bt.put {L : Addr} {H H1 : Hp} {u : HO} (a : Bt L H H1) : Bt L H (upd H1 L u) := fun c o e n => by
  rw [upd_ne n]
  exact a c o e n
theorem ok_fh {f fR C : Addr} {fd fdR : FuncData} (F : Fun K "format_house" "format_house" s_format_house f fd) (T : HouseTxt K mg C) (FRk : PySem.W.keepIn K (.ref fR) = true) (GR : FnOk P w K mg base CX0 1 fR fdR ["head", "numbers"] (spRowL K)) (bR : Binds K fdR ["head", "numbers"] []) (gR : mg "_row" = some (.ref fR))
    (pL : PropD P w K mg base C 1 "lengths" (spNums C fun ls _ => ls)) (pG : PropD P w K mg base C 1 "gaps" (spNums C fun _ gs => gs)) (pC : PropD P w K mg base C 2 "closed" (spClosed C)) : FnOk P w K mg base CX0 4 f fd ["house"] (spFH C) := by
  refine F.ok sc_format_house (fun vs H Q E h => ?_) (fun cdv A outer s H vs Q E hr h => ?_)
  · obtain ⟨p, ls, gs, cs, rfl, _⟩ := h
    rfl
  · obtain ⟨p, ls, gs, cs, rfl, hH, q⟩ := h
    obtain ⟨va, dx, r1, r2, r3, r4, h1, _⟩ := id hH
    have nd := sc_format_house.nd
    have hline : 1000000 < sizeLine := by decide
    obtain ⟨b1, b2⟩ := valid_lens va
    have l1 := va.1.1.2
    have l2 := va.2.1.1
    have l3 := va.2.2.1
    refine ⟨_, (pss_cons (ps_set (i := 1) nd rfl (.inl rfl) (pe_lst (pa_cons (pe_call GR (by exact hr.mono (by decide)) (by rfl) gR FRk bR .nil pass0 (pa_cons pe_str (pa_cons (pe_prop (pv 0) T.cl pL.h pL.G (by exact hr.mono (by decide)) pL.b .nil pass0 rfl) pa_nil))) (pa_cons (pe_call GR (by exact hr.mono (by decide)) (by rfl) gR FRk bR .nil pass0 (pa_cons pe_str (pa_cons (pe_prop (pv 0) T.cl pG.h pG.G (by exact hr.mono (by decide)) pG.b .nil pass0 rfl) pa_nil))) pa_nil))))
      (pss_cons (ps_for PassesOwn.never rfl (pi_list (pe_prop (pv 0) T.cl pC.h pC.G (by exact hr.mono (by decide)) pC.b .nil pass0 rfl)) (pg_tup rfl (pgs_cons (pg_name (i := 2) nd rfl (.inl rfl)) (pgs_cons (pg_name (i := 3) nd rfl (.inl rfl)) (pgs_cons (pg_name (i := 4) nd rfl (.inl rfl)) pgs_nil)))) (pss_one (ps_expr (pe_bm PySem.F.plainAttrs_list PySem.F.slot_list_append PySem.F.type_list_append mt_append (pv 1) (pa_cons (pe_call GR (by exact hr.mono (by decide)) (by rfl) gR FRk bR .nil pass0 (pa_cons (pe_joined (PJ.cons pe_str (PJ.cons (pe_fmt (pv 2)) PJ.nil))) (pa_cons (pe_lst (pa_cons (pv 3) (pa_cons (pv 4) pa_nil))) pa_nil))) pa_nil)))))
      (pss_one (ps_ret (pe_join pe_str (pv 1)))))), ?_⟩
    refine ⟨_, rfl, p, dx, _, rfl, h1, p, ls, gs, cs, rfl, hH, fun m1 n1 => ?_⟩
    obtain ⟨H1, e1, k1, g1⟩ := made (o := .lst (ls.map V.int)) n1
    rw [e1]
    refine ⟨lenW, m1, ls, (by rw [lens_S]; rfl), SqL.of g1, (fun n hn => by have := b1 n hn; omega), (by decide), (by omega), fun H2 k2 => ?_⟩
    have k02 := k1.trans k2
    refine ⟨_, rfl, p, dx, _, rfl, k02 _ _ h1, p, ls, gs, cs, rfl, hH.kp (kpS k02), fun m2 n2 => ?_⟩
    obtain ⟨H3, e3, k3, g3⟩ := made (o := .lst (gs.map V.int)) n2
    rw [e3]
    refine ⟨gapW, m2, gs, (by rw [gaps_S]; rfl), SqL.of g3, (fun n hn => by have := b2 n hn; omega), (by decide), (by omega), fun H4 k4 => ?_⟩
    have k04 := (k02.trans k3).trans k4
    refine ⟨(by show 2 ≤ sizeLine; decide), fun L nL => ?_⟩
    have kL : Same H4 (upd H4 L (.lst [.str (S (rowL lenW ls)), .str (S (rowL gapW gs))])) := same_upd nL
    have k05 := k04.trans kL
    have gL5 : (upd H4 L (.lst [.str (S (rowL lenW ls)), .str (S (rowL gapW gs))])) L = some (.lst [.str (S (rowL lenW ls)), .str (S (rowL gapW gs))]) := upd_same
    generalize upd H4 L (.lst [.str (S (rowL lenW ls)), .str (S (rowL gapW gs))]) = H5 at *
    refine ⟨_, rfl, p, dx, _, rfl, k05 _ _ h1, p, ls, gs, cs, rfl, hH.kp (kpS k05), fun r ys nr hys => ?_⟩
    obtain ⟨H6, e6, k6, g6⟩ := made (o := .lst ys) nr
    rw [e6]
    rw [← kOf_sortC] at hys
    have hysl : ys.length = (sortC cs).length := hys.len.trans (List.length_map _)
    have gL6 := k6 _ _ gL5
    have scl : (sortC cs).length = cs.length := (sortC_perm cs).length_eq
    have oks : ∀ c ∈ sortC cs, okC c := fun c hc => valid_okC va ((sortC_perm cs).mem_iff.mp hc)
    refine ⟨r, rfl, ⟨_, SqL.of g6⟩, ?_⟩
    have rL : r ≠ L := fun z => by
      rw [z, gL5] at nr
      cases nr
    refine for_list (K := K) (a := r) (xs := ys) (fun i σ H' => ∃ (v2 v3 v4 : Option V), σ = [some (.ref p), some (.ref L), v2, v3, v4] ∧ Bt L H6 H' ∧ H' L = some (.lst ((rowsH ls gs ((sortC cs).take i)).map fun y => V.str (S y)))) ?_ ?_ ?_ ?_
    · exact ⟨none, none, none, rfl, Bt.refl _ _, gL6⟩
    · rintro i σ H' _ ⟨_, _, _, _, bt, hl⟩
      exact SqL.of (bt _ _ g6 rL)
    · rintro i x σ H' hx ⟨v2, v3, v4, rfl, bt, hl⟩
      obtain ⟨kk, hkk, t, rfl, ht0⟩ := (hys.same k6).at hx
      unfold kOf at hkk
      rw [List.getElem?_map] at hkk
      cases hc : (sortC cs)[i]? with
      | none => rw [hc] at hkk; cases hkk
      | some c =>
        rw [hc] at hkk
        cases hkk
        have ht := bt _ _ ht0 fun z => by
          rw [z, gL6] at ht0
          cases ht0
        have okc := oks c (List.mem_of_getElem? hc)
        have il : i < (sortC cs).length := (List.getElem?_eq_some_iff.mp hc).1
        have tk : (sortC cs).take (i + 1) = (sortC cs).take i ++ [c] := by
          rw [List.take_add_one, hc]
          rfl
        have wlen : c.1.length ≤ 4 := by
          rcases okc.1 with e | e <;> rw [e] <;> decide
        have hw := cl_S okc.1
        refine ⟨t, _, rfl, SqT.of ht, rfl, _, _, rfl, _, _, rfl, _, _, rfl, rfl, ?_⟩
        refine ⟨_, rfl, .inl ⟨rfl, _, SqL.of hl⟩, ?_⟩
        have ew : Str.empty ++ ("closed " : Str) ++ c.1 = S (clW ++ [32] ++ wdL c.1) := by
          rw [← hw]
          rcases okc.1 with e | e <;> rw [e] <;> decide +kernel
        have hl20 := head_len c.1
        refine ⟨_, rfl, by decide, _, rfl, .inl ⟨c.1, rfl, by omega, c.1, rfl, ?_, ?_⟩⟩
        · rw [ew, S_len]
          omega
        refine ⟨_, rfl, _, rfl, (by show 2 ≤ sizeLine; decide), fun m nm => ?_⟩
        obtain ⟨H7, e7, k7, g7⟩ := made (o := .lst ([c.2.1, c.2.2].map V.int)) nm
        have e7' : upd H' m (.lst [kV (.inl c.2.1), kV (.inl c.2.2)]) = H7 := e7
        rw [e7']
        refine ⟨clW ++ [32] ++ wdL c.1, m, [c.2.1, c.2.2], (by rw [ew]; rfl), SqL.of g7, okc.nums, by omega, (by show 2 ≤ 1000; decide), fun H8 k8 => ?_⟩
        have hl8 := k8 _ _ (k7 _ _ hl)
        refine ⟨L, _, _, rfl, rfl, hl8, ?_, ?_⟩
        · rw [List.length_map]
          unfold rowsH
          rw [List.length_cons, List.length_cons, List.length_map, List.length_take]
          omega
        refine ⟨_, _, _, rfl, ((bt.same k7).same k8).put, ?_⟩
        rw [upd_same, tk]
        unfold rowsH
        rw [List.map_append, List.map_cons, List.map_cons, List.map_cons, List.map_cons, List.map_append]
        rfl
    · rintro σ H' ⟨v2, v3, v4, rfl, bt, hl⟩
      have kF : Same H H' := fun b o e => bt _ _ (k6 _ _ (k05 b o e)) fun z => by
        have z2 := k04 b o e
        rw [z, nL] at z2
        cases z2
      rw [show ys.length = (sortC cs).length from hysl, List.take_length] at hl
      refine ⟨⟨_, rfl⟩, _, rfl, _, L, (rowsH ls gs (sortC cs)).map S, rfl, rfl, .inl (SqL.of (by rw [List.map_map]; exact hl)), rowsH_sum b1 b2 l1 l2 oks (by omega), ?_⟩
      rw [nl_S, join_S]
      exact q H' kF
end
open SX
section
open GxR NdefX PySem.Spec PyProof.Rows
variable {P : Program} {w : World} {K : PySem.W.Frag} {mg : Str → Option Value} {base : Heap}
theorem kOf_snoc1 (cs : List (Str × Int × Int)) (c : Str × Int × Int) : kOf (cs ++ [c]) = kOf cs ++ [lk c.1 c.2.1 c.2.2] := by
  unfold kOf
  rw [List.map_append]
  rfl
theorem valid_more {ls gs : List Int} {cs : List (Str × Int × Int)} {c : Str × Int × Int} (va : Valid ls gs cs) (h1 : isLk ls gs c.1 c.2.1 c.2.2 = true) (h2 : lk c.1 c.2.1 c.2.2 ∉ kOf cs) (h3 : cs.length < 200) : Valid ls gs (sortC cs ++ [c]) := by
  obtain ⟨v1, v2, v3, v4, v5⟩ := va
  refine ⟨v1, v2, ?_, ?_, fun x hx => ?_⟩
  · rw [List.length_append, (sortC_perm cs).length_eq]
    show cs.length + 1 ≤ 200
    omega
  · rw [kOf_snoc1, kOf_sortC]
    refine List.nodup_append.mpr ⟨(sortK_perm _).nodup_iff.mpr v4, by simp, fun y hy y' hy' e => h2 ?_⟩
    rw [List.mem_singleton.mp hy'] at e
    rw [← e]
    exact (sortK_perm _).mem_iff.mp hy
  · rcases List.mem_append.mp hx with z | z
    · exact v5 x ((sortC_perm cs).mem_iff.mp z)
    · rw [List.mem_singleton.mp z]
      exact h1
def spSameH (C : Addr) : Sp := fun vs H Q _ => ∃ (p r : Addr) (ls gs : List Int) (cs cs' : List (Str × Int × Int)), vs = [.ref p, .ref r] ∧ HouseAt C H p ls gs cs ∧ HouseAt C H r ls gs cs' ∧ sortK (kOf cs) = sortK (kOf cs') ∧ ∀ H', Same H H' → Q (.bl true) H'
def t3 (ls gs : List Int) (ks : List Tk) : PyData := .tuple [dN ls, dN gs, dKs ks]
theorem eqv_t3 (ls gs : List Int) (ks : List Tk) : PyData.eqv (t3 ls gs ks) (t3 ls gs ks) = true := by
  show PyData.eqvAll [dN ls, dN gs, dKs ks] [dN ls, dN gs, dKs ks] = true
  simp only [PyData.eqvAll, eqv_dN, eqv_dKs, decide_true, Bool.and_true]
theorem sh_t3 {ls gs : List Int} {ks : List Tk} (h : ∀ k ∈ ks, okk k = true) : SeqAt.shaped (t3 ls gs ks) = true := sh_d3 h
theorem ok_sameH {f C : Addr} {fd : FuncData} (F : Fun K "same_as" "House.same_as" s_House_same_as f fd) (T : HouseTxt K mg C) (pL : PropD P w K mg base C 1 "lengths" (spNums C fun ls _ => ls)) (pG : PropD P w K mg base C 1 "gaps" (spNums C fun _ gs => gs)) (pC : PropD P w K mg base C 2 "closed" (spClosed C)) :
    FnOk P w K mg base CX0 4 f fd ["self", "other"] (spSameH C) := by
  refine F.ok sc_House_same_as (fun vs H Q E h => ?_) (fun cdv A outer s H vs Q E hr h => ?_)
  · obtain ⟨p, r, ls, gs, cs, cs', rfl, _⟩ := h
    rfl
  · obtain ⟨p, r, ls, gs, cs, cs', rfl, hH, hR, hk, q⟩ := h
    obtain ⟨va, dx, _, _, _, _, h1, _⟩ := id hH
    obtain ⟨va', dx', _, _, _, _, h1', _⟩ := id hR
    have nd := sc_House_same_as.nd
    refine ⟨_, (pss_one (ps_ret (pe_cmpR (op_eqD (by exact hr.units)) (pe_tup (pa_cons (pe_prop (pv 0) T.cl pL.h pL.G (by exact hr.mono (by decide)) pL.b .nil pass0 rfl) (pa_cons (pe_prop (pv 0) T.cl pG.h pG.G (by exact hr.mono (by decide)) pG.b .nil pass0 rfl) (pa_cons (pe_prop (pv 0) T.cl pC.h pC.G (by exact hr.mono (by decide)) pC.b .nil pass0 rfl) pa_nil)))) (pe_tup (pa_cons (pe_prop (pv 1) T.cl pL.h pL.G (by exact hr.mono (by decide)) pL.b .nil pass0 rfl) (pa_cons (pe_prop (pv 1) T.cl pG.h pG.G (by exact hr.mono (by decide)) pG.b .nil pass0 rfl) (pa_cons (pe_prop (pv 1) T.cl pC.h pC.G (by exact hr.mono (by decide)) pC.b .nil pass0 rfl) pa_nil)))) (nomark _)))), ?_⟩
    refine ⟨_, rfl, p, dx, _, rfl, h1, p, ls, gs, cs, rfl, hH, fun m1 n1 => ?_⟩
    obtain ⟨H1, e1, k1, g1⟩ := made (o := .lst (ls.map V.int)) n1
    rw [e1]
    refine ⟨_, rfl, p, dx, _, rfl, k1 _ _ h1, p, ls, gs, cs, rfl, hH.kp (kpS k1), fun m2 n2 => ?_⟩
    obtain ⟨H2, e2, k2, g2⟩ := made (o := .lst (gs.map V.int)) n2
    rw [e2]
    have k02 := k1.trans k2
    refine ⟨_, rfl, p, dx, _, rfl, k02 _ _ h1, p, ls, gs, cs, rfl, hH.kp (kpS k02), fun m3 ys n3 hys => ?_⟩
    obtain ⟨H3, e3, k3, g3⟩ := made (o := .lst ys) n3
    rw [e3]
    refine ⟨(by show 3 ≤ sizeLine; decide), fun t nt => ?_⟩
    obtain ⟨H4, e4, k4, g4⟩ := made (o := .tup [V.ref m1, .ref m2, .ref m3]) nt
    rw [e4]
    have k04 := (k02.trans k3).trans k4
    refine ⟨_, rfl, r, dx', _, rfl, k04 _ _ h1', r, ls, gs, cs', rfl, hR.kp (kpS k04), fun m5 n5 => ?_⟩
    obtain ⟨H5, e5, k5, g5⟩ := made (o := .lst (ls.map V.int)) n5
    rw [e5]
    have k05 := k04.trans k5
    refine ⟨_, rfl, r, dx', _, rfl, k05 _ _ h1', r, ls, gs, cs', rfl, hR.kp (kpS k05), fun m6 n6 => ?_⟩
    obtain ⟨H6, e6, k6, g6⟩ := made (o := .lst (gs.map V.int)) n6
    rw [e6]
    have k06 := k05.trans k6
    refine ⟨_, rfl, r, dx', _, rfl, k06 _ _ h1', r, ls, gs, cs', rfl, hR.kp (kpS k06), fun m7 zs n7 hzs => ?_⟩
    obtain ⟨H7, e7, k7, g7⟩ := made (o := .lst zs) n7
    rw [e7]
    refine ⟨(by show 3 ≤ sizeLine; decide), fun t' nt' => ?_⟩
    obtain ⟨H8, e8, k8, g8⟩ := made (o := .tup [V.ref m5, .ref m6, .ref m7]) nt'
    rw [e8]
    have k48 := ((k5.trans k6).trans k7).trans k8
    have k38 := k4.trans k48
    have hok : ∀ k ∈ sortK (kOf cs), okk k = true := fun k hk => okk_valid va k ((sortK_perm _).mem_iff.mp hk)
    have hys8 := (hys.same k3).same k38
    have hzs8 := (hzs.same k7).same k8
    rw [← hk] at hzs8
    refine ⟨t3 ls gs (sortK (kOf cs)), t3 ls gs (sortK (kOf cs)), .tup (SqT.of (k48 _ _ g4)) (.cons (dp_dN (SqL.of ((k2.trans (k3.trans k38)) _ _ g1))) (.cons (dp_dN (SqL.of ((k3.trans k38) _ _ g2))) (.cons (hys8.dl (SqL.of (k38 _ _ g3))) .nil))),
      .tup (SqT.of g8) (.cons (dp_dN (SqL.of (((k6.trans k7).trans k8) _ _ g5))) (.cons (dp_dN (SqL.of ((k7.trans k8) _ _ g6))) (.cons (hzs8.dl (SqL.of (k8 _ _ g7))) .nil))), sh_t3 hok, sh_t3 hok, ?_⟩
    rw [eqv_t3]
    exact q H8 (k04.trans k48)
end
open SX
section
open GxR NdefX PySem.Spec PyProof.Rows
variable {P : Program} {w : World} {K : PySem.W.Frag} {mg : Str → Option Value} {base : Heap}
theorem dg32 (n : Int) : 32 ∉ dg n := TL.numL_free (by decide)
theorem split_row {w : List Nat} {ns : List Int} (hw : 32 ∉ w) : Txt.split (S (rowL w ns)) (S [32]) = (w :: ns.map dg).map S := by
  refine split_joinL (by decide) (by simp) fun y hy => ?_
  rcases List.mem_cons.mp hy with rfl | hy
  · exact hw
  · obtain ⟨n, _, rfl⟩ := List.mem_map.mp hy
    exact dg32 n
theorem all_num {ns : List Int} (h : ∀ n ∈ ns, 0 ≤ n ∧ n < 10000) : ((ns.map dg).map S).all isNum = true ∧ ((ns.map dg).map S).map numV = ns := by
  refine ⟨List.all_eq_true.mpr fun x hx => ?_, ?_⟩
  · obtain ⟨y, hy, rfl⟩ := List.mem_map.mp hx
    obtain ⟨n, hn, rfl⟩ := List.mem_map.mp hy
    exact (isNum_dg (h n hn).1 (h n hn).2).1
  · rw [List.map_map, List.map_map]
    refine (List.map_congr_left (g := id) fun n hn => ?_).trans (List.map_id _)
    exact (isNum_dg (h n hn).1 (h n hn).2).2
theorem get_line {ls : List Str} {n : Nat} {z : Str} (hn : ls[n - 1]? = some z) : ls.getD (n - 1) Str.empty = z := by
  rw [List.getD_eq_getElem?_getD, hn]
  rfl
theorem nums_row {ls : List Str} {n : Nat} {w : List Nat} {ns : List Int} (hw : 32 ∉ w) (h : ∀ n ∈ ns, 0 ≤ n ∧ n < 10000) (h1 : 1 ≤ n) (hn : ls[n - 1]? = some (S (rowL w ns))) : numsIn ls n [S w] = some ns := by
  have hlt := (List.getElem?_eq_some_iff.mp hn).1
  obtain ⟨a1, a2⟩ := all_num h
  unfold numsIn
  rw [if_neg (by omega), get_line hn, split_row hw]
  show (if [S w] = [S w] ∧ ((ns.map dg).map S).all isNum = true then some (((ns.map dg).map S).map numV) else none) = _
  rw [a1, a2, if_pos ⟨rfl, rfl⟩]
theorem clL_eq (c : Str × Int × Int) : clL c = TL.joinL [32] [clW, wdL c.1, dg c.2.1, dg c.2.2] := by
  show (clW ++ [32] ++ wdL c.1) ++ ([32] ++ (dg c.2.1 ++ ([32] ++ dg c.2.2))) = clW ++ ([32] ++ (wdL c.1 ++ ([32] ++ (dg c.2.1 ++ ([32] ++ dg c.2.2)))))
  simp only [List.append_assoc]
theorem wdL_free {c : Nat} (h : c ≤ 32) (x : Str) : c ∉ wdL x := fun m => by
  have z : ∀ y ∈ wdL x, 32 < y := by
    unfold wdL
    split <;> decide
  have := z c m
  omega
theorem nums_cl {ls : List Str} {n : Nat} {c : Str × Int × Int} (hc : okC c) (h1 : 1 ≤ n) (hn : ls[n - 1]? = some (S (clL c))) : numsIn ls n [S clW, S (wdL c.1)] = some [c.2.1, c.2.2] := by
  have hlt := (List.getElem?_eq_some_iff.mp hn).1
  have hs : Txt.split (S (clL c)) (S [32]) = [S clW, S (wdL c.1), S (dg c.2.1), S (dg c.2.2)] := by
    rw [clL_eq]
    refine split_joinL (by decide) (by simp) fun y hy => ?_
    simp only [List.mem_cons, List.mem_nil_iff, or_false] at hy
    rcases hy with rfl | rfl | rfl | rfl
    · decide
    · exact wdL_free (by decide) _
    · exact dg32 _
    · exact dg32 _
  obtain ⟨_, a0, a1, b0, b1⟩ := hc
  obtain ⟨na, va⟩ := isNum_dg a0 (by omega)
  obtain ⟨nb, vb⟩ := isNum_dg b0 (by omega)
  unfold numsIn
  rw [if_neg (by omega), get_line hn, hs]
  show (if [S clW, S (wdL c.1)] = [S clW, S (wdL c.1)] ∧ (isNum (S (dg c.2.1)) && (isNum (S (dg c.2.2)) && true)) = true then some [numV (S (dg c.2.1)), numV (S (dg c.2.2))] else none) = _
  rw [na, nb, va, vb, if_pos ⟨rfl, rfl⟩]
theorem over_S : ("closed over" : Str) = S (clW ++ [32] ++ [111, 118, 101, 114]) := by decide +kernel
/-- which of the two words a line has -/
theorem starts_cl {c : Str × Int × Int} (hc : okC c) : Txt.startswith (S (clL c)) ("closed over" : Str) = decide (c.1 = "over") := by
  rw [over_S, starts_S]
  obtain ⟨h, _⟩ := hc
  have e : clL c = (clW ++ [32] ++ wdL c.1) ++ ([32] ++ (dg c.2.1 ++ ([32] ++ dg c.2.2))) := rfl
  rw [e]
  rcases h with h | h <;> rw [h]
  · rw [decide_eq_false (by decide +kernel)]
    show (([99, 108, 111, 115, 101, 100, 32, 117, 112, 32] ++ (dg c.2.1 ++ ([32] ++ dg c.2.2))).take 11 == [99, 108, 111, 115, 101, 100, 32, 111, 118, 101, 114]) = false
    rfl
  · rw [decide_eq_true rfl]
    show (([99, 108, 111, 115, 101, 100, 32, 111, 118, 101, 114] ++ ([32] ++ (dg c.2.1 ++ ([32] ++ dg c.2.2)))).take 11 == [99, 108, 111, 115, 101, 100, 32, 111, 118, 101, 114]) = true
    rfl
theorem word_S {x : Str} (h : x = "up" ∨ x = "over") : x = S (wdL x) ∧ (if x = "over" then ("over" : Str) else "up") = x := by
  rcases h with rfl | rfl
  · exact ⟨by decide +kernel, if_neg (by decide +kernel)⟩
  · exact ⟨by decide +kernel, if_pos rfl⟩
theorem clw_S : ("closed" : Str) = S clW := by decide +kernel
end
section
open GxR NdefX PySem.Spec PyProof.Rows
variable {P : Program} {w : World} {K : PySem.W.Frag} {mg : Str → Option Value} {base : Heap}
def spParts (K : PySem.W.Frag) : Sp := fun vs H Q _ => ∃ (n : Addr) (ns : List Int) (a : Nat), vs = [.ref n, .int (a : Int)] ∧ SqL K H n (ns.map V.int) ∧ Small ns ∧ a + 24 ≤ ns.length ∧
  ∀ (H' : Hp) (p l g c : Addr) (ls gs : List Int) (xs : List V) (cs : List (Str × Int × Int)), Same H H' → H p = none → H' p = some (.tup [.ref l, .ref g, .ref c]) → H l = none → H g = none → H c = none →
    H' l = some (.lst (ls.map V.int)) → H' g = some (.lst (gs.map V.int)) → H' c = some (.lst xs) → Krs H' xs (kOf cs) → Valid ls gs cs → gs.length ≤ 4 → cs.length ≤ 6 → Q (.ref p) H'
theorem ok_parts {f : Addr} {fd : FuncData} (F : Fun K "_law_parts" "_law_parts" s__law_parts f fd) (Z : LawTop mg) : FnOk P w K mg base CX0 1 f fd ["numbers", "at"] (spParts K) := by
  refine F.ok sc__law_parts (fun vs H Q E h => ?_) (fun cdv A outer s H vs Q E hr h => ?_)
  · obtain ⟨n, ns, a, rfl, _⟩ := h
    rfl
  · obtain ⟨n, ns, a, rfl, hn, hs, ha, q⟩ := h
    have nd := sc__law_parts.nd
    have num : ∀ {σ : L2.St} {H' : Hp} {te : TE} {i : Int}, Same H H' → σ[0]? = some (some (V.ref n)) → Tells te σ H' (.int i) → 0 ≤ i → i < ns.length →
        Tells (tCB (fun xs H Q => (∃ i, xs = [.int i] ∧ Q (.int i) H) ∨ ∃ k, xs = [.bl k] ∧ Q (.int (if k then 1 else 0)) H) (tCons (tOp (rIxL K) (tVar 0) te) tNil)) σ H' (.int (nth ns i)) :=
      fun k e t h0 h1 => tells_int (tells_ix (tells_var e) t (k.seq hn) h0 h1)
    refine ⟨_, (pss_cons (ps_set (i := 2) nd rfl (.inr rfl) (pe_ix ix_list (pe_lst (pa_cons pe_int (pa_cons pe_int (pa_cons pe_int (pa_cons pe_int pa_nil))))) (pe_op op_mod (pe_callTy call_int1 (by rfl) Z.int (by decide +kernel) (pa_cons (pe_ix ix_list (pv 0) (pv 1) (fun _ _ => rfl)) pa_nil)) pe_int) (fun _ _ => rfl)))
      (pss_cons (ps_setLc (i := 3) (own := [("k", 6)]) (g := gName 6) (tt := _) rfl nd rfl rfl rfl (pi_range1 rfl Z.range (pa_cons (pe_op op_add pe_int (pe_op op_mod (pe_op op_fdiv (pe_callTy call_int1 (by rfl) Z.int (by decide +kernel) (pa_cons (pe_ix ix_list (pv 0) (pv 1) (fun _ _ => rfl)) pa_nil)) pe_int) pe_int)) pa_nil)) (blkOk_by (N := ["numbers", "at", "most", "lengths", "gaps", "closed", "k", "aisle", "spot", "link"]) (sc := defScope s__law_parts) (by decide +kernel)) (fun _ _ _ _ _ => pg_name (i := 6) nd rfl (Or.inl rfl)) (fun _ _ _ _ _ => pts_nil) (fun _ _ _ _ _ => (pe_op op_add pe_int (pe_op op_mod (pe_callTy call_int1 (by rfl) Z.int (by decide +kernel) (pa_cons (pe_ix (r := rIxL K) ix_list (pv 0) (pe_op op_add (pe_op op_add (pv 1) pe_int) (pv 6)) (fun _ _ => rfl)) pa_nil)) (pv 2)))))
      (pss_cons (ps_setLc (i := 4) (own := [("k", 6)]) (g := gName 6) (tt := _) rfl nd rfl rfl rfl (pi_range1 rfl Z.range (pa_cons (pe_op op_mod (pe_op op_fdiv (pe_callTy call_int1 (by rfl) Z.int (by decide +kernel) (pa_cons (pe_ix ix_list (pv 0) (pv 1) (fun _ _ => rfl)) pa_nil)) pe_int) pe_int) pa_nil)) (blkOk_by (N := ["numbers", "at", "most", "lengths", "gaps", "closed", "k", "aisle", "spot", "link"]) (sc := defScope s__law_parts) (by decide +kernel)) (fun _ _ _ _ _ => pg_name (i := 6) nd rfl (Or.inl rfl)) (fun _ _ _ _ _ => pts_nil) (fun _ _ _ _ _ => (pe_op op_add pe_int (pe_op op_mod (pe_callTy call_int1 (by rfl) Z.int (by decide +kernel) (pa_cons (pe_ix (r := rIxL K) ix_list (pv 0) (pe_op op_add (pe_op op_add (pv 1) pe_int) (pv 6)) (fun _ _ => rfl)) pa_nil)) (pv 2)))))
      (pss_cons (ps_set (i := 5) nd rfl (.inl rfl) (pe_lst pa_nil))
      (pss_cons (ps_for PassesOwn.never rfl (pi_range1 rfl Z.range (pa_cons (pe_callB (call_max2 rfl) (by rfl) Z.max (by decide +kernel) (pa_cons pe_int (pa_cons (pe_op op_sub (pe_op op_mod (pe_callTy call_int1 (by rfl) Z.int (by decide +kernel) (pa_cons (pe_ix ix_list (pv 0) (pe_op op_add (pv 1) pe_int) (fun _ _ => rfl)) pa_nil)) pe_int) pe_int) pa_nil))) pa_nil)) (pg_name (i := 6) nd rfl (.inl rfl)) (pss_cons (ps_set (i := 7) nd rfl (.inl rfl) (pe_op op_mod (pe_callTy call_int1 (by rfl) Z.int (by decide +kernel) (pa_cons (pe_ix ix_list (pv 0) (pe_op op_add (pe_op op_add (pv 1) pe_int) (pe_op op_mul pe_int (pv 6))) (fun _ _ => rfl)) pa_nil)) (pe_op op_add (pe_callB call_len (by rfl) Z.len (by decide +kernel) (pa_cons (pv 4) pa_nil)) pe_int)))
      (pss_cons (ps_set (i := 8) nd rfl (.inl rfl) (pe_callTy call_int1 (by rfl) Z.int (by decide +kernel) (pa_cons (pe_ix ix_list (pv 0) (pe_op op_add (pe_op op_add (pv 1) pe_int) (pe_op op_mul pe_int (pv 6))) (fun _ _ => rfl)) pa_nil)))
      (pss_cons (ps_set (i := 9) nd rfl (.inl rfl) (pe_tup (pa_cons pe_str (pa_cons (pv 7) (pa_cons (pe_op op_mod (pe_op op_fdiv (pv 8) pe_int) (pe_callB (cr_sum rfl) (by rfl) Z.sum (by decide +kernel) (pa_cons (pv 3) pa_nil))) pa_nil)))))
      (pss_cons (ps_if (PW.pt (pw_and (pt_cmpR op_eq (pe_op op_mod (pe_callTy call_int1 (by rfl) Z.int (by decide +kernel) (pa_cons (pv 8) pa_nil)) pe_int) pe_int (nomark _)) (pw_and1 (pt_cmpR op_lt (pv 7) (pe_callB call_len (by rfl) Z.len (by decide +kernel) (pa_cons (pv 4) pa_nil)) (nomark _))))) (pss_one (ps_set (i := 9) nd rfl (.inl rfl) (pe_tup (pa_cons pe_str (pa_cons (pv 7) (pa_cons (pe_callB (cr_sum rfl) (by rfl) Z.sum (by decide +kernel) (pa_cons (pe_slice sl_list (pv 3) po_none (po_some (pe_op op_mod (pe_op op_fdiv (pv 8) pe_int) (pe_op op_add (pe_callB call_len (by rfl) Z.len (by decide +kernel) (pa_cons (pv 3) pa_nil)) pe_int)))) pa_nil)) pa_nil)))))) pss_nil)
      (pss_one (ps_if (pt_cmpR (op_notInD (room65 hr)) (pv 9) (pv 5) (by rfl)) (pss_one (ps_expr (pe_bm PySem.F.plainAttrs_list PySem.F.slot_list_append PySem.F.type_list_append mt_append (pv 5) (pa_cons (pv 9) pa_nil)))) pss_nil)))))))
      (pss_one (ps_ret (pe_tup (pa_cons (pv 3) (pa_cons (pv 4) (pa_cons (pv 5) pa_nil))))))))))), ?_⟩
    have a0 : (0 : Int) ≤ (a : Int) := Int.natCast_nonneg a
    have sm := nth_small hs
    have at_ : ∀ {i : Int}, 0 ≤ i → i < ns.length → atI (ns.map V.int) i = some (V.int (nth ns i)) := fun h0 h1 => atI_nth h0 h1
    refine ⟨by show 4 ≤ sizeLine; decide, fun m nm => ?_⟩
    obtain ⟨H1, e1, k1, g1⟩ := made (o := .lst [V.int 4, V.int 9, V.int 12, V.int 40]) nm
    obtain ⟨mo, hmo, mo1, mo2⟩ := pick4 (z := nth ns a % 4) (Int.emod_nonneg _ (by decide)) (Int.emod_lt_of_pos _ (by decide))
    refine Tells.go (tells_I (num (same_upd nm) rfl (tells_var rfl) a0 (by omega)) tells_c (by decide)) ⟨m, _, _, _, rfl, rfl, SqL.of upd_same, hmo, ?_⟩
    have e1' : upd H m (.lst [V.int 4, V.int 9, V.int 12, V.int 40]) = H1 := e1
    rw [e1']
    -- lengths
    have d0 := sm a
    have m1 := Int.emod_nonneg (nth ns a / 4) (show (2 : Int) ≠ 0 by decide)
    have m2 := Int.emod_lt_of_pos (nth ns a / 4) (show (0 : Int) < 2 by decide)
    refine ⟨_, rfl, _, rfl, n, _, _, _, rfl, rfl, k1.seq hn, at_ a0 (by omega), .inl ⟨_, rfl, _, _, rfl, rfl, ⟨by decide, by decide⟩, _, _, rfl, rfl, (by show (0 : Int) < 2; decide), _, _, rfl, rfl, _, rfl, by omega, by omega, fun D nD => ?_⟩⟩
    refine lc_range (lo := 0) (n := (1 + nth ns a / 4 % 2).toNat) (fun i H' => ∃ ls : List Int, H' = upd H1 D (.lst (ls.map V.int)) ∧ ls.length = i ∧ Lens ls) ?_ ?_ ?_
    · exact ⟨[], rfl, rfl, fun x z => nomatch z⟩
    · rintro i H' hi ⟨ls, rfl, hll, hL⟩
      have z0 := sm (a + 1 + (0 + (i : Int)))
      have z1 := Int.emod_nonneg (nth ns (a + 1 + (0 + (i : Int)))) (show mo ≠ 0 by omega)
      have z2 := Int.emod_lt_of_pos (nth ns (a + 1 + (0 + (i : Int)))) (show 0 < mo by omega)
      refine ⟨rfl, ?_⟩
      refine ⟨_, rfl, _, rfl, _, _, rfl, rfl, _, rfl, _, _, rfl, rfl, n, _, _, _, rfl, rfl, (k1.trans (same_upd nD)).seq hn, at_ (by omega) (by omega), .inl ⟨_, rfl, _, rfl, _, _, rfl, rfl, (by show 0 < mo; omega), _, _, rfl, rfl, _, upd_same, ?_, ls ++ [1 + nth ns (a + 1 + (0 + (i : Int))) % mo], ?_, ?_, hL.snoc (by omega) (by omega)⟩⟩
      · rw [List.length_map, sizeLine_eq]
        omega
      · rw [upd_upd, List.map_append]
        rfl
      · rw [List.length_append, hll]
        rfl
    · rintro H' ⟨ls, rfl, hll, hL⟩
      have hl2 : 1 ≤ ls.length ∧ ls.length ≤ 2 := by omega
      obtain ⟨H2, e2, k2', g2⟩ := made (o := .lst (ls.map V.int)) nD
      have nH : H D = none := k1.free nD
      have k2 : Same H H2 := k1.trans k2'
      rw [e2]
      -- gaps
      refine ⟨_, rfl, _, rfl, n, _, _, _, rfl, rfl, k2.seq hn, at_ a0 (by omega), .inl ⟨_, rfl, _, _, rfl, rfl, ⟨by decide, by decide⟩, _, _, rfl, rfl, (by show (0 : Int) < 5; decide), _, rfl, by omega, by omega, fun G nG => ?_⟩⟩
      have n1 := Int.emod_nonneg (nth ns a / 8) (show (5 : Int) ≠ 0 by decide)
      have n2 := Int.emod_lt_of_pos (nth ns a / 8) (show (0 : Int) < 5 by decide)
      refine lc_range (lo := 0) (n := (nth ns a / 8 % 5).toNat) (fun i H' => ∃ gs : List Int, H' = upd H2 G (.lst (gs.map V.int)) ∧ gs.length = i ∧ Lens gs) ?_ ?_ ?_
      · exact ⟨[], rfl, rfl, fun x z => nomatch z⟩
      · rintro i H' hi ⟨gs, rfl, hgl, hG⟩
        have z0 := sm (a + 3 + (0 + (i : Int)))
        have z1 := Int.emod_nonneg (nth ns (a + 3 + (0 + (i : Int)))) (show mo ≠ 0 by omega)
        have z2 := Int.emod_lt_of_pos (nth ns (a + 3 + (0 + (i : Int)))) (show 0 < mo by omega)
        refine ⟨rfl, ?_⟩
        refine ⟨_, rfl, _, rfl, _, _, rfl, rfl, _, rfl, _, _, rfl, rfl, n, _, _, _, rfl, rfl, (k2.trans (same_upd nG)).seq hn, at_ (by omega) (by omega), .inl ⟨_, rfl, _, rfl, _, _, rfl, rfl, (by show 0 < mo; omega), _, _, rfl, rfl, _, upd_same, ?_, gs ++ [1 + nth ns (a + 3 + (0 + (i : Int))) % mo], ?_, ?_, hG.snoc (by omega) (by omega)⟩⟩
        · rw [List.length_map, sizeLine_eq]
          omega
        · rw [upd_upd, List.map_append]
          rfl
        · rw [List.length_append, hgl]
          rfl
      · rintro H' ⟨gs, rfl, hgl, hG⟩
        have hg4 : gs.length ≤ 4 := by omega
        obtain ⟨H3, e3, k3', g3⟩ := made (o := .lst (gs.map V.int)) nG
        have k3 : Same H H3 := k2.trans k3'
        have nG0 : H G = none := k2.free nG
        rw [e3]
        -- closed
        refine ⟨Nat.zero_le _, fun c nc => ?_⟩
        have nc0 : H c = none := k3.free nc
        have gl3 := k3' _ _ g2
        have sc : ∀ o, Same H3 (upd H3 c o) := fun o => same_upd nc
        have y0 := sm (a + 7)
        refine ⟨_, rfl, _, rfl, _, _, rfl, rfl, n, _, _, _, rfl, rfl, (k3.trans (sc _)).seq hn, at_ (by omega) (by omega), .inl ⟨_, rfl, _, _, rfl, rfl, (by show (0 : Int) < 10; decide), _, _, rfl, rfl, _, _, rfl, _, rfl, ?_, ?_, ?_⟩⟩
        · split <;> omega
        · split <;> omega
        have big : (if nth ns (a + 7) % 10 - 3 > 0 then nth ns (a + 7) % 10 - 3 else 0).toNat ≤ 6 := by
          have w1 := Int.emod_lt_of_pos (nth ns (a + 7)) (show (0 : Int) < 10 by decide)
          split <;> omega
        have hsum := hL.pos1 hl2.1
        refine for_range (lo := 0) (n := (if nth ns (a + 7) % 10 - 3 > 0 then nth ns (a + 7) % 10 - 3 else 0).toNat) (fun i σ H' => ∃ (vk va vs vl : Option V) (xs : List V) (cs : List (Str × Int × Int)),
          σ = [some (.ref n), some (.int (a : Int)), some (.int mo), some (.ref D), some (.ref G), some (.ref c), vk, va, vs, vl] ∧ Same H3 H' ∧ H' c = some (.lst xs) ∧ Krs H' xs (kOf cs) ∧ (kOf cs).Nodup ∧
            (∀ d ∈ cs, isLk ls gs d.1 d.2.1 d.2.2 = true ∧ okk (lk d.1 d.2.1 d.2.2) = true) ∧ cs.length ≤ i) ?_ ?_ ?_
        · exact ⟨none, none, none, none, [], [], rfl, sc _, upd_same, .nil, .nil, (fun d z => nomatch z), Nat.zero_le _⟩
        · rintro i σ H' hi ⟨vk, va, vs, vl, xs, cs, rfl, k', hc, hx, hnd, hlk, hle⟩
          have gD := k' _ _ gl3
          have gG := k' _ _ g3
          have hn' := (k3.trans k').seq hn
          have y8 := sm (a + 8 + 2 * (0 + (i : Int)))
          have y9 := sm (a + 9 + 2 * (0 + (i : Int)))
          refine ⟨_, rfl, _, rfl, _, _, rfl, rfl, _, rfl, _, _, rfl, rfl, .inl ⟨by decide, by decide⟩, _, _, rfl, rfl, n, _, _, _, rfl, rfl, hn', at_ (by omega) (by omega), .inl ⟨_, rfl, _, rfl, _, _, rfl, .inl ⟨_, SqL.of gG, rfl⟩, _, _, rfl, rfl, _, _, rfl, rfl, (by show (0 : Int) < _; omega), ?_⟩⟩
          refine ⟨_, rfl, _, rfl, _, _, rfl, rfl, _, rfl, _, _, rfl, rfl, .inl ⟨by decide, by decide⟩, _, _, rfl, rfl, n, _, _, _, rfl, rfl, hn', at_ (by omega) (by omega), .inl ⟨_, rfl, ?_⟩⟩
          refine ⟨_, rfl, _, rfl, _, _, rfl, rfl, ⟨by decide, by decide⟩, _, rfl, D, ls, rfl, SqL.of gD, _, _, rfl, rfl, (by show (0 : Int) < _; omega), (by show 3 ≤ sizeLine; decide), fun t1 nt1 => ?_⟩
          obtain ⟨H4, e4, k4, g4⟩ := made (o := .tup [V.str "up", V.int (nth ns (a + 8 + 2 * (0 + (i : Int))) % ((gs.map V.int).length + 1)), V.int ((nth ns (a + 9 + 2 * (0 + (i : Int)))) / 3 % ls.sum)]) nt1
          have e4' : upd H' t1 (.tup [V.str "up", V.int (nth ns (a + 8 + 2 * (0 + (i : Int))) % ((gs.map V.int).length + 1)), V.int ((nth ns (a + 9 + 2 * (0 + (i : Int)))) / 3 % ls.sum)]) = H4 := e4
          have gl : ((gs.map V.int).length : Int) = gs.length := by rw [List.length_map]
          have ab0 := Int.emod_nonneg (nth ns (a + 8 + 2 * (0 + (i : Int)))) (show ((gs.map V.int).length + 1 : Int) ≠ 0 by omega)
          have ab1 := Int.emod_lt_of_pos (nth ns (a + 8 + 2 * (0 + (i : Int)))) (show (0 : Int) < (gs.map V.int).length + 1 by omega)
          have hb0 := Int.emod_nonneg ((nth ns (a + 9 + 2 * (0 + (i : Int)))) / 3) (show ls.sum ≠ 0 by omega)
          have hb1 := Int.emod_lt_of_pos ((nth ns (a + 9 + 2 * (0 + (i : Int)))) / 3) (show (0 : Int) < ls.sum by omega)
          have hup : isLk ls gs "up" (nth ns (a + 8 + 2 * (0 + (i : Int))) % ((gs.map V.int).length + 1)) ((nth ns (a + 9 + 2 * (0 + (i : Int)))) / 3 % ls.sum) = true := by
            unfold isLk
            rw [if_pos rfl, decide_eq_true ab0, decide_eq_true (show (nth ns (a + 8 + 2 * (0 + (i : Int))) % ((gs.map V.int).length + 1)) ≤ (gs.length : Int) by omega), decide_eq_true hb0, decide_eq_true hb1]
            rfl
          have okup : okk (lk "up" (nth ns (a + 8 + 2 * (0 + (i : Int))) % ((gs.map V.int).length + 1)) ((nth ns (a + 9 + 2 * (0 + (i : Int)))) / 3 % ls.sum)) = true := ok_lk (by decide +kernel) _ _
          refine ⟨_, rfl, .inl ⟨_, rfl, _, _, rfl, rfl, (by show (0 : Int) < 3; decide), rfl, _, rfl, ?_⟩⟩
          rw [e4']
          have gG4 := k4 _ _ gG
          have gD4 := k4 _ _ gD
          refine ite2 (fun hb1 => ?_) (fun hb1 => ?_)
          · refine ⟨_, rfl, _, rfl, _, _, rfl, .inl ⟨_, SqL.of gG4, rfl⟩, _, _, rfl, rfl, _, rfl, ?_⟩
            refine ite2 (fun hb2 => ?_) (fun hb2 => ?_)
            · have jb0 := Int.emod_nonneg (nth ns (a + 9 + 2 * (0 + (i : Int))) / 3) (show ((ls.map V.int).length + 1 : Int) ≠ 0 by omega)
              have jb1 := Int.emod_lt_of_pos (nth ns (a + 9 + 2 * (0 + (i : Int))) / 3) (show (0 : Int) < (ls.map V.int).length + 1 by omega)
              obtain ⟨j, hj⟩ : ∃ j : Nat, nth ns (a + 9 + 2 * (0 + (i : Int))) / 3 % ((ls.map V.int).length + 1) = (j : Int) := ⟨_, (Int.toNat_of_nonneg jb0).symm⟩
              have jle : j ≤ ls.length := by
                rw [hj, List.length_map] at jb1
                omega
              refine ⟨_, rfl, _, rfl, _, rfl, _, _, rfl, rfl, ⟨by decide, by decide⟩, _, rfl, _, _, rfl, .inl ⟨_, SqL.of gD4, rfl⟩, _, _, rfl, rfl, _, _, rfl, rfl, (by show (0 : Int) < _; omega), _, rfl, D, _, rfl, SqL.of gD4, fun p np => ?_⟩
              have ecut : cutV (ls.map V.int) none (some (nth ns (a + 9 + 2 * (0 + (i : Int))) / 3 % ((ls.map V.int).length + 1))) = (ls.take j).map V.int := by
                rw [hj, cut_to, List.map_take]
              obtain ⟨H5, e5, k5, g5⟩ := made (o := .lst ((ls.take j).map V.int)) np
              have e5' : upd H4 p (.lst (cutV (ls.map V.int) none (some (nth ns (a + 9 + 2 * (0 + (i : Int))) / 3 % ((ls.map V.int).length + 1))))) = H5 := by
                rw [ecut]
                exact e5
              refine ⟨p, ls.take j, rfl, ?_, (by show 3 ≤ sizeLine; decide), fun t2 nt2 => ?_⟩
              · have z : (upd H4 p (.lst (cutV (ls.map V.int) none (some (nth ns (a + 9 + 2 * (0 + (i : Int))) / 3 % ((ls.map V.int).length + 1)))))) p = some (.lst ((ls.take j).map V.int)) := by
                  rw [e5']
                  exact g5
                exact SqL.of z
              have nt2' : H5 t2 = none := by
                rw [← e5']
                exact nt2
              obtain ⟨H6, e6, k6', g6⟩ := made (o := .tup [V.str "over", V.int (nth ns (a + 8 + 2 * (0 + (i : Int))) % ((gs.map V.int).length + 1)), V.int (ls.take j).sum]) nt2'
              have e6' : upd (upd H4 p (.lst (cutV (ls.map V.int) none (some (nth ns (a + 9 + 2 * (0 + (i : Int))) / 3 % ((ls.map V.int).length + 1)))))) t2 (.tup [V.str "over", V.int (nth ns (a + 8 + 2 * (0 + (i : Int))) % ((gs.map V.int).length + 1)), V.int (ls.take j).sum]) = H6 := by
                rw [e5']
                exact e6
              have k6 : Same H' H6 := (k4.trans k5).trans k6'
              have hov : isLk ls gs "over" (nth ns (a + 8 + 2 * (0 + (i : Int))) % ((gs.map V.int).length + 1)) (ls.take j).sum = true := by
                have lt := of_decide_eq_true hb2
                unfold isLk
                rw [if_neg (by decide), decide_eq_true ab0, decide_eq_true (show (nth ns (a + 8 + 2 * (0 + (i : Int))) % ((gs.map V.int).length + 1)) < (gs.length : Int) by omega)]
                have mem : (ls.take j).sum ∈ crossN ls := List.mem_map.mpr ⟨j, List.mem_range.mpr (by omega), rfl⟩
                rw [decide_eq_true mem]
                rfl
              have okov : okk (lk "over" (nth ns (a + 8 + 2 * (0 + (i : Int))) % ((gs.map V.int).length + 1)) (ls.take j).sum) = true := ok_lk (by decide +kernel) _ _
              rw [e6']
              have hcT := k6 _ _ hc
              have hxT := hx.same k6
              have kAll := k'.trans k6
              have hkr : Kr H6 (.ref t2) (lk "over" (nth ns (a + 8 + 2 * (0 + (i : Int))) % ((gs.map V.int).length + 1)) ((ls.take j).sum)) := ⟨t2, rfl, g6⟩
              refine ⟨_, rfl, _, rfl, dK (lk "over" (nth ns (a + 8 + 2 * (0 + (i : Int))) % ((gs.map V.int).length + 1)) ((ls.take j).sum)), (kOf cs).map dK, hkr.dp, hxT.dl (SqL.of hcT), sh_dK okov, sh_dKs (fun k hk => ?_), _, rfl, ?_⟩
              · obtain ⟨d, hd, rfl⟩ := List.mem_map.mp hk
                exact (hlk d hd).2
              rw [any_dK]
              refine ite2 (fun hin => ?_) (fun hin => ?_)
              · have hni : lk "over" (nth ns (a + 8 + 2 * (0 + (i : Int))) % ((gs.map V.int).length + 1)) ((ls.take j).sum) ∉ kOf cs := fun z => by
                  rw [decide_eq_true z] at hin
                  cases hin
                refine ⟨_, rfl, ?_⟩
                refine And.intro (Or.inl ⟨rfl, _, SqL.of hcT⟩) ?_
                have hxl := hx.len
                have hkl : (kOf cs).length = cs.length := List.length_map _
                refine ⟨_, rfl, c, xs, _, rfl, rfl, hcT, by rw [sizeLine_eq]; omega, ?_⟩
                refine ⟨_, _, _, _, xs ++ [.ref t2], cs ++ [(("over" : Str), (nth ns (a + 8 + 2 * (0 + (i : Int))) % ((gs.map V.int).length + 1)), ((ls.take j).sum))], rfl, fun b u e => ?_, upd_same, ?_, ?_, ?_, ?_⟩
                · rw [upd_ne (ne_of_none e nc)]
                  exact kAll b u e
                · have z : kOf (cs ++ [(("over" : Str), (nth ns (a + 8 + 2 * (0 + (i : Int))) % ((gs.map V.int).length + 1)), ((ls.take j).sum))]) = kOf cs ++ [lk "over" (nth ns (a + 8 + 2 * (0 + (i : Int))) % ((gs.map V.int).length + 1)) ((ls.take j).sum)] := by
                    unfold kOf
                    rw [List.map_append]
                    rfl
                  rw [z]
                  exact (hxT.over hcT).snoc (hkr.over hcT)
                · have z : kOf (cs ++ [(("over" : Str), (nth ns (a + 8 + 2 * (0 + (i : Int))) % ((gs.map V.int).length + 1)), ((ls.take j).sum))]) = kOf cs ++ [lk "over" (nth ns (a + 8 + 2 * (0 + (i : Int))) % ((gs.map V.int).length + 1)) ((ls.take j).sum)] := by
                    unfold kOf
                    rw [List.map_append]
                    rfl
                  rw [z]
                  exact List.nodup_append.mpr ⟨hnd, by simp, fun y hy y' hy' e => hni (by rw [List.mem_singleton.mp hy'] at e; rw [← e]; exact hy)⟩
                · intro d hd
                  rcases List.mem_append.mp hd with z | z
                  · exact hlk d z
                  · rw [List.mem_singleton.mp z]
                    exact ⟨hov, okov⟩
                · rw [List.length_append]
                  show cs.length + 1 ≤ i + 1
                  omega
              · exact ⟨_, _, _, _, xs, cs, rfl, kAll, hcT, hxT, hnd, hlk, by omega⟩
            · refine ?_
              have hcT := k4 _ _ hc
              have hxT := hx.same k4
              have kAll := k'.trans k4
              have hkr : Kr H4 (.ref t1) (lk "up" (nth ns (a + 8 + 2 * (0 + (i : Int))) % ((gs.map V.int).length + 1)) ((nth ns (a + 9 + 2 * (0 + (i : Int)))) / 3 % ls.sum)) := ⟨t1, rfl, g4⟩
              refine ⟨_, rfl, _, rfl, dK (lk "up" (nth ns (a + 8 + 2 * (0 + (i : Int))) % ((gs.map V.int).length + 1)) ((nth ns (a + 9 + 2 * (0 + (i : Int)))) / 3 % ls.sum)), (kOf cs).map dK, hkr.dp, hxT.dl (SqL.of hcT), sh_dK okup, sh_dKs (fun k hk => ?_), _, rfl, ?_⟩
              · obtain ⟨d, hd, rfl⟩ := List.mem_map.mp hk
                exact (hlk d hd).2
              rw [any_dK]
              refine ite2 (fun hin => ?_) (fun hin => ?_)
              · have hni : lk "up" (nth ns (a + 8 + 2 * (0 + (i : Int))) % ((gs.map V.int).length + 1)) ((nth ns (a + 9 + 2 * (0 + (i : Int)))) / 3 % ls.sum) ∉ kOf cs := fun z => by
                  rw [decide_eq_true z] at hin
                  cases hin
                refine ⟨_, rfl, ?_⟩
                refine And.intro (Or.inl ⟨rfl, _, SqL.of hcT⟩) ?_
                have hxl := hx.len
                have hkl : (kOf cs).length = cs.length := List.length_map _
                refine ⟨_, rfl, c, xs, _, rfl, rfl, hcT, by rw [sizeLine_eq]; omega, ?_⟩
                refine ⟨_, _, _, _, xs ++ [.ref t1], cs ++ [(("up" : Str), (nth ns (a + 8 + 2 * (0 + (i : Int))) % ((gs.map V.int).length + 1)), ((nth ns (a + 9 + 2 * (0 + (i : Int)))) / 3 % ls.sum))], rfl, fun b u e => ?_, upd_same, ?_, ?_, ?_, ?_⟩
                · rw [upd_ne (ne_of_none e nc)]
                  exact kAll b u e
                · have z : kOf (cs ++ [(("up" : Str), (nth ns (a + 8 + 2 * (0 + (i : Int))) % ((gs.map V.int).length + 1)), ((nth ns (a + 9 + 2 * (0 + (i : Int)))) / 3 % ls.sum))]) = kOf cs ++ [lk "up" (nth ns (a + 8 + 2 * (0 + (i : Int))) % ((gs.map V.int).length + 1)) ((nth ns (a + 9 + 2 * (0 + (i : Int)))) / 3 % ls.sum)] := by
                    unfold kOf
                    rw [List.map_append]
                    rfl
                  rw [z]
                  exact (hxT.over hcT).snoc (hkr.over hcT)
                · have z : kOf (cs ++ [(("up" : Str), (nth ns (a + 8 + 2 * (0 + (i : Int))) % ((gs.map V.int).length + 1)), ((nth ns (a + 9 + 2 * (0 + (i : Int)))) / 3 % ls.sum))]) = kOf cs ++ [lk "up" (nth ns (a + 8 + 2 * (0 + (i : Int))) % ((gs.map V.int).length + 1)) ((nth ns (a + 9 + 2 * (0 + (i : Int)))) / 3 % ls.sum)] := by
                    unfold kOf
                    rw [List.map_append]
                    rfl
                  rw [z]
                  exact List.nodup_append.mpr ⟨hnd, by simp, fun y hy y' hy' e => hni (by rw [List.mem_singleton.mp hy'] at e; rw [← e]; exact hy)⟩
                · intro d hd
                  rcases List.mem_append.mp hd with z | z
                  · exact hlk d z
                  · rw [List.mem_singleton.mp z]
                    exact ⟨hup, okup⟩
                · rw [List.length_append]
                  show cs.length + 1 ≤ i + 1
                  omega
              · exact ⟨_, _, _, _, xs, cs, rfl, kAll, hcT, hxT, hnd, hlk, by omega⟩
          · refine ?_
            have hcT := k4 _ _ hc
            have hxT := hx.same k4
            have kAll := k'.trans k4
            have hkr : Kr H4 (.ref t1) (lk "up" (nth ns (a + 8 + 2 * (0 + (i : Int))) % ((gs.map V.int).length + 1)) ((nth ns (a + 9 + 2 * (0 + (i : Int)))) / 3 % ls.sum)) := ⟨t1, rfl, g4⟩
            refine ⟨_, rfl, _, rfl, dK (lk "up" (nth ns (a + 8 + 2 * (0 + (i : Int))) % ((gs.map V.int).length + 1)) ((nth ns (a + 9 + 2 * (0 + (i : Int)))) / 3 % ls.sum)), (kOf cs).map dK, hkr.dp, hxT.dl (SqL.of hcT), sh_dK okup, sh_dKs (fun k hk => ?_), _, rfl, ?_⟩
            · obtain ⟨d, hd, rfl⟩ := List.mem_map.mp hk
              exact (hlk d hd).2
            rw [any_dK]
            refine ite2 (fun hin => ?_) (fun hin => ?_)
            · have hni : lk "up" (nth ns (a + 8 + 2 * (0 + (i : Int))) % ((gs.map V.int).length + 1)) ((nth ns (a + 9 + 2 * (0 + (i : Int)))) / 3 % ls.sum) ∉ kOf cs := fun z => by
                rw [decide_eq_true z] at hin
                cases hin
              refine ⟨_, rfl, ?_⟩
              refine And.intro (Or.inl ⟨rfl, _, SqL.of hcT⟩) ?_
              have hxl := hx.len
              have hkl : (kOf cs).length = cs.length := List.length_map _
              refine ⟨_, rfl, c, xs, _, rfl, rfl, hcT, by rw [sizeLine_eq]; omega, ?_⟩
              refine ⟨_, _, _, _, xs ++ [.ref t1], cs ++ [(("up" : Str), (nth ns (a + 8 + 2 * (0 + (i : Int))) % ((gs.map V.int).length + 1)), ((nth ns (a + 9 + 2 * (0 + (i : Int)))) / 3 % ls.sum))], rfl, fun b u e => ?_, upd_same, ?_, ?_, ?_, ?_⟩
              · rw [upd_ne (ne_of_none e nc)]
                exact kAll b u e
              · have z : kOf (cs ++ [(("up" : Str), (nth ns (a + 8 + 2 * (0 + (i : Int))) % ((gs.map V.int).length + 1)), ((nth ns (a + 9 + 2 * (0 + (i : Int)))) / 3 % ls.sum))]) = kOf cs ++ [lk "up" (nth ns (a + 8 + 2 * (0 + (i : Int))) % ((gs.map V.int).length + 1)) ((nth ns (a + 9 + 2 * (0 + (i : Int)))) / 3 % ls.sum)] := by
                  unfold kOf
                  rw [List.map_append]
                  rfl
                rw [z]
                exact (hxT.over hcT).snoc (hkr.over hcT)
              · have z : kOf (cs ++ [(("up" : Str), (nth ns (a + 8 + 2 * (0 + (i : Int))) % ((gs.map V.int).length + 1)), ((nth ns (a + 9 + 2 * (0 + (i : Int)))) / 3 % ls.sum))]) = kOf cs ++ [lk "up" (nth ns (a + 8 + 2 * (0 + (i : Int))) % ((gs.map V.int).length + 1)) ((nth ns (a + 9 + 2 * (0 + (i : Int)))) / 3 % ls.sum)] := by
                  unfold kOf
                  rw [List.map_append]
                  rfl
                rw [z]
                exact List.nodup_append.mpr ⟨hnd, by simp, fun y hy y' hy' e => hni (by rw [List.mem_singleton.mp hy'] at e; rw [← e]; exact hy)⟩
              · intro d hd
                rcases List.mem_append.mp hd with z | z
                · exact hlk d z
                · rw [List.mem_singleton.mp z]
                  exact ⟨hup, okup⟩
              · rw [List.length_append]
                show cs.length + 1 ≤ i + 1
                omega
            · exact ⟨_, _, _, _, xs, cs, rfl, kAll, hcT, hxT, hnd, hlk, by omega⟩
        · rintro σ H' ⟨vk, va, vs, vl, xs, cs, rfl, k', hc, hx, hnd, hlk, hle⟩
          refine ⟨_, rfl, _, rfl, _, rfl, (by show 3 ≤ sizeLine; decide), fun t nt => ?_⟩
          have st : Same H' (upd H' t (.tup [.ref D, .ref G, .ref c])) := same_upd nt
          refine q _ t D G c ls gs xs cs ((k3.trans k').trans st) ((k3.trans k').free nt) upd_same nH nG0 nc0 (st _ _ (k' _ _ gl3)) (st _ _ (k' _ _ g3)) (st _ _ hc) (hx.same st) ⟨⟨hl2, hL.all⟩, ⟨by omega, hG.all⟩, by omega, hnd, fun d hd => (hlk d hd).1⟩ hg4 (by omega)
end
section
open GxR NdefX PySem.Spec PyProof.Rows
variable {P : Program} {w : World} {K : PySem.W.Frag} {mg : Str → Option Value} {base : Heap}
def lkC (c : Str × Int × Int) : Tk := lk c.1 c.2.1 c.2.2
structure HD where
  ls : List Int
  gs : List Int
  cs : List (Str × Int × Int)
def RHouse (C : Addr) (h : HD) : Rel := ⟨fun H v => ∃ p, v = .ref p ∧ HouseAt C H p h.ls h.gs h.cs, fun k ⟨p, e, q⟩ => ⟨p, e, q.kp k⟩⟩
theorem hi_house {C : Addr} {h : HD} {m : Str} (n1 : ¬ m = "_lengths") (n2 : ¬ m = "_gaps") (n3 : ¬ m = "_crosses") (n4 : ¬ m = "_top") (n5 : ¬ m = "_closed") (H : Hp) (v : V) (r : (RHouse C h).p H v) : ∃ a dx fs, v = .ref a ∧ H a = some (.ins C dx fs) ∧ fs.lookup m = none := by
  obtain ⟨p, rfl, hv, dx, l, g, c, d, h1, _⟩ := r
  exact ⟨p, dx, _, rfl, h1, hf_no _ _ _ _ _ n1 n2 n3 n4 n5⟩
theorem Dt.pr {H : Hp} {v : V} {p : Pl} (h : Dt H v (dP p)) : Pr H v p := by
  cases h with
  | tup e a =>
    cases a with
    | cons a1 a =>
      cases a with
      | cons a2 a =>
        cases a
        cases a1
        cases a2
        exact ⟨_, rfl, e⟩
theorem Pr.dt {H : Hp} {v : V} {p : Pl} (h : Pr H v p) : Dt H v (dP p) := by
  obtain ⟨t, rfl, e⟩ := h
  exact .tup e (.cons (.int _) (.cons (.int _) .nil))
theorem Prs.dt {H : Hp} {vs : List V} {ps : List Pl} (h : Prs H vs ps) : DtAll H vs (ps.map dP) := by
  induction h with
  | nil => exact .nil
  | cons a _ ih => exact .cons a.dt ih
theorem DtAll.prs {H : Hp} : ∀ {vs : List V} {ps : List Pl}, DtAll H vs (ps.map dP) → Prs H vs ps
  | [], [], _ => .nil
  | [], _ :: _, h => by cases h
  | _ :: _, [], h => by cases h
  | _ :: _, _ :: _, .cons a b => .cons a.pr b.prs
theorem Dt.kr {H : Hp} {v : V} {c : Str × Int × Int} (h : Dt H v (dLk c)) : Kr H v (lkC c) := by
  cases h with
  | tup e a =>
    cases a with
    | cons a1 a =>
      cases a with
      | cons a2 a =>
        cases a with
        | cons a3 a =>
          cases a
          cases a1
          cases a2
          cases a3
          exact ⟨_, rfl, e⟩
theorem Kr.dt {H : Hp} {v : V} {c : Str × Int × Int} (h : Kr H v (lkC c)) : Dt H v (dLk c) := by
  obtain ⟨t, rfl, e⟩ := h
  exact .tup e (.cons (.str _) (.cons (.int _) (.cons (.int _) .nil)))
theorem Krs.dt {H : Hp} : ∀ {vs : List V} {cs : List (Str × Int × Int)}, Krs H vs (kOf cs) → DtAll H vs (cs.map dLk)
  | [], [], _ => .nil
  | [], _ :: _, h => by cases h
  | _ :: _, [], h => by cases h
  | _ :: _, _ :: _, .cons a b => .cons (Kr.dt a) (Krs.dt b)
theorem DtAll.krs {H : Hp} : ∀ {vs : List V} {cs : List (Str × Int × Int)}, DtAll H vs (cs.map dLk) → Krs H vs (kOf cs)
  | [], [], _ => .nil
  | [], _ :: _, h => by cases h
  | _ :: _, [], h => by cases h
  | _ :: _, _ :: _, .cons a b => .cons a.kr b.krs
end
section
open GxR NdefX PySem.Spec PyProof.Rows
variable {P : Program} {w : World} {K : PySem.W.Frag} {mg : Str → Option Value} {base : Heap}
theorem ints_of {H : Hp} : ∀ {vs : List V} {ns : List Int}, DtAll H vs (ns.map PyData.int) → vs = ns.map V.int
  | [], [], _ => rfl
  | [], _ :: _, h => by cases h
  | _ :: _, [], h => by cases h
  | _ :: _, _ :: _, .cons a b => by
    cases a
    rw [ints_of b]
    rfl
theorem Dt.nums {H : Hp} {v : V} {ns : List Int} (h : Dt H v (.list (ns.map PyData.int))) : ∃ p, v = .ref p ∧ H p = some (.lst (ns.map V.int)) := by
  cases h with
  | lst e a =>
    have z := ints_of a
    subst z
    exact ⟨_, rfl, e⟩
theorem skx_numbers {ns0 : List Int} {m : Nat} : Skx0 (spNumbers K) [RScr K ns0, RD (.int (m : Int))] (fun _ => ns0.length ≤ 63 ∧ m ≤ 200) (fun ns : List Int => RD (.list (ns.map PyData.int))) (fun ns => ns.length = m ∧ Small ns) := fun H vs hr hp Q E q => by
  obtain ⟨v, r, rfl, ⟨a, rfl, h1⟩, u, r', rfl, h2, rfl⟩ := hr
  cases h2
  exact ⟨a, ns0, m, rfl, h1, hp.1, hp.2, fun H' p ns k n e el sm => q H' _ ns (kpS k) ⟨el, sm⟩ (.lst e (DtAll.ofInts _))⟩
end
theorem e_exU {c : Ct} {te : TE} {R : Rel} {G : Unit → Prop} (h : EX c te (fun _ => R) G) : E true c te R := fun σ H s Q q => h σ H s Q fun H' v _ k _ r => q H' v k (by rw [hb_t]; exact r)
open SX
section
open GxR NdefX PySem.Spec PyProof.Rows
abbrev dX : List Nat → PyData := fun a => .str (S a)
section
variable {b : Bool} {c : Ct} {K : PySem.W.Frag} {t tb u : TE} {x y z p q : List Nat} {M : List (List Nat)} {R : Rel}
theorem e_strS {s : Str} (e : s = S x) : E b c (tC (.str s)) (RD (dX x)) := by subst e; exact e_str
theorem o_catS (h : x.length + y.length ≤ 1000000) : O2 (fun x y H Q => ∃ i j, x = .str i ∧ y = .str j ∧ i.length + j.length ≤ sizeLine ∧ Q (.str (i ++ j)) H) (RD (dX x)) (RD (dX y)) (RD (dX (x ++ y))) := by
  have z := o_cats (x := S x) (y := S y) (by rw [S_len, S_len]; exact Nat.le_trans h (by decide))
  rw [S_cat] at z
  exact z
theorem strs_dt {H : Hp} : ∀ M : List (List Nat), DtAll H ((M.map S).map V.str) (M.map dX)
  | [] => .nil
  | a :: l => .cons (.str _) (strs_dt l)
theorem dt_strs {H : Hp} : ∀ {vs : List V} {M : List (List Nat)}, DtAll H vs (M.map dX) → vs = (M.map S).map V.str
  | [], [], _ => rfl
  | [], _ :: _, h => by cases h
  | _ :: _, [], h => by cases h
  | _ :: _, _ :: _, .cons a r => by
    cases a
    rw [dt_strs r]
    rfl
theorem n_splitS (h : E false c t (RD (dX x))) (hs : E false c u (RD (dX y))) (hy : (y.length == 0) = false) (hl : x.length ≤ 1000000) (e : Txt.split (S x) (S y) = M.map S) :
    EN c (tM1 (fun x xs H Q => ∃ a b, x = .str a ∧ xs = [.str b] ∧ (b.length == 0) = false ∧ a.length + 2 ≤ sizeLine ∧ rNewStrs (Txt.split a b) H Q) t u) (OL (M.map dX)) := fun σ H s Q qq =>
  h σ H s _ fun H1 v k1 r1 => by
    cases r1
    refine ⟨⟨_, rfl⟩, hs σ H1 (s.kp k1) _ fun H2 v2 k2 r2 => ?_⟩
    cases r2
    refine ⟨S x, S y, rfl, rfl, by rw [S_len]; exact hy, by rw [S_len]; exact Nat.le_trans (Nat.add_le_add_right hl 2) (by decide), fun a na => ?_⟩
    rw [e]
    exact qq H2 a _ (k1.trans k2) na ⟨_, rfl, strs_dt M⟩
theorem e_joinS (h : E false c t (RD (dX x))) (hs : EI c u (M.map dX)) (hl : ((M.map S).map (·.length)).sum + (M.map S).length * (S x).length ≤ 16777216) :
    E b c (tM1 (fun x xs H Q => ∃ a p, ∃ ys : List Str, x = .str a ∧ xs = [.ref p] ∧ (SqL K H p (ys.map V.str) ∨ SqT K H p (ys.map V.str)) ∧ (ys.map (·.length)).sum + ys.length * a.length ≤ 16777216 ∧ Q (.str (Txt.join a ys)) H) t u) (RD (dX (TL.joinL x M))) := fun σ H s Q qq =>
  h σ H s _ fun H1 v k1 r1 => by
    cases r1
    refine ⟨⟨_, rfl⟩, hs σ H1 (s.kp k1) _ fun H2 a vs k2 e2 r2 => ?_⟩
    have ev := dt_strs r2
    subst ev
    refine ⟨S x, a, M.map S, rfl, rfl, .inl (SqL.of e2), hl, ?_⟩
    rw [join_S]
    exact qq H2 _ (k1.trans k2) (.str _)
theorem e_upperS (h : E false c t (RD (dX x))) (hl : x.length ≤ 1000) (e : Txt.upper (S x) = S y) : E b c (tM0 (fun x xs H Q => ∃ a, x = .str a ∧ xs = [] ∧ a.length ≤ 5592405 ∧ Q (.str (Txt.upper a)) H) t) (RD (dX y)) := fun σ H s Q qq =>
  h σ H s _ fun H1 v k1 r1 => by
    cases r1
    refine ⟨⟨_, rfl⟩, S x, rfl, rfl, by rw [S_len]; exact Nat.le_trans hl (by decide), ?_⟩
    rw [e]
    exact qq H1 _ k1 (.str _)
theorem o_strI {i : Int} (h0 : 0 ≤ i) (h1 : i < 100000) : On (fun xs H Q => ∃ i, xs = [.int i] ∧ i.natAbs.log2 < 1920 ∧ Q (.str (toString i)) H) [RD (.int i)] (RD (dX (dg i))) := fun H M vs _ r Q qq => by
  obtain ⟨v, r', rfl, h, rfl⟩ := r
  cases h
  refine ⟨i, rfl, small_log h0 h1, ?_⟩
  rw [show (toString i : Str) = S (dg i) from dg_str h0]
  exact qq H _ (Kp.refl _) (.str _)
end
end
open SX
section
open GxR NdefX PySem.Spec PyProof.Rows
variable {P : Program} {w : World} {K : PySem.W.Frag} {mg : Str → Option Value} {base : Heap}
theorem perm_uniq {α : Type} {le : α → α → Bool} : ∀ {a b : List α}, a.Perm b → a.Pairwise (fun x y => le x y = true) → b.Pairwise (fun x y => le x y = true) → (∀ x ∈ a, ∀ y ∈ a, le x y = true → le y x = true → x = y) → a = b
  | [], b, h, _, _, _ => h.nil_eq
  | p :: a, [], h, _, _, _ => absurd h.length_eq (by simp)
  | p :: a, q :: b, h, ha, hb, an => by
    have e : p = q := by
      rcases List.mem_cons.mp (h.mem_iff.mp List.mem_cons_self) with e | m
      · exact e
      · have mq := h.mem_iff.mpr List.mem_cons_self
        rcases List.mem_cons.mp mq with e | m'
        · exact e.symm
        · exact an p List.mem_cons_self q mq (List.rel_of_pairwise_cons ha m') (List.rel_of_pairwise_cons hb m)
    subst e
    rw [perm_uniq ((List.perm_cons p).mp h) ha.of_cons hb.of_cons fun x hx y hy => an x (List.mem_cons_of_mem _ hx) y (List.mem_cons_of_mem _ hy)]
theorem leK_total : PySem.W.TotalLe leK := PySem.W.sortLe_total _ false _
theorem sortK_pw (ks : List Tk) : (sortK ks).Pairwise fun x y => leK x y = true := List.pairwise_mergeSort leK_total.trans (fun a b => by have z := leK_total.total a b; rw [Bool.or_eq_true]; exact z) ks
theorem lt_lk_same (x : Str) (a h b k : Int) : PySem.W.dataLt (dK (lk x a h)) (dK (lk x b k)) = decide (a < b ∨ (a = b ∧ h < k)) := by
  show PySem.W.dataLt (.tuple [.str x, .int a, .int h]) (.tuple [.str x, .int b, .int k]) = _
  rw [PySem.W.dataLt_tuple, PySem.W.dataLt_all_yes (by simp [PySem.W.alike]) (by simp [PyData.eqv]), ← PySem.W.dataLt_tuple]
  exact PySem.W.dataLt_ii _ _ _ _
theorem lt_lk_no {x y : Str} (ne : ¬ x = y) (a h b k : Int) : PySem.W.dataLt (dK (lk x a h)) (dK (lk y b k)) = decide (x.cps.toList < y.cps.toList) := by
  show PySem.W.dataLt (.tuple [.str x, .int a, .int h]) (.tuple [.str y, .int b, .int k]) = _
  rw [PySem.W.dataLt_tuple, PySem.W.dataLt_all_no (by simp [PySem.W.alike]) (by rw [eqv_str]; exact decide_eq_false ne), PySem.W.dataLt_str]
theorem leK_anti {c d : Str × Int × Int} (hc : okC c) (hd : okC d) (h1 : leK (lk c.1 c.2.1 c.2.2) (lk d.1 d.2.1 d.2.2) = true) (h2 : leK (lk d.1 d.2.1 d.2.2) (lk c.1 c.2.1 c.2.2) = true) : c = d := by
  have z1 : (!PySem.W.dataLt (dK (lk d.1 d.2.1 d.2.2)) (dK (lk c.1 c.2.1 c.2.2))) = true := h1
  have z2 : (!PySem.W.dataLt (dK (lk c.1 c.2.1 c.2.2)) (dK (lk d.1 d.2.1 d.2.2))) = true := h2
  obtain ⟨x, a, h⟩ := c
  obtain ⟨y, b, k⟩ := d
  dsimp only at z1 z2 hc hd
  by_cases e : x = y
  · subst e
    rw [lt_lk_same] at z1 z2
    simp only [Bool.not_eq_true', decide_eq_false_iff_not] at z1 z2
    have e1 : a = b := by omega
    have e2 : h = k := by omega
    rw [e1, e2]
  · rw [lt_lk_no (fun z => e z.symm)] at z1
    rw [lt_lk_no e] at z2
    rcases hc.1 with e1 | e1 <;> rcases hd.1 with e2 | e2
    · exact absurd (e1.trans e2.symm) e
    · have e1' : x = "up" := e1
      have e2' : y = "over" := e2
      rw [e1', e2'] at z1
      exact absurd z1 (by decide +kernel)
    · have e1' : x = "over" := e1
      have e2' : y = "up" := e2
      rw [e1', e2'] at z2
      exact absurd z2 (by decide +kernel)
    · exact absurd (e1.trans e2.symm) e
theorem sortK_congr {a b : List (Str × Int × Int)} (h : a.Perm b) (ok : ∀ c ∈ a, okC c) : sortK (kOf a) = sortK (kOf b) := by
  have hk : (kOf a).Perm (kOf b) := h.map _
  refine perm_uniq (((sortK_perm _).trans hk).trans (sortK_perm _).symm) (sortK_pw _) (sortK_pw _) fun x hx y hy h1 h2 => ?_
  obtain ⟨c, hc, rfl⟩ := List.mem_map.mp ((sortK_perm _).mem_iff.mp hx)
  obtain ⟨d, hd, rfl⟩ := List.mem_map.mp ((sortK_perm _).mem_iff.mp hy)
  rw [leK_anti (ok c hc) (ok d hd) h1 h2]
end
open SX
section
open GxR NdefX PySem.Spec PyProof.Rows
variable {P : Program} {w : World} {K : PySem.W.Frag} {mg : Str → Option Value} {base : Heap}
theorem fun_okNC {x qual : Str} {st : Stmt} {f c : Addr} {fd : FuncData} {N ps : List Str} {k : Nat} {sp : Sp} (F : FunC K x qual st f c fd) (S : FnScope N ps (defScope st)) (len : ∀ vs H Q E, sp vs H Q E → vs.length = ps.length)
    (hbody : ∀ (A : Around) (outer : List Env) (s : Shared) (H : Hp) (vs : List V) (Q : VK) (E : XK), Room k (A.deeper (envOfC qual (defScope st) s.heap.objs.size f (.ref c))) → sp vs H Q E →
      ∃ t, PSs (cxOf (L2N.CX P w) P w K mg base N qual (defScope st) f (.ref c) A outer s H E) (defBody st) t ∧ t { nx := fun _ H' => Q .non H', rt := Q } (start N vs) H) : FnOk P w K mg base (L2N.CX P w) (k + 1) f fd ps sp := by
  obtain ⟨oc, od, kV, doc, pm, an, ct, osl, rfl, lk, hcd⟩ := F.ex
  exact fn_of lk hcd S len fun A outer s H vs Q E hr h => hbody A outer s H vs Q E hr h
theorem ok_houseN {f cI TI C CI fL fA cA TL fX : Addr} {fd fdL fdA fdX : FuncData} (F : FunC K "__init__" "House.__init__" s_House___init__ f cI fd) (TB : TabB base mg cI TI) (Z : HouseTop mg) (T : HouseTxt K mg C) (U : ErrTxt K mg CI "InvalidHouse")
    (FL : Fun K "is_link" "House.is_link" s_House_is_link fL fdL) (bL : Binds K fdL ["self", "link"] []) (mL : Meth K C "is_link" fL)
    (FA : FunC K "_are_long" "_are_long" s__are_long fA cA fdA) (TBA : TabB base mg cA TL) (bA : Binds K fdA ["numbers"] []) (gA : mg "_are_long" = some (.ref fA))
    (FX : Fun K "_cross_heights" "_cross_heights" s__cross_heights fX fdX) (bX : Binds K fdX ["lengths"] []) (gX : mg "_cross_heights" = some (.ref fX)) :
    FnOk P w K mg base (L2N.CX P w) 5 f fd ["self", "lengths", "gaps", "closed"] (spHouse K C CI TL TI) := by
  have GL : FnOk P w K mg base CX0 1 fL fdL ["self", "link"] (spLink C) := ok_link FL Z T
  have GA : FnOk P w K mg base CX0 3 fA fdA ["numbers"] (spLong K TL) := ok_long FA Z TBA
  have GX : FnOk P w K mg base CX0 2 fX fdX ["lengths"] (spCross K) := ok_cross FX
  refine fun_okNC F sc_House___init__ (fun vs H Q E h => ?_) (fun A outer s H vs Q E hr h => ?_)
  · obtain ⟨p, dx, l, g, c, ls, gs, xs, cs, rfl, _⟩ := h
    rfl
  · obtain ⟨p, dx, l, g, c, ls, gs, xs, cs, rfl, hp, hl, hg, hc, hx, bl, bg, bc, tL, tI, q, e⟩ := h
    obtain ⟨_, hStr⟩ := Z.stretches
    obtain ⟨_, hGap⟩ := Z.mostGaps
    obtain ⟨_, hClo⟩ := Z.mostClosed
    have nd := sc_House___init__.nd
    have hxl := hx.len
    refine ⟨_, (pss_cons (ps_if (PW.pt (pw_or (pt_not (pt_chain op_le op_le pe_int (pe_callB call_len (by rfl) Z.len (by decide +kernel) (pa_cons (pv 1) pa_nil)) (pe_glob (v := .int 2) rfl hStr ⟨_, rfl⟩))) (pw_or1 (pt_not (pt_val (pe_call GA (by exact hr.mono (by decide)) (by rfl) gA FA.kp bA .nil pass0 (pa_cons (pv 1) pa_nil))))))) (pss_one (L2N.ps_raise rfl (L2N.takes_of rfl rfl rfl rfl) (L2N.pmk_own PySem.F.excBase_ValueError U.xI U.gI U.kI (raises_own U.bI U.tI) rfl))) pss_nil)
      (pss_cons (ps_if (PW.pt (pw_or (pt_cmpR op_gt (pe_callB call_len (by rfl) Z.len (by decide +kernel) (pa_cons (pv 2) pa_nil)) (pe_glob (v := .int 11) rfl hGap ⟨_, rfl⟩) (nomark _)) (pw_or1 (pt_not (pt_val (pe_call GA (by exact hr.mono (by decide)) (by rfl) gA FA.kp bA .nil pass0 (pa_cons (pv 2) pa_nil))))))) (pss_one (L2N.ps_raise rfl (L2N.takes_of rfl rfl rfl rfl) (L2N.pmk_own PySem.F.excBase_ValueError U.xI U.gI U.kI (raises_own U.bI U.tI) rfl))) pss_nil)
      (pss_cons (ps_fld (pv 0) (pe_callTy call_list_of (by rfl) Z.list (by decide +kernel) (pa_cons (pv 1) pa_nil)) rfl)
      (pss_cons (ps_fld (pv 0) (pe_callTy call_list_of (by rfl) Z.list (by decide +kernel) (pa_cons (pv 2) pa_nil)) rfl)
      (pss_cons (ps_fld (pv 0) (pe_call GX (by exact hr.mono (by decide)) (by rfl) gX FX.kp bX .nil pass0 (pa_cons (pv 1) pa_nil)) rfl)
      (pss_cons (ps_fld (pv 0) (pe_callB (cr_sum rfl) (by rfl) Z.sum (by decide +kernel) (pa_cons (pv 1) pa_nil)) rfl)
      (pss_cons (ps_fld (pv 0) (pe_dcT (own := [("link", 4)]) (g := gName 4) rfl (by exact hr.units0) nd (pi_list (pv 3)) (blkOk_by (N := ["self", "lengths", "gaps", "closed", "link"]) (sc := defScope s_House___init__) (by decide +kernel)) (fun _ _ _ _ _ => ⟨pg_name (i := 4) nd rfl (.inl rfl), pv 4, pe_bl⟩)) rfl)
      (pss_cons (ps_if (PW.pt (pw_or (pt_cmpR op_gt (pe_callB call_len (by rfl) Z.len (by decide +kernel) (pa_cons (pv 3) pa_nil)) (pe_glob (v := .int 200) rfl hClo ⟨_, rfl⟩) (nomark _)) (pw_or1 (pt_cmpR op_lt (pe_callB call_len_dT (by rfl) Z.len (by decide +kernel) (pa_cons (pe_fld (pv 0) rfl) pa_nil)) (pe_callB call_len (by rfl) Z.len (by decide +kernel) (pa_cons (pv 3) pa_nil)) (nomark _))))) (pss_one (L2N.ps_raise rfl (L2N.takes_of rfl rfl rfl rfl) (L2N.pmk_own PySem.F.excBase_ValueError U.xI U.gI U.kI (raises_own U.bI U.tI) rfl))) pss_nil)
      (pss_one (ps_if (pt_not (pt_val (pe_allG (k := 3) (N := ["link", "self"]) (fr := [none, some 0]) (g := gName 0) (by exact hr) (by rfl) Z.all (by decide +kernel) TB rfl (gsc_by (outer := defScope s_House___init__) rfl rfl (by decide +kernel)) (gfr_by (outer := defScope s_House___init__) (XN := ["self", "lengths", "gaps", "closed", "link"]) rfl rfl (by decide +kernel)) (pi_list (pv 3)) (fun B s0 H0 cd fp rB => ⟨pg_name (i := 0) (show (["link", "self"] : List Str).Nodup by decide) rfl (.inl rfl), (pe_meth (pv 1) T.cl mL GL (by exact rB.mono (by decide)) bL .nil pass0 (pa_cons (pv 0) pa_nil))⟩) (fun _ => rfl)))) (pss_one (L2N.ps_raise rfl (L2N.takes_of rfl rfl rfl rfl) (L2N.pmk_own PySem.F.excBase_ValueError U.xI U.gI U.kI (raises_own U.bI U.tI) rfl))) pss_nil)))))))))), ?_⟩
    have bad : ∀ {H' : Hp}, ¬ Valid ls gs cs → KpB p H H' → E (.ref CI) none H' := fun {H'} n k => e n H' k
    refine (tells_chain (f := fun i j => decide (i ≤ j)) (j := (ls.length : Int)) (n := 2) (fun Q q => ⟨_, rfl, _, _, rfl, .inl ⟨_, hl, rfl⟩, by rw [List.length_map]; exact q⟩) (fun Q q => q)) _ ⟨_, rfl, ?_⟩
    refine ite2 (fun h1 => ?_) (fun h1 => ?_)
    · exact bad (fun v => by
        have v1 := v.1.1
        simp at h1
        omega) KpB.refl
    refine ⟨_, rfl, l, ls, rfl, hl, tL, fun H1 t1 => ⟨_, rfl, ?_⟩⟩
    have k1 : Kp H H1 := Tabbed.kp t1 tL
    refine ite2 (fun h2 => ?_) (fun h2 => ?_)
    · exact bad (fun v => by
        rw [v.1.2] at h2
        cases h2) (KpB.refl.kp k1)
    have v1 : (1 ≤ ls.length ∧ ls.length ≤ 2) ∧ ls.all longN = true := ⟨by simp at h1; omega, by simpa using h2⟩
    refine ⟨_, rfl, _, _, rfl, .inl ⟨_, k1.seq hg, rfl⟩, _, _, rfl, rfl, _, rfl, ?_⟩
    refine ite2 (fun h3 => ?_) (fun h3 => ?_)
    · exact bad (fun v => by
        have v2 := v.2.1.1
        simp at h3
        omega) (KpB.refl.kp k1)
    refine ⟨_, rfl, g, gs, rfl, k1.seq hg, k1.tab _ tL, fun H2 t2 => ⟨_, rfl, ?_⟩⟩
    have k2 : Kp H H2 := k1.trans (Tabbed.kp t2 (k1.tab _ tL))
    refine ite2 (fun h4 => ?_) (fun h4 => ?_)
    · exact bad (fun v => by
        rw [v.2.1.2] at h4
        cases h4) (KpB.refl.kp k2)
    have v2 : gs.length ≤ 11 ∧ gs.all longN = true := ⟨by simp at h3; omega, by simpa using h4⟩
    have kb2 : KpB p H H2 := KpB.refl.kp k2
    have hp2 := k2.ins hp
    -- self._lengths
    refine ⟨_, rfl, l, _, rfl, .inl (k2.seq hl), fun r1 n1 => ⟨_, rfl, p, C, dx, [], rfl, by rw [upd_ne (ne_of_none hp2 n1)]; exact hp2, T.cl, T.nL, by show 0 < 1000; decide, ?_⟩⟩
    obtain ⟨H3, e3, kb3, hp3, g3, s3, f3⟩ := stepF (o := .lst (ls.map V.int)) (gs := putF "_lengths" (.ref r1) []) kb2 hp2 n1
    rw [e3]
    have l3 := seqP hp2 s3 (k2.seq hl)
    have q3 := seqP hp2 s3 (k2.seq hg)
    have c3 := seqP hp2 s3 (k2.seq hc)
    have x3 := krsP hp2 s3 (hx.kp k2)
    -- self._gaps
    refine ⟨_, rfl, g, _, rfl, .inl q3, fun r2 n2 => ⟨_, rfl, p, C, dx, _, rfl, by rw [upd_ne (ne_of_none hp3 n2)]; exact hp3, T.cl, T.nG, by show 1 < 1000; decide, ?_⟩⟩
    obtain ⟨H4, e4, kb4, hp4, g4, s4, f4⟩ := stepF (o := .lst (gs.map V.int)) (gs := putF "_gaps" (.ref r2) (putF "_lengths" (.ref r1) [])) kb3 hp3 n2
    rw [e4]
    have l4 := seqP hp3 s4 l3
    have c4 := seqP hp3 s4 c3
    have x4 := krsP hp3 s4 x3
    have gL4 := s4 _ _ g3 (ne_of hp3 g3 fun z => nomatch z).symm
    have len0 : ([] : List (Str × V)).length < 1 := by decide
    -- self._crosses
    refine ⟨_, rfl, l, ls, rfl, l4, bl, fun H5 r3 sm5 n3 g5 => ⟨_, rfl, p, C, dx, _, rfl, sm5 _ _ hp4, T.cl, T.nX, Nat.lt_of_lt_of_le (lenF (lenF len0)) (by decide), ?_⟩⟩
    obtain ⟨H6, e6, kb6, hp6, s6, f6⟩ := stepP (gs := putF "_crosses" (.ref r3) (putF "_gaps" (.ref r2) (putF "_lengths" (.ref r1) []))) (kb4.kp (kpS sm5)) (sm5 _ _ hp4)
    rw [e6]
    have hp5 := sm5 _ _ hp4
    have l6 := seqP hp5 s6 (sm5.seq l4)
    have c6 := seqP hp5 s6 (sm5.seq c4)
    have x6 := krsP hp5 s6 (x4.same sm5)
    have gL6 := s6 _ _ (sm5 _ _ gL4) (ne_of hp5 (sm5 _ _ gL4) fun z => nomatch z).symm
    have gG6 := s6 _ _ (sm5 _ _ g4) (ne_of hp5 (sm5 _ _ g4) fun z => nomatch z).symm
    have gX6 := s6 _ _ g5 (ne_of hp5 g5 fun z => nomatch z).symm
    -- self._top
    refine ⟨_, rfl, l, ls, rfl, l6, _, rfl, p, C, dx, _, rfl, hp6, T.cl, T.nT, Nat.lt_of_lt_of_le (lenF (lenF (lenF len0))) (by decide), ?_⟩
    obtain ⟨H7, e7, kb7, hp7, s7, f7⟩ := stepP (gs := putF "_top" (.int ls.sum) (putF "_crosses" (.ref r3) (putF "_gaps" (.ref r2) (putF "_lengths" (.ref r1) [])))) kb6 hp6
    rw [e7]
    have c7 := seqP hp6 s7 c6
    have x7 := krsP hp6 s7 x6
    have gL7 := s7 _ _ gL6 (ne_of hp6 gL6 fun z => nomatch z).symm
    have gG7 := s7 _ _ gG6 (ne_of hp6 gG6 fun z => nomatch z).symm
    have gX7 := s7 _ _ gX6 (ne_of hp6 gX6 fun z => nomatch z).symm
    -- self._closed
    refine ⟨_, rfl, c, rfl, ⟨_, c7⟩, fun D nD => ?_⟩
    have sD : ∀ o, Same H7 (upd H7 D o) := fun o => same_upd nD
    refine dcT_list (K := K) (a := c) (xs := xs) (fun i H' => H' = upd H7 D (.dT (ded ((kOf cs).take i)))) rfl ?_ ?_ ?_
    · rintro i H' _ rfl
      exact (sD _).seq c7
    · rintro i x H' hi rfl
      obtain ⟨y, hy, t, rfl, ht⟩ := (x7.same (sD (.dT (ded ((kOf cs).take i))))).at hi
      refine ⟨rfl, _, rfl, t, _, y, rfl, ht, upd_same, ?_, ?_⟩
      · have z1 := ded_le ((kOf cs).take i)
        have z2 : ((kOf cs).take i).length ≤ (kOf cs).length := List.length_take_le' _ _
        have z3 : (kOf cs).length = cs.length := List.length_map _
        rw [sizeLine_eq]
        omega
      · rw [upd_upd, List.take_add_one, hy]
        show _ = upd H7 D (.dT (ded ((kOf cs).take i ++ [y])))
        rw [ded_snoc]
    · rintro H' rfl
      rw [hxl, List.take_length]
      refine ⟨_, rfl, p, C, dx, _, rfl, sD _ _ _ hp7, T.cl, T.nC, Nat.lt_of_lt_of_le (lenF (lenF (lenF (lenF len0)))) (by decide), ?_⟩
      obtain ⟨H8, e8, kb8, hp8, g8, s8, f8⟩ := stepF (o := .dT (ded (kOf cs))) (gs := hf (.ref r1) (.ref r2) (.ref r3) (.int ls.sum) (.ref D)) kb7 hp7 nD
      have e8' : upd (upd H7 D (.dT (ded (kOf cs)))) p (.ins C dx (putF "_closed" (.ref D) (putF "_top" (.int ls.sum) (putF "_crosses" (.ref r3) (putF "_gaps" (.ref r2) (putF "_lengths" (.ref r1) [])))))) = H8 := e8
      rw [e8']
      have c8 := seqP hp7 s8 c7
      have x8 := krsP hp7 s8 x7
      have gL8 := s8 _ _ gL7 (ne_of hp7 gL7 fun z => nomatch z).symm
      have gG8 := s8 _ _ gG7 (ne_of hp7 gG7 fun z => nomatch z).symm
      have gX8 := s8 _ _ gX7 (ne_of hp7 gX7 fun z => nomatch z).symm
      have kl : (kOf cs).length = cs.length := List.length_map _
      -- too many, or one twice
      refine ⟨_, rfl, _, _, rfl, .inl ⟨_, c8, rfl⟩, _, _, rfl, rfl, _, rfl, ?_⟩
      refine ite2 (fun h5 => ?_) (fun h5 => ?_)
      · exact bad (fun v => by
          have v3 := v.2.2.1
          simp at h5
          omega) kb8
      have v3 : cs.length ≤ 200 := by
        simp at h5
        omega
      refine ⟨_, rfl, p, C, dx, _, _, rfl, hp8, T.cl, T.nC, hf_closed _ _ _ _ _, D, _, rfl, g8, _, rfl, _, _, rfl, .inl ⟨_, c8, rfl⟩, _, _, rfl, rfl, _, rfl, ?_⟩
      refine ite2 (fun h6 => ?_) (fun h6 => ?_)
      · exact bad (fun v => by
          rw [(ded_eq (kOf cs)).1 v.2.2.2.1, List.length_map] at h6
          have z := of_decide_eq_true h6
          omega) kb8
      have v4 : (kOf cs).Nodup := Decidable.byContradiction fun n => h6 (decide_eq_true (by
        have z := (ded_eq (kOf cs)).2 n
        omega))
      -- each is a link
      have tab8 : TabG H8 TI := kb8.tab _ tI
      refine ⟨_, rfl, c, rfl, ⟨_, c8⟩, tab8, fun H9 t9 => ?_⟩
      have k9 : Kp H8 H9 := Tabbed.kp t9 tab8
      have kb9 : KpB p H H9 := kb8.kp k9
      have hp9 := k9.ins hp8
      have x9 := x8.kp k9
      have part : PartAt C H9 p ls gs := ⟨dx, r1, r2, r3, _, hp9, k9.lst gL8, k9.lst gG8, k9.lst gX8⟩
      refine for_list (K := K) (a := c) (xs := xs) (fun i σ H' => (∃ z, σ = [z, some (.ref p)]) ∧ H' = H9 ∧ ∀ c ∈ cs.take i, isLk ls gs c.1 c.2.1 c.2.2 = true) ?_ ?_ ?_ ?_
      · exact ⟨⟨none, rfl⟩, rfl, fun c z => by simp at z⟩
      · rintro i σ H' _ ⟨_, rfl, _⟩
        exact k9.seq c8
      · rintro i x H0 H' hi ⟨⟨z, rfl⟩, rfl, hall⟩
        obtain ⟨y, hy, hk⟩ := x9.at hi
        unfold kOf at hy
        rw [List.getElem?_map] at hy
        cases hci : cs[i]? with
        | none => rw [hci] at hy; cases hy
        | some ci =>
          rw [hci] at hy
          cases hy
          refine ⟨_, rfl, p, dx, _, rfl, hp9, hf_no _ _ _ _ _ (by decide +kernel) (by decide +kernel) (by decide +kernel) (by decide +kernel) (by decide +kernel), _, rfl, p, x, ls, gs, ci.1, ci.2.1, ci.2.2, rfl, part, hk, _, rfl, ?_⟩
          refine ite2 (fun h7 => ?_) (fun h7 => ?_)
          · refine ⟨_, rfl, ?_⟩
            exact bad (fun v => by
              rw [v.2.2.2.2 ci (List.mem_of_getElem? hci)] at h7
              cases h7) kb9
          · refine ⟨⟨_, rfl⟩, rfl, fun c' hc' => ?_⟩
            rw [List.take_add_one, hci] at hc'
            rcases List.mem_append.mp hc' with z1 | z1
            · exact hall c' z1
            · have z2 : c' = ci := by simpa using z1
              rw [z2]
              simpa using h7
      · rintro σ H' ⟨⟨z, rfl⟩, rfl, hall⟩
        rw [hxl, kl, List.take_length] at hall
        have va : Valid ls gs cs := ⟨v1, v2, v3, v4, hall⟩
        refine ⟨_, rfl, ?_⟩
        refine q va H' ⟨va, dx, r1, r2, r3, D, hp9, k9.lst gL8, k9.lst gG8, k9.lst gX8, ?_⟩ kb9 (fun dx' l' g' c' t' d' z => ?_)
        · rw [← (ded_eq (kOf cs)).1 v4]
          exact k9.dT g8
        · rw [hp9] at z
          have z2 := Option.some.inj z
          injection z2 with _ _ z3
          have e1 := hf_lengths (.ref r1) (.ref r2) (.ref r3) (.int ls.sum) (.ref D)
          have e2 := hf_gaps (.ref r1) (.ref r2) (.ref r3) (.int ls.sum) (.ref D)
          have e3' := hf_crosses (.ref r1) (.ref r2) (.ref r3) (.int ls.sum) (.ref D)
          rw [z3, hf_lengths] at e1
          rw [z3, hf_gaps] at e2
          rw [z3, hf_crosses] at e3'
          obtain rfl : l' = r1 := V.ref.inj (Option.some.inj e1)
          obtain rfl : g' = r2 := V.ref.inj (Option.some.inj e2)
          obtain rfl : c' = r3 := V.ref.inj (Option.some.inj e3')
          exact ⟨Kp.noLst k2 n1, Kp.noLst k2 (f3 _ n2), Kp.noLst k2 (f3 _ (f4 _ n3))⟩
/-- what is needed to make houses -/
structure MakeN (P : Program) (w : World) (K : PySem.W.Frag) (mg : Str → Option Value) (base : Heap) where
  C : Addr
  CI : Addr
  TL : Addr
  TI : Addr
  fI : Addr
  fdI : FuncData
  M : Mk K C fI
  GI : FnOk P w K mg base (L2N.CX P w) 5 fI fdI ["self", "lengths", "gaps", "closed"] (spHouse K C CI TL TI)
  GJ : FnOk P w K mg base (L2.CX P w) 5 fI fdI ["self", "lengths", "gaps", "closed"] (spHouse K C CI TL TI)
  bI : Binds K fdI ["self", "lengths", "gaps", "closed"] []
  mgC : mg "House" = some (.ref C)
/-- a link more, or an error: the first where it is no link or closed, the second where 200 are closed -/
def spWX (C CL CT TL TI : Addr) : Sp := fun vs H Q E => ∃ (p : Addr) (v : V) (ls gs : List Int) (cs : List (Str × Int × Int)) (c : Str × Int × Int), vs = [.ref p, v] ∧ HouseAt C H p ls gs cs ∧ Kr H v (lk c.1 c.2.1 c.2.2) ∧ TabG H TL ∧ TabG H TI ∧
  (isLk ls gs c.1 c.2.1 c.2.2 = true → lk c.1 c.2.1 c.2.2 ∉ kOf cs → cs.length < 200 → ∀ (H' : Hp) (r : Addr), Kp H H' → HouseAt C H' r ls gs (sortC cs ++ [c]) → Q (.ref r) H') ∧
  (isLk ls gs c.1 c.2.1 c.2.2 = false ∨ lk c.1 c.2.1 c.2.2 ∈ kOf cs → E (.ref CL) none H) ∧
  (isLk ls gs c.1 c.2.1 c.2.2 = true → lk c.1 c.2.1 c.2.2 ∉ kOf cs → 200 ≤ cs.length → E (.ref CT) none H)
theorem ok_wcX {f fL fC CL CT : Addr} {fd fdL fdC : FuncData} (F : Fun K "with_closed" "House.with_closed" s_House_with_closed f fd) (Y : HouseTop mg) (Z : MakeN P w K mg base) (T : HouseTxt K mg Z.C) (U : ErrTxt K mg CL "InvalidLink") (U2 : ErrTxt K mg CT "TooLarge")
    (GL : FnOk P w K mg base CX0 1 fL fdL ["self", "link"] (spLink Z.C)) (bL : Binds K fdL ["self", "link"] []) (mL : Meth K Z.C "is_link" fL) (GC : FnOk P w K mg base CX0 1 fC fdC ["self", "link"] (spClosedQ Z.C)) (bC : Binds K fdC ["self", "link"] []) (mC : Meth K Z.C "is_closed" fC)
    (pC : PropD P w K mg base Z.C 2 "closed" (spClosed Z.C)) : FnOk P w K mg base (L2N.CX P w) 7 f fd ["self", "link"] (spWX Z.C CL CT Z.TL Z.TI) := by
  refine fun_okN F sc_House_with_closed (fun vs H Q E h => ?_) (fun cdv A outer s H vs Q E hr h => ?_)
  · obtain ⟨p, v, ls, gs, cs, c, rfl, _⟩ := h
    rfl
  · obtain ⟨p, v, ls, gs, cs, c, rfl, hH, hv, tL, tI, q, eL, eT⟩ := h
    obtain ⟨va, dx, r1, r2, r3, r4, h1, h2, h3, h4, h5⟩ := id hH
    have nd := sc_House_with_closed.nd
    obtain ⟨_, hClo⟩ := Y.mostClosed
    have l1 := va.1.1.2
    have l2 := va.2.1.1
    refine ⟨_, (pss_cons (ps_if (PW.pt (pw_or (pt_not (pt_val (pe_meth (pv 0) T.cl mL GL (by exact hr.mono (by decide)) bL .nil pass0 (pa_cons (pv 1) pa_nil)))) (pw_or1 (pt_val (pe_meth (pv 0) T.cl mC GC (by exact hr.mono (by decide)) bC .nil pass0 (pa_cons (pv 1) pa_nil)))))) (pss_one (L2N.ps_raise rfl (L2N.takes_of rfl rfl rfl rfl) (L2N.pmk_own PySem.F.excBase_ValueError U.xI U.gI U.kI (raises_own U.bI U.tI) rfl))) pss_nil)
      (pss_cons (ps_if (pt_cmpR op_ge (pe_callB call_len_dT (by rfl) Y.len (by decide +kernel) (pa_cons (pe_fld (pv 0) rfl) pa_nil)) (pe_glob (v := .int 200) rfl hClo ⟨_, rfl⟩) (nomark _)) (pss_one (L2N.ps_raise rfl (L2N.takes_of rfl rfl rfl rfl) (L2N.pmk_own PySem.F.excBase_ValueError U2.xI U2.gI U2.kI (raises_own U2.bI U2.tI) rfl))) pss_nil)
      (pss_one (ps_ret (pe_make Z.M Z.GJ (by exact hr.mono (by decide)) (by rfl) Z.mgC Z.bI .nil passL (pa_cons (pe_fld (pv 0) rfl) (pa_cons (pe_fld (pv 0) rfl) (pa_cons (pe_op op_cat (pe_prop (pv 0) T.cl pC.h pC.G (by exact hr.mono (by decide)) pC.b .nil pass0 rfl) (pe_lst (pa_cons (pv 1) pa_nil))) pa_nil)))))))), ?_⟩
    refine ⟨_, rfl, p, dx, _, rfl, h1, hf_no _ _ _ _ _ (by decide +kernel) (by decide +kernel) (by decide +kernel) (by decide +kernel) (by decide +kernel), _, rfl, p, v, ls, gs, c.1, c.2.1, c.2.2, rfl, hH.part, hv, _, rfl, ?_⟩
    refine ite2 (fun hb => eL (.inl (by simpa using hb))) (fun hb => ?_)
    have hlk : isLk ls gs c.1 c.2.1 c.2.2 = true := by simpa using hb
    refine ⟨_, rfl, p, dx, _, rfl, h1, hf_no _ _ _ _ _ (by decide +kernel) (by decide +kernel) (by decide +kernel) (by decide +kernel) (by decide +kernel), _, rfl, p, v, ls, gs, cs, _, rfl, hH, hv, _, rfl, ?_⟩
    refine ite2 (fun hb => eL (.inr (of_decide_eq_true hb))) (fun hb => ?_)
    have hnot : lk c.1 c.2.1 c.2.2 ∉ kOf cs := fun z => hb (decide_eq_true z)
    refine ⟨_, rfl, p, Z.C, dx, _, _, rfl, h1, T.cl, T.nC, hf_closed _ _ _ _ _, r4, _, rfl, h5, ?_⟩
    rw [List.length_map, show (kOf cs).length = cs.length from List.length_map _]
    refine ⟨_, _, rfl, rfl, _, rfl, ?_⟩
    refine ite2 (fun hb => eT hlk hnot (by have z := of_decide_eq_true hb; omega)) (fun hb => ?_)
    have h200 : cs.length < 200 := by
      have : ¬ ((200 : Int) ≤ (cs.length : Int)) := fun z => hb (decide_eq_true z)
      omega
    refine ⟨_, rfl, p, Z.C, dx, _, _, rfl, h1, T.cl, T.nL, hf_lengths _ _ _ _ _, ?_⟩
    refine ⟨_, rfl, p, Z.C, dx, _, _, rfl, h1, T.cl, T.nG, hf_gaps _ _ _ _ _, ?_⟩
    refine ⟨_, rfl, p, dx, _, rfl, h1, p, ls, gs, cs, rfl, hH, fun m1 ys n1 hys => ?_⟩
    obtain ⟨H1, e1, k1, g1⟩ := made (o := .lst ys) n1
    rw [e1]
    refine ⟨_, rfl, (by show 1 ≤ sizeLine; decide), fun m2 n2 => ?_⟩
    obtain ⟨H2, e2, k2, g2⟩ := made (o := .lst [v]) n2
    rw [e2]
    rw [← kOf_sortC] at hys
    have scl : (sortC cs).length = cs.length := (sortC_perm cs).length_eq
    have hysl : ys.length = (sortC cs).length := hys.len.trans (List.length_map _)
    have hline : 1000000 < sizeLine := by decide
    refine ⟨m1, m2, ys, [v], rfl, rfl, k2 _ _ g1, g2, (by show ys.length + 1 ≤ sizeLine; omega), fun m3 n3 => ?_⟩
    obtain ⟨H3, e3, k3, g3⟩ := made (o := .lst (ys ++ [v])) n3
    rw [e3]
    have k03 := (k1.trans k2).trans k3
    intro x dx2 nx ndx ne
    have kM : Same H3 (upd (upd H3 dx2 (.own x)) x (.ins Z.C dx2 [])) := fun b z e => by
      rw [upd_ne (ne_of_none e nx), upd_ne (ne_of_none e ndx)]
      exact e
    have kA := k03.trans kM
    have hk3 : Krs H3 (ys ++ [v]) (kOf (sortC cs ++ [c])) := by
      rw [kOf_snoc1]
      exact (hys.same k03).snoc (hv.same k03)
    have vm := valid_more va hlk hnot h200
    refine ⟨x, dx2, r1, r2, m3, ls, gs, _, sortC cs ++ [c], rfl, upd_same, SqL.of (kA _ _ h2), SqL.of (kA _ _ h3), SqL.of (kM _ _ g3), hk3.same kM, by omega, by omega, by have := vm.2.2.1; omega, (kpS kA).tab _ tL, (kpS kA).tab _ tI, fun _ H4 hH4 k0 _ => ⟨rfl, ?_⟩, fun nv => absurd vm nv⟩
    exact q hlk hnot h200 H4 x ((kpS k03).trans (mkKp nx ndx k0)) hH4
end
open SX
section
open GxR NdefX PySem.Spec PyProof.Rows
variable {P : Program} {w : World} {K : PySem.W.Frag} {mg : Str → Option Value} {base : Heap}
theorem ok_notinitH {f C : Addr} {fd : FuncData} (F : Fun K "__init__" "InvalidNotation.__init__" s_InvalidNotation___init__ f fd) : L2H.FnH P w K mg base CX0 1 f fd ["self", "line"] (spXI K C "line") := by
  refine fun_okH F sc_InvalidNotation___init__ (fun vs H Q E h => ?_) (fun cdv A outer s H vs Q E p hot hr h => ?_)
  · obtain ⟨a, v, rfl, _⟩ := h
    rfl
  · obtain ⟨a, v, rfl, T, hno, ha, q⟩ := h
    exact ⟨_, pss_one (ps_ost (pv 0) (pv 1)), v, rfl, _, rfl, a, C, rfl, T, hno, .inl ⟨ha, q⟩⟩
theorem RaisesN.kp {CN : Addr} {k : Int} {H H' : Hp} {E : XK} (h : RaisesN CN k H E) (k1 : Kp H H') : RaisesN CN k H' E := fun H2 d k2 e => h H2 d (k1.trans k2) e
def spHOX (K : PySem.W.Frag) (C CN TL TI : Addr) : Sp := fun vs H Q E => ∃ (l g : Addr) (ls gs : List Int) (k : Int), vs = [.ref l, .ref g, .int k] ∧ SqL K H l (ls.map V.int) ∧ SqL K H g (gs.map V.int) ∧ ls.length ≤ 1000 ∧ gs.length ≤ 1000 ∧ TabG H TL ∧ TabG H TI ∧
  (Valid ls gs [] → ∀ (H' : Hp) (r : Addr), Kp H H' → HouseAt C H' r ls gs [] → Q (.ref r) H') ∧ (¬ Valid ls gs [] → RaisesN CN k H E)
theorem ok_hoX {f CN fI : Addr} {fd fdI : FuncData} (F : Fun K "_house_of" "_house_of" s__house_of f fd) (Z : MakeN P w K mg base) (U : NotTxt K mg CN fI) (gCI : mg "InvalidHouse" = some (.ref Z.CI)) (eII : PySem.W.exmOne K (.ref Z.CI) (.ref Z.CI) = some true)
    (GIH : L2H.FnH P w K mg base CX0 1 fI fdI ["self", "line"] (spXI K CN "line")) (bI : Binds K fdI ["self", "line"] []) : FnOk P w K mg base (L2.CX P w) 7 f fd ["lengths", "gaps", "number"] (spHOX K Z.C CN Z.TL Z.TI) := by
  refine F.okX sc__house_of (fun vs H Q E h => ?_) (fun cdv A outer s H vs Q E hr h => ?_)
  · obtain ⟨l, g, ls, gs, k, rfl, _⟩ := h
    rfl
  · obtain ⟨l, g, ls, gs, k, rfl, hl, hg, l1, l2, tL, tI, q, qx⟩ := h
    have nd := sc__house_of.nd
    refine ⟨_, (pss_one (L2H.ps_try_onlyX (ts := fun _ _ _ _ σ H => _) rfl rfl ⟨rfl, by decide, .inl gCI⟩ (L2H.passesAt_of rfl) (takes_of rfl rfl rfl rfl)
        (fun W pn xe tkN tkO po => pss_one (ps_ret (pe_makeS Z.M Z.GI (by exact hr.mono (by decide)) (by rfl) Z.mgC Z.bI (fun τ => L2N.passAt tkN τ) (pa_cons (pv 0) (pa_cons (pv 1) (pa_cons (pe_lst pa_nil) pa_nil))))))
        (fun a oe cls d pn hz hf tkS hot => pss_one (L2H.ps_raiseHN hot tkS (L2H.pmk5_oexH U.o U.i U.y GIH (L2H.roomH_mark (by exact hr.mono (by decide)) _) hot bI pass0 (by rfl) U.g (pa_cons (pv 2) pa_nil)))))), ?_⟩
    refine ⟨_, rfl, _, rfl, Nat.zero_le _, fun m nm => ?_⟩
    obtain ⟨H3, e3, k3, g3⟩ := made (o := .lst []) nm
    rw [e3]
    intro x dx2 nx ndx ne
    have kM : Same H3 (upd (upd H3 dx2 (.own x)) x (.ins Z.C dx2 [])) := fun b z e => by
      rw [upd_ne (ne_of_none e nx), upd_ne (ne_of_none e ndx)]
      exact e
    have kA := k3.trans kM
    refine ⟨x, dx2, l, g, m, ls, gs, [], [], rfl, upd_same, kA.seq hl, kA.seq hg, SqL.of (kM _ _ g3), .nil, l1, l2, Nat.zero_le _, (kpS kA).tab _ tL, (kpS kA).tab _ tI, fun va H4 hH4 k0 _ => ⟨rfl, ?_⟩, fun nv H4 k0 => ⟨true, eII, fun _ y ny => ⟨_, rfl, by show 1 ≤ 1000; decide, note_raised U (qx nv) ((kpS k3).trans (mkKp nx ndx k0))⟩, fun z => nomatch z⟩⟩
    exact q va H4 x ((kpS k3).trans (mkKp nx ndx k0)) hH4
/-- the word that a line's link has -/
def wdOf (z : Str) : Str := if Txt.startswith z ("closed over" : Str) = true then "over" else "up"
/-- the link that a line tells -/
def linkIn (ls : List Str) (n : Nat) : Option (Str × Int × Int) := match numsIn ls n [S clW, wdOf (ls.getD (n - 1) Str.empty)] with
  | some [a, b] => some (wdOf (ls.getD (n - 1) Str.empty), a, b)
  | _ => none
theorem asc_wd (z : Str) : asc (wdOf z) := by
  unfold wdOf
  split
  · rw [show ("over" : Str) = S [111, 118, 101, 114] by decide +kernel]; exact asc_S (by decide)
  · rw [show ("up" : Str) = S [117, 112] by decide +kernel]; exact asc_S (by decide)
def spHLX (K : PySem.W.Frag) (T0 C CN TL TI : Addr) : Sp := fun vs H Q E => ∃ (p l : Addr) (ls gs : List Int) (cs : List (Str × Int × Int)) (lns : List Str) (n : Nat), vs = [.ref p, .ref l, .int n] ∧ HouseAt C H p ls gs cs ∧ SqL K H l (lns.map V.str) ∧ LinesOk lns ∧ 1 ≤ n ∧ n ≤ lns.length ∧ TabG H T0 ∧ TabG H TL ∧ TabG H TI ∧
  (∀ c, linkIn lns n = some c → isLk ls gs c.1 c.2.1 c.2.2 = true → lk c.1 c.2.1 c.2.2 ∉ kOf cs → cs.length < 200 → ∀ (H' : Hp) (r : Addr), Kp H H' → HouseAt C H' r ls gs (sortC cs ++ [c]) → Q (.ref r) H') ∧
  ((∀ c, linkIn lns n = some c → isLk ls gs c.1 c.2.1 c.2.2 = false ∨ lk c.1 c.2.1 c.2.2 ∈ kOf cs ∨ 200 ≤ cs.length) → RaisesN CN n H E)
theorem ok_hlX {f fN fI fW T0 C CN CL CT TL TI : Addr} {fd fdN fdI fdW : FuncData} (F : Fun K "_house_with_line" "_house_with_line" s__house_with_line f fd) (T : NoteTop mg) (TH : HouseTxt K mg C) (U : NotTxt K mg CN fI) (GI : FnOk P w K mg base CX0 1 fI fdI ["self", "line"] (spXI K CN "line")) (bI : Binds K fdI ["self", "line"] [])
    (gCL : mg "InvalidLink" = some (.ref CL)) (gCT : mg "TooLarge" = some (.ref CT)) (eTL : PySem.W.exmAny K (.ref CL) [.ref CL, .ref CT] = some true) (eTT : PySem.W.exmAny K (.ref CT) [.ref CL, .ref CT] = some true) (GIH : L2H.FnH P w K mg base CX0 1 fI fdI ["self", "line"] (spXI K CN "line"))
    (FNk : PySem.W.keepIn K (.ref fN) = true) (GN : FnOk P w K mg base (L2.CX P w) 5 fN fdN ["lines", "number", "head"] (spIn K T0 CN)) (bN : Binds K fdN ["lines", "number", "head"] []) (gN : mg "_numbers_in" = some (.ref fN))
    (mW : Meth K C "with_closed" fW) (GW : FnOk P w K mg base (L2N.CX P w) 7 fW fdW ["self", "link"] (spWX C CL CT TL TI)) (bW : Binds K fdW ["self", "link"] []) : FnOk P w K mg base (L2.CX P w) 9 f fd ["house", "lines", "number"] (spHLX K T0 C CN TL TI) := by
  refine F.okX sc__house_with_line (fun vs H Q E h => ?_) (fun cdv A outer s H vs Q E hr h => ?_)
  · obtain ⟨p, l, ls, gs, cs, lns, n, rfl, _⟩ := h
    rfl
  · obtain ⟨p, l, ls, gs, cs, lns, n, rfl, hH, hl, hls, hn1, hn2, t0, tL, tI, q, qx⟩ := h
    have nd := sc__house_with_line.nd
    refine ⟨_, (pss_cons (ps_set (i := 3) nd rfl (.inl rfl) (pe_ifExp (pt_val (pe_m1 PySem.F.slot_str_startswith PySem.F.type_str_startswith mt_startswith (pe_ix ix_list (pv 1) (pe_op op_sub (pv 2) pe_int) (fun _ _ => rfl)) pe_str)) pe_str pe_str))
      (pss_cons (ps_set (i := 4) nd rfl (.inl rfl) (pe_call GN (by exact hr.mono (by decide)) (by rfl) gN FNk bN .nil (passes_call (takes_of rfl rfl rfl rfl) fun _ _ _ _ h => h) (pa_cons (pv 1) (pa_cons (pv 2) (pa_cons (pe_lst (pa_cons pe_str (pa_cons (pv 3) pa_nil))) pa_nil)))))
      (pss_cons (ps_if (pt_cmpR op_ne (pe_callB call_len (by rfl) T.len (by decide +kernel) (pa_cons (pv 4) pa_nil)) pe_int (nomark _)) (pss_one (ps_raise rfl (takes_of rfl rfl rfl rfl) (pmk_oex U.o U.i U.y GI (by exact hr.mono (by decide)) bI .nil pass0 (by rfl) U.g (pa_cons (pv 2) pa_nil)))) pss_nil)
      (pss_one (ps_try_pair (ts := fun _ _ _ _ σ H => _) rfl rfl ⟨rfl, by decide, .inl gCL⟩ ⟨rfl, by decide, .inl gCT⟩ (L2H.passesAt_of rfl) (takes_of rfl rfl rfl rfl)
        (fun W pn xe tkN tkO po => pss_one (ps_ret (pe_methS (pv 0) TH.cl mW GW (by exact hr.mono (by decide)) bW (fun τ => L2N.passAt tkN τ) (pa_cons (pe_tup (pa_cons (pv 3) (pa_cons (pe_ix (r := rIxL K) ix_list (pv 4) pe_int (fun _ _ => rfl)) (pa_cons (pe_ix (r := rIxL K) ix_list (pv 4) pe_int (fun _ _ => rfl)) pa_nil)))) pa_nil))))
        (fun a oe cls d pn hz hf tkS hot => pss_one (L2H.ps_raiseHN hot tkS (L2H.pmk5_oexH U.o U.i U.y GIH (L2H.roomH_mark (by exact hr.mono (by decide)) _) hot bI pass0 (by rfl) U.g (pa_cons (pv 2) pa_nil))))))))), ?_⟩
    obtain ⟨ln, hln⟩ : ∃ z, lns[n - 1]? = some z := ⟨_, List.getElem?_eq_getElem (by omega)⟩
    have hget : lns.getD (n - 1) Str.empty = ln := by
      rw [List.getD_eq_getElem?_getD, hln]
      rfl
    unfold linkIn at q qx
    rw [hget] at q qx
    refine ⟨_, rfl, _, rfl, _, _, rfl, rfl, l, _, _, .str ln, rfl, rfl, hl, ?_, ⟨_, rfl⟩, _, _, rfl, rfl, _, rfl, ?_⟩
    · rw [show (n : Int) - 1 = ((n - 1 : Nat) : Int) by omega]
      exact atI_nat (by rw [List.getElem?_map, hln]; rfl)
    have go : ∀ {σ : L2.St} {K1 : VK}, K1 (.str (wdOf ln)) H → (if Txt.startswith ln ("closed over" : Str) = true then tC (.str "over") σ H K1 else tC (.str "up") σ H K1) := fun {σ K1} g => by
      unfold wdOf at g
      by_cases h : Txt.startswith ln ("closed over" : Str) = true
      · rw [if_pos h] at g ⊢
        exact g
      · rw [if_neg h] at g ⊢
        exact g
    refine go ?_
    have aw : ∀ x ∈ [S clW, wdOf ln], asc x := fun x hx => by
      simp only [List.mem_cons, List.mem_nil_iff, or_false] at hx
      rcases hx with rfl | rfl
      · exact asc_S (by decide)
      · exact asc_wd ln
    generalize wdOf ln = wd at *
    refine ⟨_, rfl, _, rfl, _, rfl, (by show 2 ≤ sizeLine; decide), fun m nm => ?_⟩
    obtain ⟨H1, e1, k1, g1⟩ := made (o := .lst ([S clW, wd].map V.str)) nm
    have e1' : upd H m (.lst [V.str "closed", .str wd]) = H1 := by
      rw [← e1, clw_S]
      rfl
    rw [e1']
    have k01 : Kp H H1 := kpS k1
    refine ⟨l, m, lns, [S clW, wd], n, rfl, k1.seq hl, SqL.of g1, hls, hn1, (by have := hls.1; omega), (by show 2 ≤ 1000; decide), aw, k01.tab _ t0, fun ns hns H2 r k2 gr => ?_, fun hno => ?_⟩
    rotate_left
    · rw [hno] at qx
      exact (qx fun c hc => by cases hc).kp k01
    rw [hns] at q qx
    have k02 := k01.trans k2
    refine ⟨_, rfl, _, _, rfl, .inl ⟨_, SqL.of gr, rfl⟩, rfl, _, rfl, ?_⟩
    refine ite2 (fun hb => ?_) (fun hb => ?_)
    · refine ⟨_, rfl, by show 1 ≤ 1000; decide, note_raised U (qx fun c hc => ?_) k02⟩
      match ns, hc, hb with
      | [_, _], _, hb => exact absurd hb (by simp)
    have l2 : ns.length = 2 := by
      have z : (ns.length : Int) = 2 := by simpa using hb
      omega
    obtain ⟨a, b, rfl⟩ : ∃ a b, ns = [a, b] := by
      match ns, l2 with
      | [a, b], _ => exact ⟨a, b, rfl⟩
    obtain ⟨va, dx, _, _, _, _, h1, _⟩ := id (hH.kp k02)
    refine ⟨_, rfl, p, dx, _, rfl, h1, hf_no _ _ _ _ _ (by decide +kernel) (by decide +kernel) (by decide +kernel) (by decide +kernel) (by decide +kernel), ?_⟩
    refine ⟨_, rfl, _, rfl, r, _, _, _, rfl, rfl, SqL.of gr, rfl, _, rfl, r, _, _, _, rfl, rfl, SqL.of gr, rfl, (by show 3 ≤ sizeLine; decide), fun t nt => ?_⟩
    obtain ⟨H3, e3, k3, g3⟩ := made (o := .tup ((lk wd a b).map kV)) nt
    have e3' : upd H2 t (.tup [V.str wd, .int a, .int b]) = H3 := e3
    rw [e3']
    have k03 := k02.trans (kpS k3)
    refine ⟨p, .ref t, ls, gs, cs, (wd, a, b), rfl, hH.kp k03, ⟨t, rfl, g3⟩, k03.tab _ tL, k03.tab _ tI, fun z1 z2 z3 H4 r4 k4 hr4 => q (wd, a, b) rfl z1 z2 z3 H4 r4 (k03.trans k4) hr4, fun z1 => ⟨true, eTL, fun _ y ny => ⟨_, rfl, by show 1 ≤ 1000; decide, note_raised U (qx fun c hc => ?_) k03⟩, fun z => nomatch z⟩, fun z1 z2 z3 => ⟨true, eTT, fun _ y ny => ⟨_, rfl, by show 1 ≤ 1000; decide, note_raised U (qx fun c hc => ?_) k03⟩, fun z => nomatch z⟩⟩
    · cases hc
      exact z1.elim .inl fun z => .inr (.inl z)
    · cases hc
      exact .inr (.inr z3)
end
open SX
section
open GxR NdefX PySem.Spec PyProof.Rows
variable {P : Program} {w : World} {K : PySem.W.Frag} {mg : Str → Option Value} {base : Heap}
/-- numbers of a house -/
def okN (L G : List Int) : Bool := (decide (1 ≤ L.length) && decide (L.length ≤ 2) && L.all longN) && (decide (G.length ≤ 11) && G.all longN)
theorem okN_valid {L G : List Int} : okN L G = true ↔ Valid L G [] := by
  unfold okN
  rw [Bool.and_eq_true, Bool.and_eq_true, Bool.and_eq_true, Bool.and_eq_true, decide_eq_true_eq, decide_eq_true_eq, decide_eq_true_eq]
  exact ⟨fun h => ⟨h.1, h.2, Nat.zero_le _, .nil, fun _ z => nomatch z⟩, fun h => ⟨h.1, h.2.1⟩⟩
def linksFrom (lns : List Str) (L G : List Int) : Nat → Nat → List (Str × Int × Int) → Nat ⊕ List (Str × Int × Int)
  | 0, _, acc => .inr acc
  | m + 1, n, acc => match linkIn lns n with
    | none => .inl n
    | some c => if isLk L G c.1 c.2.1 c.2.2 = true ∧ lk c.1 c.2.1 c.2.2 ∉ kOf acc ∧ acc.length < 200 then linksFrom lns L G m (n + 1) (acc ++ [c]) else .inl n
theorem linksFrom_step {lns : List Str} {L G : List Int} {m n : Nat} {acc : List (Str × Int × Int)} : linksFrom lns L G (m + 1) n acc = (match linkIn lns n with
    | none => .inl n
    | some c => if isLk L G c.1 c.2.1 c.2.2 = true ∧ lk c.1 c.2.1 c.2.2 ∉ kOf acc ∧ acc.length < 200 then linksFrom lns L G m (n + 1) (acc ++ [c]) else .inl n) := rfl
/-- what the lines tell: the first number that cannot stand, or lengths, gaps and links -/
def parseH (lns : List Str) : Nat ⊕ (List Int × List Int × List (Str × Int × Int)) := match numsIn lns 1 [S lenW] with
  | none => .inl 1
  | some L => if okN L [] = true then (match numsIn lns 2 [S gapW] with
    | none => .inl 2
    | some G => if okN L G = true then (match linksFrom lns L G (lns.length - 2) 3 [] with
      | .inl n => .inl n
      | .inr cs => .inr (L, G, cs)) else .inl 2) else .inl 1
theorem nums_len {lns : List Str} {n : Nat} {hd : List Str} {ns : List Int} (h : numsIn lns n hd = some ns) (b : ∀ z ∈ lns, z.length ≤ 900) : ns.length ≤ 1000 := by
  unfold numsIn at h
  have g : (lns.getD (n - 1) Str.empty).length ≤ 900 := by
    rw [List.getD_eq_getElem?_getD]
    cases e : lns[n - 1]? with
    | none => exact Nat.zero_le _
    | some z => exact b z (List.mem_of_getElem? e)
  have s := split_le (lns.getD (n - 1) Str.empty) (S [32])
  split at h
  · cases h
  · split at h
    · rw [← Option.some.inj h, List.length_map, List.length_drop]
      omega
    · cases h
theorem nums_le {lns : List Str} {n : Nat} {hd : List Str} {ns : List Int} (h : numsIn lns n hd = some ns) : n ≤ lns.length := by
  unfold numsIn at h
  split at h
  · cases h
  · omega
def spPHX (C T0 TL TI CN : Addr) : Sp := fun vs H Q E => ∃ (z : Str), vs = [.str z] ∧ z.length ≤ 900 ∧ asc z ∧ TabG H T0 ∧ TabG H TL ∧ TabG H TI ∧
  (∀ L G cs, parseH (Txt.split z (S [10])) = .inr (L, G, cs) → ∀ (H' : Hp) (r : Addr) (cs' : List (Str × Int × Int)), Kp H H' → HouseAt C H' r L G cs' → cs'.Perm cs → Q (.ref r) H') ∧ (∀ n, parseH (Txt.split z (S [10])) = .inl n → RaisesN CN n H E)
theorem ok_phX {f fN fO fL T0 C CN TL TI : Addr} {fd fdN fdO fdL : FuncData} (F : Fun K "parse_house" "parse_house" s_parse_house f fd) (T : NoteTop mg)
    (FNk : PySem.W.keepIn K (.ref fN) = true) (GN : FnOk P w K mg base (L2.CX P w) 5 fN fdN ["lines", "number", "head"] (spIn K T0 CN)) (bN : Binds K fdN ["lines", "number", "head"] []) (gN : mg "_numbers_in" = some (.ref fN))
    (FOk : PySem.W.keepIn K (.ref fO) = true) (GO : FnOk P w K mg base (L2.CX P w) 7 fO fdO ["lengths", "gaps", "number"] (spHOX K C CN TL TI)) (bO : Binds K fdO ["lengths", "gaps", "number"] []) (gO : mg "_house_of" = some (.ref fO))
    (FLk : PySem.W.keepIn K (.ref fL) = true) (GL : FnOk P w K mg base (L2.CX P w) 9 fL fdL ["house", "lines", "number"] (spHLX K T0 C CN TL TI)) (bL : Binds K fdL ["house", "lines", "number"] []) (gL : mg "_house_with_line" = some (.ref fL)) : FnOk P w K mg base (L2.CX P w) 10 f fd ["text"] (spPHX C T0 TL TI CN) := by
  refine F.okX sc_parse_house (fun vs H Q E h => ?_) (fun cdv A outer s H vs Q E hr h => ?_)
  · obtain ⟨z, rfl, _⟩ := h
    rfl
  · obtain ⟨z, rfl, hz, ha, t0, tL, tI, q, qx⟩ := h
    have nd := sc_parse_house.nd
    have hline : 1000000 < sizeLine := by decide
    refine ⟨_, (pss_cons (ps_set (i := 1) nd rfl (.inl rfl) (pe_split (pv 0) pe_str))
      (pss_cons (ps_set (i := 2) nd rfl (.inl rfl) (pe_call GN (by exact hr.mono (by decide)) (by rfl) gN FNk bN .nil (passes_call (takes_of rfl rfl rfl rfl) fun _ _ _ _ h => h) (pa_cons (pv 1) (pa_cons pe_int (pa_cons (pe_lst (pa_cons pe_str pa_nil)) pa_nil)))))
      (pss_cons (ps_expr (pe_call GO (by exact hr.mono (by decide)) (by rfl) gO FOk bO .nil (passes_call (takes_of rfl rfl rfl rfl) fun _ _ _ _ h => h) (pa_cons (pv 2) (pa_cons (pe_lst pa_nil) (pa_cons pe_int pa_nil)))))
      (pss_cons (ps_set (i := 3) nd rfl (.inl rfl) (pe_call GN (by exact hr.mono (by decide)) (by rfl) gN FNk bN .nil (passes_call (takes_of rfl rfl rfl rfl) fun _ _ _ _ h => h) (pa_cons (pv 1) (pa_cons pe_int (pa_cons (pe_lst (pa_cons pe_str pa_nil)) pa_nil)))))
      (pss_cons (ps_set (i := 4) nd rfl (.inl rfl) (pe_call GO (by exact hr.mono (by decide)) (by rfl) gO FOk bO .nil (passes_call (takes_of rfl rfl rfl rfl) fun _ _ _ _ h => h) (pa_cons (pv 2) (pa_cons (pv 3) (pa_cons pe_int pa_nil)))))
      (pss_cons (ps_for (passes_of rfl) rfl (pi_range2 rfl T.range (pa_cons pe_int (pa_cons (pe_op op_add (pe_callB call_len (by rfl) T.len (by decide +kernel) (pa_cons (pv 1) pa_nil)) pe_int) pa_nil))) (pg_name (i := 5) nd rfl (.inl rfl)) (pss_one (ps_set (i := 4) nd rfl (.inl rfl) (pe_call GL (by exact hr.mono (by decide)) (by rfl) gL FLk bL .nil (passes_call (takes_of rfl rfl rfl rfl) fun _ _ _ _ h => h) (pa_cons (pv 4) (pa_cons (pv 1) (pa_cons (pv 5) pa_nil)))))))
      (pss_one (ps_ret (pv 4))))))))), ?_⟩
    refine ⟨_, rfl, ⟨_, rfl⟩, _, _, rfl, rfl, rfl, (by omega), fun m nm => ?_⟩
    obtain ⟨H1, e1, k1, g1⟩ := made (o := .lst ((Txt.split z (S [10])).map V.str)) nm
    rw [nl_S, e1]
    have hll := split_le z (S [10])
    have h9 : ∀ y ∈ Txt.split z (S [10]), y.length ≤ 900 := fun y hy => Nat.le_trans (part_short hy) hz
    have hls : LinesOk (Txt.split z (S [10])) := ⟨by omega, fun y hy => ⟨Nat.le_trans (h9 y hy) (by decide), asc_split (by decide) ha hy⟩⟩
    generalize hL : Txt.split z (S [10]) = lns at *
    unfold parseH at q qx
    -- the lengths
    refine ⟨_, rfl, (by show 1 ≤ sizeLine; decide), fun a1 na1 => ?_⟩
    obtain ⟨H2, e2, k2, g2⟩ := made (o := .lst ([S lenW].map V.str)) na1
    have e2' : upd H1 a1 (.lst [V.str "lengths"]) = H2 := by
      rw [← e2, lens_S]
      rfl
    rw [e2']
    refine ⟨m, a1, lns, [S lenW], 1, rfl, SqL.of (k2 _ _ g1), SqL.of g2, hls, by decide, by decide, (by show 1 ≤ 1000; decide), (fun x hx => by rw [List.mem_singleton.mp hx]; exact asc_S (by decide)), (kpS (k1.trans k2)).tab _ t0, fun L hns H3 rl3 k3 gl3 => ?_, fun hno => ?_⟩
    rotate_left
    · rw [hno] at qx
      exact (qx 1 rfl).kp (kpS (k1.trans k2))
    have lL := nums_len hns h9
    rw [hns] at q qx
    dsimp only at q qx
    have k03 := (kpS (k1.trans k2)).trans k3
    -- tried alone
    refine ⟨_, rfl, Nat.zero_le _, fun a2 na2 => ?_⟩
    obtain ⟨H4, e4, k4, g4⟩ := made (o := .lst (([] : List Int).map V.int)) na2
    have e4' : upd H3 a2 (.lst []) = H4 := e4
    rw [e4']
    have k04 := k03.trans (kpS k4)
    refine ⟨rl3, a2, L, [], 1, rfl, SqL.of (k4 _ _ gl3), SqL.of g4, lL, Nat.zero_le _, k04.tab _ tL, k04.tab _ tI, fun va H5 r5 k5 _ => ?_, fun nv => ?_⟩
    rotate_left
    · rw [if_neg fun z => nv (okN_valid.mp z)] at qx
      exact (qx 1 rfl).kp k04
    rw [if_pos (okN_valid.mpr va)] at q qx
    have k05 := k04.trans k5
    have k15 := (((kpS k2).trans k3).trans (kpS k4)).trans k5
    -- the gaps
    refine ⟨_, rfl, (by show 1 ≤ sizeLine; decide), fun a3 na3 => ?_⟩
    obtain ⟨H6, e6, k6, g6⟩ := made (o := .lst ([S gapW].map V.str)) na3
    have e6' : upd H5 a3 (.lst [V.str "gaps"]) = H6 := by
      rw [← e6, gaps_S]
      rfl
    rw [e6']
    have k06 := k05.trans (kpS k6)
    refine ⟨m, a3, lns, [S gapW], 2, rfl, SqL.of (k6 _ _ (k15.lst g1)), SqL.of g6, hls, by decide, by decide, (by show 1 ≤ 1000; decide), (fun x hx => by rw [List.mem_singleton.mp hx]; exact asc_S (by decide)), k06.tab _ t0, fun G hns2 H7 rl7 k7 gl7 => ?_, fun hno => ?_⟩
    rotate_left
    · rw [hno] at qx
      exact (qx 2 rfl).kp k06
    have lG := nums_len hns2 h9
    have h2 := nums_le hns2
    rw [hns2] at q qx
    dsimp only at q qx
    have k07 := k06.trans k7
    have k37 := (((kpS k4).trans k5).trans (kpS k6)).trans k7
    refine ⟨_, rfl, _, rfl, rl3, rl7, L, G, 2, rfl, SqL.of (k37.lst gl3), SqL.of gl7, lL, lG, k07.tab _ tL, k07.tab _ tI, fun vg H8 r8 k8 hr8 => ?_, fun nv => ?_⟩
    rotate_left
    · rw [if_neg fun z => nv (okN_valid.mp z)] at qx
      exact (qx 2 rfl).kp k07
    rw [if_pos (okN_valid.mpr vg)] at q qx
    have k08 := k07.trans k8
    have g8 : H8 m = some (.lst (lns.map V.str)) := (((kpS k6).trans k7).trans k8).lst (k15.lst g1)
    obtain ⟨R, hR⟩ : ∃ R, linksFrom lns L G (lns.length - 2) 3 [] = R := ⟨_, rfl⟩
    rw [hR] at q qx
    refine ⟨_, rfl, _, _, rfl, .inl ⟨_, SqL.of g8, rfl⟩, _, _, rfl, rfl, 3, _, rfl, ?_, ?_⟩
    · rw [List.length_map]
      have := hls.1
      omega
    rw [List.length_map, show ((lns.length : Int) + 1 - 3).toNat = lns.length - 2 by omega]
    refine for_range (lo := 3) (n := lns.length - 2) (fun i σ H' => ∃ (r : Addr) (acc ac2 : List (Str × Int × Int)) (v5 : Option V), σ = [some (.str z), some (.ref m), some (.ref rl3), some (.ref rl7), some (.ref r), v5] ∧ Kp H8 H' ∧ HouseAt C H' r L G acc ∧ acc.Perm ac2 ∧ linksFrom lns L G (lns.length - 2 - i) (3 + i) ac2 = R) ?_ ?_ ?_
    · exact ⟨r8, [], [], none, rfl, Kp.refl _, hr8, .nil, hR⟩
    · rintro i σ H' hi ⟨r, acc, ac2, v5, rfl, k, hA, hp, hf⟩
      rw [show lns.length - 2 - i = (lns.length - 2 - (i + 1)) + 1 by omega, linksFrom_step] at hf
      have k0 := k08.trans k
      have hmem : ∀ y : Tk, y ∈ kOf acc ↔ y ∈ kOf ac2 := fun y => (hp.map fun c => lk c.1 c.2.1 c.2.2).mem_iff
      have hlen := hp.length_eq
      refine ⟨_, rfl, _, rfl, _, rfl, r, m, L, G, acc, lns, 3 + i, ?_, hA, SqL.of (k.lst g8), hls, by omega, by omega, k0.tab _ t0, k0.tab _ tL, k0.tab _ tI, fun c p1 p2 p3 p4 H9 r9 k9 hr9 => ?_, fun bad => ?_⟩
      · rw [show ((3 + i : Nat) : Int) = 3 + (i : Int) by omega]
        rfl
      · rw [p1] at hf
        dsimp only at hf
        rw [if_pos ⟨p2, fun z => p3 ((hmem _).mpr z), by omega⟩] at hf
        exact ⟨r9, _, _, _, rfl, k.trans k9, hr9, ((sortC_perm acc).trans hp).append_right [c], hf⟩
      · have hRi : R = .inl (3 + i) := by
          cases e : linkIn lns (3 + i) with
          | none => rw [e] at hf; exact hf.symm
          | some c =>
            rw [e] at hf
            dsimp only at hf
            rw [if_neg (fun z => (bad c e).elim (fun y => by rw [z.1] at y; cases y) fun y => y.elim (fun y => z.2.1 ((hmem _).mp y)) fun y => by omega)] at hf
            exact hf.symm
        rw [hRi] at qx
        exact (qx (3 + i) rfl).kp k0
    · rintro σ H' ⟨r, acc, ac2, v5, rfl, k, hA, hp, hf⟩
      rw [Nat.sub_self] at hf
      have hf : .inr ac2 = R := hf
      rw [← hf] at q
      exact ⟨_, rfl, q L G ac2 rfl H' r acc (k08.trans k) hA hp⟩
end
open SX
section
open GxR NdefX PySem.Spec PyProof.Rows
variable {P : Program} {w : World} {K : PySem.W.Frag} {mg : Str → Option Value} {base : Heap}
def rIsF (K : PySem.W.Frag) (a : Addr) (cls : Value) (d : Option Addr) : List V → Hp → VK → Prop := fun xs H Q => ∃ (C dd : Addr) (fs : List (Str × V)) (c : V) (cv : Value) (b : Bool), xs = [.ref a, c] ∧ cls = .ref C ∧ d = some dd ∧ H dd = some (.xd fs) ∧ ExcC K C ∧ (∀ u, RelV c u → u = cv) ∧ PySem.W.kitOne K (.ref C) cv = some b ∧ Q (.bl b) H
theorem call_isF {X : Cx} {a : Addr} {oe : Obj} {cls : Value} {d : Option Addr} {pn : List (Addr × Obj)} (hz : Zc cls d oe) (hf : ∃ vs, oe.data = .fields vs) : CallR (X.suite a ((a, oe) :: pn)) (.builtin "isinstance") (rIsF X.K a cls d) := by
  intro pins s σ H xs us Q I r h
  obtain ⟨C, dd, fs, c, cv, b, rfl, rfl, rfl, ea, T, hcv, e, q⟩ := h
  cases r with
  | cons rx rr =>
    cases rr with
    | cons rt rr =>
      cases rr
      cases rx
      obtain rfl := hcv _ rt
      obtain ⟨ha, _⟩ := I.pin (a, oe) (List.mem_append_left _ List.mem_cons_self)
      obtain ⟨vs, hd⟩ := hf
      obtain ⟨mA, hns, _⟩ := (show ObjOk X.prog X.w H s.heap dd (.xd fs) from I.hok dd _ ea)
      obtain ⟨od, ho, _⟩ := lookIn_ns hns
      have J : PySem.W.InstAt s.heap a oe C (some od) := ⟨ha, hz.1, by unfold PySem.W.notCls; rw [hd] <;> rfl, by rw [hz.2]; exact ho⟩
      have hcl : (PySem.W.clsIn X.K C).isSome = true := by
        obtain ⟨cd, hc, _⟩ := PySem.W.any_some T.hd
        rw [hc]
        rfl
      exact PySem.W.kia_one (PySem.W.kitx_exc hcl T.hg T.hk T.hs T.ha T.hn T.ht T.hm) I.kIn J e (fun z => nomatch z) fun tk => ⟨.bl b, H, I.kept (t' := tk) (fun _ _ z => z), rfl, q⟩
def told0 (z : Str) : Int := match parseH (Txt.split z (S [10])) with
  | .inl n => (n : Int)
  | .inr _ => 0
section
variable {c : Ct} {D : Ends} {ta : TA} {Ex : L2.St → XK} {T TL TI C CN : Addr} {z : Str}
theorem s_parseH (ha : EA true c ta [RD (.str z)]) (h1 : z.length ≤ 900) (h2 : asc z) (ht : ∀ H, Kp c.h0 H → TabG H T ∧ TabG H TL ∧ TabG H TI) (ok : told0 z = 0 → WC c D.nx)
    (bad : ∀ n σ H' d, parseH (Txt.split z (S [10])) = .inl n → σ.length = c.g.length → Kp c.hs H' → H' d = some (.xd [("line", .int (n : Int))]) → Ex σ (.ref CN) (some d) H') : WC c (tDrop (tCallS (spPHX C T TL TI CN) Ex ta) D) := fun σ H s => ha σ H s _ fun H1 vs k1 r1 => by
  obtain ⟨v, r, rfl, e, rfl⟩ := r1
  cases e
  obtain ⟨t1, t2, t3⟩ := ht H1 (((s.kp k1).k0.trans (bas_hb (b := true))).trans (kp_less (M := msk true c σ)))
  refine ⟨z, rfl, h1, h2, t1, t2, t3, fun L G cs e H' r cs' k2 _ _ => ok (by unfold told0; rw [e]) σ _ (s.kp (k1.trans k2)), fun n e H' d k2 g => bad n σ H' d e s.len (s.ks.trans (k1.trans k2)) g⟩
end
abbrev spTd0 (T0 TL TI : Addr) : Sp := Sps (fun a : Str => [RD (.str a)]) (fun a H => a.length ≤ 900 ∧ asc a ∧ TabG H T0 ∧ TabG H TL ∧ TabG H TI) (fun a => RD (.int (told0 a)))
theorem ok_told {f fT T0 TL TI C CN CI Pe : Addr} {fd fdT : FuncData} (F : Fun K "_law_told" "_law_told" s__law_told f fd) (gN : mg "InvalidNotation" = some (.ref CN)) (gI : mg "InvalidHouse" = some (.ref CI)) (gP : mg "PickError" = some (.ref Pe)) (z_isi : mg "isinstance" = none) (z_bool : mg "bool" = none)
    (eN : PySem.W.exmOne K (.ref CN) (.ref CN) = some true) (xN : XfC K CN) (nN : PySem.W.findIn K (.ref CN) "line" = some none) (xC : ExcC K CN) (kN : PySem.W.kitOne K (.ref CN) (.ref CI) = some false) (kP : PySem.W.kitOne K (.ref CN) (.ref Pe) = some true)
    (GT : FnOk P w K mg base (L2.CX P w) 10 fT fdT ["text"] (spPHX C T0 TL TI CN)) (bT : Binds K fdT ["text"] []) (gT : mg "parse_house" = some (.ref fT)) (kT : PySem.W.keepIn K (.ref fT) = true) : FnOk P w K mg base CX0 11 f fd ["text"] (spTd0 T0 TL TI) := by
  refine F.ok sc__law_told (fun vs H Q E h => ?_) (fun cdv A outer s H vs Q E hr h => ?_)
  · obtain ⟨z, om, ho, hR, _⟩ := h
    exact hR.len
  · obtain ⟨z, om, ho, hR, ⟨hz, ha, t0, tL, tI⟩, qq⟩ := h
    have nd := sc__law_told.nd
    refine ⟨_, (pss_one (ps_try_next (l := [(.ref CN, some 1, _)]) rfl rfl takes0 (fun W pn xe tk _ =>
        (pss_cons (ps_expr (pe_callS GT (by exact hr.mono (by decide)) (by rfl) gT kT bT (fun τ => passAt tk τ) (pa_cons (pv 0) pa_nil)))
        (pss_one (ps_ret pe_int))))
        (Clauses.named nd rfl rfl ⟨rfl, by decide, .inl gN⟩ (fun a oe cls d pn hz hf => (pss_cons (ps_if (PW.pt (pw_or (pt_val (pe_callB (r := rIsi K) call_isi (by rfl) z_isi (by decide +kernel) (pa_cons (pe_xf xN nN hz hf (pv 1)) (pa_cons (pe_bltn (v := .ty "bool") (by rfl) z_bool (by decide +kernel) rfl) pa_nil)))) (pw_or (pt_val (pe_callB (call_isF hz hf) (by rfl) z_isi (by decide +kernel) (pa_cons (pv 1) (pa_cons (pe_glob (v := .ref _) rfl gI rfl) pa_nil)))) (pw_or1 (pt_not (pt_val (pe_callB (call_isF hz hf) (by rfl) z_isi (by decide +kernel) (pa_cons (pv 1) (pa_cons (pe_glob (v := .ref _) rfl gP rfl) pa_nil))))))))) (pss_one (ps_ret (pe_un un_neg pe_int))) pss_nil) (pss_one (ps_ret (pe_xf xN nN hz hf (pv 1)))))) .nil))), ?_⟩
    have st := sta_start (N := ["text", "error"]) ho hR
    refine (?_ : WC ⟨H, less H om, om, [.fz (RD (.str z)), .any]⟩ _) _ _ st
    have fin : ∀ {n : Int} {H' : Hp}, Kp H H' → told0 z = n → Q (.int n) H' := fun {n H'} k1 e => qq H' _ k1 (by show (RD (.int (told0 z))).p _ _; rw [e]; exact .int _)
    refine s_seq ?_
    refine s_parseH (a_cons (e_var rfl) a_nil) hz ha (fun H1 k1 => ⟨k1.tab _ t0, k1.tab _ tL, k1.tab _ tI⟩) (fun e => by dsimp only; exact s_ret e_int fun H' v k1 r => qq H' v k1 (by show (RD (.int (told0 z))).p _ _; rw [e]; exact r)) fun n σ H' d e hl kk g => ?_
    refine ⟨true, eN, fun _ y ny => ?_, fun z => nomatch z⟩
    have h2 : (σ.set 1 (some (V.ref y)))[1]? = some (some (V.ref y)) := setget (by rw [hl]; show 1 < 2; decide)
    refine ⟨_, h2, rfl, rfl, d, _, .int (n : Int), rfl, g, rfl, _, _, _, _, false, rfl, .ty "bool", .base (.int _), by kernel_rfl, false, rfl, ?_⟩
    refine iteF ?_
    refine ⟨_, h2, CN, d, _, .ref CI, .ref CI, false, rfl, rfl, rfl, g, xC, (fun u z => z), kN, false, rfl, ?_⟩
    refine iteF ?_
    refine ⟨_, h2, CN, d, _, .ref Pe, .ref Pe, true, rfl, rfl, rfl, g, xC, (fun u z => z), kP, true, rfl, ?_⟩
    refine iteF ?_
    exact ⟨_, h2, rfl, rfl, d, _, .int (n : Int), rfl, g, rfl, fin kk (by unfold told0; rw [e])⟩
end
open SX
section
open GxR NdefX PySem.Spec PyProof.Rows
theorem all_congr_mem {α : Type} {l : List α} {p q : α → Bool} (h : ∀ x ∈ l, p x = q x) : l.all p = l.all q := by
  induction l with
  | nil => rfl
  | cons a l ih => rw [List.all_cons, List.all_cons, h a (by simp), ih fun x hx => h x (List.mem_cons_of_mem _ hx)]
/-- the numbers that a line writes behind a word -/
def lnN (z : Str) (wd : List Nat) : Option (List Int) := numsIn [z] 1 [S wd]
/-- the link that a line writes -/
def lnC (z : Str) : Option (Str × Int × Int) := linkIn [z] 1
theorem getD_at {ls : List Str} {n : Nat} {z : Str} (h : ls[n]? = some z) : ls.getD n Str.empty = z := by
  rw [List.getD_eq_getElem?_getD, h]
  rfl
theorem numsIn_at {ls : List Str} {n : Nat} {z : Str} {hd : List Str} (h : ls[n]? = some z) : numsIn ls (n + 1) hd = numsIn [z] 1 hd := by
  have l := (List.getElem?_eq_some_iff.mp h).1
  unfold numsIn
  rw [if_neg (by omega), show n + 1 - 1 = n from rfl, getD_at h]
  rfl
theorem numsIn_no {ls : List Str} {n : Nat} {hd : List Str} (h : ls.length ≤ n) : numsIn ls (n + 1) hd = none := by
  unfold numsIn
  rw [if_pos (by omega)]
theorem linkIn_at {ls : List Str} {n : Nat} {z : Str} (h : ls[n]? = some z) : linkIn ls (n + 1) = lnC z := by
  unfold lnC linkIn
  rw [show n + 1 - 1 = n from rfl, getD_at h, numsIn_at h]
  rfl
def linksR (L G : List Int) : List (Option (Str × Int × Int)) → Nat → List (Str × Int × Int) → Nat ⊕ List (Str × Int × Int)
  | [], _, acc => .inr acc
  | none :: _, n, _ => .inl n
  | some c :: r, n, acc => if isLk L G c.1 c.2.1 c.2.2 = true ∧ lk c.1 c.2.1 c.2.2 ∉ kOf acc ∧ acc.length < 200 then linksR L G r (n + 1) (acc ++ [c]) else .inl n
theorem links_R {ls : List Str} {L G : List Int} : ∀ (m n : Nat) (acc : List (Str × Int × Int)), ls.length = n + m → linksFrom ls L G m (n + 1) acc = linksR L G ((ls.drop n).map lnC) (n + 1) acc
  | 0, n, acc, h => by
    rw [List.drop_eq_nil_of_le (by omega)]
    rfl
  | m + 1, n, acc, h => by
    have l : n < ls.length := by omega
    have e := List.getElem?_eq_getElem l
    rw [linksFrom_step, linkIn_at e, List.drop_eq_getElem_cons l, List.map_cons]
    cases lnC ls[n] with
    | none => rfl
    | some c =>
      show (if isLk L G c.1 c.2.1 c.2.2 = true ∧ lk c.1 c.2.1 c.2.2 ∉ kOf acc ∧ acc.length < 200 then linksFrom ls L G m (n + 1 + 1) (acc ++ [c]) else Sum.inl (n + 1)) = if isLk L G c.1 c.2.1 c.2.2 = true ∧ lk c.1 c.2.1 c.2.2 ∉ kOf acc ∧ acc.length < 200 then linksR L G _ (n + 1 + 1) (acc ++ [c]) else Sum.inl (n + 1)
      rw [links_R m (n + 1) _ (by omega)]
/-- the first line that cannot stand, 0 if all can -/
def told3 (L G : List Int) (r : List (Option (Str × Int × Int))) : Nat := match linksR L G r 3 [] with
  | .inl n => n
  | .inr _ => 0
def told2 (L : List Int) : List Str → Nat
  | [] => 2
  | b :: u => match lnN b gapW with
    | none => 2
    | some G => if okN L G = true then told3 L G (u.map lnC) else 2
def toldL : List Str → Nat
  | [] => 1
  | a :: t => match lnN a lenW with
    | none => 1
    | some L => if okN L [] = true then told2 L t else 1
theorem toldL_cons (a : Str) (t : List Str) : toldL (a :: t) = (match lnN a lenW with
    | none => 1
    | some L => if okN L [] = true then told2 L t else 1) := rfl
theorem told2_cons (L : List Int) (b : Str) (u : List Str) : told2 L (b :: u) = (match lnN b gapW with
    | none => 2
    | some G => if okN L G = true then told3 L G (u.map lnC) else 2) := rfl
theorem told_L {z : Str} {ls : List Str} (h : Txt.split z (S [10]) = ls) : told0 z = toldL ls := by
  unfold told0 parseH
  rw [h]
  cases ls with
  | nil => rw [numsIn_no (n := 0) (Nat.zero_le _)]; rfl
  | cons a t =>
    rw [numsIn_at (n := 0) (z := a) rfl, toldL_cons, show numsIn [a] 1 [S lenW] = lnN a lenW from rfl]
    cases lnN a lenW with
    | none => rfl
    | some L =>
      dsimp only
      cases okN L [] with
      | false => rfl
      | true =>
        rw [if_pos rfl, if_pos rfl]
        cases t with
        | nil => rw [numsIn_no (n := 1) (Nat.le_refl _)]; rfl
        | cons b u =>
          rw [numsIn_at (n := 1) (z := b) rfl, told2_cons, show numsIn [b] 1 [S gapW] = lnN b gapW from rfl]
          cases lnN b gapW with
          | none => rfl
          | some G =>
            dsimp only
            cases okN L G with
            | false => rfl
            | true =>
              rw [if_pos rfl, if_pos rfl, links_R ((a :: b :: u).length - 2) 2 [] (by simp; omega)]
              unfold told3
              show (match (match linksR L G (u.map lnC) 3 [] with | .inl n => (.inl n : Nat ⊕ (List Int × List Int × List (Str × Int × Int))) | .inr ps => .inr (L, G, ps)) with | .inl n => (n : Int) | .inr _ => 0) = _
              cases linksR L G (u.map lnC) 3 [] with
              | inl n => rfl
              | inr ps => rfl
theorem told_J {M : List (List Nat)} (hne : M ≠ []) (h : ∀ l ∈ M, 10 ∉ l) : told0 (S (TL.joinL [10] M)) = toldL (M.map S) := told_L (split_joinL (by decide) hne h)
/-- links that stand are taken -/
theorem linksR_good {L G : List Int} : ∀ (cs : List (Str × Int × Int)) (r : List (Option (Str × Int × Int))) (n : Nat) (acc : List (Str × Int × Int)), (kOf (acc ++ cs)).Nodup → (acc ++ cs).length ≤ 200 → (∀ c ∈ cs, isLk L G c.1 c.2.1 c.2.2 = true) → linksR L G (cs.map some ++ r) n acc = linksR L G r (n + cs.length) (acc ++ cs)
  | [], r, n, acc, _, _, _ => by simp
  | c :: cs, r, n, acc, nd, l, ok => by
    rw [List.map_cons, List.cons_append]
    have e2 : acc ++ c :: cs = acc ++ [c] ++ cs := by simp
    have hp : lk c.1 c.2.1 c.2.2 ∉ kOf acc := fun z => by
      have nd2 : (kOf acc ++ kOf (c :: cs)).Nodup := by
        have : kOf (acc ++ c :: cs) = kOf acc ++ kOf (c :: cs) := by unfold kOf; rw [List.map_append]
        rw [← this]
        exact nd
      exact (List.nodup_append.mp nd2).2.2 _ z _ (List.mem_cons_self) rfl
    have l2 : acc.length < 200 := by rw [List.length_append, List.length_cons] at l; omega
    show (if isLk L G c.1 c.2.1 c.2.2 = true ∧ lk c.1 c.2.1 c.2.2 ∉ kOf acc ∧ acc.length < 200 then linksR L G (cs.map some ++ r) (n + 1) (acc ++ [c]) else Sum.inl n) = _
    rw [if_pos ⟨ok c List.mem_cons_self, hp, l2⟩, linksR_good cs r (n + 1) (acc ++ [c]) (by rw [← e2]; exact nd) (by rw [← e2]; exact l) (fun x hx => ok x (List.mem_cons_of_mem _ hx)), ← e2, List.length_cons, show n + 1 + cs.length = n + (cs.length + 1) by omega]
def digB (a : List Nat) : Bool := decide (a ≠ []) && a.all fun c => decide (48 ≤ c) && decide (c ≤ 57)
def numB (a : List Nat) : Bool := digB a && decide (a.length ≤ 4) && (decide (a = [48]) || !([48] == a.take 1))
theorem isNum_B {a : List Nat} (h : ∀ c ∈ a, c < 128) : isNum (S a) = numB a := by
  unfold isNum numB digB
  rw [isdigit_S h, S_len, starts_S]
  have e1 : decide (S a = S [48]) = decide (a = [48]) := by
    rw [Bool.eq_iff_iff, decide_eq_true_eq, decide_eq_true_eq]
    exact ⟨fun z => S_inj z, fun z => by rw [z]⟩
  rw [e1]
  congr 2
  rw [show ([48] : List Nat).length = 1 from rfl]
  congr 1
  rw [Bool.eq_iff_iff, beq_iff_eq, beq_iff_eq]
  exact eq_comm
/-- what the words of a line tell behind these words -/
def wordsN (ps hd : List (List Nat)) : Option (List Int) := if ps.take hd.length = hd ∧ (ps.drop hd.length).all numB = true then some ((ps.drop hd.length).map fun a => ((NumText.digitsVal a : Nat) : Int)) else none
theorem line_J {ps hd : List (List Nat)} (hne : ps ≠ []) (h : ∀ l ∈ ps, 32 ∉ l) (ha : ∀ l ∈ ps, ∀ c ∈ l, c < 128) : numsIn [S (TL.joinL [32] ps)] 1 (hd.map S) = wordsN ps hd := by
  have e := split_joinL (c := 32) (by decide) hne h
  have ga : ([S (TL.joinL [32] ps)] : List Str).getD (1 - 1) Str.empty = S (TL.joinL [32] ps) := rfl
  unfold numsIn wordsN
  rw [if_neg (by show ¬ (1 < 1); decide), ga, e, List.length_map]
  have e1 : ((ps.map S).take hd.length = hd.map S) ↔ ps.take hd.length = hd := by
    rw [← List.map_take]
    exact ⟨fun z => (List.map_inj_right fun _ _ q => S_inj q).mp z, fun z => by rw [z]⟩
  have e2 : (((ps.map S).drop hd.length).all isNum) = (ps.drop hd.length).all numB := by
    rw [← List.map_drop, List.all_map]
    refine all_congr_mem fun a ma => ?_
    exact isNum_B (ha a (List.mem_of_mem_drop ma))
  have e3 : ((ps.map S).drop hd.length).map numV = (ps.drop hd.length).map fun a => ((NumText.digitsVal a : Nat) : Int) := by
    rw [← List.map_drop, List.map_map]
    rfl
  rw [e2, e3]
  by_cases c1 : ps.take hd.length = hd
  · cases c2 : (ps.drop hd.length).all numB with
    | false => rw [if_neg (fun z => nomatch z.2), if_neg (fun z => nomatch z.2)]
    | true => rw [if_pos ⟨e1.mpr c1, rfl⟩, if_pos ⟨c1, rfl⟩]
  · rw [if_neg (fun z => c1 (e1.mp z.1)), if_neg (fun z => c1 z.1)]
theorem lnN_J {ps : List (List Nat)} {wd : List Nat} (hne : ps ≠ []) (h : ∀ l ∈ ps, 32 ∉ l) (ha : ∀ l ∈ ps, ∀ c ∈ l, c < 128) : lnN (S (TL.joinL [32] ps)) wd = wordsN ps [wd] := line_J (hd := [wd]) hne h ha
/-- a line that tells a link: its words -/
theorem lnC_J {ps : List (List Nat)} {c : Str × Int × Int} (hne : ps ≠ []) (h : ∀ l ∈ ps, 32 ∉ l) (ha : ∀ l ∈ ps, ∀ c ∈ l, c < 128) (e : lnC (S (TL.joinL [32] ps)) = some c) :
    (c.1 = "up" ∨ c.1 = "over") ∧ ps.take 2 = [clW, wdL c.1] ∧ (ps.drop 2).all numB = true ∧ (ps.drop 2).map (fun a => ((NumText.digitsVal a : Nat) : Int)) = [c.2.1, c.2.2] := by
  unfold lnC linkIn at e
  have ga : ([S (TL.joinL [32] ps)] : List Str).getD (1 - 1) Str.empty = S (TL.joinL [32] ps) := rfl
  rw [ga] at e
  have hw : wdOf (S (TL.joinL [32] ps)) = "up" ∨ wdOf (S (TL.joinL [32] ps)) = "over" := by
    unfold wdOf
    split
    · exact .inr rfl
    · exact .inl rfl
  generalize wdOf (S (TL.joinL [32] ps)) = wd at e hw
  have ew : [S clW, wd] = [clW, wdL wd].map S := by
    rw [List.map_cons, List.map_cons, ← (word_S hw).1]
    rfl
  rw [ew, line_J hne h ha] at e
  unfold wordsN at e
  rw [show ([clW, wdL wd] : List (List Nat)).length = 2 from rfl] at e
  by_cases k : ps.take 2 = [clW, wdL wd] ∧ (ps.drop 2).all numB = true
  · rw [if_pos k] at e
    match hq : (ps.drop 2).map (fun a => ((NumText.digitsVal a : Nat) : Int)), e with
    | [a, b], e =>
      cases e
      exact ⟨hw, k.1, k.2, rfl⟩
  · rw [if_neg k] at e
    cases e
end
open SX
section
open GxR NdefX PySem.Spec PyProof.Rows
/-- signs of a line -/
def Chs (x : List Nat) : Prop := ∀ c ∈ x, c ≠ 10 ∧ c < 128
theorem Chs.app {x y : List Nat} (a : Chs x) (b : Chs y) : Chs (x ++ y) := fun c m => (List.mem_append.mp m).elim (a c) (b c)
def chB (x : List Nat) : Bool := x.all fun c => decide (c ≠ 10) && decide (c < 128)
theorem chs_of {x : List Nat} (h : chB x = true) : Chs x := fun c m => by
  have := List.all_eq_true.mp h c m
  simpa using this
def LnOk (x : List Nat) : Prop := x.length ≤ 70 ∧ Chs x
/-- words of a line -/
def Wd1 (l : List Nat) : Prop := ∀ c ∈ l, c ≠ 32 ∧ c ≠ 10 ∧ c < 128
def wdB (l : List Nat) : Bool := l.all fun c => decide (c ≠ 32) && (decide (c ≠ 10) && decide (c < 128))
theorem wd_of {l : List Nat} (h : wdB l = true) : Wd1 l := fun c m => by
  have := List.all_eq_true.mp h c m
  simpa using this
def WsOk (ws : List (List Nat)) : Prop := ws ≠ [] ∧ ∀ l ∈ ws, Wd1 l
section
variable {ws N : List (List Nat)}
theorem WsOk.free (h : WsOk ws) : ∀ l ∈ ws, 32 ∉ l := fun l m z => (h.2 l m 32 z).1 rfl
theorem WsOk.asc (h : WsOk ws) : ∀ l ∈ ws, ∀ c ∈ l, c < 128 := fun l m c z => (h.2 l m c z).2.2
theorem WsOk.app (h : WsOk ws) (n : ∀ l ∈ N, Wd1 l) : WsOk (ws ++ N) := ⟨fun e => h.1 (List.append_eq_nil_iff.mp e).1, fun l m => (List.mem_append.mp m).elim (h.2 l) (n l)⟩
theorem WsOk.cons {w : List Nat} (h : Wd1 w) (n : ∀ l ∈ ws, Wd1 l) : WsOk (w :: ws) := ⟨by simp, fun l m => (List.mem_cons.mp m).elim (fun e => e ▸ h) (n l)⟩
theorem wsB {N : List (List Nat)} (h : N.all wdB = true) : ∀ l ∈ N, Wd1 l := fun l m => wd_of (List.all_eq_true.mp h l m)
end
theorem joinL_app {s : List Nat} : ∀ {M N : List (List Nat)}, M ≠ [] → N ≠ [] → TL.joinL s M ++ (s ++ TL.joinL s N) = TL.joinL s (M ++ N)
  | [], _, h, _ => absurd rfl h
  | [x], y :: r, _, _ => rfl
  | x :: z :: M, N, _, hN => by
    show x ++ (s ++ TL.joinL s (z :: M)) ++ (s ++ TL.joinL s N) = x ++ (s ++ TL.joinL s (z :: (M ++ N)))
    rw [show z :: (M ++ N) = (z :: M) ++ N from rfl, ← joinL_app (M := z :: M) (by simp) hN]
    simp only [List.append_assoc]
  | [x], [], _, h => absurd rfl h
/-- a row that has another word before it, or a word that is no length -/
theorem lnN_bad {ps : List (List Nat)} {w : List Nat} (h : WsOk ps) (b : ps.take 1 ≠ [w] ∨ ∃ y ∈ ps.drop 1, numB y = false ∨ longN (NumText.digitsVal y : Nat) = false) : ∀ L, lnN (S (TL.joinL [32] ps)) w = some L → L.all longN = false := fun L e => by
  rw [lnN_J h.1 h.free h.asc] at e
  unfold wordsN at e
  by_cases k : ps.take ([w] : List (List Nat)).length = [w] ∧ (ps.drop ([w] : List (List Nat)).length).all numB = true
  · rw [if_pos k] at e
    obtain ⟨k1, k2⟩ := k
    obtain rfl := Option.some.inj e
    rcases b with b | ⟨y, my, b⟩
    · exact absurd k1 b
    · rcases b with b | b
      · rw [List.all_eq_true.mp k2 y my] at b
        cases b
      · rw [Bool.eq_false_iff]
        intro z
        have := List.all_eq_true.mp z _ (List.mem_map_of_mem my)
        rw [b] at this
        cases this
  · rw [if_neg k] at e
    cases e
/-- a line that tells no link -/
theorem lnC_bad {ps : List (List Nat)} (h : WsOk ps) (b : ps.take 1 ≠ [clW] ∨ ((ps.drop 1).take 1 ≠ [[117, 112]] ∧ (ps.drop 1).take 1 ≠ [[111, 118, 101, 114]]) ∨ (∃ y ∈ ps.drop 2, numB y = false) ∨ (ps.drop 2).length ≠ 2) : lnC (S (TL.joinL [32] ps)) = none := by
  cases e : lnC (S (TL.joinL [32] ps)) with
  | none => rfl
  | some c =>
    obtain ⟨h1, h2, h3, h4⟩ := lnC_J h.1 h.free h.asc e
    exfalso
    rcases b with b | b | ⟨y, my, b⟩ | b
    · refine b ?_
      have := congrArg (List.take 1) h2
      rw [List.take_take] at this
      exact this
    · have t : (ps.drop 1).take 1 = [wdL c.1] := by
        have := congrArg (List.drop 1) h2
        rw [List.drop_take] at this
        exact this
      rw [t] at b
      rcases h1 with q | q <;> rw [q] at b
      · exact b.1 (by decide +kernel)
      · exact b.2 (by decide +kernel)
    · rw [List.all_eq_true.mp h3 y my] at b
      cases b
    · have := congrArg List.length h4
      rw [List.length_map] at this
      exact b this
/-- what a line that tells a link tells of it -/
theorem lnC_is {x a b : List Nat} {c : Str × Int × Int} (hx : Wd1 x) (ha : Wd1 a) (hb : Wd1 b) (e : lnC (S (TL.joinL [32] [clW, x, a, b])) = some c) : wdL c.1 = x ∧ (c.1 = "up" ∨ c.1 = "over") ∧ c.2.1 = (NumText.digitsVal a : Nat) ∧ c.2.2 = (NumText.digitsVal b : Nat) := by
  have h : WsOk [clW, x, a, b] := .cons (wd_of (by decide)) fun l m => by
    simp only [List.mem_cons, List.not_mem_nil, or_false] at m
    rcases m with rfl | rfl | rfl
    · exact hx
    · exact ha
    · exact hb
  obtain ⟨h1, h2, h3, h4⟩ := lnC_J h.1 h.free h.asc e
  have h2 : [clW, x] = [clW, wdL c.1] := h2
  have h4 : [((NumText.digitsVal a : Nat) : Int), ((NumText.digitsVal b : Nat) : Int)] = [c.2.1, c.2.2] := h4
  injection h2 with _ h2
  injection h2 with h2
  injection h4 with h5 h4
  injection h4 with h6
  exact ⟨h2.symm, h1, h5.symm, h6.symm⟩
theorem up1_ok : ∀ c, c < 128 → c ≠ 10 → up1 c ≠ 10 ∧ up1 c < 128 := by decide
theorem up1_ok2 : ∀ c, c < 128 → c ≠ 32 → up1 c ≠ 32 := by decide
def upL (l : List Nat) : List Nat := l.map up1
theorem upL_join : ∀ ws : List (List Nat), upL (TL.joinL [32] ws) = TL.joinL [32] (ws.map upL)
  | [] => rfl
  | [x] => rfl
  | x :: y :: r => by
    show upL (x ++ ([32] ++ TL.joinL [32] (y :: r))) = upL x ++ ([32] ++ TL.joinL [32] ((y :: r).map upL))
    rw [← upL_join (y :: r)]
    unfold upL
    rw [List.map_append, List.map_append]
    rfl
/-- the ten lines that are always tried -/
def s10 (l : List Nat) : List (List Nat) := [[32] ++ l, l ++ [32], l ++ [32, 48], l ++ [32, 45, 49], l ++ [32, 120], l ++ [32, 48, 55], l ++ [32, 43, 51], [120] ++ l, upL l,
  l ++ [32, 52, 49, 32, 50, 32, 51, 32, 52, 32, 53, 32, 54, 32, 55, 32, 56, 32, 57, 32, 49, 32, 50, 32, 51, 32, 52]]
theorem s10_ok {l : List Nat} (h : l.length ≤ 40) (c : Chs l) : ∀ x ∈ s10 l, LnOk x := by
  have u : Chs (upL l) := fun d m => by
    obtain ⟨e, me, rfl⟩ := List.mem_map.mp m
    exact up1_ok e (c e me).2 (c e me).1
  have ap : ∀ y : List Nat, y.length ≤ 30 → chB y = true → LnOk (l ++ y) := fun y hy e => ⟨by rw [List.length_append]; omega, c.app (chs_of e)⟩
  have pa : ∀ y : List Nat, y.length ≤ 30 → chB y = true → LnOk (y ++ l) := fun y hy e => ⟨by rw [List.length_append]; omega, (chs_of e).app c⟩
  unfold s10
  simp only [List.forall_mem_cons, List.not_mem_nil, false_implies, implies_true, and_true]
  exact ⟨pa _ (by decide) (by decide), ap _ (by decide) (by decide), ap _ (by decide) (by decide), ap _ (by decide) (by decide), ap _ (by decide) (by decide), ap _ (by decide) (by decide), ap _ (by decide) (by decide), pa _ (by decide) (by decide), ⟨by unfold upL; rw [List.length_map]; omega, u⟩, ap _ (by decide) (by decide)⟩
/-- what is bad of them -/
def Bad (ws : List (List Nat)) (w : List Nat) (x : List Nat) : Prop := ∃ ps, WsOk ps ∧ x = TL.joinL [32] ps ∧ (ps.take 1 ≠ [w] ∨ ∃ N, ps = ws ++ N ∧ N ≠ [] ∧ ∃ y ∈ N, numB y = false ∨ longN (NumText.digitsVal y : Nat) = false)
theorem bad_app {ws : List (List Nat)} {w : List Nat} (h : WsOk ws) {N : List (List Nat)} (ne : N ≠ []) (hN : N.all wdB = true) (b : (N.any fun y => !(numB y) || !(longN (NumText.digitsVal y : Nat))) = true) : Bad ws w (TL.joinL [32] ws ++ ([32] ++ TL.joinL [32] N)) := by
  refine ⟨ws ++ N, h.app (wsB hN), joinL_app h.1 ne, .inr ⟨N, rfl, ne, ?_⟩⟩
  obtain ⟨y, my, e⟩ := List.any_eq_true.mp b
  refine ⟨y, my, ?_⟩
  simpa using e
theorem s10_bad {w : List Nat} {r : List (List Nat)} (h : WsOk (w :: r)) (ne : w ≠ []) (uw : upL w ≠ w) : ∀ x ∈ s10 (TL.joinL [32] (w :: r)), Bad (w :: r) w x := by
  unfold s10
  simp only [List.forall_mem_cons, List.not_mem_nil, false_implies, implies_true, and_true]
  refine ⟨?_, bad_app h (N := [[]]) (by simp) (by decide) (by decide), bad_app h (N := [[48]]) (by simp) (by decide) (by decide), bad_app h (N := [[45, 49]]) (by simp) (by decide) (by decide), bad_app h (N := [[120]]) (by simp) (by decide) (by decide), bad_app h (N := [[48, 55]]) (by simp) (by decide) (by decide), bad_app h (N := [[43, 51]]) (by simp) (by decide) (by decide), ?_, ?_,
    bad_app h (N := [[52, 49], [50], [51], [52], [53], [54], [55], [56], [57], [49], [50], [51], [52]]) (by simp) (by decide) (by decide)⟩
  · refine ⟨[] :: w :: r, .cons (fun _ z => nomatch z) h.2, rfl, .inl fun e => ne ?_⟩
    injection e with e
    exact e.symm
  · refine ⟨(120 :: w) :: r, .cons (fun c m => (List.mem_cons.mp m).elim (fun e => by rw [e]; decide) (h.2 w List.mem_cons_self c)) fun l m => h.2 l (List.mem_cons_of_mem _ m), ?_, .inl fun e => ?_⟩
    · cases r <;> rfl
    · injection e with e
      have := congrArg List.length e
      simp at this
  · refine ⟨(w :: r).map upL, ⟨by simp, fun l m => ?_⟩, upL_join _, .inl fun e => uw ?_⟩
    · obtain ⟨l0, m0, rfl⟩ := List.mem_map.mp m
      intro c mc
      obtain ⟨c0, mc0, rfl⟩ := List.mem_map.mp mc
      have z := h.2 l0 m0 c0 mc0
      exact ⟨up1_ok2 c0 z.2.2 z.1, up1_ok c0 z.2.2 z.2.1⟩
    · injection e with e
/-- a row that is bad so tells no lengths -/
theorem Bad.row {w : List Nat} {r : List (List Nat)} {x : List Nat} (h : Bad (w :: r) w x) : ∀ L, lnN (S x) w = some L → L.all longN = false := by
  obtain ⟨ps, h1, rfl, b⟩ := h
  refine lnN_bad h1 (b.imp id fun ⟨N, e, _, y, my, q⟩ => ⟨y, ?_, q⟩)
  rw [e]
  show y ∈ r ++ N
  exact List.mem_append_right _ my
/-- a line behind the rows that is bad so tells no link -/
theorem Bad.link {x a b : List Nat} {y : List Nat} (h : Bad [clW, x, a, b] clW y) : lnC (S y) = none := by
  obtain ⟨ps, h1, rfl, q⟩ := h
  rcases q with q | ⟨N, e, ne, _⟩
  · exact lnC_bad h1 (.inl q)
  · refine lnC_bad h1 (.inr (.inr (.inr fun z => ?_)))
    rw [e] at z
    have z : (a :: b :: N).length = 2 := z
    rw [List.length_cons, List.length_cons] at z
    exact ne (List.eq_nil_of_length_eq_zero (by omega))
end
open SX
section
open GxR NdefX PySem.Spec PyProof.Rows
/-- a text that may be asked -/
def TxtOk (z : List Nat) : Prop := z.length ≤ 900 ∧ ∀ c ∈ z, c < 128
/-- lines of a text -/
def LinOk (M : List (List Nat)) : Prop := M ≠ [] ∧ M.length ≤ 10 ∧ ∀ l ∈ M, LnOk l
theorem joinL_sum {m : Nat} : ∀ {M : List (List Nat)}, (∀ l ∈ M, l.length ≤ m) → (TL.joinL [10] M).length ≤ (m + 1) * M.length
  | [], _ => Nat.zero_le _
  | [x], h => by
    have := h x List.mem_cons_self
    show x.length ≤ (m + 1) * 1
    omega
  | x :: y :: r, h => by
    have a := h x List.mem_cons_self
    have b := joinL_sum (M := y :: r) fun l hl => h l (List.mem_cons_of_mem _ hl)
    show (x ++ ([10] ++ TL.joinL [10] (y :: r))).length ≤ (m + 1) * ((y :: r).length + 1)
    rw [List.length_append, List.length_append, List.length_singleton, Nat.mul_add]
    omega
theorem LinOk.txt {M : List (List Nat)} (h : LinOk M) : TxtOk (TL.joinL [10] M) := by
  refine ⟨Nat.le_trans (joinL_sum (m := 70) fun l m => (h.2.2 l m).1) ?_, fun c m => ?_⟩
  · have := h.2.1
    omega
  · rcases mem_joinL m with z | ⟨l, hl, z⟩
    · rw [List.mem_singleton.mp z]; decide
    · exact ((h.2.2 l hl).2 c z).2
theorem LinOk.told {M : List (List Nat)} (h : LinOk M) : told0 (S (TL.joinL [10] M)) = toldL (M.map S) := told_J h.1 fun l m z => ((h.2.2 l m).2 10 z).1 rfl
def Asks (z : List Nat) (n : Int) : Prop := TxtOk z ∧ told0 (S z) = n
theorem asks_of {M : List (List Nat)} {n : Nat} (h : LinOk M) (e : toldL (M.map S) = n) : Asks (TL.joinL [10] M) (n : Int) := ⟨h.txt, by rw [h.told, e]⟩
theorem joinL_snoc {s : List Nat} {M : List (List Nat)} {x : List Nat} (h : M ≠ []) : TL.joinL s M ++ (s ++ x) = TL.joinL s (M ++ [x]) := joinL_app (N := [x]) h (by simp)
/-- a line of numbers -/
theorem dgW (n : Int) : Wd1 (dg n) := fun c h => by
  have := dg_digit c h
  omega
theorem row_ws {w : List Nat} {ns : List Int} (hw : Wd1 w) : WsOk (w :: ns.map dg) := .cons hw fun l m => by
  obtain ⟨n, _, rfl⟩ := List.mem_map.mp m
  exact dgW n
theorem ws_chs {ws : List (List Nat)} (h : WsOk ws) : Chs (TL.joinL [32] ws) := fun c m => by
  rcases mem_joinL m with z | ⟨l, hl, z⟩
  · rw [List.mem_singleton.mp z]; decide
  · exact (h.2 l hl c z).2
theorem row_ln {w : List Nat} {ns : List Int} (hw : Wd1 w) (lw : w.length ≤ 7) (hn : ns.length ≤ 4) (h : ∀ n ∈ ns, 1 ≤ n ∧ n ≤ 40) : (rowL w ns).length ≤ 40 ∧ Chs (rowL w ns) := by
  refine ⟨?_, ws_chs (row_ws hw)⟩
  have d : ∀ n ∈ ns, (dg n).length ≤ 5 := fun n m => dg_len (by decide) (by have := h n m; omega)
  match ns, hn, d with
  | [], _, _ => exact Nat.le_trans lw (by decide)
  | [a], _, d =>
    have := d a (by simp)
    show (w ++ ([32] ++ dg a)).length ≤ 40
    simp only [List.length_append, List.length_singleton]
    omega
  | [a, b], _, d =>
    have := d a (by simp)
    have := d b (by simp)
    show (w ++ ([32] ++ (dg a ++ ([32] ++ dg b)))).length ≤ 40
    simp only [List.length_append, List.length_singleton]
    omega
  | [a, b, c], _, d =>
    have := d a (by simp)
    have := d b (by simp)
    have := d c (by simp)
    show (w ++ ([32] ++ (dg a ++ ([32] ++ (dg b ++ ([32] ++ dg c)))))).length ≤ 40
    simp only [List.length_append, List.length_singleton]
    omega
  | [a, b, c, e], _, d =>
    have := d a (by simp)
    have := d b (by simp)
    have := d c (by simp)
    have := d e (by simp)
    show (w ++ ([32] ++ (dg a ++ ([32] ++ (dg b ++ ([32] ++ (dg c ++ ([32] ++ dg e)))))))).length ≤ 40
    simp only [List.length_append, List.length_singleton]
    omega
theorem wdLW (x : Str) : Wd1 (wdL x) := by
  unfold wdL
  split
  · exact wd_of (by decide)
  · exact wd_of (by decide)
theorem cl_ws (c : Str × Int × Int) : WsOk [clW, wdL c.1, dg c.2.1, dg c.2.2] := .cons (wd_of (by decide)) fun l m => by
  simp only [List.mem_cons, List.not_mem_nil, or_false] at m
  rcases m with rfl | rfl | rfl
  · exact wdLW _
  · exact dgW _
  · exact dgW _
theorem cl_ln {c : Str × Int × Int} (h : okC c) : (clL c).length ≤ 40 ∧ Chs (clL c) := by
  rw [clL_eq]
  refine ⟨?_, ws_chs (cl_ws c)⟩
  have a : (dg c.2.1).length ≤ 5 := dg_len (by decide) (by have := h.2; omega)
  have b : (dg c.2.2).length ≤ 5 := dg_len (by decide) (by have := h.2; omega)
  have e : (wdL c.1).length ≤ 4 := by
    unfold wdL
    split <;> decide
  show (clW ++ ([32] ++ (wdL c.1 ++ ([32] ++ (dg c.2.1 ++ ([32] ++ dg c.2.2)))))).length ≤ 40
  have f : clW.length = 6 := rfl
  simp only [List.length_append, List.length_singleton]
  omega
theorem lnN_good {w : List Nat} {ns : List Int} (hw : 32 ∉ w) (h : ∀ n ∈ ns, 1 ≤ n ∧ n ≤ 40) : lnN (S (rowL w ns)) w = some ns := nums_row (ls := [S (rowL w ns)]) (n := 1) hw (fun n m => by have := h n m; omega) (by decide) rfl
theorem lnC_good {c : Str × Int × Int} (h : okC c) : lnC (S (clL c)) = some c := by
  obtain ⟨w1, w2⟩ := word_S h.1
  have ew : wdOf (S (clL c)) = c.1 := by
    unfold wdOf
    rw [starts_cl h]
    refine Eq.trans ?_ w2
    by_cases e : c.1 = "over"
    · rw [if_pos (decide_eq_true e), if_pos e]
    · rw [if_neg (by rw [decide_eq_false e]; exact Bool.false_ne_true), if_neg e]
  have ga : ([S (clL c)] : List Str).getD (1 - 1) Str.empty = S (clL c) := rfl
  unfold lnC linkIn
  rw [ga, ew]
  have e2 : [S clW, c.1] = [S clW, S (wdL c.1)] := by rw [← w1]
  rw [e2, nums_cl (ls := [S (clL c)]) (n := 1) h (by decide) rfl]
theorem linksR_bad {L G : List Int} {o : Option (Str × Int × Int)} {r : List (Option (Str × Int × Int))} {n : Nat} {acc : List (Str × Int × Int)} (h : ∀ c, o = some c → isLk L G c.1 c.2.1 c.2.2 = false ∨ lk c.1 c.2.1 c.2.2 ∈ kOf acc) : linksR L G (o :: r) n acc = .inl n := by
  cases o with
  | none => rfl
  | some c =>
    show (if isLk L G c.1 c.2.1 c.2.2 = true ∧ lk c.1 c.2.1 c.2.2 ∉ kOf acc ∧ acc.length < 200 then linksR L G r (n + 1) (acc ++ [c]) else Sum.inl n) = _
    rw [if_neg fun z => (h c rfl).elim (fun y => by rw [z.1] at y; cases y) z.2.1]
/-- a house of the law's size -/
structure HsOk (ls gs : List Int) (ds : List (Str × Int × Int)) : Prop where
  va : Valid ls gs ds
  g4 : gs.length ≤ 4
  d6 : ds.length ≤ 6
section
variable {ls gs : List Int} {ds : List (Str × Int × Int)} (h : HsOk ls gs ds)
include h
theorem HsOk.bl : ∀ n ∈ ls, 1 ≤ n ∧ n ≤ 40 := (valid_lens h.va).1
theorem HsOk.bg : ∀ n ∈ gs, 1 ≤ n ∧ n ≤ 40 := (valid_lens h.va).2
theorem HsOk.okc : ∀ c ∈ ds, okC c := fun c m => valid_okC h.va m
theorem HsOk.v0 : okN ls gs = true := okN_valid.mpr ⟨h.va.1, h.va.2.1, Nat.zero_le _, .nil, fun _ z => nomatch z⟩
theorem HsOk.v00 : okN ls [] = true := okN_valid.mpr ⟨h.va.1, ⟨Nat.zero_le _, rfl⟩, Nat.zero_le _, .nil, fun _ z => nomatch z⟩
theorem HsOk.lines : ∀ l ∈ rowsH ls gs ds, l.length ≤ 40 ∧ Chs l := fun l m => by
  rcases List.mem_cons.mp m with z | m
  · rw [z]; exact row_ln (wd_of (by decide)) (by decide) (by have := h.va.1.1.2; omega) h.bl
  · rcases List.mem_cons.mp m with z | m
    · rw [z]; exact row_ln (wd_of (by decide)) (by decide) h.g4 h.bg
    · obtain ⟨c, mc, rfl⟩ := List.mem_map.mp m
      exact cl_ln (h.okc c mc)
theorem HsOk.lnok : ∀ l ∈ rowsH ls gs ds, LnOk l := fun l m => ⟨Nat.le_trans (h.lines l m).1 (by decide), (h.lines l m).2⟩
omit h in
theorem rowsH_length : (rowsH ls gs ds).length = ds.length + 2 := by
  unfold rowsH
  rw [List.length_cons, List.length_cons, List.length_map]
theorem HsOk.lin : LinOk (rowsH ls gs ds) := ⟨by unfold rowsH; simp, by rw [rowsH_length]; have := h.d6; omega, h.lnok⟩
theorem told_rows (R : List (List Nat)) : toldL ((rowL lenW ls :: rowL gapW gs :: R).map S) = told3 ls gs ((R.map S).map lnC) := by
  rw [List.map_cons, List.map_cons, toldL_cons, lnN_good (by decide) h.bl]
  dsimp only
  rw [if_pos h.v00, told2_cons, lnN_good (by decide) h.bg]
  dsimp only
  rw [if_pos h.v0]
theorem read_cl : ∀ {cs : List (Str × Int × Int)}, (∀ c ∈ cs, c ∈ ds) → ((cs.map clL).map S).map lnC = cs.map some := fun {cs} m => by
  rw [List.map_map, List.map_map]
  exact List.map_congr_left fun c mc => lnC_good (h.okc c (m c mc))
theorem told3_good {cs : List (Str × Int × Int)} {r : List (Option (Str × Int × Int))} (hs : cs.Sublist ds) : told3 ls gs (cs.map some ++ r) = match linksR ls gs r (3 + cs.length) cs with | .inl n => n | .inr _ => 0 := by
  unfold told3
  rw [linksR_good cs r 3 [] (by rw [List.nil_append]; exact (hs.map _).nodup h.va.2.2.2.1) (by rw [List.nil_append]; have := hs.length_le; have := h.va.2.2.1; omega) (fun c m => h.va.2.2.2.2 c (hs.subset m)), List.nil_append]
  try (cases linksR ls gs r (3 + cs.length) cs <;> rfl)
theorem asks_good : Asks (houseL ls gs ds) 0 := by
  refine asks_of (n := 0) h.lin ?_
  show toldL ((rowL lenW ls :: rowL gapW gs :: ds.map clL).map S) = 0
  rw [told_rows h, read_cl h fun _ m => m, ← List.append_nil (ds.map some), told3_good h (List.Sublist.refl _)]
  rfl
theorem asks_more {x : List Nat} (hx : LnOk x) (bad : ∀ c, lnC (S x) = some c → isLk ls gs c.1 c.2.1 c.2.2 = false ∨ lk c.1 c.2.1 c.2.2 ∈ kOf ds) : Asks (houseL ls gs ds ++ ([10] ++ x)) ((rowsH ls gs ds).length + 1 : Nat) := by
  have e : houseL ls gs ds ++ ([10] ++ x) = TL.joinL [10] (rowsH ls gs ds ++ [x]) := joinL_snoc (by unfold rowsH; simp)
  rw [e]
  refine asks_of ⟨by simp, ?_, fun l m => ?_⟩ ?_
  · rw [List.length_append, rowsH_length, List.length_singleton]
    have := h.d6
    omega
  · rcases List.mem_append.mp m with z | z
    · exact h.lnok l z
    · rw [List.mem_singleton.mp z]; exact hx
  · show toldL ((rowL lenW ls :: rowL gapW gs :: (ds.map clL ++ [x])).map S) = _
    rw [told_rows h, List.map_append, List.map_append, read_cl h fun _ m => m, told3_good h (List.Sublist.refl _)]
    show (match linksR ls gs (lnC (S x) :: []) (3 + ds.length) ds with | .inl n => n | .inr _ => 0) = _
    rw [linksR_bad bad, rowsH_length]
    show 3 + ds.length = _
    omega
theorem asks_dup {c : Str × Int × Int} (m : c ∈ ds) : Asks (houseL ls gs ds ++ ([10] ++ clL c)) ((rowsH ls gs ds).length + 1 : Nat) :=
  asks_more h ⟨Nat.le_trans (cl_ln (h.okc c m)).1 (by decide), (cl_ln (h.okc c m)).2⟩ fun d e => by
    rw [lnC_good (h.okc c m)] at e
    cases e
    exact .inr (List.mem_map_of_mem (f := fun c : Str × Int × Int => lk c.1 c.2.1 c.2.2) m)
omit h in
theorem lnC_nil : lnC (S []) = none := lnC_bad (ps := [[]]) ⟨by simp, fun l m => by rw [List.mem_singleton.mp m]; exact fun _ z => nomatch z⟩ (.inl (by decide))
theorem asks_nl : Asks (houseL ls gs ds ++ [10]) ((rowsH ls gs ds).length + 1 : Nat) := asks_more h (x := []) ⟨by decide, fun _ z => nomatch z⟩ fun c e => by rw [lnC_nil] at e; cases e
omit h in
theorem lnN_nil {w : List Nat} (ne : w ≠ []) : lnN (S []) w = none := by
  have := lnN_J (ps := [[]]) (wd := w) (by simp) (fun l m => by rw [List.mem_singleton.mp m]; exact fun z => nomatch z) (fun l m => by rw [List.mem_singleton.mp m]; exact fun _ z => nomatch z)
  rw [show TL.joinL [32] [[]] = [] from rfl] at this
  rw [this]
  unfold wordsN
  rw [if_neg]
  intro z
  have z := z.1
  injection z with z
  exact ne z.symm
theorem asks_first : Asks (rowL lenW ls) 2 := by
  refine asks_of (M := [rowL lenW ls]) (n := 2) ⟨by simp, (by show 1 ≤ 10; decide), fun l m => by rw [List.mem_singleton.mp m]; exact h.lnok _ List.mem_cons_self⟩ ?_
  rw [List.map_cons, toldL_cons, lnN_good (by decide) h.bl]
  dsimp only
  rw [if_pos h.v00]
  rfl
theorem asks_ahead : Asks ([10] ++ houseL ls gs ds) 1 := by
  refine asks_of (M := [] :: rowsH ls gs ds) (n := 1) ⟨by simp, ?_, fun l m => ?_⟩ ?_
  · rw [List.length_cons, rowsH_length]
    have := h.d6
    omega
  · rcases List.mem_cons.mp m with z | z
    · rw [z]; exact ⟨by decide, fun _ z => nomatch z⟩
    · exact h.lnok l z
  · rw [List.map_cons, toldL_cons, lnN_nil (by decide)]
/-- what a line must not tell at its place -/
def BadAt (ls gs : List Int) (a : Nat) (x : List Nat) : Prop := if a = 0 then ∀ L, lnN (S x) lenW = some L → okN L [] = false else if a = 1 then ∀ G, lnN (S x) gapW = some G → okN ls G = false else ∀ c, lnC (S x) = some c → isLk ls gs c.1 c.2.1 c.2.2 = false
theorem asks_spoilt {a : Nat} {x : List Nat} (ha : a < (rowsH ls gs ds).length) (hx : LnOk x) (bad : BadAt ls gs a x) : Asks (TL.joinL [10] ((rowsH ls gs ds).take a ++ [x] ++ (rowsH ls gs ds).drop (a + 1))) (a + 1 : Nat) := by
  have len : ((rowsH ls gs ds).take a ++ [x] ++ (rowsH ls gs ds).drop (a + 1)).length ≤ 10 := by
    rw [List.length_append, List.length_append, List.length_take, List.length_drop, rowsH_length, List.length_singleton]
    have := h.d6
    omega
  refine asks_of ⟨by simp, len, fun l m => ?_⟩ ?_
  · rcases List.mem_append.mp m with z | z
    · rcases List.mem_append.mp z with z | z
      · exact h.lnok l (List.mem_of_mem_take z)
      · rw [List.mem_singleton.mp z]; exact hx
    · exact h.lnok l (List.mem_of_mem_drop z)
  · unfold BadAt at bad
    match a, bad with
    | 0, bad =>
      rw [if_pos rfl] at bad
      show toldL (S x :: _) = 1
      rw [toldL_cons]
      cases e : lnN (S x) lenW with
      | none => rfl
      | some L =>
        dsimp only
        rw [if_neg (by rw [bad L e]; exact Bool.false_ne_true)]
    | 1, bad =>
      rw [if_neg (by decide), if_pos rfl] at bad
      show toldL (S (rowL lenW ls) :: S x :: _) = 2
      rw [toldL_cons, lnN_good (by decide) h.bl]
      dsimp only
      rw [if_pos h.v00, told2_cons]
      cases e : lnN (S x) gapW with
      | none => rfl
      | some L =>
        dsimp only
        rw [if_neg (by rw [bad L e]; exact Bool.false_ne_true)]
    | a + 2, bad =>
      rw [if_neg (by omega), if_neg (by omega)] at bad
      rw [rowsH_length] at ha
      have eq : (rowsH ls gs ds).take (a + 2) ++ [x] ++ (rowsH ls gs ds).drop (a + 2 + 1) = rowL lenW ls :: rowL gapW gs :: ((ds.take a).map clL ++ ([x] ++ (ds.drop (a + 1)).map clL)) := by
        unfold rowsH
        rw [List.map_take, List.map_drop, List.append_assoc]
        rfl
      rw [eq, told_rows h, List.map_append, List.map_append, read_cl h (fun c m => List.mem_of_mem_take m), told3_good h (List.take_sublist _ _)]
      show (match linksR ls gs (lnC (S x) :: _) (3 + (ds.take a).length) (ds.take a) with | .inl n => n | .inr _ => 0) = _
      rw [linksR_bad fun c e => .inl (bad c e), List.length_take]
      show 3 + min a ds.length = _
      omega
end
theorem asks_empty : Asks [] 1 := by
  refine asks_of (M := [[]]) (n := 1) ⟨by simp, by decide, fun l m => by rw [List.mem_singleton.mp m]; exact ⟨by decide, fun c z => nomatch z⟩⟩ ?_
  rw [List.map_cons, toldL_cons, lnN_nil (by decide)]
end
open SX
section
open GxR NdefX PySem.Spec PyProof.Rows
/-- the first space doubled -/
def rep1 : List Nat → List Nat
  | [] => []
  | c :: r => if c = 32 then 32 :: 32 :: r else c :: rep1 r
theorem rep1_none : ∀ {l : List Nat}, 32 ∉ l → rep1 l = l
  | [], _ => rfl
  | c :: r, h => by
    unfold rep1
    rw [if_neg (fun e => h (by rw [e]; exact List.mem_cons_self)), rep1_none fun m => h (List.mem_cons_of_mem _ m)]
theorem rep1_some {q : List Nat} : ∀ {p : List Nat}, 32 ∉ p → rep1 (p ++ 32 :: q) = p ++ 32 :: 32 :: q
  | [], _ => rfl
  | c :: r, h => by
    show (if c = 32 then 32 :: 32 :: (r ++ 32 :: q) else c :: rep1 (r ++ 32 :: q)) = c :: (r ++ 32 :: 32 :: q)
    rw [if_neg (fun e => h (by rw [e]; exact List.mem_cons_self)), rep1_some fun m => h (List.mem_cons_of_mem _ m)]
theorem rep1_len : ∀ l : List Nat, (rep1 l).length ≤ l.length + 1
  | [] => Nat.zero_le _
  | c :: r => by
    unfold rep1
    split
    · exact Nat.le_refl _
    · exact Nat.succ_le_succ (rep1_len r)
theorem rep1_chs : ∀ {l : List Nat}, Chs l → Chs (rep1 l)
  | [], h => h
  | c :: r, h => by
    unfold rep1
    split
    · intro d m
      rcases List.mem_cons.mp m with z | m
      · rw [z]; decide
      · rcases List.mem_cons.mp m with z | m
        · rw [z]; decide
        · exact h d (List.mem_cons_of_mem _ m)
    · intro d m
      rcases List.mem_cons.mp m with z | m
      · rw [z]; exact h c List.mem_cons_self
      · exact rep1_chs (fun e me => h e (List.mem_cons_of_mem _ me)) d m
def len5 : List Nat := [108, 101, 110, 103, 116, 104, 32, 53]
def gap5 : List Nat := [103, 97, 112, 32, 53]
def cup00 : List Nat := [99, 108, 111, 115, 101, 100, 32, 117, 112, 32, 48, 32, 48]
def gaps0 : List Nat := [103, 97, 112, 115, 32, 48]
def spA (l : List Nat) (a : Nat) : List (List Nat) := s10 l ++ [l ++ [32, 52, 49], l ++ [32, 49, 48, 48, 48, 48], l ++ [32, 49, 95, 48], rep1 l ++ [32, 53, 120], if a = 0 then len5 else gap5, cup00, if a = 0 then lenW else gaps0]
def spB (l : List Nat) (ps : List (List Nat)) (A T : Int) : List (List Nat) :=
  (s10 l ++ [TL.joinL [32] (ps.take 3), TL.joinL [32] (ps.take 2), [99, 108, 111, 115, 101, 100, 32, 100, 111, 119, 110, 32, 48, 32, 48], [99, 108, 111, 115, 101, 100, 32, 117, 112, 32] ++ dg A ++ [32, 48], [99, 108, 111, 115, 101, 100, 32, 117, 112, 32, 48, 32] ++ dg T,
    [99, 108, 111, 115, 101, 100, 32, 111, 118, 101, 114, 32] ++ dg (A - 1) ++ [32, 48]]) ++
  [[99, 108, 111, 115, 101, 100, 32, 117, 112, 32, 48, 48, 32, 48], [99, 108, 111, 115, 101, 100, 32, 117, 112, 32, 48, 32, 45, 49], [99, 108, 111, 115, 101, 100, 32, 117, 112, 32, 48, 32, 49, 120], [99, 108, 111, 115, 101, 100, 32, 32, 117, 112, 32, 48, 32, 48],
    [103, 97, 112, 115, 32, 53], [108, 101, 110, 103, 116, 104, 115, 32, 53], [], [99, 108, 111, 115, 101, 100, 32, 117, 112, 32, 48, 32, 49, 50, 51, 52, 53]]
def spH (l : List Nat) (ps : List (List Nat)) (a A T : Int) : List (List Nat) := if a < 2 then spA l a.toNat else spB l ps A T
theorem dg_val {n : Int} (h0 : 0 ≤ n) (h1 : n < 10000) : ((NumText.digitsVal (dg n) : Nat) : Int) = n := (isNum_dg h0 h1).2
theorem long_no {L M : List Int} (h : L.all longN = false) : okN L [] = false ∧ okN M L = false := by
  unfold okN
  rw [h]
  simp
theorem lnok_of {x : List Nat} (h : (decide (x.length ≤ 70) && chB x) = true) : LnOk x := by
  rw [Bool.and_eq_true, decide_eq_true_eq] at h
  exact ⟨h.1, chs_of h.2⟩
theorem lnok_app {l y : List Nat} (h : l.length ≤ 41 ∧ Chs l) (e : (decide (y.length ≤ 29) && chB y) = true) : LnOk (l ++ y) := by
  rw [Bool.and_eq_true, decide_eq_true_eq] at e
  exact ⟨by rw [List.length_append]; have := h.1; have := e.1; omega, h.2.app (chs_of e.2)⟩
theorem rep_bad {w : List Nat} {ns : List Int} (hw : Wd1 w) : ∀ L, lnN (S (rep1 (rowL w ns) ++ [32, 53, 120])) w = some L → L.all longN = false := by
  have f : 32 ∉ w := fun m => (hw 32 m).1 rfl
  cases ns with
  | nil =>
    rw [show rowL w [] = w from rfl, rep1_none f]
    have h : WsOk ([w] ++ [[53, 120]]) := .cons hw (wsB (by decide))
    rw [show w ++ [32, 53, 120] = TL.joinL [32] ([w] ++ [[53, 120]]) from rfl]
    exact lnN_bad h (.inr ⟨[53, 120], by simp, .inl (by decide)⟩)
  | cons n r =>
    have e : rowL w (n :: r) = w ++ 32 :: TL.joinL [32] (dg n :: r.map dg) := rfl
    rw [e, rep1_some f]
    have h0 : WsOk (w :: [] :: dg n :: r.map dg) := .cons hw fun l m => by
      rcases List.mem_cons.mp m with z | m
      · rw [z]; exact fun _ z => nomatch z
      · exact (row_ws (ns := n :: r) hw).2 l (List.mem_cons_of_mem _ m)
    have h : WsOk ((w :: [] :: dg n :: r.map dg) ++ [[53, 120]]) := h0.app (wsB (by decide))
    have e2 : (w ++ 32 :: 32 :: TL.joinL [32] (dg n :: r.map dg)) ++ [32, 53, 120] = TL.joinL [32] ((w :: [] :: dg n :: r.map dg) ++ [[53, 120]]) := by
      have q := joinL_app (s := [32]) (M := w :: [] :: dg n :: r.map dg) (N := [[53, 120]]) (by simp) (by simp)
      exact q
    rw [e2]
    exact lnN_bad h (.inr ⟨[53, 120], by simp, .inl (by decide)⟩)
section
variable {ls gs : List Int} {ds : List (Str × Int × Int)} (h : HsOk ls gs ds)
theorem badRow {a : Nat} {x : List Nat} (ha : a < 2) (b : ∀ L, lnN (S x) (if a = 0 then lenW else gapW) = some L → L.all longN = false) : BadAt ls gs a x := by
  unfold BadAt
  match a, ha with
  | 0, _ => exact fun L e => (long_no (b L e) (M := L)).1
  | 1, _ => exact fun L e => (long_no (b L e)).2
include h
theorem spA_bad {a : Nat} (ha : a < 2) : ∀ x ∈ spA (rowL (if a = 0 then lenW else gapW) (if a = 0 then ls else gs)) a, LnOk x ∧ BadAt ls gs a x := by
  have key : ∀ (w : List Nat) (ns : List Int), Wd1 w → w ≠ [] → upL w ≠ w → (rowL w ns).length ≤ 40 ∧ Chs (rowL w ns) → ∀ x ∈ s10 (rowL w ns) ++ [rowL w ns ++ [32, 52, 49], rowL w ns ++ [32, 49, 48, 48, 48, 48], rowL w ns ++ [32, 49, 95, 48], rep1 (rowL w ns) ++ [32, 53, 120]], LnOk x ∧ ∀ L, lnN (S x) w = some L → L.all longN = false := fun w ns hw ne uw hl x m => by
    have hws := row_ws (ns := ns) hw
    have hl1 : (rowL w ns).length ≤ 41 ∧ Chs (rowL w ns) := ⟨by omega, hl.2⟩
    rcases List.mem_append.mp m with m | m
    · exact ⟨s10_ok hl.1 hl.2 x m, (s10_bad hws ne uw x m).row⟩
    · simp only [List.mem_cons, List.not_mem_nil, or_false] at m
      rcases m with rfl | rfl | rfl | rfl
      · exact ⟨lnok_app hl1 (by decide), (bad_app hws (N := [[52, 49]]) (by simp) (by decide) (by decide)).row⟩
      · exact ⟨lnok_app hl1 (by decide), (bad_app hws (N := [[49, 48, 48, 48, 48]]) (by simp) (by decide) (by decide)).row⟩
      · exact ⟨lnok_app hl1 (by decide), (bad_app hws (N := [[49, 95, 48]]) (by simp) (by decide) (by decide)).row⟩
      · exact ⟨lnok_app ⟨Nat.le_trans (rep1_len _) (by omega), rep1_chs hl.2⟩ (by decide), rep_bad hw⟩
  have cases : ∀ (l : List Nat) (p q r : List Nat) (P : List Nat → Prop), (∀ x ∈ s10 l ++ [l ++ [32, 52, 49], l ++ [32, 49, 48, 48, 48, 48], l ++ [32, 49, 95, 48], rep1 l ++ [32, 53, 120]], P x) → P p → P q → P r → ∀ x ∈ s10 l ++ [l ++ [32, 52, 49], l ++ [32, 49, 48, 48, 48, 48], l ++ [32, 49, 95, 48], rep1 l ++ [32, 53, 120], p, q, r], P x := fun l p q r P h1 h2 h3 h4 x m => by
    rcases List.mem_append.mp m with m | m
    · exact h1 x (List.mem_append_left _ m)
    · simp only [List.mem_cons, List.not_mem_nil, or_false] at m
      rcases m with rfl | rfl | rfl | rfl | rfl | rfl | rfl
      · exact h1 _ (by simp)
      · exact h1 _ (by simp)
      · exact h1 _ (by simp)
      · exact h1 _ (by simp)
      · exact h2
      · exact h3
      · exact h4
  match a, ha with
  | 0, ha =>
    refine cases (rowL lenW ls) len5 cup00 lenW _ (fun x m => ⟨(key lenW ls (wd_of (by decide)) (by decide) (by decide) (h.lines _ List.mem_cons_self) x m).1, badRow (ls := ls) (gs := gs) ha (key lenW ls (wd_of (by decide)) (by decide) (by decide) (h.lines _ List.mem_cons_self) x m).2⟩) ⟨lnok_of (by decide), badRow ha ?_⟩ ⟨lnok_of (by decide), badRow ha ?_⟩ ⟨lnok_of (by decide), ?_⟩
    · exact lnN_bad (ps := [[108, 101, 110, 103, 116, 104], [53]]) (w := lenW) (.cons (wd_of (by decide)) (wsB (by decide))) (.inl (by decide))
    · exact lnN_bad (ps := [clW, [117, 112], [48], [48]]) (w := lenW) (.cons (wd_of (by decide)) (wsB (by decide))) (.inl (by decide))
    · show ∀ L, lnN (S (rowL lenW [])) lenW = some L → okN L [] = false
      intro L e
      rw [lnN_good (ns := []) (by decide) (fun _ z => nomatch z)] at e
      cases e
      rfl
  | 1, ha =>
    have m1 : rowL gapW gs ∈ rowsH ls gs ds := List.mem_cons_of_mem _ List.mem_cons_self
    refine cases (rowL gapW gs) gap5 cup00 gaps0 _ (fun x m => ⟨(key gapW gs (wd_of (by decide)) (by decide) (by decide) (h.lines _ m1) x m).1, badRow (ls := ls) (gs := gs) ha (key gapW gs (wd_of (by decide)) (by decide) (by decide) (h.lines _ m1) x m).2⟩) ⟨lnok_of (by decide), badRow ha ?_⟩ ⟨lnok_of (by decide), badRow ha ?_⟩ ⟨lnok_of (by decide), badRow ha ?_⟩
    · exact lnN_bad (ps := [[103, 97, 112], [53]]) (w := gapW) (.cons (wd_of (by decide)) (wsB (by decide))) (.inl (by decide))
    · exact lnN_bad (ps := [clW, [117, 112], [48], [48]]) (w := gapW) (.cons (wd_of (by decide)) (wsB (by decide))) (.inl (by decide))
    · exact lnN_bad (ps := [gapW, [48]]) (w := gapW) (.cons (wd_of (by decide)) (wsB (by decide))) (.inr ⟨[48], by decide, .inr (by decide)⟩)
  | a + 2, ha => exact absurd ha (by omega)
omit h in
theorem badLink {a : Nat} {x : List Nat} (ha : 2 ≤ a) (b : ∀ c, lnC (S x) = some c → isLk ls gs c.1 c.2.1 c.2.2 = false) : BadAt ls gs a x := by
  unfold BadAt
  rw [if_neg (by omega), if_neg (by omega)]
  exact b
omit h in
theorem no_link {a : Nat} {x : List Nat} (ha : 2 ≤ a) (b : lnC (S x) = none) : BadAt ls gs a x := badLink ha fun c e => by rw [b] at e; cases e
theorem spB_bad {c : Str × Int × Int} (hc : c ∈ ds) {a : Nat} (ha : 2 ≤ a) : ∀ x ∈ spB (clL c) [clW, wdL c.1, dg c.2.1, dg c.2.2] ((gs.length : Int) + 1) ls.sum, LnOk x ∧ BadAt ls gs a x := fun x m => by
  have okc := h.okc c hc
  have hl := cl_ln okc
  have hws := cl_ws c
  have eL := clL_eq c
  have hsum := h.va.lens.top h.va.1.1.2
  have g4 := h.g4
  have k : ∀ ps : List (List Nat), ps ≠ [] → ps.all wdB = true → WsOk ps := fun ps ne e => ⟨ne, wsB e⟩
  unfold spB at m
  rcases List.mem_append.mp m with m | m
  · rcases List.mem_append.mp m with m | m
    · exact ⟨s10_ok hl.1 hl.2 x m, no_link ha (by
        rw [eL] at m
        exact (s10_bad hws (by decide) (by decide) x m).link)⟩
    · simp only [List.mem_cons, List.not_mem_nil, or_false] at m
      have dA : (dg ((gs.length : Int) + 1)).length ≤ 5 := dg_len (by decide) (by omega)
      have dB : (dg ((gs.length : Int) + 1 - 1)).length ≤ 5 := dg_len (by decide) (by omega)
      have dT : (dg ls.sum).length ≤ 5 := dg_len (by decide) (by omega)
      have cd : ∀ n : Int, Chs (dg n) := fun n d md => (dgW n d md).2
      rcases m with rfl | rfl | rfl | rfl | rfl | rfl
      · have w3 : WsOk [clW, wdL c.1, dg c.2.1] := ⟨by simp, fun l ml => hws.2 l (List.mem_of_mem_take (i := 3) ml)⟩
        refine ⟨⟨?_, ws_chs w3⟩, no_link ha (lnC_bad w3 (.inr (.inr (.inr (by show 1 ≠ 2; decide)))))⟩
        have a5 : (dg c.2.1).length ≤ 5 := dg_len (by decide) (by have := okc.2; omega)
        have e4 : (wdL c.1).length ≤ 4 := by unfold wdL; split <;> decide
        have f6 : clW.length = 6 := rfl
        show (clW ++ ([32] ++ (wdL c.1 ++ ([32] ++ dg c.2.1)))).length ≤ 70
        simp only [List.length_append, List.length_singleton]
        omega
      · have w2 : WsOk [clW, wdL c.1] := ⟨by simp, fun l ml => hws.2 l (List.mem_of_mem_take (i := 2) ml)⟩
        refine ⟨⟨?_, ws_chs w2⟩, no_link ha (lnC_bad w2 (.inr (.inr (.inr (by show 0 ≠ 2; decide)))))⟩
        have e4 : (wdL c.1).length ≤ 4 := by unfold wdL; split <;> decide
        have f6 : clW.length = 6 := rfl
        show (clW ++ ([32] ++ wdL c.1)).length ≤ 70
        simp only [List.length_append, List.length_singleton]
        omega
      · exact ⟨lnok_of (by decide), no_link ha (lnC_bad (ps := [clW, [100, 111, 119, 110], [48], [48]]) (k _ (by simp) (by decide)) (.inr (.inl ⟨by decide, by decide⟩)))⟩
      · refine ⟨⟨by simp only [List.length_append, List.length_cons, List.length_nil]; omega, ((chs_of (by decide)).app (cd _)).app (chs_of (by decide))⟩, badLink ha fun d e => ?_⟩
        have e0 : [99, 108, 111, 115, 101, 100, 32, 117, 112, 32] ++ dg ((gs.length : Int) + 1) ++ [32, 48] = TL.joinL [32] [clW, [117, 112], dg ((gs.length : Int) + 1), [48]] := by
          show _ = clW ++ ([32] ++ ([117, 112] ++ ([32] ++ (dg ((gs.length : Int) + 1) ++ ([32] ++ [48])))))
          simp [clW]
        rw [e0] at e
        obtain ⟨q1, q2, q3, q4⟩ := lnC_is (wd_of (by decide)) (dgW _) (wd_of (by decide)) e
        rw [dg_val (by omega) (by omega)] at q3
        unfold isLk
        rcases q2 with q2 | q2
        · rw [if_pos q2, q3]
          simp
          omega
        · rw [q2] at q1
          exact absurd q1 (by decide +kernel)
      · refine ⟨⟨by simp only [List.length_append, List.length_cons, List.length_nil]; omega, (chs_of (by decide)).app (cd _)⟩, badLink ha fun d e => ?_⟩
        have e0 : [99, 108, 111, 115, 101, 100, 32, 117, 112, 32, 48, 32] ++ dg ls.sum = TL.joinL [32] [clW, [117, 112], [48], dg ls.sum] := rfl
        rw [e0] at e
        obtain ⟨q1, q2, q3, q4⟩ := lnC_is (wd_of (by decide)) (wd_of (by decide)) (dgW _) e
        rw [dg_val h.va.lens.pos2 (by omega)] at q4
        unfold isLk
        rcases q2 with q2 | q2
        · rw [if_pos q2, q4]
          simp
        · rw [q2] at q1
          exact absurd q1 (by decide +kernel)
      · refine ⟨⟨by simp only [List.length_append, List.length_cons, List.length_nil]; omega, ((chs_of (by decide)).app (cd _)).app (chs_of (by decide))⟩, badLink ha fun d e => ?_⟩
        have e0 : [99, 108, 111, 115, 101, 100, 32, 111, 118, 101, 114, 32] ++ dg ((gs.length : Int) + 1 - 1) ++ [32, 48] = TL.joinL [32] [clW, [111, 118, 101, 114], dg ((gs.length : Int) + 1 - 1), [48]] := by
          show _ = clW ++ ([32] ++ ([111, 118, 101, 114] ++ ([32] ++ (dg ((gs.length : Int) + 1 - 1) ++ ([32] ++ [48])))))
          simp [clW]
        rw [e0] at e
        obtain ⟨q1, q2, q3, q4⟩ := lnC_is (wd_of (by decide)) (dgW _) (wd_of (by decide)) e
        rw [dg_val (by omega) (by omega)] at q3
        unfold isLk
        rcases q2 with q2 | q2
        · rw [q2] at q1
          exact absurd q1 (by decide +kernel)
        · rw [if_neg (by rw [q2]; decide +kernel), q3]
          simp
  · refine ⟨?_, no_link ha ?_⟩
    · simp only [List.mem_cons, List.not_mem_nil, or_false] at m
      rcases m with rfl | rfl | rfl | rfl | rfl | rfl | rfl | rfl <;> exact lnok_of (by decide)
    · simp only [List.mem_cons, List.not_mem_nil, or_false] at m
      rcases m with rfl | rfl | rfl | rfl | rfl | rfl | rfl | rfl
      · exact lnC_bad (ps := [clW, [117, 112], [48, 48], [48]]) (k _ (by simp) (by decide)) (.inr (.inr (.inl ⟨[48, 48], by decide, by decide⟩)))
      · exact lnC_bad (ps := [clW, [117, 112], [48], [45, 49]]) (k _ (by simp) (by decide)) (.inr (.inr (.inl ⟨[45, 49], by decide, by decide⟩)))
      · exact lnC_bad (ps := [clW, [117, 112], [48], [49, 120]]) (k _ (by simp) (by decide)) (.inr (.inr (.inl ⟨[49, 120], by decide, by decide⟩)))
      · exact lnC_bad (ps := [clW, [], [117, 112], [48], [48]]) (k _ (by simp) (by decide)) (.inr (.inl ⟨by decide, by decide⟩))
      · exact lnC_bad (ps := [gapW, [53]]) (k _ (by simp) (by decide)) (.inl (by decide))
      · exact lnC_bad (ps := [lenW, [53]]) (k _ (by simp) (by decide)) (.inl (by decide))
      · exact lnC_nil
      · exact lnC_bad (ps := [clW, [117, 112], [48], [49, 50, 51, 52, 53]]) (k _ (by simp) (by decide)) (.inr (.inr (.inl ⟨[49, 50, 51, 52, 53], by decide, by decide⟩)))
end
end
open SX
section
open GxR NdefX PySem.Spec PyProof.Rows
variable {P : Program} {w : World} {K : PySem.W.Frag} {mg : Str → Option Value} {base : Heap}
abbrev HX : Type := List Int × List Int × List (Str × Int × Int)
abbrev dHX (x : HX) : PyData := eT3 (eL PyData.int) (eL PyData.int) (eL dLk) x
theorem Dt.lks {H : Hp} {v : V} {cs : List (Str × Int × Int)} (h : Dt H v (.list (cs.map dLk))) : ∃ p xs, v = .ref p ∧ H p = some (.lst xs) ∧ Krs H xs (kOf cs) := by
  cases h with
  | lst e a => exact ⟨_, _, rfl, e, a.krs⟩
/-- what a law of the houses draws -/
structure DrawH (x : HX) : Prop where
  v : Valid x.1 x.2.1 x.2.2
  g4 : x.2.1.length ≤ 4
  c6 : x.2.2.length ≤ 6
theorem skx_partsH {ns : List Int} {a : Nat} : Skx0 (spParts K) [RD (.list (ns.map PyData.int)), RD (.int (a : Int))] (fun _ => Small ns ∧ a + 24 ≤ ns.length) (fun x : HX => RD (dHX x)) DrawH := fun H vs hr hp Q E q => by
  obtain ⟨v, r, rfl, h1, u, r', rfl, h2, rfl⟩ := hr
  obtain ⟨p, rfl, j1⟩ := Dt.nums h1
  cases h2
  exact ⟨p, ns, a, rfl, SqL.of j1, hp.1, hp.2, fun H' t l g c ls gs xs cs k _ e1 _ _ _ e2 e3 e4 hx va g4 c6 => q H' _ (ls, gs, cs) (kpS k) ⟨va, g4, c6⟩ (.tup e1 (.cons (.lst e2 (DtAll.ofInts _)) (.cons (.lst e3 (DtAll.ofInts _)) (.cons (.lst e4 hx.dt) .nil))))⟩
section
variable {hs h0 : Hp} {g : List Slot} {ta : TA} {E' : XK} {C CI TL TI : Addr} {ls gs : List Int} {cs : List (Str × Int × Int)}
/-- House(lengths, gaps, closed) -/
theorem x_mkHouse (va : Valid ls gs cs) (ha : EA true ⟨hs, h0, fun _ => False, g⟩ ta [RD (.list (ls.map PyData.int)), RD (.list (gs.map PyData.int)), RD (.list (cs.map dLk))]) (ht : ∀ H, Kp h0 H → TabG H TL ∧ TabG H TI) (no : noOwn g = true := by rfl) :
    EX ⟨hs, h0, fun _ => False, g⟩ (tMake C (spHouse K C CI TL TI) [] E' ta) (fun _ : Unit => RHouse C ⟨ls, gs, cs⟩) (fun _ => True) := fun σ H s Q q => ha σ H s _ fun H1 vs k1 r1 => fun x dx nx ndx ne => by
  rw [hb_t, bas_all no] at r1
  have k0 := (s.kp k1).k0
  rw [bas_all no] at k0
  obtain ⟨vl, r, rfl, h1, vg, r', rfl, h2, vc, r'', rfl, h3, rfl⟩ := r1
  obtain ⟨pl, rfl, e1⟩ := Dt.nums h1
  obtain ⟨pg, rfl, e2⟩ := Dt.nums h2
  obtain ⟨pc, xs, rfl, e3, hx⟩ := Dt.lks h3
  have k5 : Same H1 (upd (upd H1 dx (.own x)) x (.ins C dx [])) := fun b z e => by
    rw [upd_ne (ne_of_none e nx), upd_ne (ne_of_none e ndx)]
    exact e
  obtain ⟨t1, t2⟩ := ht _ k0
  have l1 := va.1.1.2
  have l2 := va.2.1.1
  have l3 := va.2.2.1
  refine ⟨x, dx, pl, pg, pc, ls, gs, xs, cs, rfl, upd_same, SqL.of (k5 _ _ e1), SqL.of (k5 _ _ e2), SqL.of (k5 _ _ e3), hx.same k5, by omega, by omega, by omega, (kpS k5).tab _ t1, (kpS k5).tab _ t2, fun _ H4 hH4 kk _ => ⟨rfl, ?_⟩, fun nv => absurd va nv⟩
  refine q H4 _ () (k1.trans (mkKp nx ndx kk)) trivial ?_
  rw [bas_all no]
  exact ⟨x, rfl, hH4⟩
end
theorem sok_fh {C : Addr} {h : HD} : Sok (spFH C) [RHouse C h] (fun _ => True) (RD (dX (houseL h.ls h.gs (sortC h.cs)))) := fun H om vs ho hr hp Q E qq => by
  obtain ⟨v, r, rfl, ⟨p, rfl, hT⟩, rfl⟩ := hr
  exact ⟨p, _, _, _, rfl, hT.kp kp_less, fun H' k => qq _ _ (kpS k) (.str _)⟩
/-- a house that has these links in some order -/
def RHouseP (C : Addr) (h : HD) : Rel := ⟨fun H v => ∃ p cs, v = .ref p ∧ HouseAt C H p h.ls h.gs cs ∧ cs.Perm h.cs, fun k ⟨p, cs, e, q, z⟩ => ⟨p, cs, e, q.kp k, z⟩⟩
theorem hi_houseP {C : Addr} {h : HD} {m : Str} (n1 : ¬ m = "_lengths") (n2 : ¬ m = "_gaps") (n3 : ¬ m = "_crosses") (n4 : ¬ m = "_top") (n5 : ¬ m = "_closed") (H : Hp) (v : V) (r : (RHouseP C h).p H v) : ∃ a dx fs, v = .ref a ∧ H a = some (.ins C dx fs) ∧ fs.lookup m = none := by
  obtain ⟨p, cs, rfl, hv, _⟩ := r
  exact hi_house n1 n2 n3 n4 n5 H (.ref p) (⟨p, rfl, hv⟩ : (RHouse C ⟨h.ls, h.gs, cs⟩).p H (.ref p))
theorem skx_parse {C T0 TL TI CN : Addr} {z : List Nat} {ls gs : List Int} {ds : List (Str × Int × Int)} : Skx0 (spPHX C T0 TL TI CN) [RD (dX z)] (fun H => TxtOk z ∧ parseH (Txt.split (S z) (S [10])) = .inr (ls, gs, ds) ∧ TabG H T0 ∧ TabG H TL ∧ TabG H TI) (fun _ : Unit => RHouseP C ⟨ls, gs, ds⟩) (fun _ => True) := fun H vs hr hp Q E q => by
  obtain ⟨v, r, rfl, h1, rfl⟩ := hr
  obtain ⟨hz, e, t0, tL, tI⟩ := hp
  cases h1
  refine ⟨S z, rfl, by rw [S_len]; exact hz.1, asc_S hz.2, t0, tL, tI, fun L G cs e2 H' r cs' k hH hp => ?_, fun n e2 => by rw [e] at e2; cases e2⟩
  rw [e] at e2
  cases e2
  exact q H' _ () k trivial ⟨r, cs', rfl, hH, hp⟩
theorem sok_same {C : Addr} {h1 h2 : HD} : Sok (spSameH C) [RHouseP C h1, RHouse C h2] (fun _ => h1.ls = h2.ls ∧ h1.gs = h2.gs ∧ ∀ cs : List (Str × Int × Int), cs.Perm h1.cs → sortK (kOf cs) = sortK (kOf h2.cs)) (RD (.bool true)) := fun H om vs ho hr hp Q E qq => by
  obtain ⟨v, r, rfl, ⟨p, cs, rfl, hT, hq⟩, u, r', rfl, ⟨p2, rfl, hU⟩, rfl⟩ := hr
  obtain ⟨a, b, c⟩ := hp
  rw [a, b] at hT
  exact ⟨p, p2, _, _, cs, h2.cs, rfl, hT.kp kp_less, hU.kp kp_less, c cs hq, fun H' k => qq _ _ (kpS k) (.bl _)⟩
theorem parse_good {ls gs : List Int} {ds : List (Str × Int × Int)} (h : HsOk ls gs ds) : parseH (Txt.split (S (houseL ls gs ds)) (S [10])) = .inr (ls, gs, ds) := by
  have e : Txt.split (S (houseL ls gs ds)) (S [10]) = (rowsH ls gs ds).map S := split_joinL (by decide) h.lin.1 fun l m z => ((h.lin.2.2 l m).2 10 z).1 rfl
  have len : ((rowsH ls gs ds).map S).length = 2 + ds.length := by
    rw [List.length_map, rowsH_length]
    omega
  have n1 : numsIn ((rowsH ls gs ds).map S) 1 [S lenW] = some ls := (numsIn_at (n := 0) (z := S (rowL lenW ls)) rfl).trans (lnN_good (by decide) h.bl)
  have n2 : numsIn ((rowsH ls gs ds).map S) 2 [S gapW] = some gs := (numsIn_at (n := 1) (z := S (rowL gapW gs)) rfl).trans (lnN_good (by decide) h.bg)
  have n3 : linksFrom ((rowsH ls gs ds).map S) ls gs ds.length 3 [] = .inr ds := by
    rw [links_R ds.length 2 [] len]
    show linksR ls gs (((ds.map clL).map S).map lnC) 3 [] = _
    rw [read_cl h fun _ m => m, ← List.append_nil (ds.map some), linksR_good ds [] 3 [] (by rw [List.nil_append]; exact h.va.2.2.2.1) (by rw [List.nil_append]; exact h.va.2.2.1) h.va.2.2.2.2]
    rfl
  rw [e]
  unfold parseH
  rw [n1]
  dsimp only
  rw [if_pos h.v00, n2]
  dsimp only
  rw [if_pos h.v0, len, show 2 + ds.length - 2 = ds.length by omega, n3]
theorem told_ne {z : List Nat} {n m : Int} (h : Asks z n) (e : n = m) : (!decide (told0 (S z) = m)) = false := by
  rw [decide_eq_true (h.2.trans e)]
  rfl
theorem told_eq {z : List Nat} {n m : Int} (h : Asks z n) (e : n = m) : decide (told0 (S z) = m) = true := decide_eq_true (h.2.trans e)
theorem asks_pre {z : List Nat} (h : TxtOk z) : (S z).length ≤ 900 ∧ asc (S z) := ⟨by rw [S_len]; exact h.1, asc_S h.2⟩
/-- sorted, the house is of the law's size -/
theorem hs_sorted {ls gs : List Int} {cs : List (Str × Int × Int)} (h : Valid ls gs cs) (g4 : gs.length ≤ 4) (c6 : cs.length ≤ 6) : HsOk ls gs (sortC cs) := by
  have p := sortC_perm cs
  refine ⟨⟨h.1, h.2.1, ?_, ?_, fun c m => h.2.2.2.2 c (p.mem_iff.mp m)⟩, g4, ?_⟩
  · rw [p.length_eq]; exact h.2.2.1
  · exact ((p.map fun c : Str × Int × Int => lk c.1 c.2.1 c.2.2).nodup_iff).mpr h.2.2.2.1
  · rw [p.length_eq]; exact c6
end
section
open GxR NdefX PySem.Spec PyProof.Rows
theorem asks_const {z : List Nat} {n : Nat} (h : (decide (z.length ≤ 900) && (z.all fun c => decide (c < 128))) = true) (e : told0 (S z) = (n : Int)) : Asks z (n : Int) := by
  rw [Bool.and_eq_true, decide_eq_true_eq] at h
  exact ⟨⟨h.1, fun c m => by have := List.all_eq_true.mp h.2 c m; simpa using this⟩, e⟩
theorem asks_c1 : Asks [108, 101, 110, 103, 116, 104, 115, 32, 53, 32, 53, 32, 53, 10, 103, 97, 112, 115] 1 := asks_const (n := 1) (by decide) (by decide +kernel)
theorem asks_c2 : Asks [108, 101, 110, 103, 116, 104, 115, 32, 53, 10, 103, 97, 112, 115, 32, 49, 32, 49, 32, 49, 32, 49, 32, 49, 32, 49, 32, 49, 32, 49, 32, 49, 32, 49, 32, 49, 32, 49] 2 := asks_const (n := 2) (by decide) (by decide +kernel)
theorem asks_c3 : Asks [108, 101, 110, 103, 116, 104, 115, 32, 48, 10, 103, 97, 112, 115] 1 := asks_const (n := 1) (by decide) (by decide +kernel)
theorem asks_c4 : Asks [108, 101, 110, 103, 116, 104, 115, 32, 53, 10, 103, 97, 112, 115, 32, 52, 49] 2 := asks_const (n := 2) (by decide) (by decide +kernel)
theorem asks_c5 : Asks [108, 101, 110, 103, 116, 104, 115, 32, 53, 10, 99, 108, 111, 115, 101, 100, 32, 117, 112, 32, 48, 32, 48] 2 := asks_const (n := 2) (by decide) (by decide +kernel)
theorem asks_c6 : Asks [108, 101, 110, 103, 116, 104, 115, 32, 53, 32, 54, 10, 103, 97, 112, 115, 32, 50, 10, 99, 108, 111, 115, 101, 100, 32, 111, 118, 101, 114, 32, 48, 32, 54] 3 := asks_const (n := 3) (by decide) (by decide +kernel)
theorem asks_c7 : Asks [108, 101, 110, 103, 116, 104, 115, 32, 53, 32, 54, 10, 103, 97, 112, 115, 32, 50, 10, 99, 108, 111, 115, 101, 100, 32, 111, 118, 101, 114, 32, 48, 32, 49, 49, 10, 99, 108, 111, 115, 101, 100, 32, 111, 118, 101, 114, 32, 48, 32, 53, 10, 99, 108, 111, 115, 101, 100, 32, 111, 118, 101, 114, 32, 48, 32, 48] 0 := asks_const (n := 0) (by decide) (by decide +kernel)
end
open SX
section
open GxR NdefX PySem.Spec PyProof.Rows
variable {P : Program} {w : World} {K : PySem.W.Frag} {mg : Str → Option Value} {base : Heap}
theorem rep1_eq : ∀ l : List Nat, rep1 l = repC 32 [32, 32] l
  | [] => rfl
  | c :: r => by
    unfold rep1 repC
    rw [rep1_eq r]
    rfl
theorem repC_len (l : List Nat) : (repC 32 [32, 32] l).length ≤ l.length + 1 := by
  rw [← rep1_eq]
  exact rep1_len l
theorem e_replC {b : Bool} {c : Ct} {t : TE} {k : Nat} {l z : List Nat} (h : E true c t (RD (dX l))) (hl : l.length + z.length ≤ 1000000) : E b c (tReplC t k z) (RD (dX (repC k z l))) := fun σ H s Q qq =>
  h σ H s _ fun H1 v k1 r1 => by
    cases r1
    exact ⟨l, rfl, hl, qq H1 _ k1 (.str _)⟩
theorem up_all {l : List Nat} (h : ∀ c ∈ l, c < 128) : Txt.upper (S l) = S (upL l) := upper_S (by rw [List.all_eq_true]; exact fun c m => decide_eq_true (h c m))
theorem sum_le {m : Nat} : ∀ {M : List (List Nat)}, (∀ l ∈ M, l.length ≤ m) → ((M.map S).map (·.length)).sum ≤ m * M.length
  | [], _ => Nat.zero_le _
  | x :: r, h => by
    have a := h x List.mem_cons_self
    have b := sum_le (M := r) fun l hl => h l (List.mem_cons_of_mem _ hl)
    rw [List.map_cons, List.map_cons, List.sum_cons, List.length_cons, Nat.mul_add, S_len]
    omega
theorem joinB {s : List Nat} {M : List (List Nat)} (hs : s.length ≤ 10) (h : M.length ≤ 100 ∧ ∀ l ∈ M, l.length ≤ 100) : ((M.map S).map (·.length)).sum + (M.map S).length * (S s).length ≤ 16777216 := by
  have z := sum_le h.2
  have q := h.1
  rw [List.length_map, S_len]
  have a : 100 * M.length ≤ 100 * 100 := Nat.mul_le_mul_left _ h.1
  have b : M.length * s.length ≤ 100 * 10 := Nat.mul_le_mul h.1 hs
  omega
theorem cut_take {α : Type} {xs : List α} {a : Nat} (h : a ≤ xs.length) : cutL xs none (some (a : Int)) = xs.take a := by
  unfold cutL
  rw [HT.sIx_nat]
  show (xs.drop 0).take (min a xs.length - 0) = _
  rw [List.drop_zero, Nat.sub_zero, Nat.min_eq_left h]
theorem cut_drop {α : Type} {xs : List α} {a : Nat} (h : a ≤ xs.length) : cutL xs (some (a : Int)) none = xs.drop a := by
  unfold cutL
  rw [HT.sIx_nat, Nat.min_eq_left h]
  show (xs.drop a).take (xs.length - a) = _
  exact List.take_of_length_le (by rw [List.length_drop]; omega)
def Rs__law_spoilt  : (List Nat) × (List (List Nat)) × Int × Int × Int → List Rel := fun x => [(RD (dX x.1)), (RD (.int x.2.2.1)), (RD (.int x.2.2.2.1)), (RD (.int x.2.2.2.2))]
def P__law_spoilt  : (List Nat) × (List (List Nat)) × Int × Int × Int → Hp → Prop := fun x H => Txt.split (S x.1) (S [32]) = x.2.1.map S ∧ x.1.length ≤ 40 ∧ (∀ c ∈ x.1, c < 128) ∧ 0 ≤ x.2.2.1 ∧ (1 ≤ x.2.2.2.1 ∧ x.2.2.2.1 ≤ 1000 ∧ 0 ≤ x.2.2.2.2 ∧ x.2.2.2.2 ≤ 1000) ∧ (2 ≤ x.2.2.1 → x.2.1.length = 4 ∧ ∀ w ∈ x.2.1, w.length ≤ 40)
def R__law_spoilt  : (List Nat) × (List (List Nat)) × Int × Int × Int → Own := fun x => OL ((spH x.1 x.2.1 x.2.2.1 x.2.2.2.1 x.2.2.2.2).map dX)
theorem ok__law_spoilt {f : Addr} {fd : FuncData} (F : Fun K "_law_spoilt" "_law_spoilt" s__law_spoilt f fd) (z_str : mg "str" = none) : FnOk P w K mg base CX0 1 f fd ["line", "at", "aisles", "top"] (SpN (Rs__law_spoilt ) (P__law_spoilt ) (R__law_spoilt )) := by
  refine fn_okN F sc__law_spoilt (fun _ => rfl) fun cdv A outer s H E0 hr => ?_
  have nd := sc__law_spoilt.nd
  refine ⟨_, (pss_cons (ps_set (i := 4) nd rfl (.inl rfl) (pe_lst (pa_cons (pe_op (r := fun x y H Q => ∃ i j, x = .str i ∧ y = .str j ∧ i.length + j.length ≤ sizeLine ∧ Q (.str (i ++ j)) H) op_add_str pe_str (pv 0)) (pa_cons (pe_op (r := fun x y H Q => ∃ i j, x = .str i ∧ y = .str j ∧ i.length + j.length ≤ sizeLine ∧ Q (.str (i ++ j)) H) op_add_str (pv 0) pe_str) (pa_cons (pe_op (r := fun x y H Q => ∃ i j, x = .str i ∧ y = .str j ∧ i.length + j.length ≤ sizeLine ∧ Q (.str (i ++ j)) H) op_add_str (pv 0) pe_str) (pa_cons (pe_op (r := fun x y H Q => ∃ i j, x = .str i ∧ y = .str j ∧ i.length + j.length ≤ sizeLine ∧ Q (.str (i ++ j)) H) op_add_str (pv 0) pe_str) (pa_cons (pe_op (r := fun x y H Q => ∃ i j, x = .str i ∧ y = .str j ∧ i.length + j.length ≤ sizeLine ∧ Q (.str (i ++ j)) H) op_add_str (pv 0) pe_str) (pa_cons (pe_op (r := fun x y H Q => ∃ i j, x = .str i ∧ y = .str j ∧ i.length + j.length ≤ sizeLine ∧ Q (.str (i ++ j)) H) op_add_str (pv 0) pe_str) (pa_cons (pe_op (r := fun x y H Q => ∃ i j, x = .str i ∧ y = .str j ∧ i.length + j.length ≤ sizeLine ∧ Q (.str (i ++ j)) H) op_add_str (pv 0) pe_str) (pa_cons (pe_op (r := fun x y H Q => ∃ i j, x = .str i ∧ y = .str j ∧ i.length + j.length ≤ sizeLine ∧ Q (.str (i ++ j)) H) op_add_str pe_str (pv 0)) (pa_cons (pe_m0 PySem.F.slot_str_upper PySem.F.type_str_upper mt_upper (pv 0)) (pa_cons (pe_op (r := fun x y H Q => ∃ i j, x = .str i ∧ y = .str j ∧ i.length + j.length ≤ sizeLine ∧ Q (.str (i ++ j)) H) op_add_str (pv 0) pe_str) pa_nil))))))))))))
      (pss_cons (ps_if (pt_cmpR (r := rI0 fun i j => .bl (decide (i < j))) op_lt (pv 1) pe_int (nomark _)) (pss_one (ps_ret (pe_op op_cat (pv 4) (pe_lstC (r := fun x y H Q => ∃ i j, x = .str i ∧ y = .str j ∧ i.length + j.length ≤ sizeLine ∧ Q (.str (i ++ j)) H) op_add_str (pv 0) (pat_cons (pet_of (pe_op (r := fun x y H Q => ∃ i j, x = .str i ∧ y = .str j ∧ i.length + j.length ≤ sizeLine ∧ Q (.str (i ++ j)) H) op_add_str (pv 0) pe_str)) (pat_cons (pet_of (pe_op (r := fun x y H Q => ∃ i j, x = .str i ∧ y = .str j ∧ i.length + j.length ≤ sizeLine ∧ Q (.str (i ++ j)) H) op_add_str (pv 0) pe_str)) (pat_cons (pet_op (r := fun x y H Q => ∃ i j, x = .str i ∧ y = .str j ∧ i.length + j.length ≤ sizeLine ∧ Q (.str (i ++ j)) H) op_add_str (pet_replC (c := 32) (z := [32, 32]) (pv 0) (by decide +kernel) (by decide +kernel) (by decide)) pe_str) (pat_cons (pet_of (pe_ix (r := rIxL K) ix_list (pe_lst (pa_cons pe_str (pa_cons pe_str pa_nil))) (pv 1) (fun _ _ => rfl))) (pat_cons (pet_of pe_str) (pat_cons (pet_of (pe_ix (r := rIxL K) ix_list (pe_lst (pa_cons pe_str (pa_cons pe_str pa_nil))) (pv 1) (fun _ _ => rfl))) pat_nil)))))))))) pss_nil)
      (pss_cons (ps_set (i := 5) nd rfl (.inl rfl) (pe_split (pv 0) pe_str))
      (pss_cons (ps_set (i := 4) nd rfl (.inl rfl) (pe_op op_cat (pv 4) (pe_lst (pa_cons (pe_join pe_str (pe_slice sl_list (pv 5) po_none (po_some pe_int))) (pa_cons (pe_join pe_str (pe_slice sl_list (pv 5) po_none (po_some pe_int))) (pa_cons pe_str (pa_cons (pe_op (r := fun x y H Q => ∃ i j, x = .str i ∧ y = .str j ∧ i.length + j.length ≤ sizeLine ∧ Q (.str (i ++ j)) H) op_add_str (pe_op (r := fun x y H Q => ∃ i j, x = .str i ∧ y = .str j ∧ i.length + j.length ≤ sizeLine ∧ Q (.str (i ++ j)) H) op_add_str pe_str (pe_callTy (r := fun xs H Q => ∃ i, xs = [.int i] ∧ i.natAbs.log2 < 1920 ∧ Q (.str (toString i)) H) call_str_int (by rfl) z_str (by decide +kernel) (pa_cons (pv 2) pa_nil))) pe_str) (pa_cons (pe_op (r := fun x y H Q => ∃ i j, x = .str i ∧ y = .str j ∧ i.length + j.length ≤ sizeLine ∧ Q (.str (i ++ j)) H) op_add_str pe_str (pe_callTy (r := fun xs H Q => ∃ i, xs = [.int i] ∧ i.natAbs.log2 < 1920 ∧ Q (.str (toString i)) H) call_str_int (by rfl) z_str (by decide +kernel) (pa_cons (pv 3) pa_nil))) (pa_cons (pe_op (r := fun x y H Q => ∃ i j, x = .str i ∧ y = .str j ∧ i.length + j.length ≤ sizeLine ∧ Q (.str (i ++ j)) H) op_add_str (pe_op (r := fun x y H Q => ∃ i j, x = .str i ∧ y = .str j ∧ i.length + j.length ≤ sizeLine ∧ Q (.str (i ++ j)) H) op_add_str pe_str (pe_callTy (r := fun xs H Q => ∃ i, xs = [.int i] ∧ i.natAbs.log2 < 1920 ∧ Q (.str (toString i)) H) call_str_int (by rfl) z_str (by decide +kernel) (pa_cons (pe_op op_sub (pv 2) pe_int) pa_nil))) pe_str) pa_nil)))))))))
      (pss_one (ps_ret (pe_op op_cat (pv 4) (pe_lst (pa_cons pe_str (pa_cons pe_str (pa_cons pe_str (pa_cons pe_str (pa_cons pe_str (pa_cons pe_str (pa_cons pe_str (pa_cons pe_str pa_nil)))))))))))))))), ?_⟩
  rintro ⟨l, ps, a, A, T⟩ hs om Q hp q
  show WC ⟨hs, (less hs om), om, [.fz (RD (dX l)), .fz (RD (.int a)), .fz (RD (.int A)), .fz (RD (.int T)), .any, .any]⟩ _
  replace hp : Txt.split (S l) (S [32]) = ps.map S ∧ l.length ≤ 40 ∧ (∀ c ∈ l, c < 128) ∧ 0 ≤ a ∧ (1 ≤ A ∧ A ≤ 1000 ∧ 0 ≤ T ∧ T ≤ 1000) ∧ (2 ≤ a → ps.length = 4 ∧ ∀ w ∈ ps, w.length ≤ 40) := hp
  replace q : ∀ H' p o, Kp hs H' → H' p = none → (OL ((spH l ps a A T).map dX)).p (less H' om) o → Q (.ref p) (upd H' p o) := q
  obtain ⟨hsp, hl, hc, ha, hA, h4⟩ := hp
  have dA : (dg A).length ≤ 5 := dg_len (by decide) (by omega)
  have dA1 : (dg (A - 1)).length ≤ 5 := dg_len (by decide) (by omega)
  have dT : (dg T).length ≤ 5 := dg_len (by decide) (by omega)
  refine s_seq ?_
  refine s_set (n_e (n_lstM (xs := [([32] ++ l), (l ++ [32]), (l ++ [32, 48]), (l ++ [32, 45, 49]), (l ++ [32, 120]), (l ++ [32, 48, 55]), (l ++ [32, 43, 51]), ([120] ++ l), (upL l), (l ++ [32, 52, 49, 32, 50, 32, 51, 32, 52, 32, 53, 32, 54, 32, 55, 32, 56, 32, 57, 32, 49, 32, 50, 32, 51, 32, 52])]) (enc := dX) (m_cons (e_op (o_catS (x := [32]) (y := l) (by simp only [List.length_append, List.length_cons, List.length_nil]; omega)) (e_strS (x := [32]) (by decide +kernel)) (e_var rfl)) (m_cons (e_op (o_catS (x := l) (y := [32]) (by simp only [List.length_append, List.length_cons, List.length_nil]; omega)) (e_var rfl) (e_strS (x := [32]) (by decide +kernel))) (m_cons (e_op (o_catS (x := l) (y := [32, 48]) (by simp only [List.length_append, List.length_cons, List.length_nil]; omega)) (e_var rfl) (e_strS (x := [32, 48]) (by decide +kernel))) (m_cons (e_op (o_catS (x := l) (y := [32, 45, 49]) (by simp only [List.length_append, List.length_cons, List.length_nil]; omega)) (e_var rfl) (e_strS (x := [32, 45, 49]) (by decide +kernel))) (m_cons (e_op (o_catS (x := l) (y := [32, 120]) (by simp only [List.length_append, List.length_cons, List.length_nil]; omega)) (e_var rfl) (e_strS (x := [32, 120]) (by decide +kernel))) (m_cons (e_op (o_catS (x := l) (y := [32, 48, 55]) (by simp only [List.length_append, List.length_cons, List.length_nil]; omega)) (e_var rfl) (e_strS (x := [32, 48, 55]) (by decide +kernel))) (m_cons (e_op (o_catS (x := l) (y := [32, 43, 51]) (by simp only [List.length_append, List.length_cons, List.length_nil]; omega)) (e_var rfl) (e_strS (x := [32, 43, 51]) (by decide +kernel))) (m_cons (e_op (o_catS (x := [120]) (y := l) (by simp only [List.length_append, List.length_cons, List.length_nil]; omega)) (e_strS (x := [120]) (by decide +kernel)) (e_var rfl)) (m_cons (e_upperS (e_var rfl) (by omega) (up_all hc)) (m_cons (e_op (o_catS (x := l) (y := [32, 52, 49, 32, 50, 32, 51, 32, 52, 32, 53, 32, 54, 32, 55, 32, 56, 32, 57, 32, 49, 32, 50, 32, 51, 32, 52]) (by simp only [List.length_append, List.length_cons, List.length_nil]; omega)) (e_var rfl) (e_strS (x := [32, 52, 49, 32, 50, 32, 51, 32, 52, 32, 53, 32, 54, 32, 55, 32, 56, 32, 57, 32, 49, 32, 50, 32, 51, 32, 52]) (by decide +kernel))) m_nil)))))))))))) ?_
  show WC ⟨hs, (less hs om), om, [.fz (RD (dX l)), .fz (RD (.int a)), .fz (RD (.int A)), .fz (RD (.int T)), .fz (RD (.list ([([32] ++ l), (l ++ [32]), (l ++ [32, 48]), (l ++ [32, 45, 49]), (l ++ [32, 120]), (l ++ [32, 48, 55]), (l ++ [32, 43, 51]), ([120] ++ l), (upL l), (l ++ [32, 52, 49, 32, 50, 32, 51, 32, 52, 32, 53, 32, 54, 32, 55, 32, 56, 32, 57, 32, 49, 32, 50, 32, 51, 32, 52])].map dX))), .any]⟩ _
  refine s_seq ?_
  refine s_if (t_T (e_op o_cmpI0 (e_var rfl) e_int)) (fun h1 => ?_) (fun h1 => ?_)
  · have := h1
    refine s_retNew (EN.eqL (n_catM (xs := [([32] ++ l), (l ++ [32]), (l ++ [32, 48]), (l ++ [32, 45, 49]), (l ++ [32, 120]), (l ++ [32, 48, 55]), (l ++ [32, 43, 51]), ([120] ++ l), (upL l), (l ++ [32, 52, 49, 32, 50, 32, 51, 32, 52, 32, 53, 32, 54, 32, 55, 32, 56, 32, 57, 32, 49, 32, 50, 32, 51, 32, 52])]) (ys := [(l ++ [32, 52, 49]), (l ++ [32, 49, 48, 48, 48, 48]), (l ++ [32, 49, 95, 48]), ((repC 32 [32, 32] l) ++ [32, 53, 120]), (ix [[108, 101, 110, 103, 116, 104, 32, 53], [103, 97, 112, 32, 53]] a), [99, 108, 111, 115, 101, 100, 32, 117, 112, 32, 48, 32, 48], (ix [[108, 101, 110, 103, 116, 104, 115], [103, 97, 112, 115, 32, 48]] a)]) (i_of (e_var rfl)) (i_n (n_lstM (xs := [(l ++ [32, 52, 49]), (l ++ [32, 49, 48, 48, 48, 48]), (l ++ [32, 49, 95, 48]), ((repC 32 [32, 32] l) ++ [32, 53, 120]), (ix [[108, 101, 110, 103, 116, 104, 32, 53], [103, 97, 112, 32, 53]] a), [99, 108, 111, 115, 101, 100, 32, 117, 112, 32, 48, 32, 48], (ix [[108, 101, 110, 103, 116, 104, 115], [103, 97, 112, 115, 32, 48]] a)]) (enc := dX) (m_cons (e_op (o_catS (x := l) (y := [32, 52, 49]) (by simp only [List.length_append, List.length_cons, List.length_nil]; omega)) (e_var rfl) (e_strS (x := [32, 52, 49]) (by decide +kernel))) (m_cons (e_op (o_catS (x := l) (y := [32, 49, 48, 48, 48, 48]) (by simp only [List.length_append, List.length_cons, List.length_nil]; omega)) (e_var rfl) (e_strS (x := [32, 49, 48, 48, 48, 48]) (by decide +kernel))) (m_cons (e_op (o_catS (x := l) (y := [32, 49, 95, 48]) (by simp only [List.length_append, List.length_cons, List.length_nil]; omega)) (e_var rfl) (e_strS (x := [32, 49, 95, 48]) (by decide +kernel))) (m_cons (e_op (o_catS (x := (repC 32 [32, 32] l)) (y := [32, 53, 120]) (by have := repC_len l; simp only [List.length_cons, List.length_nil]; omega)) (e_replC (e_var rfl) (by simp only [List.length_cons, List.length_nil]; omega)) (e_strS (x := [32, 53, 120]) (by decide +kernel))) (m_cons (e_op (o_ixL (ix_at (xs := [[108, 101, 110, 103, 116, 104, 32, 53], [103, 97, 112, 32, 53]]) (i := a) (by have z2 : a < 2 := of_decide_eq_true ‹decide (a < 2) = true›; show -(2 : Int) ≤ a ∧ a < (2 : Int); omega))) (n_e (n_lstM (xs := [[108, 101, 110, 103, 116, 104, 32, 53], [103, 97, 112, 32, 53]]) (enc := dX) (m_cons (e_strS (x := [108, 101, 110, 103, 116, 104, 32, 53]) (by decide +kernel)) (m_cons (e_strS (x := [103, 97, 112, 32, 53]) (by decide +kernel)) m_nil)))) (e_var rfl)) (m_cons (e_strS (x := [99, 108, 111, 115, 101, 100, 32, 117, 112, 32, 48, 32, 48]) (by decide +kernel)) (m_cons (e_op (o_ixL (ix_at (xs := [[108, 101, 110, 103, 116, 104, 115], [103, 97, 112, 115, 32, 48]]) (i := a) (by have z2 : a < 2 := of_decide_eq_true ‹decide (a < 2) = true›; show -(2 : Int) ≤ a ∧ a < (2 : Int); omega))) (n_e (n_lstM (xs := [[108, 101, 110, 103, 116, 104, 115], [103, 97, 112, 115, 32, 48]]) (enc := dX) (m_cons (e_strS (x := [108, 101, 110, 103, 116, 104, 115]) (by decide +kernel)) (m_cons (e_strS (x := [103, 97, 112, 115, 32, 48]) (by decide +kernel)) m_nil)))) (e_var rfl)) m_nil))))))))) (by show 10 + 7 ≤ 16777216; decide)) (congrArg (List.map dX) (show ([([32] ++ l), (l ++ [32]), (l ++ [32, 48]), (l ++ [32, 45, 49]), (l ++ [32, 120]), (l ++ [32, 48, 55]), (l ++ [32, 43, 51]), ([120] ++ l), (upL l), (l ++ [32, 52, 49, 32, 50, 32, 51, 32, 52, 32, 53, 32, 54, 32, 55, 32, 56, 32, 57, 32, 49, 32, 50, 32, 51, 32, 52])] ++ [(l ++ [32, 52, 49]), (l ++ [32, 49, 48, 48, 48, 48]), (l ++ [32, 49, 95, 48]), ((repC 32 [32, 32] l) ++ [32, 53, 120]), (ix [[108, 101, 110, 103, 116, 104, 32, 53], [103, 97, 112, 32, 53]] a), [99, 108, 111, 115, 101, 100, 32, 117, 112, 32, 48, 32, 48], (ix [[108, 101, 110, 103, 116, 104, 115], [103, 97, 112, 115, 32, 48]] a)]) = (spH l ps a A T) from ?_))) q
    have z2 : a < 2 := of_decide_eq_true ‹decide (a < 2) = true›; unfold spH; rw [if_pos z2]; rcases (show a = 0 ∨ a = 1 by omega) with rfl | rfl <;> (unfold spA; rw [rep1_eq]; rfl)
  · have := h1
    refine s_pass ?_
    refine s_seq ?_
    have h2 : 2 ≤ a := by have := of_decide_eq_false ‹decide (a < 2) = false›; omega
    obtain ⟨hp4, hpw⟩ := h4 h2
    refine s_set (n_e (n_splitS (x := l) (y := [32]) (M := ps) (e_var rfl) (e_strS (x := [32]) (by decide +kernel)) (by rfl) (by omega) hsp)) ?_
    show WC ⟨hs, (less hs om), om, [.fz (RD (dX l)), .fz (RD (.int a)), .fz (RD (.int A)), .fz (RD (.int T)), .fz (RD (.list ([([32] ++ l), (l ++ [32]), (l ++ [32, 48]), (l ++ [32, 45, 49]), (l ++ [32, 120]), (l ++ [32, 48, 55]), (l ++ [32, 43, 51]), ([120] ++ l), (upL l), (l ++ [32, 52, 49, 32, 50, 32, 51, 32, 52, 32, 53, 32, 54, 32, 55, 32, 56, 32, 57, 32, 49, 32, 50, 32, 51, 32, 52])].map dX))), .fz (RD (.list (ps.map dX)))]⟩ _
    refine s_seq ?_
    refine s_set (n_e (n_catM (xs := [([32] ++ l), (l ++ [32]), (l ++ [32, 48]), (l ++ [32, 45, 49]), (l ++ [32, 120]), (l ++ [32, 48, 55]), (l ++ [32, 43, 51]), ([120] ++ l), (upL l), (l ++ [32, 52, 49, 32, 50, 32, 51, 32, 52, 32, 53, 32, 54, 32, 55, 32, 56, 32, 57, 32, 49, 32, 50, 32, 51, 32, 52])]) (ys := [(TL.joinL [32] (ps.take 3)), (TL.joinL [32] (ps.take 2)), [99, 108, 111, 115, 101, 100, 32, 100, 111, 119, 110, 32, 48, 32, 48], (([99, 108, 111, 115, 101, 100, 32, 117, 112, 32] ++ (dg A)) ++ [32, 48]), ([99, 108, 111, 115, 101, 100, 32, 117, 112, 32, 48, 32] ++ (dg T)), (([99, 108, 111, 115, 101, 100, 32, 111, 118, 101, 114, 32] ++ (dg (A - 1))) ++ [32, 48])]) (i_of (e_var rfl)) (i_n (n_lstM (xs := [(TL.joinL [32] (ps.take 3)), (TL.joinL [32] (ps.take 2)), [99, 108, 111, 115, 101, 100, 32, 100, 111, 119, 110, 32, 48, 32, 48], (([99, 108, 111, 115, 101, 100, 32, 117, 112, 32] ++ (dg A)) ++ [32, 48]), ([99, 108, 111, 115, 101, 100, 32, 117, 112, 32, 48, 32] ++ (dg T)), (([99, 108, 111, 115, 101, 100, 32, 111, 118, 101, 114, 32] ++ (dg (A - 1))) ++ [32, 48])]) (enc := dX) (m_cons (e_joinS (x := [32]) (M := (ps.take 3)) (e_strS (x := [32]) (by decide +kernel)) (i_n (EN.eqL (n_slM (i_of (e_var rfl)) p_none (p_some e_int)) (by rw [show (3 : Int) = ((3 : Nat) : Int) from rfl, cut_take (by omega)]))) (joinB (by decide) ⟨by rw [List.length_take]; omega, fun w m => Nat.le_trans (hpw w (List.mem_of_mem_take m)) (by decide)⟩)) (m_cons (e_joinS (x := [32]) (M := (ps.take 2)) (e_strS (x := [32]) (by decide +kernel)) (i_n (EN.eqL (n_slM (i_of (e_var rfl)) p_none (p_some e_int)) (by rw [show (2 : Int) = ((2 : Nat) : Int) from rfl, cut_take (by omega)]))) (joinB (by decide) ⟨by rw [List.length_take]; omega, fun w m => Nat.le_trans (hpw w (List.mem_of_mem_take m)) (by decide)⟩)) (m_cons (e_strS (x := [99, 108, 111, 115, 101, 100, 32, 100, 111, 119, 110, 32, 48, 32, 48]) (by decide +kernel)) (m_cons (e_op (o_catS (x := ([99, 108, 111, 115, 101, 100, 32, 117, 112, 32] ++ (dg A))) (y := [32, 48]) (by simp only [List.length_append, List.length_cons, List.length_nil]; omega)) (e_op (o_catS (x := [99, 108, 111, 115, 101, 100, 32, 117, 112, 32]) (y := (dg A)) (by simp only [List.length_append, List.length_cons, List.length_nil]; omega)) (e_strS (x := [99, 108, 111, 115, 101, 100, 32, 117, 112, 32]) (by decide +kernel)) (e_cb (o_strI (i := A) (by omega) (by omega)) (a_cons (e_var rfl) a_nil))) (e_strS (x := [32, 48]) (by decide +kernel))) (m_cons (e_op (o_catS (x := [99, 108, 111, 115, 101, 100, 32, 117, 112, 32, 48, 32]) (y := (dg T)) (by simp only [List.length_append, List.length_cons, List.length_nil]; omega)) (e_strS (x := [99, 108, 111, 115, 101, 100, 32, 117, 112, 32, 48, 32]) (by decide +kernel)) (e_cb (o_strI (i := T) (by omega) (by omega)) (a_cons (e_var rfl) a_nil))) (m_cons (e_op (o_catS (x := ([99, 108, 111, 115, 101, 100, 32, 111, 118, 101, 114, 32] ++ (dg (A - 1)))) (y := [32, 48]) (by simp only [List.length_append, List.length_cons, List.length_nil]; omega)) (e_op (o_catS (x := [99, 108, 111, 115, 101, 100, 32, 111, 118, 101, 114, 32]) (y := (dg (A - 1))) (by simp only [List.length_append, List.length_cons, List.length_nil]; omega)) (e_strS (x := [99, 108, 111, 115, 101, 100, 32, 111, 118, 101, 114, 32]) (by decide +kernel)) (e_cb (o_strI (i := (A - 1)) (by omega) (by omega)) (a_cons (e_op o_sub (e_var rfl) e_int) a_nil))) (e_strS (x := [32, 48]) (by decide +kernel))) m_nil)))))))) (by show 10 + 6 ≤ 16777216; decide))) ?_
    show WC ⟨hs, (less hs om), om, [.fz (RD (dX l)), .fz (RD (.int a)), .fz (RD (.int A)), .fz (RD (.int T)), .fz (RD (.list (([([32] ++ l), (l ++ [32]), (l ++ [32, 48]), (l ++ [32, 45, 49]), (l ++ [32, 120]), (l ++ [32, 48, 55]), (l ++ [32, 43, 51]), ([120] ++ l), (upL l), (l ++ [32, 52, 49, 32, 50, 32, 51, 32, 52, 32, 53, 32, 54, 32, 55, 32, 56, 32, 57, 32, 49, 32, 50, 32, 51, 32, 52])] ++ [(TL.joinL [32] (ps.take 3)), (TL.joinL [32] (ps.take 2)), [99, 108, 111, 115, 101, 100, 32, 100, 111, 119, 110, 32, 48, 32, 48], (([99, 108, 111, 115, 101, 100, 32, 117, 112, 32] ++ (dg A)) ++ [32, 48]), ([99, 108, 111, 115, 101, 100, 32, 117, 112, 32, 48, 32] ++ (dg T)), (([99, 108, 111, 115, 101, 100, 32, 111, 118, 101, 114, 32] ++ (dg (A - 1))) ++ [32, 48])]).map dX))), .fz (RD (.list (ps.map dX)))]⟩ _
    refine s_retNew (EN.eqL (n_catM (xs := ([([32] ++ l), (l ++ [32]), (l ++ [32, 48]), (l ++ [32, 45, 49]), (l ++ [32, 120]), (l ++ [32, 48, 55]), (l ++ [32, 43, 51]), ([120] ++ l), (upL l), (l ++ [32, 52, 49, 32, 50, 32, 51, 32, 52, 32, 53, 32, 54, 32, 55, 32, 56, 32, 57, 32, 49, 32, 50, 32, 51, 32, 52])] ++ [(TL.joinL [32] (ps.take 3)), (TL.joinL [32] (ps.take 2)), [99, 108, 111, 115, 101, 100, 32, 100, 111, 119, 110, 32, 48, 32, 48], (([99, 108, 111, 115, 101, 100, 32, 117, 112, 32] ++ (dg A)) ++ [32, 48]), ([99, 108, 111, 115, 101, 100, 32, 117, 112, 32, 48, 32] ++ (dg T)), (([99, 108, 111, 115, 101, 100, 32, 111, 118, 101, 114, 32] ++ (dg (A - 1))) ++ [32, 48])])) (ys := [[99, 108, 111, 115, 101, 100, 32, 117, 112, 32, 48, 48, 32, 48], [99, 108, 111, 115, 101, 100, 32, 117, 112, 32, 48, 32, 45, 49], [99, 108, 111, 115, 101, 100, 32, 117, 112, 32, 48, 32, 49, 120], [99, 108, 111, 115, 101, 100, 32, 32, 117, 112, 32, 48, 32, 48], [103, 97, 112, 115, 32, 53], [108, 101, 110, 103, 116, 104, 115, 32, 53], ([] : List Nat), [99, 108, 111, 115, 101, 100, 32, 117, 112, 32, 48, 32, 49, 50, 51, 52, 53]]) (i_of (e_var rfl)) (i_n (n_lstM (xs := [[99, 108, 111, 115, 101, 100, 32, 117, 112, 32, 48, 48, 32, 48], [99, 108, 111, 115, 101, 100, 32, 117, 112, 32, 48, 32, 45, 49], [99, 108, 111, 115, 101, 100, 32, 117, 112, 32, 48, 32, 49, 120], [99, 108, 111, 115, 101, 100, 32, 32, 117, 112, 32, 48, 32, 48], [103, 97, 112, 115, 32, 53], [108, 101, 110, 103, 116, 104, 115, 32, 53], ([] : List Nat), [99, 108, 111, 115, 101, 100, 32, 117, 112, 32, 48, 32, 49, 50, 51, 52, 53]]) (enc := dX) (m_cons (e_strS (x := [99, 108, 111, 115, 101, 100, 32, 117, 112, 32, 48, 48, 32, 48]) (by decide +kernel)) (m_cons (e_strS (x := [99, 108, 111, 115, 101, 100, 32, 117, 112, 32, 48, 32, 45, 49]) (by decide +kernel)) (m_cons (e_strS (x := [99, 108, 111, 115, 101, 100, 32, 117, 112, 32, 48, 32, 49, 120]) (by decide +kernel)) (m_cons (e_strS (x := [99, 108, 111, 115, 101, 100, 32, 32, 117, 112, 32, 48, 32, 48]) (by decide +kernel)) (m_cons (e_strS (x := [103, 97, 112, 115, 32, 53]) (by decide +kernel)) (m_cons (e_strS (x := [108, 101, 110, 103, 116, 104, 115, 32, 53]) (by decide +kernel)) (m_cons (e_strS (x := []) (by decide +kernel)) (m_cons (e_strS (x := [99, 108, 111, 115, 101, 100, 32, 117, 112, 32, 48, 32, 49, 50, 51, 52, 53]) (by decide +kernel)) m_nil)))))))))) (by show 16 + 8 ≤ 16777216; decide)) (congrArg (List.map dX) (show (([([32] ++ l), (l ++ [32]), (l ++ [32, 48]), (l ++ [32, 45, 49]), (l ++ [32, 120]), (l ++ [32, 48, 55]), (l ++ [32, 43, 51]), ([120] ++ l), (upL l), (l ++ [32, 52, 49, 32, 50, 32, 51, 32, 52, 32, 53, 32, 54, 32, 55, 32, 56, 32, 57, 32, 49, 32, 50, 32, 51, 32, 52])] ++ [(TL.joinL [32] (ps.take 3)), (TL.joinL [32] (ps.take 2)), [99, 108, 111, 115, 101, 100, 32, 100, 111, 119, 110, 32, 48, 32, 48], (([99, 108, 111, 115, 101, 100, 32, 117, 112, 32] ++ (dg A)) ++ [32, 48]), ([99, 108, 111, 115, 101, 100, 32, 117, 112, 32, 48, 32] ++ (dg T)), (([99, 108, 111, 115, 101, 100, 32, 111, 118, 101, 114, 32] ++ (dg (A - 1))) ++ [32, 48])]) ++ [[99, 108, 111, 115, 101, 100, 32, 117, 112, 32, 48, 48, 32, 48], [99, 108, 111, 115, 101, 100, 32, 117, 112, 32, 48, 32, 45, 49], [99, 108, 111, 115, 101, 100, 32, 117, 112, 32, 48, 32, 49, 120], [99, 108, 111, 115, 101, 100, 32, 32, 117, 112, 32, 48, 32, 48], [103, 97, 112, 115, 32, 53], [108, 101, 110, 103, 116, 104, 115, 32, 53], ([] : List Nat), [99, 108, 111, 115, 101, 100, 32, 117, 112, 32, 48, 32, 49, 50, 51, 52, 53]]) = (spH l ps a A T) from ?_))) q
    unfold spH; rw [if_neg (by omega)]; rfl
end
open SX
section
open GxR NdefX PySem.Spec PyProof.Rows
variable {P : Program} {w : World} {K : PySem.W.Frag} {mg : Str → Option Value} {base : Heap}
def txB : List Nat := [108, 101, 110, 103, 116, 104, 115, 32, 53, 10, 103, 97, 112, 115, 32, 49, 32, 49, 32, 49, 32, 49, 32, 49, 32, 49, 32, 49, 32, 49, 32, 49, 32, 49, 32, 49, 32, 49]
theorem txB_S : ("lengths 5\ngaps 1 1 1 1 1 1 1 1 1 1 1 1" : Str) = S txB := by decide +kernel
theorem txB_asks : Asks txB 2 := asks_c2
def txF : List Nat := [108, 101, 110, 103, 116, 104, 115, 32, 53, 32, 54, 10, 103, 97, 112, 115, 32, 50, 10, 99, 108, 111, 115, 101, 100, 32, 111, 118, 101, 114, 32, 48, 32, 54]
theorem txF_S : ("lengths 5 6\ngaps 2\nclosed over 0 6" : Str) = S txF := by decide +kernel
theorem txF_asks : Asks txF 3 := asks_c6
def txG : List Nat := [108, 101, 110, 103, 116, 104, 115, 32, 53, 32, 54, 10, 103, 97, 112, 115, 32, 50, 10, 99, 108, 111, 115, 101, 100, 32, 111, 118, 101, 114, 32, 48, 32, 49, 49, 10, 99, 108, 111, 115, 101, 100, 32, 111, 118, 101, 114, 32, 48, 32, 53, 10, 99, 108, 111, 115, 101, 100, 32, 111, 118, 101, 114, 32, 48, 32, 48]
theorem txG_S : ("lengths 5 6\ngaps 2\nclosed over 0 11\nclosed over 0 5\nclosed over 0 0" : Str) = S txG := by decide +kernel
theorem txG_asks : Asks txG 0 := asks_c7
structure TopN (P : Program) (w : World) (K : PySem.W.Frag) (mg : Str → Option Value) (base : Heap) (CX : CXT) (k : Nat) (x : Str) (ps : List Str) (sp : Sp) where
  f : Addr
  fd : FuncData
  G : FnOk P w K mg base CX k f fd ps sp
  b : Binds K fd ps []
  g : mg x = some (.ref f)
  kp : PySem.W.keepIn K (.ref f) = true
theorem split_good {ls gs : List Int} {ds : List (Str × Int × Int)} (h : HsOk ls gs ds) : Txt.split (S (houseL ls gs ds)) (S [10]) = (rowsH ls gs ds).map S := split_joinL (by decide) h.lin.1 fun l m z => ((h.lin.2.2 l m).2 10 z).1 rfl
theorem line_atH {ls gs : List Int} {ds : List (Str × Int × Int)} (h : HsOk ls gs ds) {a : Nat} (ha : a < (rowsH ls gs ds).length) : ∃ (l : List Nat) (ps : List (List Nat)), ix (rowsH ls gs ds) (a : Int) = l ∧
    (Txt.split (S l) (S [32]) = ps.map S ∧ l.length ≤ 40 ∧ (∀ c ∈ l, c < 128) ∧ (0 : Int) ≤ (a : Int) ∧ (1 ≤ (gs.length : Int) + 1 ∧ (gs.length : Int) + 1 ≤ 1000 ∧ 0 ≤ ls.sum ∧ ls.sum ≤ 1000) ∧ (2 ≤ (a : Int) → ps.length = 4 ∧ ∀ w ∈ ps, w.length ≤ 40)) ∧
    ∀ x ∈ spH l ps (a : Int) ((gs.length : Int) + 1) ls.sum, LnOk x ∧ BadAt ls gs a x := by
  have hsum := h.va.lens.top h.va.1.1.2
  have hpos := h.va.lens.pos2
  have g4 := h.g4
  have num : (1 : Int) ≤ (gs.length : Int) + 1 ∧ (gs.length : Int) + 1 ≤ 1000 ∧ 0 ≤ ls.sum ∧ ls.sum ≤ 1000 := by omega
  have hl := fun l m => h.lines l m
  match a, ha with
  | 0, ha =>
    refine ⟨rowL lenW ls, lenW :: ls.map dg, ix_nat rfl, ⟨split_row (by decide), (hl _ List.mem_cons_self).1, fun c m => ((hl _ List.mem_cons_self).2 c m).2, by omega, num, fun z => absurd z (by omega)⟩, fun x m => ?_⟩
    unfold spH at m
    rw [if_pos (by omega)] at m
    exact spA_bad h (a := 0) (by decide) x m
  | 1, ha =>
    have m1 : rowL gapW gs ∈ rowsH ls gs ds := List.mem_cons_of_mem _ List.mem_cons_self
    refine ⟨rowL gapW gs, gapW :: gs.map dg, ix_nat rfl, ⟨split_row (by decide), (hl _ m1).1, fun c m => ((hl _ m1).2 c m).2, by omega, num, fun z => absurd z (by omega)⟩, fun x m => ?_⟩
    unfold spH at m
    rw [if_pos (by omega)] at m
    exact spA_bad h (a := 1) (by decide) x m
  | a + 2, ha =>
    rw [rowsH_length] at ha
    have la : a < ds.length := by omega
    have mc : ds[a] ∈ ds := List.getElem_mem la
    have e : (rowsH ls gs ds)[a + 2]? = some (clL ds[a]) := by
      show (ds.map clL)[a]? = _
      rw [List.getElem?_map, List.getElem?_eq_getElem la]
      rfl
    have mm := List.mem_of_getElem? e
    have okc := h.okc _ mc
    refine ⟨clL ds[a], [clW, wdL ds[a].1, dg ds[a].2.1, dg ds[a].2.2], ix_nat e, ⟨?_, (hl _ mm).1, fun c m => ((hl _ mm).2 c m).2, by omega, num, fun _ => ⟨rfl, fun w m => ?_⟩⟩, fun x m => ?_⟩
    · rw [clL_eq]
      exact split_joinL (by decide) (by simp) (cl_ws _).free
    · simp only [List.mem_cons, List.not_mem_nil, or_false] at m
      rcases m with rfl | rfl | rfl | rfl
      · decide
      · unfold wdL
        split <;> decide
      · exact Nat.le_trans (dg_len (k := 5) (by decide) (by have := okc.2; omega)) (by decide)
      · exact Nat.le_trans (dg_len (k := 5) (by decide) (by have := okc.2; omega)) (by decide)
    · unfold spH at m
      rw [if_neg (by omega)] at m
      exact spB_bad h mc (by omega) x m
theorem same_sorted {ls gs : List Int} {cs : List (Str × Int × Int)} (h : HsOk ls gs (sortC cs)) : ∀ c2 : List (Str × Int × Int), c2.Perm (sortC cs) → sortK (kOf c2) = sortK (kOf cs) := fun c2 p => sortK_congr (p.trans (sortC_perm cs)) fun c m => h.okc c (p.mem_iff.mp m)
theorem bd_spoilt {ls gs : List Int} {ds : List (Str × Int × Int)} (h : HsOk ls gs ds) {a : Nat} {x : List Nat} (ha : a < (rowsH ls gs ds).length) (hx : LnOk x) : ((rowsH ls gs ds).take a ++ [x] ++ (rowsH ls gs ds).drop (a + 1)).length ≤ 100 ∧ ∀ l ∈ (rowsH ls gs ds).take a ++ [x] ++ (rowsH ls gs ds).drop (a + 1), l.length ≤ 100 := by
  refine ⟨?_, fun l m => ?_⟩
  · rw [List.length_append, List.length_append, List.length_take, List.length_drop, rowsH_length, List.length_singleton]
    have := h.d6
    omega
  · rcases List.mem_append.mp m with z | z
    · rcases List.mem_append.mp z with z | z
      · exact Nat.le_trans (h.lines l (List.mem_of_mem_take z)).1 (by decide)
      · rw [List.mem_singleton.mp z]; exact Nat.le_trans hx.1 (by decide)
    · exact Nat.le_trans (h.lines l (List.mem_of_mem_drop z)).1 (by decide)
theorem sok_fhG {C : Addr} {h : HD} {gd : List Nat} (e : gd = houseL h.ls h.gs (sortC h.cs)) : Sok (spFH C) [RHouse C h] (fun _ => True) (RD (dX gd)) := e ▸ sok_fh
theorem skx_parseG {C T0 TL TI CN : Addr} {z : List Nat} {ls gs : List Int} {ds : List (Str × Int × Int)} (hz : TxtOk z) (e : parseH (Txt.split (S z) (S [10])) = .inr (ls, gs, ds)) : Skx0 (spPHX C T0 TL TI CN) [RD (dX z)] (fun H => TabG H T0 ∧ TabG H TL ∧ TabG H TI) (fun _ : Unit => RHouseP C ⟨ls, gs, ds⟩) (fun _ => True) := fun H vs hr hp Q E q => skx_parse H vs hr ⟨hz, e, hp⟩ Q E q
/-- all that the law asks of the good text, its lines and what is made of them -/
structure GdOk (ls gs : List Int) (cs ds : List (Str × Int × Int)) (gd : List Nat) (ms cls : List (List Nat)) (l0 : List Nat) : Prop where
  eg : gd = houseL ls gs (sortC cs)
  split : Txt.split (S gd) (S [10]) = ms.map S
  good : Asks gd 0
  par : parseH (Txt.split (S gd) (S [10])) = .inr (ls, gs, ds)
  len2 : 2 ≤ ms.length
  len8 : ms.length ≤ 8
  drop : ms.drop 2 = cls
  zero : ix ms 0 = l0
  l0len : l0.length ≤ 40
  line : ∀ {a : Nat}, a < ms.length → ∃ (l : List Nat) (ps : List (List Nat)), ix ms (a : Int) = l ∧
    (Txt.split (S l) (S [32]) = ps.map S ∧ l.length ≤ 40 ∧ (∀ c ∈ l, c < 128) ∧ (0 : Int) ≤ (a : Int) ∧ (1 ≤ (gs.length : Int) + 1 ∧ (gs.length : Int) + 1 ≤ 1000 ∧ 0 ≤ ls.sum ∧ ls.sum ≤ 1000) ∧ (2 ≤ (a : Int) → ps.length = 4 ∧ ∀ w ∈ ps, w.length ≤ 40)) ∧
    ∀ x ∈ spH l ps (a : Int) ((gs.length : Int) + 1) ls.sum, ((ms.take a ++ [x] ++ ms.drop (a + 1)).length ≤ 100 ∧ ∀ l ∈ ms.take a ++ [x] ++ ms.drop (a + 1), l.length ≤ 100) ∧ Asks (TL.joinL [10] (ms.take a ++ [x] ++ ms.drop (a + 1))) (a + 1 : Nat)
  dup : ∀ l ∈ cls, l.length ≤ 40 ∧ Asks (gd ++ ([10] ++ l)) (ms.length + 1 : Nat)
  first : Asks l0 2
  nl : Asks (gd ++ [10]) (ms.length + 1 : Nat)
  ahead : Asks ([10] ++ gd) 1
  same : ∀ c2 : List (Str × Int × Int), c2.Perm ds → sortK (kOf c2) = sortK (kOf cs)
theorem gd_okD {ls gs : List Int} {cs ds : List (Str × Int × Int)} (e : ds = sortC cs) (hk : HsOk ls gs ds) (hs : ∀ c2 : List (Str × Int × Int), c2.Perm ds → sortK (kOf c2) = sortK (kOf cs)) : GdOk ls gs cs ds (houseL ls gs ds) (rowsH ls gs ds) (ds.map clL) (rowL lenW ls) where
  eg := by rw [e]
  split := split_good hk
  good := asks_good hk
  par := parse_good hk
  len2 := by rw [rowsH_length]; omega
  len8 := by rw [rowsH_length]; have := hk.d6; omega
  drop := rfl
  zero := ix_nat (xs := rowsH ls gs ds) (j := 0) rfl
  l0len := (hk.lines _ List.mem_cons_self).1
  line := fun ha => by
    obtain ⟨l, ps, e1, e2, e3⟩ := line_atH hk ha
    exact ⟨l, ps, e1, e2, fun x m => ⟨bd_spoilt hk ha (e3 x m).1, asks_spoilt hk ha (e3 x m).1 (e3 x m).2⟩⟩
  dup := fun l m => by
    obtain ⟨ck, hck, rfl⟩ := List.mem_map.mp m
    exact ⟨(cl_ln (hk.okc ck hck)).1, asks_dup hk hck⟩
  first := asks_first hk
  nl := asks_nl hk
  ahead := asks_ahead hk
  same := hs
theorem gd_ok {ls gs : List Int} {cs : List (Str × Int × Int)} (h : HsOk ls gs (sortC cs)) : ∃ (ds : List (Str × Int × Int)) (gd : List Nat) (ms cls : List (List Nat)) (l0 : List Nat), GdOk ls gs cs ds gd ms cls l0 := ⟨_, _, _, _, _, gd_okD rfl h (same_sorted h)⟩
theorem ok_law (C CI CN T1 TI T0 fH : Addr) (fdH : FuncData) {f : Addr} {fd : FuncData} (F : Fun K "law" "law" s_law f fd) (t__law_numbers : TopD P w K mg base 2 "_law_numbers" ["script", "many"] (spNumbers K)) (t__law_parts : TopD P w K mg base 1 "_law_parts" ["numbers", "at"] (spParts K)) (MkH : Mk K C fH) (GJ : FnOk P w K mg base (L2.CX P w) 5 fH fdH ["self", "lengths", "gaps", "closed"] (spHouse K C CI T1 TI)) (bH : Binds K fdH ["self", "lengths", "gaps", "closed"] []) (mgH : mg "House" = some (.ref C)) (t_format_house : TopD P w K mg base 4 "format_house" ["house"] (spFH C)) (t__law_told : TopD P w K mg base 11 "_law_told" ["text"] (spTd0 T0 T1 TI)) (z_len : mg "len" = none) (z_int : mg "int" = none) (z_sum : mg "sum" = none) (t__law_spoilt : TopD P w K mg base 1 "_law_spoilt" ["line", "at", "aisles", "top"] (SpN (Rs__law_spoilt ) (P__law_spoilt ) (R__law_spoilt ))) (t_parse_house : TopN P w K mg base (L2.CX P w) 10 "parse_house" ["text"] (spPHX C T0 T1 TI CN)) (T : HouseTxt K mg C) (m_same_as : MethD P w K mg base C 4 "same_as" ["self", "other"] (spSameH C)) : FnOk P w K mg base CX0 13 f fd ["script"] (spLawT K [T0, T1, TI]) := by
  refine fn_okL F sc_law fun cdv A outer s H E0 hr => ?_
  have nd := sc_law.nd
  refine ⟨_, (pss_cons (ps_set (i := 1) nd rfl (.inl rfl) (pe_call t__law_numbers.G (by exact hr.mono (by decide)) (by rfl) t__law_numbers.g t__law_numbers.kp t__law_numbers.b .nil pass0 (pa_cons (pv 0) (pa_cons pe_int pa_nil))))
      (pss_cons (ps_asg (pe_call t__law_parts.G (by exact hr.mono (by decide)) (by rfl) t__law_parts.g t__law_parts.kp t__law_parts.b .nil pass0 (pa_cons (pv 1) (pa_cons pe_int pa_nil))) (pg_tup rfl (pgs_cons (pg_name (i := 2) nd rfl (.inl rfl)) (pgs_cons (pg_name (i := 3) nd rfl (.inl rfl)) (pgs_cons (pg_name (i := 4) nd rfl (.inl rfl)) pgs_nil)))))
      (pss_cons (ps_set (i := 5) nd rfl (.inl rfl) (pe_make MkH GJ (by exact hr.mono (by decide)) (by rfl) mgH bH .nil (passes_call takes0 fun _ _ _ _ h => h) (pa_cons (pv 2) (pa_cons (pv 3) (pa_cons (pv 4) pa_nil)))))
      (pss_cons (ps_set (i := 6) nd rfl (.inl rfl) (pe_call t_format_house.G (by exact hr.mono (by decide)) (by rfl) t_format_house.g t_format_house.kp t_format_house.b .nil pass0 (pa_cons (pv 5) pa_nil)))
      (pss_cons (ps_set (i := 7) nd rfl (.inl rfl) (pe_split (pv 6) pe_str))
      (pss_cons (ps_if (pt_cmpR (r := rNe) op_ne (pe_call t__law_told.G (by exact hr.mono (by decide)) (by rfl) t__law_told.g t__law_told.kp t__law_told.b .nil pass0 (pa_cons (pv 6) pa_nil)) pe_int (nomark _)) (pss_one (ps_ret pe_bl)) pss_nil)
      (pss_cons (ps_for PassesOwn.never rfl (pi_list (pe_lst (pa_cons pe_int (pa_cons pe_int (pa_cons (pe_op op_sub (pe_callB call_len (by rfl) z_len (by decide +kernel) (pa_cons (pv 7) pa_nil)) pe_int) (pa_cons (pe_op op_mod (pe_callTy call_int1 (by rfl) z_int (by decide +kernel) (pa_cons (pe_ix (r := rIxL K) ix_list (pv 1) pe_int (fun _ _ => rfl)) pa_nil)) (pe_callB call_len (by rfl) z_len (by decide +kernel) (pa_cons (pv 7) pa_nil))) pa_nil)))))) (pg_name (i := 8) nd rfl (.inl rfl)) (pss_one (ps_for PassesOwn.never rfl (pi_list (pe_call t__law_spoilt.G (by exact hr.mono (by decide)) (by rfl) t__law_spoilt.g t__law_spoilt.kp t__law_spoilt.b .nil pass0 (pa_cons (pe_ix (r := rIxL K) ix_list (pv 7) (pv 8) (fun _ _ => rfl)) (pa_cons (pv 8) (pa_cons (pe_op op_add (pe_callB call_len (by rfl) z_len (by decide +kernel) (pa_cons (pv 3) pa_nil)) pe_int) (pa_cons (pe_callB (cr_sum rfl) (by rfl) z_sum (by decide +kernel) (pa_cons (pv 2) pa_nil)) pa_nil)))))) (pg_name (i := 9) nd rfl (.inl rfl)) (pss_one (ps_if (pt_cmpR (r := rNe) op_ne (pe_call t__law_told.G (by exact hr.mono (by decide)) (by rfl) t__law_told.g t__law_told.kp t__law_told.b .nil pass0 (pa_cons (pe_join pe_str (pe_op op_cat (pe_op op_cat (pe_slice sl_list (pv 7) po_none (po_some (pv 8))) (pe_lst (pa_cons (pv 9) pa_nil))) (pe_slice sl_list (pv 7) (po_some (pe_op op_add (pv 8) pe_int)) po_none))) pa_nil)) (pe_op op_add (pv 8) pe_int) (nomark _)) (pss_one (ps_ret pe_bl)) pss_nil)))))
      (pss_cons (ps_for PassesOwn.never rfl (pi_list (pe_slice sl_list (pv 7) (po_some pe_int) po_none)) (pg_name (i := 9) nd rfl (.inl rfl)) (pss_one (ps_if (pt_cmpR (r := rNe) op_ne (pe_call t__law_told.G (by exact hr.mono (by decide)) (by rfl) t__law_told.g t__law_told.kp t__law_told.b .nil pass0 (pa_cons (pe_op (r := fun x y H Q => ∃ i j, x = .str i ∧ y = .str j ∧ i.length + j.length ≤ sizeLine ∧ Q (.str (i ++ j)) H) op_add_str (pe_op (r := fun x y H Q => ∃ i j, x = .str i ∧ y = .str j ∧ i.length + j.length ≤ sizeLine ∧ Q (.str (i ++ j)) H) op_add_str (pv 6) pe_str) (pv 9)) pa_nil)) (pe_op op_add (pe_callB call_len (by rfl) z_len (by decide +kernel) (pa_cons (pv 7) pa_nil)) pe_int) (nomark _)) (pss_one (ps_ret pe_bl)) pss_nil)))
      (pss_cons (ps_if (PW.pt (pw_or (pt_cmpR (r := rNe) op_ne (pe_call t__law_told.G (by exact hr.mono (by decide)) (by rfl) t__law_told.g t__law_told.kp t__law_told.b .nil pass0 (pa_cons pe_str pa_nil)) pe_int (nomark _)) (pw_or (pt_cmpR (r := rNe) op_ne (pe_call t__law_told.G (by exact hr.mono (by decide)) (by rfl) t__law_told.g t__law_told.kp t__law_told.b .nil pass0 (pa_cons (pe_ix (r := rIxL K) ix_list (pv 7) pe_int (fun _ _ => rfl)) pa_nil)) pe_int (nomark _)) (pw_or (pt_cmpR (r := rNe) op_ne (pe_call t__law_told.G (by exact hr.mono (by decide)) (by rfl) t__law_told.g t__law_told.kp t__law_told.b .nil pass0 (pa_cons (pe_op (r := fun x y H Q => ∃ i j, x = .str i ∧ y = .str j ∧ i.length + j.length ≤ sizeLine ∧ Q (.str (i ++ j)) H) op_add_str (pv 6) pe_str) pa_nil)) (pe_op op_add (pe_callB call_len (by rfl) z_len (by decide +kernel) (pa_cons (pv 7) pa_nil)) pe_int) (nomark _)) (pw_or1 (pt_cmpR (r := rNe) op_ne (pe_call t__law_told.G (by exact hr.mono (by decide)) (by rfl) t__law_told.g t__law_told.kp t__law_told.b .nil pass0 (pa_cons (pe_op (r := fun x y H Q => ∃ i j, x = .str i ∧ y = .str j ∧ i.length + j.length ≤ sizeLine ∧ Q (.str (i ++ j)) H) op_add_str pe_str (pv 6)) pa_nil)) pe_int (nomark _))))))) (pss_one (ps_ret pe_bl)) pss_nil)
      (pss_cons (ps_if (PW.pt (pw_or (pt_cmpR (r := rNe) op_ne (pe_call t__law_told.G (by exact hr.mono (by decide)) (by rfl) t__law_told.g t__law_told.kp t__law_told.b .nil pass0 (pa_cons pe_str pa_nil)) pe_int (nomark _)) (pw_or (pt_cmpR (r := rNe) op_ne (pe_call t__law_told.G (by exact hr.mono (by decide)) (by rfl) t__law_told.g t__law_told.kp t__law_told.b .nil pass0 (pa_cons pe_str pa_nil)) pe_int (nomark _)) (pw_or1 (pt_cmpR (r := rNe) op_ne (pe_call t__law_told.G (by exact hr.mono (by decide)) (by rfl) t__law_told.g t__law_told.kp t__law_told.b .nil pass0 (pa_cons pe_str pa_nil)) pe_int (nomark _)))))) (pss_one (ps_ret pe_bl)) pss_nil)
      (pss_cons (ps_if (PW.pt (pw_or (pt_cmpR (r := rNe) op_ne (pe_call t__law_told.G (by exact hr.mono (by decide)) (by rfl) t__law_told.g t__law_told.kp t__law_told.b .nil pass0 (pa_cons pe_str pa_nil)) pe_int (nomark _)) (pw_or (pt_cmpR (r := rNe) op_ne (pe_call t__law_told.G (by exact hr.mono (by decide)) (by rfl) t__law_told.g t__law_told.kp t__law_told.b .nil pass0 (pa_cons pe_str pa_nil)) pe_int (nomark _)) (pw_or1 (pt_cmpR (r := rNe) op_ne (pe_call t__law_told.G (by exact hr.mono (by decide)) (by rfl) t__law_told.g t__law_told.kp t__law_told.b .nil pass0 (pa_cons pe_str pa_nil)) pe_int (nomark _)))))) (pss_one (ps_ret pe_bl)) pss_nil)
      (pss_one (ps_ret (pe_and (pe_cmpR (r := rIsB) op_isBl (pe_meth (pe_call t_parse_house.G (by exact hr.mono (by decide)) (by rfl) t_parse_house.g t_parse_house.kp t_parse_house.b .nil (passes_call takes0 fun _ _ _ _ h => h) (pa_cons (pv 6) pa_nil)) T.cl m_same_as.m m_same_as.G (by exact hr.mono (by decide)) m_same_as.b .nil pass0 (pa_cons (pv 5) pa_nil)) pe_bl (by rfl)) (pe_one (pe_cmpR (r := rEq) op_eq (pe_call t__law_told.G (by exact hr.mono (by decide)) (by rfl) t__law_told.g t__law_told.kp t__law_told.b .nil pass0 (pa_cons pe_str pa_nil)) pe_int (nomark _))))))))))))))))), ?_⟩
  intro ns hs Q hns hT q
  show WC ⟨hs, hs, fun _ => False, [.fz (RScr K ns), .any, .any, .any, .any, .any, .any, .any, .any, .any]⟩ _
  have tF := hT T0 (by simp)
  have tL := hT T1 (by simp)
  have tI := hT TI (by simp)
  try dsimp only
  refine s_seq ?_
  refine s_setX (x_call0 (skx_numbers (m := 30)) (a_cons (e_var rfl) (a_cons e_int a_nil)) (fun H kp => ⟨hns, by decide⟩)) ?_
  rintro ns1 ⟨n30, sm⟩
  show WC ⟨hs, hs, (fun _ => False), [.fz (RScr K ns), .fz (RD (.list (ns1.map PyData.int))), .any, .any, .any, .any, .any, .any, .any, .any]⟩ _
  try dsimp only
  try dsimp only
  refine s_seq ?_
  refine s_asgX (x_call0 (skx_partsH (a := 0)) (a_cons (e_var rfl) (a_cons e_int a_nil)) (fun H kp => ⟨sm, by omega⟩)) (fun _ _ => (g_tup (gs_cons g_name (gs_cons g_name (gs_cons g_name gs_nil))))) ?_
  rintro ⟨ls, gs, cs⟩ hd
  show WC ⟨hs, hs, (fun _ => False), [.fz (RScr K ns), .fz (RD (.list (ns1.map PyData.int))), .fz (RD (.list (ls.map PyData.int))), .fz (RD (.list (gs.map PyData.int))), .fz (RD (.list (cs.map dLk))), .any, .any, .any, .any, .any]⟩ _
  try dsimp only
  have hk : HsOk ls gs (sortC cs) := hs_sorted hd.v hd.g4 hd.c6
  obtain ⟨ds, gd, ms, cls, l0, hg⟩ := gd_ok hk
  clear hk
  have hgl := hg.good.1.1
  have hl2 := hg.len2
  have hl8 := hg.len8
  have hll1 := hg.l0len
  try dsimp only
  refine s_seq ?_
  refine s_setX (x_mkHouse hd.v (a_cons (e_var rfl) (a_cons (e_var rfl) (a_cons (e_var rfl) a_nil))) (fun H kp => ⟨kp.tab _ tL, kp.tab _ tI⟩)) ?_
  rintro _ _
  show WC ⟨hs, hs, (fun _ => False), [.fz (RScr K ns), .fz (RD (.list (ns1.map PyData.int))), .fz (RD (.list (ls.map PyData.int))), .fz (RD (.list (gs.map PyData.int))), .fz (RD (.list (cs.map dLk))), .fz (RHouse C (⟨ls, gs, cs⟩ : HD)), .any, .any, .any, .any]⟩ _
  try dsimp only
  try dsimp only
  refine s_seq ?_
  refine s_set (show Pk.E _ _ _ (RD (dX gd)) from c_call (sok_fhG (h := ⟨ls, gs, cs⟩) hg.eg) (a_cons (e_var rfl) a_nil) (fun _ _ => trivial)) ?_
  show WC ⟨hs, hs, (fun _ => False), [.fz (RScr K ns), .fz (RD (.list (ns1.map PyData.int))), .fz (RD (.list (ls.map PyData.int))), .fz (RD (.list (gs.map PyData.int))), .fz (RD (.list (cs.map dLk))), .fz (RHouse C (⟨ls, gs, cs⟩ : HD)), .fz (RD (dX gd)), .any, .any, .any]⟩ _
  try dsimp only
  try dsimp only
  refine s_seq ?_
  refine s_set (n_e (n_splitS (x := gd) (y := [10]) (M := ms) (e_var rfl) (e_strS (x := [10]) (by decide +kernel)) (by rfl) (by omega) hg.split)) ?_
  show WC ⟨hs, hs, (fun _ => False), [.fz (RScr K ns), .fz (RD (.list (ns1.map PyData.int))), .fz (RD (.list (ls.map PyData.int))), .fz (RD (.list (gs.map PyData.int))), .fz (RD (.list (cs.map dLk))), .fz (RHouse C (⟨ls, gs, cs⟩ : HD)), .fz (RD (dX gd)), .fz (RD (.list (ms.map dX))), .any, .any]⟩ _
  try dsimp only
  try dsimp only
  refine s_seq ?_
  try dsimp only
  try dsimp only
  refine s_if (t_T (e_op o_neI (show Pk.E _ _ _ (RD (.int (told0 (S gd)))) from c_call (sok_sps (Rs := fun a : Str => [RD (.str a)]) (P := fun a H => a.length ≤ 900 ∧ asc a ∧ TabG H T0 ∧ TabG H T1 ∧ TabG H TI) (R := fun a => RD (.int (told0 a))) (S gd)) (a_cons (e_var rfl) a_nil) (fun H kp => ⟨(asks_pre (z := gd) (hg.good).1).1, (asks_pre (z := gd) (hg.good).1).2, kp.tab _ tF, kp.tab _ tL, kp.tab _ tI⟩)) e_int)) (fun h1 => absurd h1 ?_) (fun h1 => ?_)
  · rw [told_ne hg.good rfl]; exact Bool.false_ne_true
  refine s_pass ?_
  try dsimp only
  refine s_seq ?_
  try dsimp only
  refine s_for (xs := [0, 1, ((ms.length : Int) - 1), ((ix ns1 24) % (ms.length : Int))]) (enc := PyData.int) (fun (i : Nat) γ => γ = [.fz (RScr K ns), .fz (RD (.list (ns1.map PyData.int))), .fz (RD (.list (ls.map PyData.int))), .fz (RD (.list (gs.map PyData.int))), .fz (RD (.list (cs.map dLk))), .fz (RHouse C (⟨ls, gs, cs⟩ : HD)), .fz (RD (dX gd)), .fz (RD (.list (ms.map dX))), .any, .any] ∧ (True)) (n_e (n_lstM (xs := [0, 1, ((ms.length : Int) - 1), ((ix ns1 24) % (ms.length : Int))]) (enc := PyData.int) (m_cons e_int (m_cons e_int (m_cons (e_op o_sub (e_cb o_lenM (a_cons (e_var rfl) a_nil)) e_int) (m_cons (e_op (o_mod (i := (ix ns1 24)) (j := (ms.length : Int)) (by omega)) (e_cb o_int (a_cons (e_op (o_ixL (ix_at (xs := ns1) (i := 24) (by omega))) (e_var rfl) e_int) a_nil)) (e_cb o_lenM (a_cons (e_var rfl) a_nil))) m_nil)))))) ⟨rfl, by trivial⟩ ?_ ?_
  · rintro h1_1 i0 av γ kp hav ⟨rfl, _⟩
    have tF := kp.tab _ tF
    have tL := kp.tab _ tL
    have tI := kp.tab _ tI
    have mav := List.mem_of_getElem? hav
    have e0 := Int.emod_nonneg (ix ns1 24) (show (ms.length : Int) ≠ 0 by omega)
    have e1 := Int.emod_lt_of_pos (ix ns1 24) (show (0 : Int) < (ms.length : Int) by omega)
    have bav : 0 ≤ av ∧ av < (ms.length : Int) := by simp only [List.mem_cons, List.not_mem_nil, or_false] at mav; omega
    clear hav mav e0 e1
    obtain ⟨a, rfl⟩ : ∃ a : Nat, av = (a : Int) := ⟨av.toNat, by omega⟩
    have al : a < ms.length := by omega
    obtain ⟨lx, pw, ew, hpre, hbad⟩ := hg.line al
    refine ⟨_, _, g_name, ?_⟩
    show WC ⟨hs, h1_1, (fun _ => False), [.fz (RScr K ns), .fz (RD (.list (ns1.map PyData.int))), .fz (RD (.list (ls.map PyData.int))), .fz (RD (.list (gs.map PyData.int))), .fz (RD (.list (cs.map dLk))), .fz (RHouse C (⟨ls, gs, cs⟩ : HD)), .fz (RD (dX gd)), .fz (RD (.list (ms.map dX))), .fz (RD (.int (a : Int))), .any]⟩ _
    try dsimp only
    refine s_for (xs := (spH lx pw (a : Int) ((gs.length : Int) + 1) ls.sum)) (enc := dX) (fun (i : Nat) γ => γ = [.fz (RScr K ns), .fz (RD (.list (ns1.map PyData.int))), .fz (RD (.list (ls.map PyData.int))), .fz (RD (.list (gs.map PyData.int))), .fz (RD (.list (cs.map dLk))), .fz (RHouse C (⟨ls, gs, cs⟩ : HD)), .fz (RD (dX gd)), .fz (RD (.list (ms.map dX))), .fz (RD (.int (a : Int))), .any] ∧ (True)) (n_e (show EN _ _ (OL ((spH lx pw (a : Int) ((gs.length : Int) + 1) ls.sum).map dX)) from n_call (skn_spn (Rs := Rs__law_spoilt ) (P := P__law_spoilt ) (C := R__law_spoilt ) (lx, pw, (a : Int), ((gs.length : Int) + 1), ls.sum)) (a_cons (Pk.E.eq (e_op (o_ixL (ix_at (xs := ms) (i := (a : Int)) (by omega))) (e_var rfl) (e_var rfl)) (e := dX lx) (by exact congrArg dX ew)) (a_cons (e_var rfl) (a_cons (e_op o_add (e_cb o_lenM (a_cons (e_var rfl) a_nil)) e_int) (a_cons (e_cb o_sum (a_cons (e_var rfl) a_nil)) a_nil)))) (fun H kp => by show Txt.split (S lx) (S [32]) = pw.map S ∧ lx.length ≤ 40 ∧ (∀ c ∈ lx, c < 128) ∧ 0 ≤ (a : Int) ∧ (1 ≤ ((gs.length : Int) + 1) ∧ ((gs.length : Int) + 1) ≤ 1000 ∧ 0 ≤ ls.sum ∧ ls.sum ≤ 1000) ∧ (2 ≤ (a : Int) → pw.length = 4 ∧ ∀ w ∈ pw, w.length ≤ 40); exact hpre))) ⟨rfl, by trivial⟩ ?_ ?_
    · rintro h1_2 i1 xl γ kp hx0 ⟨rfl, _⟩
      have tF := kp.tab _ tF
      have tL := kp.tab _ tL
      have tI := kp.tab _ tI
      have mx := hbad xl (List.mem_of_getElem? hx0)
      have hA := mx.2
      refine ⟨_, _, g_name, ?_⟩
      show WC ⟨hs, h1_2, (fun _ => False), [.fz (RScr K ns), .fz (RD (.list (ns1.map PyData.int))), .fz (RD (.list (ls.map PyData.int))), .fz (RD (.list (gs.map PyData.int))), .fz (RD (.list (cs.map dLk))), .fz (RHouse C (⟨ls, gs, cs⟩ : HD)), .fz (RD (dX gd)), .fz (RD (.list (ms.map dX))), .fz (RD (.int (a : Int))), .fz (RD (dX xl))]⟩ _
      try dsimp only
      refine s_if (t_T (e_op o_neI (show Pk.E _ _ _ (RD (.int (told0 (S (TL.joinL [10] (((ms.take a) ++ [xl]) ++ (ms.drop (a + 1)))))))) from c_call (sok_sps (Rs := fun a : Str => [RD (.str a)]) (P := fun a H => a.length ≤ 900 ∧ asc a ∧ TabG H T0 ∧ TabG H T1 ∧ TabG H TI) (R := fun a => RD (.int (told0 a))) (S (TL.joinL [10] (((ms.take a) ++ [xl]) ++ (ms.drop (a + 1)))))) (a_cons (e_joinS (x := [10]) (M := (((ms.take a) ++ [xl]) ++ (ms.drop (a + 1)))) (e_strS (x := [10]) (by decide +kernel)) (i_n (n_catM (xs := ((ms.take a) ++ [xl])) (ys := (ms.drop (a + 1))) (i_n (n_catM (xs := (ms.take a)) (ys := [xl]) (i_n (EN.eqL (n_slM (i_of (e_var rfl)) p_none (p_some (e_var rfl))) (by rw [cut_take (Nat.le_of_lt al)]))) (i_n (n_lstM (xs := [xl]) (enc := dX) (m_cons (e_var rfl) m_nil))) (by rw [List.length_take]; simp only [List.length_singleton]; omega))) (i_n (EN.eqL (n_slM (i_of (e_var rfl)) (p_some (e_op o_add (e_var rfl) e_int)) p_none) (by rw [show ((a : Int) + 1) = ((a + 1 : Nat) : Int) from rfl, cut_drop (show a + 1 ≤ ms.length from al)]))) (by rw [List.length_append, List.length_take, List.length_drop]; simp only [List.length_singleton]; omega))) (joinB (by decide) mx.1)) a_nil) (fun H kp => ⟨(asks_pre (z := (TL.joinL [10] (((ms.take a) ++ [xl]) ++ (ms.drop (a + 1))))) (hA).1).1, (asks_pre (z := (TL.joinL [10] (((ms.take a) ++ [xl]) ++ (ms.drop (a + 1))))) (hA).1).2, kp.tab _ tF, kp.tab _ tL, kp.tab _ tI⟩)) (e_op o_add (e_var rfl) e_int))) (fun h2 => absurd h2 ?_) (fun h2 => ?_)
      · rw [told_ne hA (by omega)]; exact Bool.false_ne_true
      refine s_pass ?_
      refine s_drop 9 ?_
      show WC ⟨hs, h1_2, (fun _ => False), [.fz (RScr K ns), .fz (RD (.list (ns1.map PyData.int))), .fz (RD (.list (ls.map PyData.int))), .fz (RD (.list (gs.map PyData.int))), .fz (RD (.list (cs.map dLk))), .fz (RHouse C (⟨ls, gs, cs⟩ : HD)), .fz (RD (dX gd)), .fz (RD (.list (ms.map dX))), .fz (RD (.int (a : Int))), .any]⟩ _
      exact s_of ⟨rfl, by trivial⟩
    · rintro γ ⟨rfl, _⟩
      show WC ⟨hs, h1_1, (fun _ => False), [.fz (RScr K ns), .fz (RD (.list (ns1.map PyData.int))), .fz (RD (.list (ls.map PyData.int))), .fz (RD (.list (gs.map PyData.int))), .fz (RD (.list (cs.map dLk))), .fz (RHouse C (⟨ls, gs, cs⟩ : HD)), .fz (RD (dX gd)), .fz (RD (.list (ms.map dX))), .fz (RD (.int (a : Int))), .any]⟩ _
      refine s_drop 8 ?_
      show WC ⟨hs, h1_1, (fun _ => False), [.fz (RScr K ns), .fz (RD (.list (ns1.map PyData.int))), .fz (RD (.list (ls.map PyData.int))), .fz (RD (.list (gs.map PyData.int))), .fz (RD (.list (cs.map dLk))), .fz (RHouse C (⟨ls, gs, cs⟩ : HD)), .fz (RD (dX gd)), .fz (RD (.list (ms.map dX))), .any, .any]⟩ _
      exact s_of ⟨rfl, by trivial⟩
  · rintro γ ⟨rfl, _⟩
    show WC ⟨hs, hs, (fun _ => False), [.fz (RScr K ns), .fz (RD (.list (ns1.map PyData.int))), .fz (RD (.list (ls.map PyData.int))), .fz (RD (.list (gs.map PyData.int))), .fz (RD (.list (cs.map dLk))), .fz (RHouse C (⟨ls, gs, cs⟩ : HD)), .fz (RD (dX gd)), .fz (RD (.list (ms.map dX))), .any, .any]⟩ _
    try dsimp only
    refine s_seq ?_
    try dsimp only
    refine s_for (xs := cls) (enc := dX) (fun (i : Nat) γ => γ = [.fz (RScr K ns), .fz (RD (.list (ns1.map PyData.int))), .fz (RD (.list (ls.map PyData.int))), .fz (RD (.list (gs.map PyData.int))), .fz (RD (.list (cs.map dLk))), .fz (RHouse C (⟨ls, gs, cs⟩ : HD)), .fz (RD (dX gd)), .fz (RD (.list (ms.map dX))), .any, .any] ∧ (True)) (n_e (EN.eqL (n_slM (i_of (e_var rfl)) (p_some e_int) p_none) (by rw [show (2 : Int) = ((2 : Nat) : Int) from rfl, cut_drop hl2]; exact congrArg _ hg.drop))) ⟨rfl, by trivial⟩ ?_ ?_
    · rintro h1_3 i0 cl1 γ kp hx0 ⟨rfl, _⟩
      have tF := kp.tab _ tF
      have tL := kp.tab _ tL
      have tI := kp.tab _ tI
      obtain ⟨hpl, hA⟩ := hg.dup cl1 (List.mem_of_getElem? hx0)
      refine ⟨_, _, g_name, ?_⟩
      show WC ⟨hs, h1_3, (fun _ => False), [.fz (RScr K ns), .fz (RD (.list (ns1.map PyData.int))), .fz (RD (.list (ls.map PyData.int))), .fz (RD (.list (gs.map PyData.int))), .fz (RD (.list (cs.map dLk))), .fz (RHouse C (⟨ls, gs, cs⟩ : HD)), .fz (RD (dX gd)), .fz (RD (.list (ms.map dX))), .any, .fz (RD (dX cl1))]⟩ _
      try dsimp only
      refine s_if (t_T (e_op o_neI (show Pk.E _ _ _ (RD (.int (told0 (S (gd ++ ([10] ++ cl1)))))) from c_call (sok_sps (Rs := fun a : Str => [RD (.str a)]) (P := fun a H => a.length ≤ 900 ∧ asc a ∧ TabG H T0 ∧ TabG H T1 ∧ TabG H TI) (R := fun a => RD (.int (told0 a))) (S (gd ++ ([10] ++ cl1)))) (a_cons (Pk.E.eq (e_op (o_catS (x := (gd ++ [10])) (y := cl1) (by simp only [List.length_append, List.length_cons, List.length_nil]; omega)) (e_op (o_catS (x := gd) (y := [10]) (by simp only [List.length_append, List.length_cons, List.length_nil]; omega)) (e_var rfl) (e_strS (x := [10]) (by decide +kernel))) (e_var rfl)) (e := dX (gd ++ ([10] ++ cl1))) (by rw [List.append_assoc])) a_nil) (fun H kp => ⟨(asks_pre (z := (gd ++ ([10] ++ cl1))) (hA).1).1, (asks_pre (z := (gd ++ ([10] ++ cl1))) (hA).1).2, kp.tab _ tF, kp.tab _ tL, kp.tab _ tI⟩)) (e_op o_add (e_cb o_lenM (a_cons (e_var rfl) a_nil)) e_int))) (fun h3 => absurd h3 ?_) (fun h3 => ?_)
      · rw [told_ne hA (by omega)]; exact Bool.false_ne_true
      refine s_pass ?_
      refine s_drop 9 ?_
      show WC ⟨hs, h1_3, (fun _ => False), [.fz (RScr K ns), .fz (RD (.list (ns1.map PyData.int))), .fz (RD (.list (ls.map PyData.int))), .fz (RD (.list (gs.map PyData.int))), .fz (RD (.list (cs.map dLk))), .fz (RHouse C (⟨ls, gs, cs⟩ : HD)), .fz (RD (dX gd)), .fz (RD (.list (ms.map dX))), .any, .any]⟩ _
      exact s_of ⟨rfl, by trivial⟩
    · rintro γ ⟨rfl, _⟩
      show WC ⟨hs, hs, (fun _ => False), [.fz (RScr K ns), .fz (RD (.list (ns1.map PyData.int))), .fz (RD (.list (ls.map PyData.int))), .fz (RD (.list (gs.map PyData.int))), .fz (RD (.list (cs.map dLk))), .fz (RHouse C (⟨ls, gs, cs⟩ : HD)), .fz (RD (dX gd)), .fz (RD (.list (ms.map dX))), .any, .any]⟩ _
      try dsimp only
      refine s_seq ?_
      try dsimp only
      try dsimp only
      refine s_if (t_or (t_T (e_op o_neI (show Pk.E _ _ _ (RD (.int (told0 (S ([] : List Nat))))) from c_call (sok_sps (Rs := fun a : Str => [RD (.str a)]) (P := fun a H => a.length ≤ 900 ∧ asc a ∧ TabG H T0 ∧ TabG H T1 ∧ TabG H TI) (R := fun a => RD (.int (told0 a))) (S ([] : List Nat))) (a_cons (e_strS (x := []) (by decide +kernel)) a_nil) (fun H kp => ⟨(asks_pre (z := ([] : List Nat)) (asks_empty).1).1, (asks_pre (z := ([] : List Nat)) (asks_empty).1).2, kp.tab _ tF, kp.tab _ tL, kp.tab _ tI⟩)) e_int)) (fun hbo => (t_or (t_T (e_op o_neI (show Pk.E _ _ _ (RD (.int (told0 (S l0)))) from c_call (sok_sps (Rs := fun a : Str => [RD (.str a)]) (P := fun a H => a.length ≤ 900 ∧ asc a ∧ TabG H T0 ∧ TabG H T1 ∧ TabG H TI) (R := fun a => RD (.int (told0 a))) (S l0)) (a_cons (Pk.E.eq (e_op (o_ixL (ix_at (xs := ms) (i := 0) (by omega))) (e_var rfl) e_int) (e := dX l0) (by exact congrArg dX hg.zero)) a_nil) (fun H kp => ⟨(asks_pre (z := l0) (hg.first).1).1, (asks_pre (z := l0) (hg.first).1).2, kp.tab _ tF, kp.tab _ tL, kp.tab _ tI⟩)) e_int)) (fun hbo => (t_or (t_T (e_op o_neI (show Pk.E _ _ _ (RD (.int (told0 (S (gd ++ [10]))))) from c_call (sok_sps (Rs := fun a : Str => [RD (.str a)]) (P := fun a H => a.length ≤ 900 ∧ asc a ∧ TabG H T0 ∧ TabG H T1 ∧ TabG H TI) (R := fun a => RD (.int (told0 a))) (S (gd ++ [10]))) (a_cons (e_op (o_catS (x := gd) (y := [10]) (by simp only [List.length_append, List.length_cons, List.length_nil]; omega)) (e_var rfl) (e_strS (x := [10]) (by decide +kernel))) a_nil) (fun H kp => ⟨(asks_pre (z := (gd ++ [10])) (hg.nl).1).1, (asks_pre (z := (gd ++ [10])) (hg.nl).1).2, kp.tab _ tF, kp.tab _ tL, kp.tab _ tI⟩)) (e_op o_add (e_cb o_lenM (a_cons (e_var rfl) a_nil)) e_int))) (fun hbo => (t_T (e_op o_neI (show Pk.E _ _ _ (RD (.int (told0 (S ([10] ++ gd))))) from c_call (sok_sps (Rs := fun a : Str => [RD (.str a)]) (P := fun a H => a.length ≤ 900 ∧ asc a ∧ TabG H T0 ∧ TabG H T1 ∧ TabG H TI) (R := fun a => RD (.int (told0 a))) (S ([10] ++ gd))) (a_cons (e_op (o_catS (x := [10]) (y := gd) (by simp only [List.length_append, List.length_cons, List.length_nil]; omega)) (e_strS (x := [10]) (by decide +kernel)) (e_var rfl)) a_nil) (fun H kp => ⟨(asks_pre (z := ([10] ++ gd)) (hg.ahead).1).1, (asks_pre (z := ([10] ++ gd)) (hg.ahead).1).2, kp.tab _ tF, kp.tab _ tL, kp.tab _ tI⟩)) e_int)))))))) (fun h4 => absurd h4 ?_) (fun h4 => ?_)
      · rw [told_ne asks_empty rfl, told_ne hg.first rfl, told_ne (z := gd ++ [10]) hg.nl (by omega), told_ne hg.ahead rfl]; exact Bool.false_ne_true
      refine s_pass ?_
      try dsimp only
      refine s_seq ?_
      try dsimp only
      try dsimp only
      refine s_if (t_or (t_T (e_op o_neI (show Pk.E _ _ _ (RD (.int (told0 (S [108, 101, 110, 103, 116, 104, 115, 32, 53, 32, 53, 32, 53, 10, 103, 97, 112, 115])))) from c_call (sok_sps (Rs := fun a : Str => [RD (.str a)]) (P := fun a H => a.length ≤ 900 ∧ asc a ∧ TabG H T0 ∧ TabG H T1 ∧ TabG H TI) (R := fun a => RD (.int (told0 a))) (S [108, 101, 110, 103, 116, 104, 115, 32, 53, 32, 53, 32, 53, 10, 103, 97, 112, 115])) (a_cons (e_strS (x := [108, 101, 110, 103, 116, 104, 115, 32, 53, 32, 53, 32, 53, 10, 103, 97, 112, 115]) (by decide +kernel)) a_nil) (fun H kp => ⟨(asks_pre (z := [108, 101, 110, 103, 116, 104, 115, 32, 53, 32, 53, 32, 53, 10, 103, 97, 112, 115]) (asks_c1).1).1, (asks_pre (z := [108, 101, 110, 103, 116, 104, 115, 32, 53, 32, 53, 32, 53, 10, 103, 97, 112, 115]) (asks_c1).1).2, kp.tab _ tF, kp.tab _ tL, kp.tab _ tI⟩)) e_int)) (fun hbo => (t_or (t_T (e_op o_neI (show Pk.E _ _ _ (RD (.int (told0 (S txB)))) from c_call (sok_sps (Rs := fun a : Str => [RD (.str a)]) (P := fun a H => a.length ≤ 900 ∧ asc a ∧ TabG H T0 ∧ TabG H T1 ∧ TabG H TI) (R := fun a => RD (.int (told0 a))) (S txB)) (a_cons (e_strS (x := txB) txB_S) a_nil) (fun H kp => ⟨(asks_pre (z := txB) (txB_asks).1).1, (asks_pre (z := txB) (txB_asks).1).2, kp.tab _ tF, kp.tab _ tL, kp.tab _ tI⟩)) e_int)) (fun hbo => (t_T (e_op o_neI (show Pk.E _ _ _ (RD (.int (told0 (S [108, 101, 110, 103, 116, 104, 115, 32, 48, 10, 103, 97, 112, 115])))) from c_call (sok_sps (Rs := fun a : Str => [RD (.str a)]) (P := fun a H => a.length ≤ 900 ∧ asc a ∧ TabG H T0 ∧ TabG H T1 ∧ TabG H TI) (R := fun a => RD (.int (told0 a))) (S [108, 101, 110, 103, 116, 104, 115, 32, 48, 10, 103, 97, 112, 115])) (a_cons (e_strS (x := [108, 101, 110, 103, 116, 104, 115, 32, 48, 10, 103, 97, 112, 115]) (by decide +kernel)) a_nil) (fun H kp => ⟨(asks_pre (z := [108, 101, 110, 103, 116, 104, 115, 32, 48, 10, 103, 97, 112, 115]) (asks_c3).1).1, (asks_pre (z := [108, 101, 110, 103, 116, 104, 115, 32, 48, 10, 103, 97, 112, 115]) (asks_c3).1).2, kp.tab _ tF, kp.tab _ tL, kp.tab _ tI⟩)) e_int)))))) (fun h5 => absurd h5 ?_) (fun h5 => ?_)
      · rw [told_ne asks_c1 rfl, told_ne txB_asks rfl, told_ne asks_c3 rfl]; exact Bool.false_ne_true
      refine s_pass ?_
      try dsimp only
      refine s_seq ?_
      try dsimp only
      try dsimp only
      refine s_if (t_or (t_T (e_op o_neI (show Pk.E _ _ _ (RD (.int (told0 (S [108, 101, 110, 103, 116, 104, 115, 32, 53, 10, 103, 97, 112, 115, 32, 52, 49])))) from c_call (sok_sps (Rs := fun a : Str => [RD (.str a)]) (P := fun a H => a.length ≤ 900 ∧ asc a ∧ TabG H T0 ∧ TabG H T1 ∧ TabG H TI) (R := fun a => RD (.int (told0 a))) (S [108, 101, 110, 103, 116, 104, 115, 32, 53, 10, 103, 97, 112, 115, 32, 52, 49])) (a_cons (e_strS (x := [108, 101, 110, 103, 116, 104, 115, 32, 53, 10, 103, 97, 112, 115, 32, 52, 49]) (by decide +kernel)) a_nil) (fun H kp => ⟨(asks_pre (z := [108, 101, 110, 103, 116, 104, 115, 32, 53, 10, 103, 97, 112, 115, 32, 52, 49]) (asks_c4).1).1, (asks_pre (z := [108, 101, 110, 103, 116, 104, 115, 32, 53, 10, 103, 97, 112, 115, 32, 52, 49]) (asks_c4).1).2, kp.tab _ tF, kp.tab _ tL, kp.tab _ tI⟩)) e_int)) (fun hbo => (t_or (t_T (e_op o_neI (show Pk.E _ _ _ (RD (.int (told0 (S [108, 101, 110, 103, 116, 104, 115, 32, 53, 10, 99, 108, 111, 115, 101, 100, 32, 117, 112, 32, 48, 32, 48])))) from c_call (sok_sps (Rs := fun a : Str => [RD (.str a)]) (P := fun a H => a.length ≤ 900 ∧ asc a ∧ TabG H T0 ∧ TabG H T1 ∧ TabG H TI) (R := fun a => RD (.int (told0 a))) (S [108, 101, 110, 103, 116, 104, 115, 32, 53, 10, 99, 108, 111, 115, 101, 100, 32, 117, 112, 32, 48, 32, 48])) (a_cons (e_strS (x := [108, 101, 110, 103, 116, 104, 115, 32, 53, 10, 99, 108, 111, 115, 101, 100, 32, 117, 112, 32, 48, 32, 48]) (by decide +kernel)) a_nil) (fun H kp => ⟨(asks_pre (z := [108, 101, 110, 103, 116, 104, 115, 32, 53, 10, 99, 108, 111, 115, 101, 100, 32, 117, 112, 32, 48, 32, 48]) (asks_c5).1).1, (asks_pre (z := [108, 101, 110, 103, 116, 104, 115, 32, 53, 10, 99, 108, 111, 115, 101, 100, 32, 117, 112, 32, 48, 32, 48]) (asks_c5).1).2, kp.tab _ tF, kp.tab _ tL, kp.tab _ tI⟩)) e_int)) (fun hbo => (t_T (e_op o_neI (show Pk.E _ _ _ (RD (.int (told0 (S txF)))) from c_call (sok_sps (Rs := fun a : Str => [RD (.str a)]) (P := fun a H => a.length ≤ 900 ∧ asc a ∧ TabG H T0 ∧ TabG H T1 ∧ TabG H TI) (R := fun a => RD (.int (told0 a))) (S txF)) (a_cons (e_strS (x := txF) txF_S) a_nil) (fun H kp => ⟨(asks_pre (z := txF) (txF_asks).1).1, (asks_pre (z := txF) (txF_asks).1).2, kp.tab _ tF, kp.tab _ tL, kp.tab _ tI⟩)) e_int)))))) (fun h6 => absurd h6 ?_) (fun h6 => ?_)
      · rw [told_ne asks_c4 rfl, told_ne asks_c5 rfl, told_ne txF_asks rfl]; exact Bool.false_ne_true
      refine s_pass ?_
      refine s_ret (E.eq (e_and (e_op o_isB (c_meth (hi_houseP (by decide +kernel) (by decide +kernel) (by decide +kernel) (by decide +kernel) (by decide +kernel)) (sok_same (h1 := ⟨ls, gs, ds⟩) (h2 := ⟨ls, gs, cs⟩)) (Pk.E.low (e_exU (x_call0 (skx_parseG (z := gd) hg.good.1 hg.par) (a_cons (e_var rfl) a_nil) (fun H kp => ⟨kp.tab _ tF, kp.tab _ tL, kp.tab _ tI⟩)))) (a_cons (e_var rfl) a_nil) (fun _ _ => ⟨rfl, rfl, hg.same⟩)) e_bl) (fun hbo => (e_op o_eqI (show Pk.E _ _ _ (RD (.int (told0 (S txG)))) from c_call (sok_sps (Rs := fun a : Str => [RD (.str a)]) (P := fun a H => a.length ≤ 900 ∧ asc a ∧ TabG H T0 ∧ TabG H T1 ∧ TabG H TI) (R := fun a => RD (.int (told0 a))) (S txG)) (a_cons (e_strS (x := txG) txG_S) a_nil) (fun H kp => ⟨(asks_pre (z := txG) (txG_asks).1).1, (asks_pre (z := txG) (txG_asks).1).2, kp.tab _ tF, kp.tab _ tL, kp.tab _ tI⟩)) e_int))) (e := .bool true) (congrArg PyData.bool ?_)) fun H' v k r => by cases r; exact q H'
      rw [told_eq txG_asks rfl]; rfl
end
section
open GxR NdefX PySem.Spec PyProof.Rows
theorem all_mk {l : PySem.W.OpenLaw} {w : World} {K : PySem.W.Frag} {h : Heap} {mg : Str → Option Value} {fa : Addr} {TI TL T0 : Addr} (X : K.In h) (G : h.Ns mainGlobals mg) (hfa : mg "law" = some (.ref fa))
    {C : Addr}
    {CI : Addr}
    {tk_LONGEST : Tok}
    {tk_MOST_STRETCHES : Tok}
    {tk_MOST_GAPS : Tok}
    {tk_MOST_CLOSED : Tok}
    {f_House___init__ : Addr}
    {c8_House___init__ : Addr}
    {od_House___init__ an_House___init__ : Option Addr} {sl_House___init__ : Array (Option Value)} {oc_House___init__ kV_House___init__ dc_House___init__ pm_House___init__ ct_House___init__ : Value}
    {f__are_long : Addr}
    {c8__are_long : Addr}
    {od__are_long an__are_long : Option Addr} {sl__are_long : Array (Option Value)} {oc__are_long kV__are_long dc__are_long pm__are_long ct__are_long : Value}
    {f__cross_heights : Addr}
    {od__cross_heights an__cross_heights : Option Addr} {sl__cross_heights : Array (Option Value)} {oc__cross_heights kV__cross_heights dc__cross_heights pm__cross_heights cd__cross_heights ct__cross_heights : Value}
    {f_House_is_link : Addr}
    {od_House_is_link an_House_is_link : Option Addr} {sl_House_is_link : Array (Option Value)} {oc_House_is_link kV_House_is_link dc_House_is_link pm_House_is_link cd_House_is_link ct_House_is_link : Value}
    {p_House_lengths : Addr}
    {r_House_lengths : List Value}
    {f_House_lengths : Addr}
    {od_House_lengths an_House_lengths : Option Addr} {sl_House_lengths : Array (Option Value)} {oc_House_lengths kV_House_lengths dc_House_lengths pm_House_lengths cd_House_lengths ct_House_lengths : Value}
    {p_House_gaps : Addr}
    {r_House_gaps : List Value}
    {f_House_gaps : Addr}
    {od_House_gaps an_House_gaps : Option Addr} {sl_House_gaps : Array (Option Value)} {oc_House_gaps kV_House_gaps dc_House_gaps pm_House_gaps cd_House_gaps ct_House_gaps : Value}
    {p_House_closed : Addr}
    {r_House_closed : List Value}
    {f_House_closed : Addr}
    {od_House_closed an_House_closed : Option Addr} {sl_House_closed : Array (Option Value)} {oc_House_closed kV_House_closed dc_House_closed pm_House_closed cd_House_closed ct_House_closed : Value}
    {f_House_is_closed : Addr}
    {od_House_is_closed an_House_is_closed : Option Addr} {sl_House_is_closed : Array (Option Value)} {oc_House_is_closed kV_House_is_closed dc_House_is_closed pm_House_is_closed cd_House_is_closed ct_House_is_closed : Value}
    {CL : Addr}
    {CTL : Addr}
    {CN : Addr}
    {Pe : Addr}
    {nm0 qn0 : Str} {N0 : Addr} {bs0 : List Value} {sn0 : List Str} {sb0 : List Value} {ab0 : Bool} {co0 : Option Bool} {dd0 : Option Addr} {ma0 mb0 mc0 md0 me0 : Option Value}
    {f_iCN : Addr}
    {od_iCN an_iCN : Option Addr} {sl_iCN : Array (Option Value)} {oc_iCN kV_iCN dc_iCN pm_iCN cd_iCN ct_iCN : Value}
    {tk_MOST_DIGITS : Tok}
    {f__law_row : Addr}
    {od__law_row an__law_row : Option Addr} {sl__law_row : Array (Option Value)} {oc__law_row kV__law_row dc__law_row pm__law_row cd__law_row ct__law_row : Value}
    {f__law_numbers : Addr}
    {od__law_numbers an__law_numbers : Option Addr} {sl__law_numbers : Array (Option Value)} {oc__law_numbers kV__law_numbers dc__law_numbers pm__law_numbers cd__law_numbers ct__law_numbers : Value}
    {f_House_with_closed : Addr}
    {od_House_with_closed an_House_with_closed : Option Addr} {sl_House_with_closed : Array (Option Value)} {oc_House_with_closed kV_House_with_closed dc_House_with_closed pm_House_with_closed cd_House_with_closed ct_House_with_closed : Value}
    {f_House_same_as : Addr}
    {od_House_same_as an_House_same_as : Option Addr} {sl_House_same_as : Array (Option Value)} {oc_House_same_as kV_House_same_as dc_House_same_as pm_House_same_as cd_House_same_as ct_House_same_as : Value}
    {f__row : Addr}
    {od__row an__row : Option Addr} {sl__row : Array (Option Value)} {oc__row kV__row dc__row pm__row cd__row ct__row : Value}
    {f_is_number : Addr}
    {od_is_number an_is_number : Option Addr} {sl_is_number : Array (Option Value)} {oc_is_number kV_is_number dc_is_number pm_is_number cd_is_number ct_is_number : Value}
    {f__numbers_of : Addr}
    {c8__numbers_of : Addr}
    {od__numbers_of an__numbers_of : Option Addr} {sl__numbers_of : Array (Option Value)} {oc__numbers_of kV__numbers_of dc__numbers_of pm__numbers_of ct__numbers_of : Value}
    {f__numbers_in : Addr}
    {od__numbers_in an__numbers_in : Option Addr} {sl__numbers_in : Array (Option Value)} {oc__numbers_in kV__numbers_in dc__numbers_in pm__numbers_in cd__numbers_in ct__numbers_in : Value}
    {f__house_of : Addr}
    {od__house_of an__house_of : Option Addr} {sl__house_of : Array (Option Value)} {oc__house_of kV__house_of dc__house_of pm__house_of cd__house_of ct__house_of : Value}
    {f__house_with_line : Addr}
    {od__house_with_line an__house_with_line : Option Addr} {sl__house_with_line : Array (Option Value)} {oc__house_with_line kV__house_with_line dc__house_with_line pm__house_with_line cd__house_with_line ct__house_with_line : Value}
    {f_parse_house : Addr}
    {od_parse_house an_parse_house : Option Addr} {sl_parse_house : Array (Option Value)} {oc_parse_house kV_parse_house dc_parse_house pm_parse_house cd_parse_house ct_parse_house : Value}
    {f_format_house : Addr}
    {od_format_house an_format_house : Option Addr} {sl_format_house : Array (Option Value)} {oc_format_house kV_format_house dc_format_house pm_format_house cd_format_house ct_format_house : Value}
    {f__law_told : Addr}
    {od__law_told an__law_told : Option Addr} {sl__law_told : Array (Option Value)} {oc__law_told kV__law_told dc__law_told pm__law_told cd__law_told ct__law_told : Value}
    {f__law_parts : Addr}
    {od__law_parts an__law_parts : Option Addr} {sl__law_parts : Array (Option Value)} {oc__law_parts kV__law_parts dc__law_parts pm__law_parts cd__law_parts ct__law_parts : Value}
    {f__law_spoilt : Addr}
    {od__law_spoilt an__law_spoilt : Option Addr} {sl__law_spoilt : Array (Option Value)} {oc__law_spoilt kV__law_spoilt dc__law_spoilt pm__law_spoilt cd__law_spoilt ct__law_spoilt : Value}
    {f_law : Addr}
    {od_law an_law : Option Addr} {sl_law : Array (Option Value)} {oc_law kV_law dc_law pm_law cd_law ct_law : Value}
    (z_str : PySem.W.nsIn K mainGlobals "str" = some none)
    (z_len : PySem.W.nsIn K mainGlobals "len" = some none)
    (z_all : PySem.W.nsIn K mainGlobals "all" = some none)
    (z_int : PySem.W.nsIn K mainGlobals "int" = some none)
    (z_range : PySem.W.nsIn K mainGlobals "range" = some none)
    (z_max : PySem.W.nsIn K mainGlobals "max" = some none)
    (z_sorted : PySem.W.nsIn K mainGlobals "sorted" = some none)
    (z_isinstance : PySem.W.nsIn K mainGlobals "isinstance" = some none)
    (z_bool : PySem.W.nsIn K mainGlobals "bool" = some none)
    (z_abs : PySem.W.nsIn K mainGlobals "abs" = some none)
    (z_sum : PySem.W.nsIn K mainGlobals "sum" = some none)
    (z_list : PySem.W.nsIn K mainGlobals "list" = some none)
    (a_C : PySem.W.nsIn K mainGlobals "House" = some (some (.ref C)))
    (pg_C : PySem.W.plainGet K C Str.empty = true)
    (hd_C : PySem.W.hasDictIn K C = true)
    (po_C : PySem.W.plainOver K C = true)
    (sa_C : PySem.W.findIn K (.ref C) "__setattr__" = some (some (.builtin "object.__setattr__")))
    (mk_C : PySem.W.makesIn K C = true)
    (kc_C : PySem.W.keepIn K (.ref C) = true)
    (nplengths : PySem.W.findIn K (.ref C) "_lengths" = some none)
    (npgaps : PySem.W.findIn K (.ref C) "_gaps" = some none)
    (npcrosses : PySem.W.findIn K (.ref C) "_crosses" = some none)
    (nptop : PySem.W.findIn K (.ref C) "_top" = some none)
    (npclosed : PySem.W.findIn K (.ref C) "_closed" = some none)
    (a_CI : PySem.W.nsIn K mainGlobals "InvalidHouse" = some (some (.ref CI)))
    (kpCI : PySem.W.keepIn K (.ref CI) = true)
    (sbCI : PySem.W.subIn K (.ref CI) (.type "BaseException") = some true)
    (tyCI : PySem.W.typeIn K (.ref CI) = some (.type "type"))
    (exCI : PySem.W.excIn K CI [.type "ValueError", .type "Exception", .type "BaseException", .type "object"] "ValueError.__new__" = true)
    (c_LONGEST : PySem.W.nsIn K mainGlobals "LONGEST" = some (some (.int 40 tk_LONGEST)))
    (c_MOST_STRETCHES : PySem.W.nsIn K mainGlobals "MOST_STRETCHES" = some (some (.int 2 tk_MOST_STRETCHES)))
    (c_MOST_GAPS : PySem.W.nsIn K mainGlobals "MOST_GAPS" = some (some (.int 11 tk_MOST_GAPS)))
    (c_MOST_CLOSED : PySem.W.nsIn K mainGlobals "MOST_CLOSED" = some (some (.int 200 tk_MOST_CLOSED)))
    (a_House___init__ : PySem.W.findIn K (.ref C) "__init__" = some (some (.ref f_House___init__)))
    (i_House___init__ : PySem.W.isFn K (.ref f_House___init__) = true)
    (l_House___init__ : K.lookup f_House___init__ = some ⟨oc_House___init__, od_House___init__, .func (PySem.W.fnOf "__init__" "House.__init__" (defArgs s_House___init__) (defBody s_House___init__) (defScope s_House___init__) .none kV_House___init__ dc_House___init__ pm_House___init__ an_House___init__ (.ref c8_House___init__) ct_House___init__), sl_House___init__⟩)
    (c_House___init__ : PySem.W.codeIn K (.ref c8_House___init__) "House.__init__" = true)
    (k_House___init__ : PySem.W.keepIn K (.ref f_House___init__) = true)
    (a__are_long : PySem.W.nsIn K mainGlobals "_are_long" = some (some (.ref f__are_long)))
    (l__are_long : K.lookup f__are_long = some ⟨oc__are_long, od__are_long, .func (PySem.W.fnOf "_are_long" "_are_long" (defArgs s__are_long) (defBody s__are_long) (defScope s__are_long) .none kV__are_long dc__are_long pm__are_long an__are_long (.ref c8__are_long) ct__are_long), sl__are_long⟩)
    (c__are_long : PySem.W.codeIn K (.ref c8__are_long) "_are_long" = true)
    (k__are_long : PySem.W.keepIn K (.ref f__are_long) = true)
    (a__cross_heights : PySem.W.nsIn K mainGlobals "_cross_heights" = some (some (.ref f__cross_heights)))
    (l__cross_heights : K.lookup f__cross_heights = some ⟨oc__cross_heights, od__cross_heights, .func (PySem.W.fnOf "_cross_heights" "_cross_heights" (defArgs s__cross_heights) (defBody s__cross_heights) (defScope s__cross_heights) .none kV__cross_heights dc__cross_heights pm__cross_heights an__cross_heights cd__cross_heights ct__cross_heights), sl__cross_heights⟩)
    (c__cross_heights : PySem.W.codeIn K cd__cross_heights "_cross_heights" = true)
    (k__cross_heights : PySem.W.keepIn K (.ref f__cross_heights) = true)
    (a_House_is_link : PySem.W.findIn K (.ref C) "is_link" = some (some (.ref f_House_is_link)))
    (i_House_is_link : PySem.W.isFn K (.ref f_House_is_link) = true)
    (l_House_is_link : K.lookup f_House_is_link = some ⟨oc_House_is_link, od_House_is_link, .func (PySem.W.fnOf "is_link" "House.is_link" (defArgs s_House_is_link) (defBody s_House_is_link) (defScope s_House_is_link) .none kV_House_is_link dc_House_is_link pm_House_is_link an_House_is_link cd_House_is_link ct_House_is_link), sl_House_is_link⟩)
    (c_House_is_link : PySem.W.codeIn K cd_House_is_link "House.is_link" = true)
    (k_House_is_link : PySem.W.keepIn K (.ref f_House_is_link) = true)
    (pa_House_lengths : PySem.W.findIn K (.ref C) "lengths" = some (some (.ref p_House_lengths)))
    (pg_House_lengths : PySem.W.specialIn K (.ref p_House_lengths) "__get__" = some (some (.builtin "property.__get__")))
    (pt_House_lengths : PySem.W.takesIn K (.ref p_House_lengths) = some true)
    (pr_House_lengths : PySem.W.recIn K p_House_lengths "property" = some (.ref f_House_lengths :: r_House_lengths))
    (l_House_lengths : K.lookup f_House_lengths = some ⟨oc_House_lengths, od_House_lengths, .func (PySem.W.fnOf "lengths" "House.lengths" (defArgs s_House_lengths) (defBody s_House_lengths) (defScope s_House_lengths) .none kV_House_lengths dc_House_lengths pm_House_lengths an_House_lengths cd_House_lengths ct_House_lengths), sl_House_lengths⟩)
    (c_House_lengths : PySem.W.codeIn K cd_House_lengths "House.lengths" = true)
    (k_House_lengths : PySem.W.keepIn K (.ref f_House_lengths) = true)
    (pa_House_gaps : PySem.W.findIn K (.ref C) "gaps" = some (some (.ref p_House_gaps)))
    (pg_House_gaps : PySem.W.specialIn K (.ref p_House_gaps) "__get__" = some (some (.builtin "property.__get__")))
    (pt_House_gaps : PySem.W.takesIn K (.ref p_House_gaps) = some true)
    (pr_House_gaps : PySem.W.recIn K p_House_gaps "property" = some (.ref f_House_gaps :: r_House_gaps))
    (l_House_gaps : K.lookup f_House_gaps = some ⟨oc_House_gaps, od_House_gaps, .func (PySem.W.fnOf "gaps" "House.gaps" (defArgs s_House_gaps) (defBody s_House_gaps) (defScope s_House_gaps) .none kV_House_gaps dc_House_gaps pm_House_gaps an_House_gaps cd_House_gaps ct_House_gaps), sl_House_gaps⟩)
    (c_House_gaps : PySem.W.codeIn K cd_House_gaps "House.gaps" = true)
    (k_House_gaps : PySem.W.keepIn K (.ref f_House_gaps) = true)
    (pa_House_closed : PySem.W.findIn K (.ref C) "closed" = some (some (.ref p_House_closed)))
    (pg_House_closed : PySem.W.specialIn K (.ref p_House_closed) "__get__" = some (some (.builtin "property.__get__")))
    (pt_House_closed : PySem.W.takesIn K (.ref p_House_closed) = some true)
    (pr_House_closed : PySem.W.recIn K p_House_closed "property" = some (.ref f_House_closed :: r_House_closed))
    (l_House_closed : K.lookup f_House_closed = some ⟨oc_House_closed, od_House_closed, .func (PySem.W.fnOf "closed" "House.closed" (defArgs s_House_closed) (defBody s_House_closed) (defScope s_House_closed) .none kV_House_closed dc_House_closed pm_House_closed an_House_closed cd_House_closed ct_House_closed), sl_House_closed⟩)
    (c_House_closed : PySem.W.codeIn K cd_House_closed "House.closed" = true)
    (k_House_closed : PySem.W.keepIn K (.ref f_House_closed) = true)
    (a_House_is_closed : PySem.W.findIn K (.ref C) "is_closed" = some (some (.ref f_House_is_closed)))
    (i_House_is_closed : PySem.W.isFn K (.ref f_House_is_closed) = true)
    (l_House_is_closed : K.lookup f_House_is_closed = some ⟨oc_House_is_closed, od_House_is_closed, .func (PySem.W.fnOf "is_closed" "House.is_closed" (defArgs s_House_is_closed) (defBody s_House_is_closed) (defScope s_House_is_closed) .none kV_House_is_closed dc_House_is_closed pm_House_is_closed an_House_is_closed cd_House_is_closed ct_House_is_closed), sl_House_is_closed⟩)
    (c_House_is_closed : PySem.W.codeIn K cd_House_is_closed "House.is_closed" = true)
    (k_House_is_closed : PySem.W.keepIn K (.ref f_House_is_closed) = true)
    (a_CL : PySem.W.nsIn K mainGlobals "InvalidLink" = some (some (.ref CL)))
    (kpCL : PySem.W.keepIn K (.ref CL) = true)
    (sbCL : PySem.W.subIn K (.ref CL) (.type "BaseException") = some true)
    (tyCL : PySem.W.typeIn K (.ref CL) = some (.type "type"))
    (exCL : PySem.W.excIn K CL [.type "ValueError", .type "Exception", .type "BaseException", .type "object"] "ValueError.__new__" = true)
    (a_CTL : PySem.W.nsIn K mainGlobals "TooLarge" = some (some (.ref CTL)))
    (kpCTL : PySem.W.keepIn K (.ref CTL) = true)
    (sbCTL : PySem.W.subIn K (.ref CTL) (.type "BaseException") = some true)
    (tyCTL : PySem.W.typeIn K (.ref CTL) = some (.type "type"))
    (exCTL : PySem.W.excIn K CTL [.type "ValueError", .type "Exception", .type "BaseException", .type "object"] "ValueError.__new__" = true)
    (a_CN : PySem.W.nsIn K mainGlobals "InvalidNotation" = some (some (.ref CN)))
    (kpCN : PySem.W.keepIn K (.ref CN) = true)
    (sbCN : PySem.W.subIn K (.ref CN) (.type "BaseException") = some true)
    (tyCN : PySem.W.typeIn K (.ref CN) = some (.type "type"))
    (a_Pe : PySem.W.nsIn K mainGlobals "PickError" = some (some (.ref Pe)))
    (dcCN : PySem.W.hasDictIn K CN = true)
    (ssCN : PySem.W.subIn K (.ref CN) (.ref CN) = some true)
    (xlCN : K.lookup CN = some (excClassObj nm0 qn0 CN N0 bs0 [.ref Pe, .type "ValueError", .type "Exception", .type "BaseException", .type "object"] true sn0 sb0 ab0 co0 dd0 ma0 mb0 mc0 md0 me0 "ValueError.__new__"))
    (saCN : PySem.W.findIn K (.ref CN) "__setattr__" = some (some (.builtin "object.__setattr__")))
    (noCN : PySem.W.findIn K (.ref CN) "line" = some none)
    (gaCN : PySem.W.findIn K (.ref CN) "__getattribute__" = some (some (.builtin "BaseException.__getattribute__")))
    (ggCN : PySem.W.findIn K (.ref CN) "__getattr__" = some none)
    (a_iCN : PySem.W.findIn K (.ref CN) "__init__" = some (some (.ref f_iCN)))
    (tiCN : PySem.W.typeIn K (.ref f_iCN) = some (.type "function"))
    (l_iCN : K.lookup f_iCN = some ⟨oc_iCN, od_iCN, .func (PySem.W.fnOf "__init__" "InvalidNotation.__init__" (defArgs s_InvalidNotation___init__) (defBody s_InvalidNotation___init__) (defScope s_InvalidNotation___init__) .none kV_iCN dc_iCN pm_iCN an_iCN cd_iCN ct_iCN), sl_iCN⟩)
    (c_iCN : PySem.W.codeIn K cd_iCN "InvalidNotation.__init__" = true)
    (k_iCN : PySem.W.keepIn K (.ref f_iCN) = true)
    (c_MOST_DIGITS : PySem.W.nsIn K mainGlobals "MOST_DIGITS" = some (some (.int 4 tk_MOST_DIGITS)))
    (a__law_row : PySem.W.nsIn K mainGlobals "_law_row" = some (some (.ref f__law_row)))
    (l__law_row : K.lookup f__law_row = some ⟨oc__law_row, od__law_row, .func (PySem.W.fnOf "_law_row" "_law_row" (defArgs s__law_row) (defBody s__law_row) (defScope s__law_row) .none kV__law_row dc__law_row pm__law_row an__law_row cd__law_row ct__law_row), sl__law_row⟩)
    (c__law_row : PySem.W.codeIn K cd__law_row "_law_row" = true)
    (k__law_row : PySem.W.keepIn K (.ref f__law_row) = true)
    (a__law_numbers : PySem.W.nsIn K mainGlobals "_law_numbers" = some (some (.ref f__law_numbers)))
    (l__law_numbers : K.lookup f__law_numbers = some ⟨oc__law_numbers, od__law_numbers, .func (PySem.W.fnOf "_law_numbers" "_law_numbers" (defArgs s__law_numbers) (defBody s__law_numbers) (defScope s__law_numbers) .none kV__law_numbers dc__law_numbers pm__law_numbers an__law_numbers cd__law_numbers ct__law_numbers), sl__law_numbers⟩)
    (c__law_numbers : PySem.W.codeIn K cd__law_numbers "_law_numbers" = true)
    (k__law_numbers : PySem.W.keepIn K (.ref f__law_numbers) = true)
    (acCN : PySem.W.findIn K (.ref CN) "__class__" = some (some (.builtin "object.__class__")))
    (asCN : PySem.W.specialIn K (.builtin "object.__class__") "__get__" = some (some (.builtin "getset_descriptor.__get__")))
    (atCN : PySem.W.takesIn K (.builtin "object.__class__") = some true)
    (amCN : PySem.W.mroIn K CN (.type "object") = some true)
    (kNI : PySem.W.kitOne K (.ref CN) (.ref CI) = some false)
    (kNP : PySem.W.kitOne K (.ref CN) (.ref Pe) = some true)
    (eII : PySem.W.exmOne K (.ref CI) (.ref CI) = some true)
    (eTL : PySem.W.exmAny K (.ref CL) [.ref CL, .ref CTL] = some true)
    (eTT : PySem.W.exmAny K (.ref CTL) [.ref CL, .ref CTL] = some true)
    (a_House_with_closed : PySem.W.findIn K (.ref C) "with_closed" = some (some (.ref f_House_with_closed)))
    (i_House_with_closed : PySem.W.isFn K (.ref f_House_with_closed) = true)
    (l_House_with_closed : K.lookup f_House_with_closed = some ⟨oc_House_with_closed, od_House_with_closed, .func (PySem.W.fnOf "with_closed" "House.with_closed" (defArgs s_House_with_closed) (defBody s_House_with_closed) (defScope s_House_with_closed) .none kV_House_with_closed dc_House_with_closed pm_House_with_closed an_House_with_closed cd_House_with_closed ct_House_with_closed), sl_House_with_closed⟩)
    (c_House_with_closed : PySem.W.codeIn K cd_House_with_closed "House.with_closed" = true)
    (k_House_with_closed : PySem.W.keepIn K (.ref f_House_with_closed) = true)
    (a_House_same_as : PySem.W.findIn K (.ref C) "same_as" = some (some (.ref f_House_same_as)))
    (i_House_same_as : PySem.W.isFn K (.ref f_House_same_as) = true)
    (l_House_same_as : K.lookup f_House_same_as = some ⟨oc_House_same_as, od_House_same_as, .func (PySem.W.fnOf "same_as" "House.same_as" (defArgs s_House_same_as) (defBody s_House_same_as) (defScope s_House_same_as) .none kV_House_same_as dc_House_same_as pm_House_same_as an_House_same_as cd_House_same_as ct_House_same_as), sl_House_same_as⟩)
    (c_House_same_as : PySem.W.codeIn K cd_House_same_as "House.same_as" = true)
    (k_House_same_as : PySem.W.keepIn K (.ref f_House_same_as) = true)
    (a__row : PySem.W.nsIn K mainGlobals "_row" = some (some (.ref f__row)))
    (l__row : K.lookup f__row = some ⟨oc__row, od__row, .func (PySem.W.fnOf "_row" "_row" (defArgs s__row) (defBody s__row) (defScope s__row) .none kV__row dc__row pm__row an__row cd__row ct__row), sl__row⟩)
    (c__row : PySem.W.codeIn K cd__row "_row" = true)
    (k__row : PySem.W.keepIn K (.ref f__row) = true)
    (a_is_number : PySem.W.nsIn K mainGlobals "is_number" = some (some (.ref f_is_number)))
    (l_is_number : K.lookup f_is_number = some ⟨oc_is_number, od_is_number, .func (PySem.W.fnOf "is_number" "is_number" (defArgs s_is_number) (defBody s_is_number) (defScope s_is_number) .none kV_is_number dc_is_number pm_is_number an_is_number cd_is_number ct_is_number), sl_is_number⟩)
    (c_is_number : PySem.W.codeIn K cd_is_number "is_number" = true)
    (k_is_number : PySem.W.keepIn K (.ref f_is_number) = true)
    (a__numbers_of : PySem.W.nsIn K mainGlobals "_numbers_of" = some (some (.ref f__numbers_of)))
    (l__numbers_of : K.lookup f__numbers_of = some ⟨oc__numbers_of, od__numbers_of, .func (PySem.W.fnOf "_numbers_of" "_numbers_of" (defArgs s__numbers_of) (defBody s__numbers_of) (defScope s__numbers_of) .none kV__numbers_of dc__numbers_of pm__numbers_of an__numbers_of (.ref c8__numbers_of) ct__numbers_of), sl__numbers_of⟩)
    (c__numbers_of : PySem.W.codeIn K (.ref c8__numbers_of) "_numbers_of" = true)
    (k__numbers_of : PySem.W.keepIn K (.ref f__numbers_of) = true)
    (a__numbers_in : PySem.W.nsIn K mainGlobals "_numbers_in" = some (some (.ref f__numbers_in)))
    (l__numbers_in : K.lookup f__numbers_in = some ⟨oc__numbers_in, od__numbers_in, .func (PySem.W.fnOf "_numbers_in" "_numbers_in" (defArgs s__numbers_in) (defBody s__numbers_in) (defScope s__numbers_in) .none kV__numbers_in dc__numbers_in pm__numbers_in an__numbers_in cd__numbers_in ct__numbers_in), sl__numbers_in⟩)
    (c__numbers_in : PySem.W.codeIn K cd__numbers_in "_numbers_in" = true)
    (k__numbers_in : PySem.W.keepIn K (.ref f__numbers_in) = true)
    (a__house_of : PySem.W.nsIn K mainGlobals "_house_of" = some (some (.ref f__house_of)))
    (l__house_of : K.lookup f__house_of = some ⟨oc__house_of, od__house_of, .func (PySem.W.fnOf "_house_of" "_house_of" (defArgs s__house_of) (defBody s__house_of) (defScope s__house_of) .none kV__house_of dc__house_of pm__house_of an__house_of cd__house_of ct__house_of), sl__house_of⟩)
    (c__house_of : PySem.W.codeIn K cd__house_of "_house_of" = true)
    (k__house_of : PySem.W.keepIn K (.ref f__house_of) = true)
    (a__house_with_line : PySem.W.nsIn K mainGlobals "_house_with_line" = some (some (.ref f__house_with_line)))
    (l__house_with_line : K.lookup f__house_with_line = some ⟨oc__house_with_line, od__house_with_line, .func (PySem.W.fnOf "_house_with_line" "_house_with_line" (defArgs s__house_with_line) (defBody s__house_with_line) (defScope s__house_with_line) .none kV__house_with_line dc__house_with_line pm__house_with_line an__house_with_line cd__house_with_line ct__house_with_line), sl__house_with_line⟩)
    (c__house_with_line : PySem.W.codeIn K cd__house_with_line "_house_with_line" = true)
    (k__house_with_line : PySem.W.keepIn K (.ref f__house_with_line) = true)
    (a_parse_house : PySem.W.nsIn K mainGlobals "parse_house" = some (some (.ref f_parse_house)))
    (l_parse_house : K.lookup f_parse_house = some ⟨oc_parse_house, od_parse_house, .func (PySem.W.fnOf "parse_house" "parse_house" (defArgs s_parse_house) (defBody s_parse_house) (defScope s_parse_house) .none kV_parse_house dc_parse_house pm_parse_house an_parse_house cd_parse_house ct_parse_house), sl_parse_house⟩)
    (c_parse_house : PySem.W.codeIn K cd_parse_house "parse_house" = true)
    (k_parse_house : PySem.W.keepIn K (.ref f_parse_house) = true)
    (a_format_house : PySem.W.nsIn K mainGlobals "format_house" = some (some (.ref f_format_house)))
    (l_format_house : K.lookup f_format_house = some ⟨oc_format_house, od_format_house, .func (PySem.W.fnOf "format_house" "format_house" (defArgs s_format_house) (defBody s_format_house) (defScope s_format_house) .none kV_format_house dc_format_house pm_format_house an_format_house cd_format_house ct_format_house), sl_format_house⟩)
    (c_format_house : PySem.W.codeIn K cd_format_house "format_house" = true)
    (k_format_house : PySem.W.keepIn K (.ref f_format_house) = true)
    (a__law_told : PySem.W.nsIn K mainGlobals "_law_told" = some (some (.ref f__law_told)))
    (l__law_told : K.lookup f__law_told = some ⟨oc__law_told, od__law_told, .func (PySem.W.fnOf "_law_told" "_law_told" (defArgs s__law_told) (defBody s__law_told) (defScope s__law_told) .none kV__law_told dc__law_told pm__law_told an__law_told cd__law_told ct__law_told), sl__law_told⟩)
    (c__law_told : PySem.W.codeIn K cd__law_told "_law_told" = true)
    (k__law_told : PySem.W.keepIn K (.ref f__law_told) = true)
    (a__law_parts : PySem.W.nsIn K mainGlobals "_law_parts" = some (some (.ref f__law_parts)))
    (l__law_parts : K.lookup f__law_parts = some ⟨oc__law_parts, od__law_parts, .func (PySem.W.fnOf "_law_parts" "_law_parts" (defArgs s__law_parts) (defBody s__law_parts) (defScope s__law_parts) .none kV__law_parts dc__law_parts pm__law_parts an__law_parts cd__law_parts ct__law_parts), sl__law_parts⟩)
    (c__law_parts : PySem.W.codeIn K cd__law_parts "_law_parts" = true)
    (k__law_parts : PySem.W.keepIn K (.ref f__law_parts) = true)
    (a__law_spoilt : PySem.W.nsIn K mainGlobals "_law_spoilt" = some (some (.ref f__law_spoilt)))
    (l__law_spoilt : K.lookup f__law_spoilt = some ⟨oc__law_spoilt, od__law_spoilt, .func (PySem.W.fnOf "_law_spoilt" "_law_spoilt" (defArgs s__law_spoilt) (defBody s__law_spoilt) (defScope s__law_spoilt) .none kV__law_spoilt dc__law_spoilt pm__law_spoilt an__law_spoilt cd__law_spoilt ct__law_spoilt), sl__law_spoilt⟩)
    (c__law_spoilt : PySem.W.codeIn K cd__law_spoilt "_law_spoilt" = true)
    (k__law_spoilt : PySem.W.keepIn K (.ref f__law_spoilt) = true)
    (a_law : PySem.W.nsIn K mainGlobals "law" = some (some (.ref f_law)))
    (l_law : K.lookup f_law = some ⟨oc_law, od_law, .func (PySem.W.fnOf "law" "law" (defArgs s_law) (defBody s_law) (defScope s_law) .none kV_law dc_law pm_law an_law cd_law ct_law), sl_law⟩)
    (c_law : PySem.W.codeIn K cd_law "law" = true)
    (k_law : PySem.W.keepIn K (.ref f_law) = true)
    : ∃ fd : FuncData, (∀ (s : Shared) (v : Value), BindsTo s fd ⟨[v], []⟩ [("script", v)]) ∧
      ∀ base : Heap, K.In base → base.Ns mainGlobals mg → TabB base mg c8_House___init__ TI → TabB base mg c8__are_long TL → TabB base mg c8__numbers_of T0 → FnOk l.prog w (K) mg base CX0 13 fa fd ["script"] (spLawT (K) [T0, TL, TI]) := by
  have e := hfa.symm.trans (PySem.W.mg_of X G a_law)
  cases e
  have z_str := PySem.W.mg_none_of X G z_str
  have z_len := PySem.W.mg_none_of X G z_len
  have z_all := PySem.W.mg_none_of X G z_all
  have z_int := PySem.W.mg_none_of X G z_int
  have z_range := PySem.W.mg_none_of X G z_range
  have z_max := PySem.W.mg_none_of X G z_max
  have z_sorted := PySem.W.mg_none_of X G z_sorted
  have z_isinstance := PySem.W.mg_none_of X G z_isinstance
  have z_bool := PySem.W.mg_none_of X G z_bool
  have z_abs := PySem.W.mg_none_of X G z_abs
  have z_sum := PySem.W.mg_none_of X G z_sum
  have z_list := PySem.W.mg_none_of X G z_list
  have g_LONGEST : ∃ t : Tok, mg "LONGEST" = some (.int 40 t) := ⟨tk_LONGEST, PySem.W.mg_of X G c_LONGEST⟩
  have g_MOST_STRETCHES : ∃ t : Tok, mg "MOST_STRETCHES" = some (.int 2 t) := ⟨tk_MOST_STRETCHES, PySem.W.mg_of X G c_MOST_STRETCHES⟩
  have g_MOST_GAPS : ∃ t : Tok, mg "MOST_GAPS" = some (.int 11 t) := ⟨tk_MOST_GAPS, PySem.W.mg_of X G c_MOST_GAPS⟩
  have g_MOST_CLOSED : ∃ t : Tok, mg "MOST_CLOSED" = some (.int 200 t) := ⟨tk_MOST_CLOSED, PySem.W.mg_of X G c_MOST_CLOSED⟩
  have g_MOST_DIGITS : ∃ t : Tok, mg "MOST_DIGITS" = some (.int 4 t) := ⟨tk_MOST_DIGITS, PySem.W.mg_of X G c_MOST_DIGITS⟩
  have F_law := fun_mk (st := s_law) l_law c_law k_law
  refine ⟨PySem.W.fnOf "law" "law" (defArgs s_law) (defBody s_law) (defScope s_law) .none kV_law dc_law pm_law an_law cd_law ct_law, fun s v => .of_eq rfl, fun base _ _ TBTI TBTL TBT0 => ?_⟩
  have UCI : ErrTxt K mg CI "InvalidHouse" := { gI := PySem.W.mg_of X G a_CI, kI := kpCI, xI := exCI, bI := sbCI, tI := tyCI }
  have F_House___init__ : FunC K "__init__" "House.__init__" s_House___init__ f_House___init__ c8_House___init__ _ := ⟨⟨_, _, _, _, _, _, _, _, rfl, l_House___init__, c_House___init__⟩, k_House___init__⟩
  have b_House___init__ : Binds K _ ["self", "lengths", "gaps", "closed"] [] := (fun_mk (st := s_House___init__) l_House___init__ c_House___init__ k_House___init__).binds (ps := ["self", "lengths", "gaps", "closed"]) fun _ _ _ _ _ _ us hl => match us, hl with | [_, _, _, _], _ => rfl
  have M_House___init__ : Meth K C "__init__" f_House___init__ := ⟨a_House___init__, i_House___init__, k_House___init__⟩
  have F__are_long : FunC K "_are_long" "_are_long" s__are_long f__are_long c8__are_long _ := ⟨⟨_, _, _, _, _, _, _, _, rfl, l__are_long, c__are_long⟩, k__are_long⟩
  have b__are_long : Binds K _ ["numbers"] [] := (fun_mk (st := s__are_long) l__are_long c__are_long k__are_long).binds (ps := ["numbers"]) fun _ _ _ _ _ _ us hl => match us, hl with | [_], _ => rfl
  have F__cross_heights := fun_mk (st := s__cross_heights) l__cross_heights c__cross_heights k__cross_heights
  have b__cross_heights := F__cross_heights.binds (ps := ["lengths"]) fun _ _ _ _ _ _ us hl => match us, hl with | [_], _ => rfl
  have F_House_is_link := fun_mk (st := s_House_is_link) l_House_is_link c_House_is_link k_House_is_link
  have b_House_is_link := F_House_is_link.binds (ps := ["self", "link"]) fun _ _ _ _ _ _ us hl => match us, hl with | [_, _], _ => rfl
  have M_House_is_link : Meth K C "is_link" f_House_is_link := ⟨a_House_is_link, i_House_is_link, k_House_is_link⟩
  have Y : HouseTop mg := { all := z_all, len := z_len, sum := z_sum, list := z_list, sorted := z_sorted, range := z_range, longest := g_LONGEST, stretches := g_MOST_STRETCHES, mostGaps := g_MOST_GAPS, mostClosed := g_MOST_CLOSED }
  have T : HouseTxt K mg C := { cl := ⟨pg_C, hd_C, po_C, sa_C⟩, nL := nplengths, nG := npgaps, nX := npcrosses, nT := nptop, nC := npclosed }
  have F_House_lengths := fun_mk (st := s_House_lengths) l_House_lengths c_House_lengths k_House_lengths
  have b_House_lengths := F_House_lengths.binds (ps := ["self"]) fun _ _ _ _ _ _ us hl => match us, hl with | [_], _ => rfl
  have hp_House_lengths : PropOf K C "lengths" p_House_lengths f_House_lengths := ⟨pa_House_lengths, pg_House_lengths, pt_House_lengths, r_House_lengths, pr_House_lengths⟩
  have p_lengths : PropD l.prog w K mg base C 1 "lengths" (spNums C fun ls _ => ls) := ⟨f_House_lengths, p_House_lengths, _, hp_House_lengths, ok_lengths F_House_lengths Y T, b_House_lengths⟩
  have F_House_gaps := fun_mk (st := s_House_gaps) l_House_gaps c_House_gaps k_House_gaps
  have b_House_gaps := F_House_gaps.binds (ps := ["self"]) fun _ _ _ _ _ _ us hl => match us, hl with | [_], _ => rfl
  have hp_House_gaps : PropOf K C "gaps" p_House_gaps f_House_gaps := ⟨pa_House_gaps, pg_House_gaps, pt_House_gaps, r_House_gaps, pr_House_gaps⟩
  have p_gaps : PropD l.prog w K mg base C 1 "gaps" (spNums C fun _ gs => gs) := ⟨f_House_gaps, p_House_gaps, _, hp_House_gaps, ok_gaps F_House_gaps Y T, b_House_gaps⟩
  have F_House_closed := fun_mk (st := s_House_closed) l_House_closed c_House_closed k_House_closed
  have b_House_closed := F_House_closed.binds (ps := ["self"]) fun _ _ _ _ _ _ us hl => match us, hl with | [_], _ => rfl
  have hp_House_closed : PropOf K C "closed" p_House_closed f_House_closed := ⟨pa_House_closed, pg_House_closed, pt_House_closed, r_House_closed, pr_House_closed⟩
  have p_closed : PropD l.prog w K mg base C 2 "closed" (spClosed C) := ⟨f_House_closed, p_House_closed, _, hp_House_closed, ok_closed F_House_closed Y T, b_House_closed⟩
  have F_House_is_closed := fun_mk (st := s_House_is_closed) l_House_is_closed c_House_is_closed k_House_is_closed
  have b_House_is_closed := F_House_is_closed.binds (ps := ["self", "link"]) fun _ _ _ _ _ _ us hl => match us, hl with | [_, _], _ => rfl
  have M_House_is_closed : Meth K C "is_closed" f_House_is_closed := ⟨a_House_is_closed, i_House_is_closed, k_House_is_closed⟩
  have m_is_closed : MethD l.prog w K mg base C 1 "is_closed" ["self", "link"] (spClosedQ C) := ⟨f_House_is_closed, _, M_House_is_closed, ok_is_closed (P := l.prog) (w := w) (mg := mg) (base := base) F_House_is_closed T, b_House_is_closed⟩
  have UCL : ErrTxt K mg CL "InvalidLink" := { gI := PySem.W.mg_of X G a_CL, kI := kpCL, xI := exCL, bI := sbCL, tI := tyCL }
  have UCTL : ErrTxt K mg CTL "TooLarge" := { gI := PySem.W.mg_of X G a_CTL, kI := kpCTL, xI := exCTL, bI := sbCTL, tI := tyCTL }
  have F_iCN := fun_mk (st := s_InvalidNotation___init__) l_iCN c_iCN k_iCN
  have b_iCN := F_iCN.binds (ps := ["self", "line"]) fun _ _ _ _ _ _ us hl => match us, hl with | [_, _], _ => rfl
  have o_CN : OexC K CN := ⟨⟨nm0, qn0, N0, bs0, _, sn0, sb0, ab0, co0, dd0, ma0, mb0, mc0, md0, me0, xlCN, rfl⟩, saCN, sbCN, tyCN, kpCN⟩
  have F__law_row := fun_mk (st := s__law_row) l__law_row c__law_row k__law_row
  have b__law_row := F__law_row.binds (ps := ["cell", "many"]) fun _ _ _ _ _ _ us hl => match us, hl with | [_, _], _ => rfl
  have F__law_numbers := fun_mk (st := s__law_numbers) l__law_numbers c__law_numbers k__law_numbers
  have b__law_numbers := F__law_numbers.binds (ps := ["script", "many"]) fun _ _ _ _ _ _ us hl => match us, hl with | [_, _], _ => rfl
  have D : DrawTxt mg f__law_row := ⟨z_abs, z_int, z_range, z_len, z_max, PySem.W.mg_of X G a__law_row⟩
  have t__law_numbers : TopD l.prog w K mg base 2 "_law_numbers" ["script", "many"] (spNumbers K) := ⟨f__law_numbers, _, ok_numbers F__law_numbers D F__law_row b__law_row, b__law_numbers, PySem.W.mg_of X G a__law_numbers, k__law_numbers⟩
  have F_House_with_closed := fun_mk (st := s_House_with_closed) l_House_with_closed c_House_with_closed k_House_with_closed
  have b_House_with_closed := F_House_with_closed.binds (ps := ["self", "link"]) fun _ _ _ _ _ _ us hl => match us, hl with | [_, _], _ => rfl
  have M_House_with_closed : Meth K C "with_closed" f_House_with_closed := ⟨a_House_with_closed, i_House_with_closed, k_House_with_closed⟩
  have F_House_same_as := fun_mk (st := s_House_same_as) l_House_same_as c_House_same_as k_House_same_as
  have b_House_same_as := F_House_same_as.binds (ps := ["self", "other"]) fun _ _ _ _ _ _ us hl => match us, hl with | [_, _], _ => rfl
  have M_House_same_as : Meth K C "same_as" f_House_same_as := ⟨a_House_same_as, i_House_same_as, k_House_same_as⟩
  have F__row := fun_mk (st := s__row) l__row c__row k__row
  have b__row := F__row.binds (ps := ["head", "numbers"]) fun _ _ _ _ _ _ us hl => match us, hl with | [_, _], _ => rfl
  have F_is_number := fun_mk (st := s_is_number) l_is_number c_is_number k_is_number
  have b_is_number := F_is_number.binds (ps := ["word"]) fun _ _ _ _ _ _ us hl => match us, hl with | [_], _ => rfl
  have F__numbers_of : FunC K "_numbers_of" "_numbers_of" s__numbers_of f__numbers_of c8__numbers_of _ := ⟨⟨_, _, _, _, _, _, _, _, rfl, l__numbers_of, c__numbers_of⟩, k__numbers_of⟩
  have b__numbers_of : Binds K _ ["words", "number"] [] := (fun_mk (st := s__numbers_of) l__numbers_of c__numbers_of k__numbers_of).binds (ps := ["words", "number"]) fun _ _ _ _ _ _ us hl => match us, hl with | [_, _], _ => rfl
  have F__numbers_in := fun_mk (st := s__numbers_in) l__numbers_in c__numbers_in k__numbers_in
  have b__numbers_in := F__numbers_in.binds (ps := ["lines", "number", "head"]) fun _ _ _ _ _ _ us hl => match us, hl with | [_, _, _], _ => rfl
  have F__house_of := fun_mk (st := s__house_of) l__house_of c__house_of k__house_of
  have b__house_of := F__house_of.binds (ps := ["lengths", "gaps", "number"]) fun _ _ _ _ _ _ us hl => match us, hl with | [_, _, _], _ => rfl
  have F__house_with_line := fun_mk (st := s__house_with_line) l__house_with_line c__house_with_line k__house_with_line
  have b__house_with_line := F__house_with_line.binds (ps := ["house", "lines", "number"]) fun _ _ _ _ _ _ us hl => match us, hl with | [_, _, _], _ => rfl
  have F_parse_house := fun_mk (st := s_parse_house) l_parse_house c_parse_house k_parse_house
  have b_parse_house := F_parse_house.binds (ps := ["text"]) fun _ _ _ _ _ _ us hl => match us, hl with | [_], _ => rfl
  have F_format_house := fun_mk (st := s_format_house) l_format_house c_format_house k_format_house
  have b_format_house := F_format_house.binds (ps := ["house"]) fun _ _ _ _ _ _ us hl => match us, hl with | [_], _ => rfl
  have F__law_told := fun_mk (st := s__law_told) l__law_told c__law_told k__law_told
  have b__law_told := F__law_told.binds (ps := ["text"]) fun _ _ _ _ _ _ us hl => match us, hl with | [_], _ => rfl
  have LT : LawTop mg := { int := z_int, len := z_len, sum := z_sum, max := z_max, range := z_range }
  have F__law_parts := fun_mk (st := s__law_parts) l__law_parts c__law_parts k__law_parts
  have b__law_parts := F__law_parts.binds (ps := ["numbers", "at"]) fun _ _ _ _ _ _ us hl => match us, hl with | [_, _], _ => rfl
  have t__law_parts : TopD l.prog w K mg base 1 "_law_parts" ["numbers", "at"] (spParts K) := ⟨f__law_parts, _, ok_parts F__law_parts LT, b__law_parts, PySem.W.mg_of X G a__law_parts, k__law_parts⟩
  have N : NoteTop mg := { str := z_str, len := z_len, all := z_all, int := z_int, range := z_range, digits := g_MOST_DIGITS }
  have U : NotTxt K mg CN f_iCN := { g := PySem.W.mg_of X G a_CN, o := o_CN, n := noCN, i := a_iCN, y := tiCN }
  have MkH : Mk K C f_House___init__ := ⟨mk_C, a_House___init__, i_House___init__, kc_C⟩
  have GJ : FnOk l.prog w K mg base (L2.CX l.prog w) 5 f_House___init__ _ ["self", "lengths", "gaps", "closed"] (spHouse K C CI TL TI) := ok_house F_House___init__ TBTI Y T UCI F_House_is_link b_House_is_link M_House_is_link F__are_long TBTL b__are_long (PySem.W.mg_of X G a__are_long) F__cross_heights b__cross_heights (PySem.W.mg_of X G a__cross_heights)
  have GI0 : FnOk l.prog w K mg base (L2N.CX l.prog w) 5 f_House___init__ _ ["self", "lengths", "gaps", "closed"] (spHouse K C CI TL TI) := ok_houseN F_House___init__ TBTI Y T UCI F_House_is_link b_House_is_link M_House_is_link F__are_long TBTL b__are_long (PySem.W.mg_of X G a__are_long) F__cross_heights b__cross_heights (PySem.W.mg_of X G a__cross_heights)
  let Z : MakeN l.prog w K mg base := { C := C, CI := CI, TL := TL, TI := TI, fI := f_House___init__, fdI := _, M := MkH, GI := GI0, GJ := GJ, bI := b_House___init__, mgC := PySem.W.mg_of X G a_C }
  have gLk := ok_link (P := l.prog) (w := w) (mg := mg) (base := base) F_House_is_link Y T
  have gWc := ok_wcX (P := l.prog) (w := w) (mg := mg) (base := base) F_House_with_closed Y Z T UCL UCTL gLk b_House_is_link M_House_is_link m_is_closed.G m_is_closed.b m_is_closed.m p_closed
  have m_same_as : MethD l.prog w K mg base C 4 "same_as" ["self", "other"] (spSameH C) := ⟨f_House_same_as, _, M_House_same_as, ok_sameH (P := l.prog) (w := w) (mg := mg) (base := base) F_House_same_as T p_lengths p_gaps p_closed, b_House_same_as⟩
  have gIN := ok_notinit (C := CN) (P := l.prog) (w := w) (mg := mg) (base := base) F_iCN
  have gIH := ok_notinitH (C := CN) (P := l.prog) (w := w) (mg := mg) (base := base) F_iCN
  have gRo := ok_rowL (P := l.prog) (w := w) (mg := mg) (base := base) F__row N
  have gNu := ok_isnum (P := l.prog) (w := w) (mg := mg) (base := base) F_is_number N
  have gNo := ok_nums (P := l.prog) (w := w) (mg := mg) (base := base) F__numbers_of N TBT0 U gIN b_iCN F_is_number gNu b_is_number (PySem.W.mg_of X G a_is_number)
  have gIn := ok_in (P := l.prog) (w := w) (mg := mg) (base := base) F__numbers_in N U gIN b_iCN k__numbers_of gNo b__numbers_of (PySem.W.mg_of X G a__numbers_of)
  have gHo := ok_hoX (P := l.prog) (w := w) (mg := mg) (base := base) F__house_of Z U (PySem.W.mg_of X G a_CI) eII gIH b_iCN
  have gHl := ok_hlX (P := l.prog) (w := w) (mg := mg) (base := base) F__house_with_line N T U gIN b_iCN (PySem.W.mg_of X G a_CL) (PySem.W.mg_of X G a_CTL) eTL eTT gIH k__numbers_in gIn b__numbers_in (PySem.W.mg_of X G a__numbers_in) M_House_with_closed gWc b_House_with_closed
  have gPh := ok_phX (P := l.prog) (w := w) (mg := mg) (base := base) F_parse_house N k__numbers_in gIn b__numbers_in (PySem.W.mg_of X G a__numbers_in) k__house_of gHo b__house_of (PySem.W.mg_of X G a__house_of) k__house_with_line gHl b__house_with_line (PySem.W.mg_of X G a__house_with_line)
  have t_format_house : TopD l.prog w K mg base 4 "format_house" ["house"] (spFH C) := ⟨f_format_house, _, ok_fh (P := l.prog) (w := w) (mg := mg) (base := base) F_format_house T k__row gRo b__row (PySem.W.mg_of X G a__row) p_lengths p_gaps p_closed, b_format_house, PySem.W.mg_of X G a_format_house, k_format_house⟩
  have t_parse_house : TopN l.prog w K mg base (L2.CX l.prog w) 10 "parse_house" ["text"] (spPHX C T0 TL TI CN) := ⟨f_parse_house, _, gPh, b_parse_house, PySem.W.mg_of X G a_parse_house, k_parse_house⟩
  have xC : ExcC K CN := { hg := gaCN, hk := ggCN, hs := sbCN, hd := dcCN, ha := acCN, hn := asCN, ht := atCN, hm := amCN }
  have t__law_told : TopD l.prog w K mg base 11 "_law_told" ["text"] (spTd0 T0 TL TI) := ⟨f__law_told, _, ok_told (P := l.prog) (w := w) (mg := mg) (base := base) F__law_told (PySem.W.mg_of X G a_CN) (PySem.W.mg_of X G a_CI) (PySem.W.mg_of X G a_Pe) z_isinstance z_bool (PySem.W.exm_ref sbCN dcCN tyCN ssCN) ⟨gaCN, ggCN, sbCN, dcCN⟩ noCN xC kNI kNP gPh b_parse_house (PySem.W.mg_of X G a_parse_house) k_parse_house, b__law_told, PySem.W.mg_of X G a__law_told, k__law_told⟩
  have F__law_spoilt := fun_mk (st := s__law_spoilt) l__law_spoilt c__law_spoilt k__law_spoilt
  have b__law_spoilt := F__law_spoilt.binds (ps := ["line", "at", "aisles", "top"]) fun _ _ _ _ _ _ us hl => match us, hl with | [_, _, _, _], _ => rfl
  have t__law_spoilt : TopD l.prog w K mg base 1 "_law_spoilt" ["line", "at", "aisles", "top"] (SpN (Rs__law_spoilt ) (P__law_spoilt ) (R__law_spoilt )) := ⟨f__law_spoilt, _, ok__law_spoilt (P := l.prog) (w := w) (mg := mg) (base := base) F__law_spoilt z_str, b__law_spoilt, PySem.W.mg_of X G a__law_spoilt, k__law_spoilt⟩
  exact ok_law C CI CN TL TI T0 f_House___init__ _ (P := l.prog) (w := w) (mg := mg) (base := base) F_law t__law_numbers t__law_parts MkH GJ b_House___init__ (PySem.W.mg_of X G a_C) t_format_house t__law_told z_len z_int z_sum t__law_spoilt t_parse_house T m_same_as
theorem tabB0 {base : Heap} {mg : Str → Option Value} {c P : Addr} (h : LamX.TabB base mg c P) : TabB base mg c P := ⟨h.code, h.bm, h.gP⟩
theorem tabG0 {H : Hp} {P : Addr} (h : H P = some (.tbl #[])) : TabG H P := ⟨#[], h, trivial⟩
theorem walk {l : PySem.W.OpenLaw} {q : Program} {loose : List Str} {XP : (Str → Option Value) → Heap → Prop} {YP : World → Heap → Prop} {d : DefRec} {K : Params → PySem.W.Frag} {c0 c1 c2 TI TL T0 : Addr}
    (hn : l.most = some 63) (hdf : d.params.defaults = []) (hY : ∀ (w : World) (h : Heap), YP w h → (K w.params).In h) (hT : ∀ (w : World) (h : Heap), YP w h → ∀ P ∈ [TI, TL, T0], h.get? P = some (PySem.W.tabObj #[]))
    (n0 : ∀ w : World, (K w.params).lookup TI = none) (e0 : ∀ w : World, PySem.W.codeHdIn (K w.params) c0 TI = true)
    (n1 : ∀ w : World, (K w.params).lookup TL = none) (e1 : ∀ w : World, PySem.W.codeHdIn (K w.params) c1 TL = true)
    (n2 : ∀ w : World, (K w.params).lookup T0 = none) (e2 : ∀ w : World, PySem.W.codeHdIn (K w.params) c2 T0 = true)
    (F : ∀ (w : World) (mg : Str → Option Value) (fa : Addr) (h : Heap), (K w.params).In h → h.Ns mainGlobals mg → mg d.name = some (.ref fa) →
      ∃ fd : FuncData, (∀ (s : Shared) (u : Value), BindsTo s fd ⟨[u], []⟩ [("script", u)]) ∧
        ∀ base : Heap, (K w.params).In base → base.Ns mainGlobals mg → TabB base mg c0 TI → TabB base mg c1 TL → TabB base mg c2 T0 → FnOk l.prog w (K w.params) mg base CX0 13 fa fd ["script"] (spLawT (K w.params) [T0, TL, TI])) :
    PySem.W.WalkO q loose XP YP l.row.toRowW d [] (fun f vs => PySem.call f vs) := by
  refine LamX.walk_ofTs (n := 63) (k := 13) (x := "script") (CX := fun _ => CX0) hn (by decide) hdf ⟨rfl, by decide, by decide⟩ hY (fun w mg fa h Y KX G hmg => ?_) (fun _ _ _ _ _ z => z)
  obtain ⟨fd, hb, hF⟩ := F w mg fa h KX G hmg
  refine ⟨fd, [(c0, TI), (c1, TL), (c2, T0)], spLawT (K w.params) [T0, TL, TI], fun p hp => ?_, fun p hp => ?_, fun p hp => ?_, hb, fun H a ns hl _ hS hq => ⟨a, ns, rfl, hq, hl, fun T hT => ?_, fun _ => rfl⟩, fun base b1 b2 T => hF base b1 b2 (tabB0 (T (c0, TI) (by simp))) (tabB0 (T (c1, TL) (by simp))) (tabB0 (T (c2, T0) (by simp)))⟩
  all_goals simp only [List.mem_cons, List.mem_nil_iff, or_false] at *
  · rcases hp with rfl | rfl | rfl
    · exact hT w h Y _ (by simp)
    · exact hT w h Y _ (by simp)
    · exact hT w h Y _ (by simp)
  · rcases hp with rfl | rfl | rfl
    · exact n0 w
    · exact n1 w
    · exact n2 w
  · rcases hp with rfl | rfl | rfl
    · exact PySem.W.codeHd_of_K KX (e0 w)
    · exact PySem.W.codeHd_of_K KX (e1 w)
    · exact PySem.W.codeHd_of_K KX (e2 w)
  · rcases hT with hT | hT | hT
    · rw [hT]; exact tabG0 (hS (c2, T0) (by simp))
    · rw [hT]; exact tabG0 (hS (c1, TL) (by simp))
    · rw [hT]; exact tabG0 (hS (c0, TI) (by simp))
end
end Pk
open PySem PySem.W PyProof.Rows
local macro_rules | `(tactic| o_head ($_ $k $a $e)) => `(tactic| o_head (kmHook $k $a $e [98, 248, 288]))
set_option maxRecDepth 100000 in
set_option maxHeartbeats 0 in
theorem PySem.Challenge.cw_pickaisle_k08_house_texts_refused_holds : PySem.Challenge.rw_pickaisle_k08_house_texts_refused.Holds := by
  w_on; o_law; k_head; (case hw => w_witness2)
  k_fill
  refine Pk.walk (l := PySem.Challenge.rw_pickaisle_k08_house_texts_refused) (c0 := 100) (c1 := 252) (c2 := 290) (TI := 98) (TL := 248) (T0 := 288) rfl rfl (fun w h Y => km_in_of Y) (fun w h Y P hP => km_tabs_of Y P (by simp only [List.mem_cons, List.not_mem_nil, or_false] at hP ⊢; omega)) (fun w => by kernel_rfl) (fun w => by kernel_rfl) (fun w => by kernel_rfl) (fun w => by kernel_rfl) (fun w => by kernel_rfl) (fun w => by kernel_rfl) ?F
  case F =>
    intro w mg fa h KX G hmg
    refine' Pk.all_mk KX G hmg ?z_str ?z_len ?z_all ?z_int ?z_range ?z_max ?z_sorted ?z_isinstance ?z_bool ?z_abs ?z_sum ?z_list ?a_C ?pg_C ?hd_C ?po_C ?sa_C ?mk_C ?kc_C ?nplengths ?npgaps ?npcrosses ?nptop ?npclosed ?a_CI ?kpCI ?sbCI ?tyCI ?exCI ?c_LONGEST ?c_MOST_STRETCHES ?c_MOST_GAPS ?c_MOST_CLOSED ?a_House___init__ ?i_House___init__ ?l_House___init__ ?c_House___init__ ?k_House___init__ ?a__are_long ?l__are_long ?c__are_long ?k__are_long ?a__cross_heights ?l__cross_heights ?c__cross_heights ?k__cross_heights ?a_House_is_link ?i_House_is_link ?l_House_is_link ?c_House_is_link ?k_House_is_link ?pa_House_lengths ?pg_House_lengths ?pt_House_lengths ?pr_House_lengths ?l_House_lengths ?c_House_lengths ?k_House_lengths ?pa_House_gaps ?pg_House_gaps ?pt_House_gaps ?pr_House_gaps ?l_House_gaps ?c_House_gaps ?k_House_gaps ?pa_House_closed ?pg_House_closed ?pt_House_closed ?pr_House_closed ?l_House_closed ?c_House_closed ?k_House_closed ?a_House_is_closed ?i_House_is_closed ?l_House_is_closed ?c_House_is_closed ?k_House_is_closed ?a_CL ?kpCL ?sbCL ?tyCL ?exCL ?a_CTL ?kpCTL ?sbCTL ?tyCTL ?exCTL ?a_CN ?kpCN ?sbCN ?tyCN ?a_Pe ?dcCN ?ssCN ?xlCN ?saCN ?noCN ?gaCN ?ggCN ?a_iCN ?tiCN ?l_iCN ?c_iCN ?k_iCN ?c_MOST_DIGITS ?a__law_row ?l__law_row ?c__law_row ?k__law_row ?a__law_numbers ?l__law_numbers ?c__law_numbers ?k__law_numbers ?acCN ?asCN ?atCN ?amCN ?kNI ?kNP ?eII ?eTL ?eTT ?a_House_with_closed ?i_House_with_closed ?l_House_with_closed ?c_House_with_closed ?k_House_with_closed ?a_House_same_as ?i_House_same_as ?l_House_same_as ?c_House_same_as ?k_House_same_as ?a__row ?l__row ?c__row ?k__row ?a_is_number ?l_is_number ?c_is_number ?k_is_number ?a__numbers_of ?l__numbers_of ?c__numbers_of ?k__numbers_of ?a__numbers_in ?l__numbers_in ?c__numbers_in ?k__numbers_in ?a__house_of ?l__house_of ?c__house_of ?k__house_of ?a__house_with_line ?l__house_with_line ?c__house_with_line ?k__house_with_line ?a_parse_house ?l_parse_house ?c_parse_house ?k_parse_house ?a_format_house ?l_format_house ?c_format_house ?k_format_house ?a__law_told ?l__law_told ?c__law_told ?k__law_told ?a__law_parts ?l__law_parts ?c__law_parts ?k__law_parts ?a__law_spoilt ?l__law_spoilt ?c__law_spoilt ?k__law_spoilt ?a_law ?l_law ?c_law ?k_law
    (case z_str => k_is)
    (case z_len => k_is)
    (case z_all => k_is)
    (case z_int => k_is)
    (case z_range => k_is)
    (case z_max => k_is)
    (case z_sorted => k_is)
    (case z_isinstance => k_is)
    (case z_bool => k_is)
    (case z_abs => k_is)
    (case z_sum => k_is)
    (case z_list => k_is)
    (case a_C => k_is)
    (case pg_C => k_is)
    (case hd_C => k_is)
    (case po_C => k_is)
    (case sa_C => k_is)
    (case mk_C => k_is)
    (case kc_C => k_is)
    (case nplengths => k_is)
    (case npgaps => k_is)
    (case npcrosses => k_is)
    (case nptop => k_is)
    (case npclosed => k_is)
    (case a_CI => k_is)
    (case kpCI => k_is)
    (case sbCI => k_is)
    (case tyCI => k_is)
    (case exCI => k_exc)
    (case c_LONGEST => k_is)
    (case c_MOST_STRETCHES => k_is)
    (case c_MOST_GAPS => k_is)
    (case c_MOST_CLOSED => k_is)
    (case a_House___init__ => k_is)
    (case i_House___init__ => k_is)
    (case l_House___init__ => k_is)
    (case c_House___init__ => k_is)
    (case k_House___init__ => k_is)
    (case a__are_long => k_is)
    (case l__are_long => k_is)
    (case c__are_long => k_is)
    (case k__are_long => k_is)
    (case a__cross_heights => k_is)
    (case l__cross_heights => k_is)
    (case c__cross_heights => k_is)
    (case k__cross_heights => k_is)
    (case a_House_is_link => k_is)
    (case i_House_is_link => k_is)
    (case l_House_is_link => k_is)
    (case c_House_is_link => k_is)
    (case k_House_is_link => k_is)
    (case pa_House_lengths => k_is)
    (case pg_House_lengths => k_is)
    (case pt_House_lengths => k_is)
    (case pr_House_lengths => k_is)
    (case l_House_lengths => k_is)
    (case c_House_lengths => k_is)
    (case k_House_lengths => k_is)
    (case pa_House_gaps => k_is)
    (case pg_House_gaps => k_is)
    (case pt_House_gaps => k_is)
    (case pr_House_gaps => k_is)
    (case l_House_gaps => k_is)
    (case c_House_gaps => k_is)
    (case k_House_gaps => k_is)
    (case pa_House_closed => k_is)
    (case pg_House_closed => k_is)
    (case pt_House_closed => k_is)
    (case pr_House_closed => k_is)
    (case l_House_closed => k_is)
    (case c_House_closed => k_is)
    (case k_House_closed => k_is)
    (case a_House_is_closed => k_is)
    (case i_House_is_closed => k_is)
    (case l_House_is_closed => k_is)
    (case c_House_is_closed => k_is)
    (case k_House_is_closed => k_is)
    (case a_CL => k_is)
    (case kpCL => k_is)
    (case sbCL => k_is)
    (case tyCL => k_is)
    (case exCL => k_exc)
    (case a_CTL => k_is)
    (case kpCTL => k_is)
    (case sbCTL => k_is)
    (case tyCTL => k_is)
    (case exCTL => k_exc)
    (case a_CN => k_is)
    (case kpCN => k_is)
    (case sbCN => k_is)
    (case tyCN => k_is)
    (case a_Pe => k_is)
    (case dcCN => k_is)
    (case ssCN => first | k_is | rfl)
    (case xlCN => k_is)
    (case saCN => k_is)
    (case noCN => k_is)
    (case gaCN => k_is)
    (case ggCN => k_is)
    (case a_iCN => k_is)
    (case tiCN => k_is)
    (case l_iCN => k_is)
    (case c_iCN => k_is)
    (case k_iCN => k_is)
    (case c_MOST_DIGITS => k_is)
    (case a__law_row => k_is)
    (case l__law_row => k_is)
    (case c__law_row => k_is)
    (case k__law_row => k_is)
    (case a__law_numbers => k_is)
    (case l__law_numbers => k_is)
    (case c__law_numbers => k_is)
    (case k__law_numbers => k_is)
    (case acCN => k_is)
    (case asCN => k_is)
    (case atCN => k_is)
    (case amCN => k_is)
    (case kNI => first | k_is | kernel_rfl)
    (case kNP => first | k_is | kernel_rfl)
    (case eII => first | k_is | kernel_rfl)
    (case eTL => first | k_is | kernel_rfl)
    (case eTT => first | k_is | kernel_rfl)
    (case a_House_with_closed => k_is)
    (case i_House_with_closed => k_is)
    (case l_House_with_closed => k_is)
    (case c_House_with_closed => k_is)
    (case k_House_with_closed => k_is)
    (case a_House_same_as => k_is)
    (case i_House_same_as => k_is)
    (case l_House_same_as => k_is)
    (case c_House_same_as => k_is)
    (case k_House_same_as => k_is)
    (case a__row => k_is)
    (case l__row => k_is)
    (case c__row => k_is)
    (case k__row => k_is)
    (case a_is_number => k_is)
    (case l_is_number => k_is)
    (case c_is_number => k_is)
    (case k_is_number => k_is)
    (case a__numbers_of => k_is)
    (case l__numbers_of => k_is)
    (case c__numbers_of => k_is)
    (case k__numbers_of => k_is)
    (case a__numbers_in => k_is)
    (case l__numbers_in => k_is)
    (case c__numbers_in => k_is)
    (case k__numbers_in => k_is)
    (case a__house_of => k_is)
    (case l__house_of => k_is)
    (case c__house_of => k_is)
    (case k__house_of => k_is)
    (case a__house_with_line => k_is)
    (case l__house_with_line => k_is)
    (case c__house_with_line => k_is)
    (case k__house_with_line => k_is)
    (case a_parse_house => k_is)
    (case l_parse_house => k_is)
    (case c_parse_house => k_is)
    (case k_parse_house => k_is)
    (case a_format_house => k_is)
    (case l_format_house => k_is)
    (case c_format_house => k_is)
    (case k_format_house => k_is)
    (case a__law_told => k_is)
    (case l__law_told => k_is)
    (case c__law_told => k_is)
    (case k__law_told => k_is)
    (case a__law_parts => k_is)
    (case l__law_parts => k_is)
    (case c__law_parts => k_is)
    (case k__law_parts => k_is)
    (case a__law_spoilt => k_is)
    (case l__law_spoilt => k_is)
    (case c__law_spoilt => k_is)
    (case k__law_spoilt => k_is)
    (case a_law => k_is)
    (case l_law => k_is)
    (case c_law => k_is)
    (case k_law => k_is)

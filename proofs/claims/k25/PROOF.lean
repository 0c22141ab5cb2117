import PyProof.Rows.All
import Wide.All
import OpenK.AllK
import Wide.FinOn
import KE.KExcIs
import KE.SortData
import KE.KNestM
import PyProof.StrBlock2
import HandS.ForMost
import HandS.Deep
import HandS.TupSets
import HandS.SortRule
import HandS.ForExc
import HandS.ExcInit
import HandS.ExcIs
import HandS.ExcField
import HandS.ExcValue
import HandS.ExcOwn
import HandS.Property
import HandS.CallSlots
import HandS.Style
import HandS.IsInst
import HandS.Codes
import HandS.TupLen
import HandS.Small
import HandS.EndTab
import KE.DataMinMax
import HandS.Dict
import HandS.DictComp
import HandS.Comp
import HandS.Conv
import HandS.Exc
import HandS.GenList
import HandS.Nested
import HandS.AnyAll
import HandS.TryOnly
import HandS.Words
import HandS.WordsExc
import HandS.SetFor
import HandS.Strs
import KE.KDictDisplayH
import HandS.Evl
import HandS.Iter
import KE.KItemsList
import HandS.ListItems
import PyProof.ReprBulk
import PyProof.ReprText
import PyProof.SetRoads
import HandS.Flow
import HandS.WrittenGet
import KE.DataCmp
import HandS.Gcd
import KE.LtData
import KE.KTupSum
import KE.DatumOrd
import HandS.SortKw
import HandS.TupAny
import KE.KEqDict
import HandS.DictEq
import HandS.DictTup
import KE.KDictWalk
import PyProof.Rows.TupTab
import KE.KeyNested
import KE.KDictKeyed
import PySem.Challenge.RW_pickaisle_k25_options
set_option Elab.async false
set_option linter.all false
set_option maxRecDepth 100000
set_option maxHeartbeats 8000000
namespace Pk
open PySem L2
/-- at a: an error of the class at D that is held; fs: its own attributes -/
def XvAt (H : Hp) (a D : Addr) (fs : List (Str × V)) : Prop :=
  (H a = some (ExO (.ref D) a) ∧ fs = []) ∨ ∃ d, H a = some (exo a D (some d)) ∧ H d = some (exd d fs)
theorem XvAt.same {H H' : Hp} {a D : Addr} {fs : List (Str × V)} (h : XvAt H a D fs) (k : Same H H') : XvAt H' a D fs := by
  rcases h with ⟨h, e⟩ | ⟨d, h, e⟩
  · exact .inl ⟨k _ _ h, e⟩
  · exact .inr ⟨d, k _ _ h, k _ _ e⟩
/-- __init__(self, v): self.f = v, of an own class of errors -/
def spXI (K : PySem.W.Frag) (C : Addr) (f : Str) : Sp := fun vs H Q _ => ∃ (a : Addr) (v : V), vs = [.ref a, v] ∧ OexC K C ∧ PySem.W.findIn K (.ref C) f = some none ∧ H a = some (exo a C none) ∧
  ∀ dx, H dx = none → dx ≠ a → Q .non (upd (upd H dx (exd dx [(f, v)])) a (exo a C (some dx)))
end Pk
namespace Pk
open PySem L2 PySem.Spec PyProof.Rows GenW GxR NdefX
/-- the generator's own frame -/
abbrev envG (X : Cx) (sc : Scope) (C : Addr) (cd : Value) : Env := genEnv sc (cloFrom X.env.cells sc.names []) C cd builtinsNs X.env
/-- and its surroundings; s0, H0: ahead of its frame; fp: the iterator's objects -/
abbrev cxG (X : Cx) (N : List Str) (sc : Scope) (B : Around) (s0 : Shared) (H0 : Hp) (cd : Value) (fp : List Addr) : Cx :=
  { X with
    A := B
    N := N
    s_0 := s0
    H_0 := H0
    env := envG X sc s0.heap.objs.size cd
    outer := X.stack
    stack := envG X sc s0.heap.objs.size cd :: X.stack
    ex := fp
    fn := fun _ => false
    calm := true
    pn := []
    xe := fun _ _ => False }
/-- what its scope must keep -/
structure GSc (env : Env) (sc : Scope) : Prop where
  kind : sc.kind = .function
  co : sc.isCoroutine = false
  cell : ∀ y ∈ sc.names, y.2 ≠ .cell
  dot : sc.names.lookup (".0" : Str) = some NameKind.local
  free : ∀ y ∈ sc.names, y.2 = .free → ∃ c, env.cells.lookup y.1 = some c
/-- the free names' slots: fr tells for each name its slot outside, none for an own one -/
def slotsG (fr : List (Option Nat)) (σ : L2.St) : L2.St := fr.map fun o => match o with
  | none => none
  | some j => (σ[j]?).join
structure GFr (X : Cx) (sc : Scope) (N : List Str) (fr : List (Option Nat)) : Prop where
  len : fr.length = N.length
  at_ : ∀ (i : Nat) (y : Str) (j : Nat), N[i]? = some y → fr[i]? = some (some j) → sc.names.lookup y = some .free ∧ X.N[j]? = some y ∧ (X.env.scope.names.lookup y = some .cell ∨ X.env.scope.names.lookup y = some .free)
theorem slotsG_some {fr : List (Option Nat)} {σ : L2.St} {i : Nat} {v : V} (h : (slotsG fr σ)[i]? = some (some v)) : ∃ j, fr[i]? = some (some j) ∧ σ[j]? = some (some v) := by
  unfold slotsG at h
  rw [List.getElem?_map] at h
  cases e : fr[i]? with
  | none => rw [e] at h; cases h
  | some o =>
    rw [e] at h
    cases o with
    | none => simp at h
    | some j =>
      refine ⟨j, rfl, ?_⟩
      have h2 : (σ[j]?).join = some v := by simpa using h
      cases q : σ[j]? with
      | none => rw [q] at h2; cases h2
      | some w => rw [q] at h2; cases w with
        | none => cases h2
        | some v' => cases h2; rfl
section
variable {X : Cx} {pins : List (Addr × Obj)} {σ : L2.St} {H : Hp} {s0 s5 : Shared}
/-- all stands that stood -/
theorem Inv.stood (I : Inv X pins σ H s0) (os : s5.os = s0.os) (k : ∀ b o, s0.heap.get? b = some o → s5.heap.get? b = some o) (hb : AllBare s5.gens) : Inv X pins σ H s5 :=
  I.call' (ch := []) os (Un.kept k) (I.hok.kept k) hb fun b z => absurd z (by simp)
theorem start_gen {N : List Str} {sc : Scope} {B : Around} {cd : Value} {fp : List Addr} {a : Addr} {o : Obj} {m : Str → Option Value}
    {fr : List (Option Nat)} (I : Inv X pins σ H s0) (S : GSc X.env sc) (FR : GFr X sc N fr) (hf : ∀ b ∈ fp, FpOk X pins H b ∧ b < s0.heap.objs.size) (hB : B.handled = none)
    (hfr : B.frames = some (envG X sc s0.heap.objs.size cd :: X.stack)) (os : s5.os = s0.os) (hb : AllBare s5.gens)
    (k : ∀ b u, s0.heap.get? b = some u → s5.heap.get? b = some u) (hn : s5.heap.Ns s0.heap.objs.size m)
    (ha : s0.heap.objs.size < a) (hao : s5.heap.get? a = some o) (hod : ∀ v, o.data ≠ .cell v) :
    Inv (cxG X N sc B s0 H cd fp) [(a, o)] (slotsG fr σ) H s5 := by
  have cm : ∀ {y c}, (cloFrom X.env.cells sc.names []).lookup y = some c → X.env.cells.lookup y = some c := fun {y c} e => clo_cm S.free e
  have nofs : ∀ b ∈ frs X.stack, b < s0.heap.objs.size := fun b hb => by
    rcases List.mem_cons.mp (I.stkSub b hb) with z | z
    · rw [z]; exact I.lt
    · obtain ⟨_, u, hu, _⟩ := I.funs.mem z
      exact Heap.lt_size hu
  refine ⟨⟨I.ok.mod, S.kind, I.ok.glob, rfl, Nat.le_refl _, fun y z c e1 e2 => I.ok.inj y z c (cm e1) (cm e2), fun y hy => ?_, fun y c z => ?_, fun _ => hB, hfr, .inr ⟨rfl, rfl⟩,
      fun b hb => ⟨Nat.ne_of_lt (hf b hb).2, fun y c e z => (hf b hb).1.2.2.2.2.1 y c (cm e) z⟩, I.bs, Nat.le_trans I.ok.bsz I.sz, fun b u e hb => ?_, fun b hb z => ?_, I.stack, I.stkFree⟩,
    os, hb, Un.kept k, ⟨m, hn, fun i y v h1 h2 => ?_⟩, fun y c e => ?_, I.hok.fresh (Nat.le_refl _), fun y c e => I.freeC y c (cm e), fun p hp => ?_, I.hok.kept k, ?_⟩
  · have hy : sc.names.lookup y = some .cell ∨ sc.names.lookup y = some .free := hy
    rcases hy with hy | hy
    · exact absurd rfl (S.cell _ (PySem.mem_of_lookup hy))
    · have hm := PySem.mem_of_lookup hy
      obtain ⟨c, hc⟩ := S.free _ hm rfl
      exact ⟨c, clo_has S.free hm hc⟩
  · exact absurd (show (false : Bool) = true from z) (by decide)
  · rcases (hf b hb).1.2.2.2.1 with z | z
    · exact I.ok.noex b u e z
    · exact absurd (Nat.lt_of_lt_of_le (Heap.lt_size e) (Nat.le_trans I.ok.bsz z)) (Nat.lt_irrefl _)
  · rcases List.mem_cons.mp (I.stkSub b z) with z | z
    · exact (hf b hb).1.2.1 z
    · exact (hf b hb).1.2.2.1 z
  · obtain ⟨j, e1, e2⟩ := slotsG_some h2
    obtain ⟨f1, f2, f3⟩ := FR.at_ i y j h1 e1
    obtain ⟨m0, _, hl⟩ := I.loc
    obtain ⟨u, r, lk⟩ := hl j y v f2 e2 (f3.elim (fun z => .inr (.inl z)) fun z => .inr (.inr z))
    refine fun _ => ⟨u, r, .inr ⟨.inr f1, ?_⟩⟩
    rcases lk with ⟨z, _⟩ | ⟨_, c, hc, hv⟩
    · have z : X.env.scope.names.lookup y = some .local := z
      rcases f3 with q | q <;> rw [q] at z <;> cases z
    · exact ⟨c, clo_has S.free (PySem.mem_of_lookup f1) hc, hv.keeps k⟩
  · obtain ⟨v, hv⟩ := I.cell y c (cm e)
    exact ⟨v, hv.keeps k⟩
  · have hp : p ∈ [(a, o)] := hp
    obtain rfl : p = (a, o) := by simpa using hp
    exact ⟨hao, I.hok.fresh (Nat.le_of_lt ha), Nat.ne_of_gt ha, fun z => absurd (Nat.lt_trans ha (nofs _ z)) (Nat.lt_irrefl _), hod⟩
  · show (slotsG fr σ).length = N.length
    unfold slotsG
    rw [List.length_map]
    exact FR.len
end
end Pk
namespace Pk
open PySem L2 PySem.Spec PyProof.Rows GenW GxR
/-- what it hands out; st: the answer at which the asker stops -/
def YG (Y : Cx) (pins : List (Addr × Obj)) (st : Bool) (Q : VK) : Protocol := fun _ _ v s kap =>
  ∃ σ' H' c, v = .bool c ∧ Inv Y pins σ' H' s ∧ (c = st → Q (.bl st) H') ∧
    (c ≠ st → ∀ s2 : Shared, s2.heap = s.heap → s2.os = s.os → AllBare s2.gens → kap (.send .none) s2)
def RG (Y : Cx) (pins : List (Addr × Obj)) (st : Bool) (Q : VK) : GenEnd := fun n s₀ r s₁ =>
  ((r = .ok (.ret .none) ∨ r = .ok .next) ∧ (fun (_ : Nat) (_ t : Shared) => ∃ σ' H', Inv Y pins σ' H' t ∧ Q (.bl (!st)) H') n s₀ s₁) ∨ ∃ e, r = .error e ∧ (fun (_ : Value) (_ : Shared) => False) e s₁
/-- the loop of the promise -/
def Turns (J : It) (g : TG) (te : TE) (st : Bool) (Q : VK) (W : Nat → Nat → L2.St → Hp → Prop) : Prop := ∀ i m σ H, W i m σ H →
  (J.stop i H ∧ Q (.bl (!st)) H) ∨ (J.go i H ∧ ∃ N : L2.St → Hp → Prop, (∀ σ' H', N σ' H' → ∃ m', m' < m ∧ W (i + 1) m' σ' H') ∧
    ∀ x H', J.yld i H x H' → g x σ H' fun σ2 H2 => te σ2 H2 fun y H3 => ∃ c, y = .bl c ∧ if c = st then Q (.bl st) H3 else N σ2 H3)
section
variable {Y : Cx} {A : Around} {tg elt iter : Expr} {sc : Scope} {pos : Pos} {it : Addr} {fp : List Addr} {tn : Nat → Heap → Prop} {J : It} {g : TG} {te : TE} {st : Bool} {Q : VK}
  {W : Nat → Nat → L2.St → Hp → Prop} {pins : List (Addr × Obj)}
theorem seg_turns (hc : Y.calm = true) (hco : Y.env.scope.isCoroutine = false)
    (hA : A.over (.compLoop (.GeneratorExp elt [⟨tg, iter, [], 0⟩] sc pos) 0 (.ref it) .none Y.env) [] = Y.A)
    (T : Turn Y.prog Y.w Y.K tg J fp it tn) (hg : PG Y tg g) (he : PE Y elt te) (hx : ∀ e s, Y.xe e s → False)
    (ff : ∀ b ∈ fp, ∀ H : Hp, H b = none → FpOk Y pins H b) (turn : Turns J g te st Q W) :
    ∀ (m n i : Nat) (σ : L2.St) (H : Hp) (s₀ s : Shared), m < n → Inv Y pins σ H s → tn i s.heap → (∀ b ∈ fp, H b = none) → W i m σ H →
      Seg (model Y.prog Y.w) A (RG Y pins st Q) (YG Y pins st Q) n s₀ (.compLoop (.GeneratorExp elt [⟨tg, iter, [], 0⟩] sc pos) 0 (.ref it) .none Y.env)
        ((model Y.prog Y.w).den (.compLoop (.GeneratorExp elt [⟨tg, iter, [], 0⟩] sc pos) 0 (.ref it) .none Y.env)) [] s := by
  intro m
  induction m using Nat.strongRecOn with
  | _ m ih =>
    intro n i σ H s₀ s hmn I ht hf hw
    have fpo : ∀ {H' : Hp}, (∀ b ∈ fp, H' b = none) → ∀ b ∈ fp, FpOk Y pins H' b := fun q b hb => ff b hb _ (q b hb)
    show Seg _ A _ _ n s₀ _ ((compTurn (.GeneratorExp elt [⟨tg, iter, [], 0⟩] sc pos) 0 (.ref it) .none Y.env).onRaise (leaving Y.env)) [] s
    rw [compTurn_gen, Sem.onRaise_eq_wrap]
    refine seg_bind_wrap (wpAny_standAt ?_)
    rcases turn i m σ H hw with ⟨hstop, q⟩ | ⟨go, N, hN, step⟩
    · refine seg_bind_wrap ?_
      rw [hA]
      refine wpAny_mono (T.done Y rfl rfl rfl hc i pins s σ H (fun _ _ => False) I (fpo hf) ht hstop) (fun r s4 h4 => ?_) fun _ _ e => e.elim
      obtain ⟨rfl, I4⟩ := h4
      exact seg_end (.ok .next) (.inl ⟨.inr rfl, σ, H, I4, q⟩)
    · refine seg_bind_wrap ?_
      rw [hA]
      refine wpAny_mono (T.item Y rfl rfl rfl hc i pins s σ H (fun _ _ => False) I (fpo hf) ht go) (fun r s4 h4 => ?_) fun _ _ e => e.elim
      obtain ⟨u, rfl, h4⟩ := h4
      refine seg_bind_wrap ?_
      rw [hA]
      refine wpAny_mono h4 (fun _ s5 h5 => ?_) fun _ _ e => e.elim
      obtain ⟨x, H5, I5, r5, y5, t5, f5⟩ := h5
      have I5' := I5.pinned (fpo f5) (T.obj _ _ t5)
      refine seg_bind_wrap ?_
      rw [hA]
      refine wpAny_mono (hg.run _ s5 σ H5 x u _ I5' r5 (step x H5 y5)) (fun _ s6 h6 => ?_) fun _ _ e => (hx _ _ e).elim
      obtain ⟨σ6, H6, I6, q6⟩ := h6
      simp only [List.forIn_nil]
      refine seg_bind_wrap (wpAny_pure ?_)
      simp only [if_true]
      have hy : ∀ v, yieldOut Y.env v = yieldValue v := fun v => by simp only [yieldOut, hco, Bool.false_eq_true, if_false]
      simp only [hy]
      rw [Sem.bind_eq_wrap', Sem.bind_eq_wrap', Sem.wrap_wrap, Sem.wrap_wrap]
      refine seg_wrap ?_
      rw [hA]
      refine wpAny_mono (he.run _ s6 σ6 H6 _ I6 q6) (fun y s7 h7 => ?_) fun _ _ e => (hx _ _ e).elim
      obtain ⟨v7, H7, I7, r7, c, rfl, q7⟩ := h7
      obtain rfl : y = .bool c := r7
      have J7 : Inv Y pins σ6 H7 s7 := I7.unpinned
      have t7 : tn (i + 1) s7.heap := T.keep _ _ _ t5 fun b hb o e => (I7.pin (b, o) (List.mem_append_right _ (List.mem_append_right _ (mem_pinsAt hb e)))).1
      have f7 : ∀ b ∈ fp, H7 b = none := fun b hb => by
        obtain ⟨o, e, _⟩ := T.obj _ _ t5 b hb
        exact (I7.pin (b, o) (List.mem_append_right _ (List.mem_append_right _ (mem_pinsAt hb e)))).2.1
      obtain ⟨k, rfl⟩ : ∃ k, n = k + 1 := ⟨n - 1, by omega⟩
      refine seg_at (seg_yield rfl rfl rfl ⟨σ6, H7, c, rfl, J7, fun e => ?_, fun e s2 eh eo eb => ?_⟩)
      · rw [if_pos e] at q7
        exact q7
      · rw [if_neg e] at q7
        obtain ⟨m', hm, w7⟩ := hN σ6 H7 q7
        exact seg_again rfl (ih m' hm k (i + 1) σ6 H7 s2 s2 (by omega) (Inv.stood J7 eo (fun b o z => by rw [eh]; exact z) eb) (by rw [eh]; exact t7) f7 w7)
/-- from its beginning -/
theorem seg_begins (hc : Y.calm = true) (hco : Y.env.scope.isCoroutine = false)
    (hA : A.over (.compLoop (.GeneratorExp elt [⟨tg, iter, [], 0⟩] sc pos) 0 (.ref it) .none Y.env) [] = Y.A)
    (T : Turn Y.prog Y.w Y.K tg J fp it tn) (hg : PG Y tg g) (he : PE Y elt te) (hx : ∀ e s, Y.xe e s → False)
    (ff : ∀ b ∈ fp, ∀ H : Hp, H b = none → FpOk Y pins H b) (turn : Turns J g te st Q W)
    (m n : Nat) (σ : L2.St) (H : Hp) (s₀ s : Shared) (hmn : m < n) (I : Inv Y pins σ H s) (ht : tn 0 s.heap) (hf : ∀ b ∈ fp, H b = none) (hw : W 0 m σ H) :
      Seg (model Y.prog Y.w) A (RG Y pins st Q) (YG Y pins st Q) n s₀ (.compStart (.GeneratorExp elt [⟨tg, iter, [], 0⟩] sc pos) 0 (.ref it) .none Y.env)
        ((model Y.prog Y.w).den (.compStart (.GeneratorExp elt [⟨tg, iter, [], 0⟩] sc pos) 0 (.ref it) .none Y.env)) [] s := by
  have rest := seg_turns hc hco hA T hg he hx ff turn m n 0 σ H s₀ s hmn I ht hf hw
  show Seg _ A _ _ n s₀ _ ((compStart (.GeneratorExp elt [⟨tg, iter, [], 0⟩] sc pos) 0 (.ref it) .none Y.env).onRaise (leaving Y.env)) [] s
  unfold compStart
  rw [Sem.onRaise_eq_wrap]
  show Seg _ A _ _ n s₀ _ ((ask >>= _).wrap _ _ _ _) [] s
  refine seg_bind_wrap (wpAny_askSetting ?_)
  split
  · exact seg_again rfl rest
  · refine seg_bind_wrap (wpAny_rule ?_)
    first
      | exact seg_bind_wrap (wpAny_standAt (seg_bind_wrap (T.self _ 0 s _ _ ht (seg_again rfl rest))))
      | (show Seg _ A _ _ n s₀ _ ((standAt iter.pos >>= _).wrap _ _ _ _) [] s
         exact seg_bind_wrap (wpAny_standAt (seg_bind_wrap (T.self _ 0 s _ _ ht (seg_again rfl rest)))))
end
end Pk
namespace Pk
open PySem L2 PySem.Spec PyProof.Rows GenW GxR
section
variable {Y : Cx} {A : Around} {st : Bool} {Q : VK} {pins : List (Addr × Obj)} {R : Result → Shared → Prop} {a : Addr} {g : Nat}
theorem all_asks (hh : A.handled = none) (hd : A.depth < recursionLimit) (hp : ∀ σ' H' t, Inv Y pins σ' H' t → t.heap.IsGen a g)
    (hend : ∀ σ' H' b t, Inv Y pins σ' H' t → Q (.bl b) H' → R (.ok (.ret (.bool b))) t) :
    ∀ (n : Nat) (s : Shared), s.heap.IsGen a g → s.heap.NoLimit →
      (∃ gs, s.gens[g]? = some gs ∧ gs.Goes (model Y.prog Y.w) A.in1.in1 (RG Y pins false Q) (YG Y pins false Q) n (.send .none) (s.setGen g .running)) →
      codeAny (model Y.prog Y.w) A (.builtin "all.loop" ⟨[.ref a], []⟩) R s := by
  intro n
  induction n with
  | zero =>
    intro s hg hl ⟨gs, hgs, hgo⟩
    refine codeAny_builtin F.entry_all_loop ?_
    rw [Around.under_plainId F.plain_all_loop _]
    show wpAny _ A.in1 (pyNext (.ref a) >>= _) _ _ s
    refine wpAny_bind (next_genG (A := A.in1) hh hl hd hg hgs hgo (fun v s₁ gs' hbare hv => ?_) (fun s₁ hf h' hk => ?_) fun e s₁ he => he.elim)
    · obtain ⟨σ', H', c, rfl, J, h1, h2⟩ := hv
      refine wpAny_bind (wpAny_holding (wpAny_truthy_bool ?_))
      refine wpAny_bind (wpAny_letGo ?_)
      cases c with
      | true => exact (h2 (by decide) _ rfl rfl J.bare).elim
      | false =>
        simp only [Bool.false_eq_true, if_false]
        refine wpAny_bind (wpAny_rule (wpAny_pure ?_))
        exact hend σ' H' false _ (Inv.stood (s5 := s₁.setGen g gs') J rfl (fun _ _ z => z) (allBare_setGen J.bare hbare)) (h1 rfl)
    · obtain ⟨σ', H', J, q⟩ := hf
      refine wpAny_bind (wpAny_rule (wpAny_pure ?_))
      exact hend σ' H' true _ (Inv.stood (s5 := { s₁.setGen g .finished with heap := h' }) J rfl hk (allBare_setGen J.bare rfl)) q
  | succ n ih =>
    intro s hg hl ⟨gs, hgs, hgo⟩
    have hgl : g < s.gens.size := (Array.getElem?_eq_some_iff.mp hgs).1
    refine codeAny_builtin F.entry_all_loop ?_
    rw [Around.under_plainId F.plain_all_loop _]
    show wpAny _ A.in1 (pyNext (.ref a) >>= _) _ _ s
    refine wpAny_bind (wpAny_gsz (n := g + 1) hgl (next_genG (A := A.in1) hh hl hd hg hgs hgo (fun v s₁ gs' hbare hv => ?_) (fun s₁ hf h' hk => ?_) fun e s₁ he => he.elim))
    · intro hsz
      obtain ⟨σ', H', c, rfl, J, h1, h2⟩ := hv
      have J2 : Inv Y pins σ' H' (s₁.setGen g gs') := Inv.stood J rfl (fun _ _ z => z) (allBare_setGen J.bare hbare)
      have hs1 : g < s₁.gens.size := by
        have q : (s₁.setGen g gs').gens.size = s₁.gens.size := setGen_size _ _ _
        have q2 : g + 1 ≤ (s₁.setGen g gs').gens.size := hsz
        omega
      refine wpAny_bind (wpAny_holding (wpAny_truthy_bool ?_))
      refine wpAny_bind (wpAny_letGo ?_)
      cases c with
      | true =>
        simp only [if_true]
        exact wpAny_pure ⟨plainId_quiet F.plain_all_loop _, ih _ (hp _ _ _ J2) J2.nolimit ⟨gs', setGen_at hs1, h2 (by decide) _ rfl rfl (allBare_setGen J2.bare rfl)⟩⟩
      | false =>
        simp only [Bool.false_eq_true, if_false]
        refine wpAny_bind (wpAny_rule (wpAny_pure ?_))
        exact hend σ' H' false _ J2 (h1 rfl)
    · intro hsz
      obtain ⟨σ', H', J, q⟩ := hf
      refine wpAny_bind (wpAny_rule (wpAny_pure ?_))
      exact hend σ' H' true _ (Inv.stood (s5 := { s₁.setGen g .finished with heap := h' }) J rfl hk (allBare_setGen J.bare rfl)) q
theorem any_asks (hh : A.handled = none) (hd : A.depth < recursionLimit) (hp : ∀ σ' H' t, Inv Y pins σ' H' t → t.heap.IsGen a g)
    (hend : ∀ σ' H' b t, Inv Y pins σ' H' t → Q (.bl b) H' → R (.ok (.ret (.bool b))) t) :
    ∀ (n : Nat) (s : Shared), s.heap.IsGen a g → s.heap.NoLimit →
      (∃ gs, s.gens[g]? = some gs ∧ gs.Goes (model Y.prog Y.w) A.in1.in1 (RG Y pins true Q) (YG Y pins true Q) n (.send .none) (s.setGen g .running)) →
      codeAny (model Y.prog Y.w) A (.builtin "any.loop" ⟨[.ref a], []⟩) R s := by
  intro n
  induction n with
  | zero =>
    intro s hg hl ⟨gs, hgs, hgo⟩
    refine codeAny_builtin F.entry_any_loop ?_
    rw [Around.under_plainId F.plain_any_loop _]
    show wpAny _ A.in1 (pyNext (.ref a) >>= _) _ _ s
    refine wpAny_bind (next_genG (A := A.in1) hh hl hd hg hgs hgo (fun v s₁ gs' hbare hv => ?_) (fun s₁ hf h' hk => ?_) fun e s₁ he => he.elim)
    · obtain ⟨σ', H', c, rfl, J, h1, h2⟩ := hv
      refine wpAny_bind (wpAny_holding (wpAny_truthy_bool ?_))
      refine wpAny_bind (wpAny_letGo ?_)
      cases c with
      | false => exact (h2 (by decide) _ rfl rfl J.bare).elim
      | true =>
        simp only [if_true]
        refine wpAny_bind (wpAny_rule (wpAny_pure ?_))
        exact hend σ' H' true _ (Inv.stood (s5 := s₁.setGen g gs') J rfl (fun _ _ z => z) (allBare_setGen J.bare hbare)) (h1 rfl)
    · obtain ⟨σ', H', J, q⟩ := hf
      refine wpAny_bind (wpAny_rule (wpAny_pure ?_))
      exact hend σ' H' false _ (Inv.stood (s5 := { s₁.setGen g .finished with heap := h' }) J rfl hk (allBare_setGen J.bare rfl)) q
  | succ n ih =>
    intro s hg hl ⟨gs, hgs, hgo⟩
    have hgl : g < s.gens.size := (Array.getElem?_eq_some_iff.mp hgs).1
    refine codeAny_builtin F.entry_any_loop ?_
    rw [Around.under_plainId F.plain_any_loop _]
    show wpAny _ A.in1 (pyNext (.ref a) >>= _) _ _ s
    refine wpAny_bind (wpAny_gsz (n := g + 1) hgl (next_genG (A := A.in1) hh hl hd hg hgs hgo (fun v s₁ gs' hbare hv => ?_) (fun s₁ hf h' hk => ?_) fun e s₁ he => he.elim))
    · intro hsz
      obtain ⟨σ', H', c, rfl, J, h1, h2⟩ := hv
      have J2 : Inv Y pins σ' H' (s₁.setGen g gs') := Inv.stood J rfl (fun _ _ z => z) (allBare_setGen J.bare hbare)
      have hs1 : g < s₁.gens.size := by
        have q : (s₁.setGen g gs').gens.size = s₁.gens.size := setGen_size _ _ _
        have q2 : g + 1 ≤ (s₁.setGen g gs').gens.size := hsz
        omega
      refine wpAny_bind (wpAny_holding (wpAny_truthy_bool ?_))
      refine wpAny_bind (wpAny_letGo ?_)
      cases c with
      | false =>
        simp only [Bool.false_eq_true, if_false]
        exact wpAny_pure ⟨plainId_quiet F.plain_any_loop _, ih _ (hp _ _ _ J2) J2.nolimit ⟨gs', setGen_at hs1, h2 (by decide) _ rfl rfl (allBare_setGen J2.bare rfl)⟩⟩
      | true =>
        simp only [if_true]
        refine wpAny_bind (wpAny_rule (wpAny_pure ?_))
        exact hend σ' H' true _ J2 (h1 rfl)
    · intro hsz
      obtain ⟨σ', H', J, q⟩ := hf
      refine wpAny_bind (wpAny_rule (wpAny_pure ?_))
      exact hend σ' H' false _ (Inv.stood (s5 := { s₁.setGen g .finished with heap := h' }) J rfl hk (allBare_setGen J.bare rfl)) q
end
end Pk
namespace Pk
open PySem L2 PySem.Spec PyProof.Rows GenW GxR NdefX
/-- where the generator's code runs, asked from A -/
abbrev arG (A : Around) (tg elt iter : Expr) (sc : Scope) (pos : Pos) (it : Addr) (env : Env) : Around :=
  A.in1.in1.over (.compLoop (.GeneratorExp elt [⟨tg, iter, [], 0⟩] sc pos) 0 (.ref it) .none env) []
theorem arG_frames {A : Around} {tg elt iter : Expr} {sc : Scope} {pos : Pos} {it : Addr} {env : Env} {l : List Env} (h : A.frames = some l) : (arG A tg elt iter sc pos it env).frames = some (env :: l) := by
  obtain ⟨hd, d, f, gs, u⟩ := A
  obtain rfl : f = some l := h
  rfl
theorem arG_room {k : Nat} {A : Around} {tg elt iter : Expr} {sc : Scope} {pos : Pos} {it : Addr} {env : Env} (r : Room (k + 1) A) : Room k (arG A tg elt iter sc pos it env) :=
  ⟨r.hd, by have := r.dp; show A.depth + 0 + 1 + 3 * k + 5 < _; omega, by have := r.un; show A.units + 1 + 1 + 0 + 3 + 16 * k + 200 < _; omega⟩
/-- a generator stands at a and has handed out nothing -/
def GReady (X : Cx) (pins : List (Addr × Obj)) (σ : L2.St) (N : List Str) (sc : Scope) (st : Bool) (Q : VK) (a : Addr) (s5 : Shared) : Prop :=
  ∃ (g : Nat) (B : Around) (s0 : Shared) (H0 : Hp) (cd : Value) (fp : List Addr) (ps : List (Addr × Obj)) (n : Nat),
    s5.heap.IsGen a g ∧ s5.heap.NoLimit ∧ (∀ σ' H' t, Inv (cxG X N sc B s0 H0 cd fp) ps σ' H' t → t.heap.IsGen a g) ∧
    (∀ σ' H' t, Inv (cxG X N sc B s0 H0 cd fp) ps σ' H' t → Inv X pins σ H' t) ∧
    ∃ gs, s5.gens[g]? = some gs ∧ gs.Goes (model X.prog X.w) X.A.in1.in1 (RG (cxG X N sc B s0 H0 cd fp) ps st Q) (YG (cxG X N sc B s0 H0 cd fp) ps st Q) n (.send .none) (s5.setGen g .running)
/-- the answer: the element's readings, one after another -/
def tAns (st : Bool) (te : TE) : TS := fun D σ H => te σ H fun y H3 => ∃ c, y = .bl c ∧ if c = st then D.rt (.bl st) H3 else D.nx σ H3
def tGen (P : Addr) (fr : List (Option Nat)) (wi : TI) (g : TG) (te : TE) (st : Bool) : TE := fun σ H Q => wi σ H fun J H1 => TabG H1 P ∧ ∀ H2, Tabbed P H1 H2 →
  ∃ W : Nat → Nat → L2.St → Hp → Prop, (∃ m, W 0 m (slotsG fr σ) H2) ∧ ∀ i m σ H, W i m σ H →
    (J.stop i H ∧ (Ends.mk (fun _ H' => Q (.bl (!st)) H') Q (fun _ _ => False) (fun _ _ => False)).nx σ H) ∨ (J.go i H ∧ ∃ N : L2.St → Hp → Prop, (∀ σ' H', N σ' H' → ∃ m', m' < m ∧ W (i + 1) m' σ' H') ∧
      ∀ x H', J.yld i H x H' → g x σ H' fun σ2 H2 => tAns st te { (Ends.mk (fun _ H' => Q (.bl (!st)) H') Q (fun _ _ => False) (fun _ _ => False)) with nx := N, ct := N, bk := fun _ H' => Q (.bl (!st)) H' } σ2 H2)
section
variable {X : Cx} {pins : List (Addr × Obj)} {σ : L2.St} {H : Hp} {s : Shared}
theorem make_gen {c P : Addr} {tg elt iter : Expr} {gpos : Pos} {sc : Scope} {N : List Str} {fr : List (Option Nat)} {wi : TI} {g : TG} {te : TE} {k : Nat} {st : Bool} {Q : VK} {Q' : Value → Shared → Prop}
    (hr : Room (k + 1) X.A) (TB : TabB X.base X.mg c P) (hcode : X.env.code = .ref c) (S : GSc X.env sc) (FR : GFr X sc N fr) (hi : PI X tg iter wi)
    (hb : ∀ (B : Around) (s0 : Shared) (H0 : Hp) (cd : Value) (fp : List Addr), Room k B → PG (cxG X N sc B s0 H0 cd fp) tg g ∧ PE (cxG X N sc B s0 H0 cd fp) elt te)
    (hs : ∀ v, genFold iter X.env v = pure v) (I : Inv X pins σ H s) (h : tGen P fr wi g te st σ H Q)
    (hQ : ∀ a s5, GReady X pins σ N sc st Q a s5 → Q' (.ref a) s5) :
    wpAny (model X.prog X.w) X.A (eval (.GeneratorExp elt [⟨tg, iter, [], 0⟩] sc gpos) X.env) Q' X.xe s := by
  refine wpAny_GeneratorExp_make S.co (closure_ok S.free) S.cell S.dot S.kind (by have := hr.dp; omega) ?_ hs
  refine thn (hi.run pins s σ H _ I h) fun xv s1 h1 => thn h1 fun itv s2 h2 => ?_
  obtain ⟨it, fp, tn, J, H2, rfl, I2, T, t2, f2, ⟨ps, hP, htr⟩, hW⟩ := h2
  have hPs : s2.heap.get? P = some { cls := .none, data := .fields ps } := I2.hok P _ hP
  have cd : PySem.W.CodeHd s2.heap c P := TB.code.keeps fun b u e => I2.bk b u e
  refine ⟨I2.nolimit, ?_⟩
  have cont : ∀ (code : Value) (h3 : Heap) (tk : Nat) (ps' : Array Value), Heap.ExtBut P s2.heap h3 → s2.heap.objs.size ≤ h3.objs.size → h3.get? P = some { cls := .none, data := .fields ps' } → (∃ more, ps' = ps ++ more) → TriplesOk ps'.toList →
      wpAny (model X.prog X.w) X.A (builtinsFor X.env.globals X.env.builtins) (fun bi s₄ => ∀ h', h'.Ns s₄.heap.objs.size (fun y => if y = ".0" then some (Value.ref it) else none) →
        Heap.SameBut s₄.heap.objs.size (s₄.heap.push { cls := .type "frame", data := .dict #[] }) h' →
          Q' (.ref h'.objs.size) { s₄ with
            gens := s₄.gens.push (.fresh (.compStart (.GeneratorExp elt [⟨tg, iter, [], 0⟩] sc gpos) 0 (.ref it) .none (genEnv sc (cloFrom X.env.cells sc.names []) s₄.heap.objs.size code bi X.env))),
            toks := s₄.toks + 1 + 1 + 1,
            heap := h'.push { cls := .type "generator", data := .fields #[.int s₄.gens.size 0, .str "<genexpr>" (s₄.toks + 1), .str (X.env.qual ++ "<genexpr>") (s₄.toks + 1 + 1)] } }) X.xe { s2 with heap := h3, toks := tk } := by
    intro code h3 tk ps' hx3 hsz hP3 hmore ht3
    obtain ⟨more, rfl⟩ := hmore
    obtain ⟨bm, ob, e1, e2, e3, e4, e5, e6, e7, e8⟩ := TB.bm
    have keep3 : ∀ b u, b ≠ P → s2.heap.get? b = some u → h3.get? b = some u := fun b u z e => hx3 b u z e
    have I3 : Inv X pins σ (upd H2 P (.tbl (ps ++ more))) { s2 with heap := h3, toks := tk } := inv_tab (g' := s2.gens) (d' := s2.drawn) I2 hP keep3 hP3 I2.bare
    have TT : Tabbed P H2 (upd H2 P (.tbl (ps ++ more))) := ⟨⟨ps ++ more, upd_same, ht3⟩, fun b z => upd_ne z⟩
    refine wpAny_builtinsFor (m := X.mg) (by rw [I3.ok.glob]; exact I3.mod.glob.keeps I3.bk) e1 e2 (I3.bk _ _ e5) e6 e7 e8 ?_
    intro h' hn' hs'
    -- the new frame at C, the generator behind it
    have sz' : h'.objs.size = h3.objs.size + 1 := by rw [hs'.1, Heap.size_push]
    have keep' : ∀ b u, h3.get? b = some u → h'.get? b = some u := fun b u e => hs'.extBut b u (Nat.ne_of_lt (Heap.lt_size e)) (Heap.get?_push_of_some _ e)
    obtain ⟨W, ⟨m0, w0⟩, turn⟩ := hW _ TT
    have neP : ∀ b ∈ fp, b ≠ P := fun b hb z => by
      have q := (f2 b hb).1
      rw [z, hP] at q
      cases q
    have ltC : ∀ b ∈ fp, b < h3.objs.size := fun b hb => by
      obtain ⟨u, hu, _⟩ := T.obj _ _ t2 b hb
      exact Nat.lt_of_lt_of_le (Heap.lt_size hu) hsz
    have f3 : ∀ b ∈ fp, FpOk X pins (upd H2 P (.tbl (ps ++ more))) b := fun b hb => ⟨by rw [upd_ne (neP b hb)]; exact (f2 b hb).1, (f2 b hb).2⟩
    have aC : h3.objs.size < h'.objs.size := by rw [sz']; exact Nat.lt_succ_self _
    generalize hgo : ({ cls := .type "generator", data := .fields #[.int s2.gens.size 0, .str "<genexpr>" (tk + 1), .str (X.env.qual ++ "<genexpr>") (tk + 1 + 1)] } : Obj) = genO
    have isg : ∀ {h : Heap}, h.get? h'.objs.size = some genO → h.IsGen h'.objs.size s2.gens.size := fun {h} e => by
      subst hgo
      exact ⟨_, _, _, e, rfl, rfl, rfl⟩
    have atA : (h'.push genO).get? h'.objs.size = some genO := Heap.get?_push_size _ (by subst hgo; rfl)
    have keep5 : ∀ b u, h3.get? b = some u → (h'.push genO).get? b = some u := fun b u e => Heap.get?_push_of_some _ (keep' b u e)
    let B : Around := arG X.A tg elt iter sc gpos it (envG X sc h3.objs.size code)
    have rB : Room k B := arG_room hr
    have nofs : ∀ b ∈ fp, b ∉ frs X.stack := fun b hb z => by
      rcases List.mem_cons.mp (I3.stkSub b z) with q | q
      · exact (f2 b hb).2.1 q
      · exact (f2 b hb).2.2.1 q
    refine hQ _ _ ⟨s2.gens.size, B, { s2 with heap := h3, toks := tk }, upd H2 P (.tbl (ps ++ more)), code, fp, [(h'.objs.size, genO)], m0 + 1, isg atA, I3.nolimit.keeps keep5,
      fun σ' H' t J => isg (J.pin (h'.objs.size, genO) (by simp)).1, fun σ' H' t J => ?_, _, Array.getElem?_push_size .., rfl, ?_⟩
    · exact I3.call' (ch := fp) J.os J.base J.hok J.bare fun b hb => ⟨(f2 b hb).2.2.2.1, (f2 b hb).2.1, (f2 b hb).2.2.2.2.1, (f2 b hb).2.2.2.2.2⟩
    · have I5 := start_gen (N := N) (B := B) (cd := code) (fp := fp) (a := h'.objs.size) (o := genO) I3 S FR (fun b hb => ⟨f3 b hb, ltC b hb⟩) rB.hd (arG_frames I3.ok.frames)
        (s5 := { s2 with gens := s2.gens.push (.fresh (.compStart (.GeneratorExp elt [⟨tg, iter, [], 0⟩] sc gpos) 0 (.ref it) .none (envG X sc h3.objs.size code))), toks := tk + 1 + 1 + 1, heap := h'.push genO })
        rfl (I3.bare.push rfl) keep5 (hn'.push _) aC atA (by subst hgo; intro v z; cases z)
      have I6 := Inv.stood (s5 := Shared.setGen { s2 with gens := s2.gens.push (.fresh (.compStart (.GeneratorExp elt [⟨tg, iter, [], 0⟩] sc gpos) 0 (.ref it) .none (envG X sc h3.objs.size code))), toks := tk + 1 + 1 + 1, heap := h'.push genO } s2.gens.size .running) I5 rfl (fun _ _ e => e) (allBare_setGen I5.bare rfl)
      have hb' := hb B { s2 with heap := h3, toks := tk } (upd H2 P (.tbl (ps ++ more))) code fp rB
      refine seg_begins (Y := cxG X N sc B { s2 with heap := h3, toks := tk } (upd H2 P (.tbl (ps ++ more))) code fp) (A := X.A.in1.in1) (tn := tn) (J := J) rfl S.co rfl T hb'.1 hb'.2 (fun _ _ e => e)
        (fun b hb H' hn => ⟨hn, Nat.ne_of_lt (ltC b hb), nofs b hb, .inl hb, fun y e he => (f2 b hb).2.2.2.2.1 y e (clo_cm S.free he), fun p hp => ?_⟩) turn m0 (m0 + 1) _ _ _ _ (Nat.lt_succ_self _) I6
        (T.keep 0 _ _ t2 fun b hb o e => keep5 b o (keep3 b o (neP b hb) e)) (fun b hb => (f3 b hb).1) w0
      have hp : p ∈ [(h'.objs.size, genO)] := hp
      obtain rfl : p = (h'.objs.size, genO) := by simpa using hp
      exact Nat.ne_of_gt (Nat.lt_trans (ltC b hb) aC)
  cases hf : codeAmong gpos ps.toList with
  | none =>
    refine wpAny_genexprCodeX hcode (cd.code hPs htr) (cd.tab hPs) hf fun c' h' tk hx hge hlt hco' _ htab' _ => ?_
    obtain ⟨o1, vs, f1, tf, fl, tg', inF, tx, tt, op, _, _, _, _, _, _, _, _, _, htr', _⟩ := hco'
    exact cont _ h' tk _ hx (Nat.le_trans hge (Nat.le_of_lt hlt)) htab'.2 ⟨_, rfl⟩ htr'
  | some cv =>
    refine wpAny_genexprCode_hit hcode (cd.code hPs htr) hf ?_
    exact cont cv s2.heap s2.toks ps (Heap.ExtBut.refl _ _) (Nat.le_refl _) hPs ⟨#[], by simp⟩ htr
theorem pe_allG {c P : Addr} {tg elt iter : Expr} {p pos gpos : Pos} {sc : Scope} {N : List Str} {fr : List (Option Nat)} {wi : TI} {g : TG} {te : TE} {k : Nat}
    (hr : Room (k + 1) X.A) (hg : Gl X "all") (hm : X.mg "all" = none) (hbt : bootBuiltins "all" = some (.builtin "all")) (TB : TabB X.base X.mg c P) (hcode : X.env.code = .ref c) (S : GSc X.env sc) (FR : GFr X sc N fr) (hi : PI X tg iter wi)
    (hb : ∀ (B : Around) (s0 : Shared) (H0 : Hp) (cd : Value) (fp : List Addr), Room k B → PG (cxG X N sc B s0 H0 cd fp) tg g ∧ PE (cxG X N sc B s0 H0 cd fp) elt te)
    (hs : ∀ v, genFold iter X.env v = pure v)
    (he : starEach [.GeneratorExp elt [⟨tg, iter, [], 0⟩] sc gpos] X.env = (false, eval (.GeneratorExp elt [⟨tg, iter, [], 0⟩] sc gpos) X.env) :: starEach [] X.env := by rfl) :
    PE X (.Call (.Name "all" p) [.GeneratorExp elt [⟨tg, iter, [], 0⟩] sc gpos] [] pos) (tGen P fr wi g te false) := by
  refine ⟨fun pins s σ H Q I h => ?_⟩
  refine wpAny_Call_Name_kw (ld_blt I hg hm hbt ?_)
  refine PyProof.Rows.callWith_builtin1 ?_ he (by rfl)
  rw [he]
  show wpAny _ X.A (spliced ((false, eval (.GeneratorExp elt [⟨tg, iter, [], 0⟩] sc gpos) X.env) :: backTo pos (starEach [] X.env))) _ _ s
  refine Calls.spliced_cons (make_gen hr TB hcode S FR hi hb hs I h fun a s5 hG => ?_)
  refine Calls.spliced_nil ?_
  obtain ⟨n, B, s0, H0, cd, fp, ps, m, q1, q2, q3, q4, q5⟩ := hG
  refine call_function_tree F.kind_all F.plain_all F.entry_all (F.args_all1 _) ?_
  unfold Builtin.«all»
  refine wpAny_bind (m := oneArg "all" _) (wpAny_pure ?_)
  refine wpAny_bind (wpAny_pyIter_gen q1 ?_)
  refine wpAny_pure ⟨plainId_quiet F.plain_all_loop _, ?_⟩
  exact all_asks (Y := cxG X N sc B s0 H0 cd fp) hr.hd (by have := hr.dp; omega) q3 (fun σ' H' b t J q => ⟨.bl b, H', q4 σ' H' t J, rfl, q⟩) m s5 q1 q2 q5
theorem pe_anyG {c P : Addr} {tg elt iter : Expr} {p pos gpos : Pos} {sc : Scope} {N : List Str} {fr : List (Option Nat)} {wi : TI} {g : TG} {te : TE} {k : Nat}
    (hr : Room (k + 1) X.A) (hg : Gl X "any") (hm : X.mg "any" = none) (hbt : bootBuiltins "any" = some (.builtin "any")) (TB : TabB X.base X.mg c P) (hcode : X.env.code = .ref c) (S : GSc X.env sc) (FR : GFr X sc N fr) (hi : PI X tg iter wi)
    (hb : ∀ (B : Around) (s0 : Shared) (H0 : Hp) (cd : Value) (fp : List Addr), Room k B → PG (cxG X N sc B s0 H0 cd fp) tg g ∧ PE (cxG X N sc B s0 H0 cd fp) elt te)
    (hs : ∀ v, genFold iter X.env v = pure v)
    (he : starEach [.GeneratorExp elt [⟨tg, iter, [], 0⟩] sc gpos] X.env = (false, eval (.GeneratorExp elt [⟨tg, iter, [], 0⟩] sc gpos) X.env) :: starEach [] X.env := by rfl) :
    PE X (.Call (.Name "any" p) [.GeneratorExp elt [⟨tg, iter, [], 0⟩] sc gpos] [] pos) (tGen P fr wi g te true) := by
  refine ⟨fun pins s σ H Q I h => ?_⟩
  refine wpAny_Call_Name_kw (ld_blt I hg hm hbt ?_)
  refine PyProof.Rows.callWith_builtin1 ?_ he (by rfl)
  rw [he]
  show wpAny _ X.A (spliced ((false, eval (.GeneratorExp elt [⟨tg, iter, [], 0⟩] sc gpos) X.env) :: backTo pos (starEach [] X.env))) _ _ s
  refine Calls.spliced_cons (make_gen hr TB hcode S FR hi hb hs I h fun a s5 hG => ?_)
  refine Calls.spliced_nil ?_
  obtain ⟨n, B, s0, H0, cd, fp, ps, m, q1, q2, q3, q4, q5⟩ := hG
  refine call_function_tree F.kind_any F.plain_any F.entry_any (F.args_any1 _) ?_
  unfold Builtin.«any»
  refine wpAny_bind (m := oneArg "any" _) (wpAny_pure ?_)
  refine wpAny_bind (wpAny_pyIter_gen q1 ?_)
  refine wpAny_pure ⟨plainId_quiet F.plain_any_loop _, ?_⟩
  exact any_asks (Y := cxG X N sc B s0 H0 cd fp) hr.hd (by have := hr.dp; omega) q3 (fun σ' H' b t J q => ⟨.bl b, H', q4 σ' H' t J, rfl, q⟩) m s5 q1 q2 q5
end
end Pk
namespace Pk
open PySem L2 PySem.Spec PyProof.Rows
section
variable {X : Cx} {pins : List (Addr × Obj)} {σ : L2.St} {H : Hp} {s : Shared}
/-- an entry is laid under a tuple -/
theorem lay_entry {A : Around} {E : Value → Shared → Prop} {D b : Addr} {kvs : List (List Key × V)} {k : List Key} {v : V} {r : Value} {Q : Unit → Shared → Prop}
    (hu : A.units < cLine) (I : Inv X pins σ H s) (hD : H D = some (.dT kvs)) (hb : H b = some (.tup (k.map kV))) (hl : kvs.length < sizeLine) (rv : RelV v r)
    (h : ∀ s', Inv X pins σ (upd H D (.dT (putK kvs k v))) s' → Q () s') : wpAny (model X.prog X.w) A (dictSet D (.ref b) r) Q E s := by
  obtain ⟨le, nd, xs, rel, dd⟩ := dt_of I.hok hD
  have small : xs.length ≤ sizeLine := by rw [← Paired.length rel]; exact le
  have small2 : (putK kvs k v).length ≤ sizeLine := by
    have q := length_putK kvs k v
    omega
  refine wpAny_dictSet_heap (hsz := small) (show (tupleKind (mixKind X.prog X.w)).room A from hu) (key_of I.hok hb) dd fun h2 dd2 same => h _ ?_
  obtain ⟨o, es, ep, ho, p2, p3, p4, _, p5⟩ := dd2
  refine d_write I (by rw [hD]; exact True.intro) same ⟨o, ho⟩ ⟨small2, nd, _, (rel.put k hb rv).keeps fun c ys ec => ?_, o, es, ep, ho, p2, p3, p4, p5⟩
  have cD : c ≠ D := ne_of ec hD fun z => nomatch z
  rw [upd_ne cD]
  exact ec
/-- D: the new dict -/
def tDcT (wi : TI) (g : TG) (tk tv : TE) (vs : List Nat) : TE := fun σ H Q => wi σ H fun J H1 => ∀ D, H1 D = none → ∃ W : Nat → Nat → Hp → Prop, (∃ m, W 0 m (upd H1 D (.dT []))) ∧ ∀ i m H, W i m H →
  (J.stop i H ∧ Q (.ref D) H) ∨ (J.go i H ∧ ∃ Nx : Hp → Prop, (∀ H', Nx H' → ∃ m', m' < m ∧ W (i + 1) m' H') ∧
    ∀ x H', J.yld i H x H' → g x (wipe σ vs) H' fun σ2 H2 => wipe σ2 vs = wipe σ vs ∧ tk σ2 H2 fun y H4 => tv σ2 H4 fun z H5 =>
      ∃ b kvs k, y = .ref b ∧ H5 b = some (.tup (k.map kV)) ∧ H5 D = some (.dT kvs) ∧ kvs.length < sizeLine ∧ Nx (upd H5 D (.dT (putK kvs k z))))
theorem pe_dcT {kx vx tg iter : Expr} {scope : Scope} {own : List (Str × Nat)} {pos : Pos} {wi : TI} {g : TG} {tk tv : TE} (hc : X.calm = true) (hu : X.A.units < cLine) (hN : X.N.Nodup) (hi : PI X tg iter wi) (ok : BlkOk X.N X.env.scope scope own)
    (hb : ∀ (s : Shared) (H : Hp) (C : Addr) (cl : List (Str × Addr)) (fp : List Addr), PG (X.blk s H scope (compEnvC scope cl C X.env) fp) tg g ∧ PE (X.blk s H scope (compEnvC scope cl C X.env) fp) kx tk ∧ PE (X.blk s H scope (compEnvC scope cl C X.env) fp) vx tv)
    (hs : ∀ x, foldedSetIterable iter X.env x = pure x := by intro _; rfl) :
    PE X (.DictComp kx vx [⟨tg, iter, [], 0⟩] scope pos) (tDcT wi g tk tv (own.map (·.2))) := by
  refine ⟨fun pins s σ H Q I h => ?_⟩
  rw [arm_eval_DictComp]
  have caught : ∀ y ∈ scope.names, y.2 = .free → ∃ c, X.env.cells.lookup y.1 = some c := fun y hy e => by
    have q := ok.free y hy e
    exact I.ok.has _ (q.elim .inl .inr)
  refine wpAny_comprehension_free (use := none) rfl hs (closure_ok caught) ok.kind (fun y hy e => by rw [ok.uniq y hy, e]) ?_
  refine thn (hi.run pins s σ H _ I h) fun xv s1 h1 => thn h1 fun itv s2 h2 => ?_
  obtain ⟨it, fp, tn, J, H2, rfl, I2, T, t2, f2, rest⟩ := h2
  refine wpAny_newObj_type (newEnv_comp ?_)
  generalize eD : s2.heap.objs.size = D
  have nD : H2 D = none := I2.hok.fresh (Nat.le_of_eq eD)
  obtain ⟨W, ⟨m0, w0⟩, turn⟩ := rest D nD
  generalize e3 : ({ s2 with heap := s2.heap.push { cls := .type "dict", data := .dict #[] } } : Shared) = s3
  have heap3 : s3.heap = s2.heap.push { cls := .type "dict", data := .dict #[] } := by rw [← e3]
  have I3 : Inv X pins σ (upd H2 D (.dT [])) s3 := by
    rw [← e3]
    refine I2.laid (t' := s2.toks) (fun b o e => Heap.get?_push_of_some _ e) (Nat.le_of_eq eD) ?_
    rw [← eD]
    exact dt_empty s2.heap I2.big
  have old : ∀ b ∈ fp, b < s2.heap.objs.size := fun b hb => by
    obtain ⟨o, e, _⟩ := T.obj _ _ t2 b hb
    exact Heap.lt_size e
  have f3 : ∀ b ∈ fp, FpOk X pins (upd H2 D (.dT [])) b ∧ b < s3.heap.objs.size := fun b hb => by
    have lt := old b hb
    refine ⟨⟨?_, (f2 b hb).2⟩, by rw [heap3, Heap.size_push]; exact Nat.lt_succ_of_lt lt⟩
    rw [upd_ne (by rw [← eD]; exact Nat.ne_of_lt lt)]
    exact (f2 b hb).1
  have t3 : tn 0 s3.heap := T.keep _ _ _ t2 fun b _ o e => by rw [heap3]; exact Heap.get?_push_of_some _ e
  have I4 := block_start I3 ok hN f3
  obtain ⟨pg, pk, pv⟩ := hb s3 (upd H2 D (.dT [])) s3.heap.objs.size (cellsFrom (s3.heap.objs.size + 1) scope.names (cloFrom X.env.cells scope.names [])) fp
  show codeAny _ _ (.compStart (.DictComp kx vx [⟨tg, iter, [], 0⟩] scope pos) 0 (.ref it) (.ref D) (compEnvC scope (cellsFrom (s3.heap.objs.size + 1) scope.names (cloFrom X.env.cells scope.names [])) s3.heap.objs.size X.env))
    (compPost (model X.prog X.w) X.A X.xe none _ (.ref D) s3.heap.objs.size) { s3 with heap := pushCells (s3.heap.push { cls := .type "dict", data := .dict #[] }) scope.names }
  have none3 : ∀ b ∈ fp, (upd H2 D (.dT [])) b = none := fun b hb => (f3 b hb).1.1
  generalize ece : compEnvC scope (cellsFrom (s3.heap.objs.size + 1) scope.names (cloFrom X.env.cells scope.names [])) s3.heap.objs.size X.env = ce at I4 pg pk pv ⊢
  have ceL : ce.locals = s3.heap.objs.size := by subst ece; rfl
  generalize eH3 : upd H2 D (.dT []) = H3 at I3 I4 pg pk pv w0 none3 f3
  generalize e4 : ({ s3 with heap := pushCells (s3.heap.push { cls := .type "dict", data := .dict #[] }) scope.names } : Shared) = s4 at I4 ⊢
  have t4 : tn 0 s4.heap := T.keep _ _ _ t3 fun b _ o e => by rw [← e4]; exact pushCells_keeps _ _ _ _ (Heap.get?_push_of_some _ e)
  have fpo : ∀ {σ' : L2.St} {H' : Hp} {s' : Shared}, Inv (X.blk s3 H3 scope ce fp) [] σ' H' s' → (∀ b ∈ fp, H' b = none) → ∀ b ∈ fp, FpOk (X.blk s3 H3 scope ce fp) [] H' b := fun {σ' H' s'} I' hn b hb =>
    ⟨hn b hb, (I'.ok.exf b hb).1, I'.ok.exfs b hb, .inl hb, fun x c e => (I'.ok.exf b hb).2 x c e, fun p hp => absurd (show p ∈ ([] : List (Addr × Obj)) ++ [] from hp) (by simp)⟩
  have loop : codeAny (model X.prog X.w) X.A (.compLoop (.DictComp kx vx [⟨tg, iter, [], 0⟩] scope pos) 0 (.ref it) (.ref D) ce) (compPost (model X.prog X.w) X.A X.xe none (EP X pins σ Q) (.ref D) s3.heap.objs.size) s4 := by
    refine compLoop_anyD (fun n s' => ∃ i H', Inv (X.blk s3 H3 scope ce fp) [] (wipe σ (own.map (·.2))) H' s' ∧ tn i s'.heap ∧ (∀ b ∈ fp, H' b = none) ∧ W i n H') ?_ m0 ⟨0, H3, I4, t4, none3, w0⟩
    rintro n s5 ⟨i, H5, I5, t5, n5, w5⟩
    rcases turn i n H5 w5 with ⟨hstop, qq⟩ | ⟨go, Nx, hNx, step⟩
    · refine thnF (T.done (X.blk s3 H3 scope ce fp) rfl rfl rfl hc i [] s5 _ H5 (fun _ _ => False) I5 (fpo I5 n5) t5 hstop) fun r s6 h6 => ?_
      obtain ⟨rfl, I6⟩ := h6
      have I7 : Inv X pins σ H5 s6 := I3.call' (ch := fp) I6.os I6.base I6.hok I6.bare fun b hb =>
        have z := (f3 b hb).1.2
        ⟨z.2.2.1, z.1, z.2.2.2.1, z.2.2.2.2⟩
      have nC : H5 s3.heap.objs.size = none := by
        have z : H5 ce.locals = none := I6.free
        rwa [ceL] at z
      obtain ⟨m, hn, _⟩ := I6.loc
      have hn : s6.heap.Ns ce.locals m := hn
      rw [ceL] at hn
      obtain ⟨_, g1, _, g3, g4, g5⟩ := I3.fpOk (Nat.le_refl _) nC
      exact ⟨m, hn, fun h2 sb => ⟨.ref D, H5, I7.turned (t' := s6.toks) (fun b o ne e => (sb.2 b ne).trans e) nC g1 g3 g4 g5, rfl, qq⟩⟩
    · refine thnF (T.item (X.blk s3 H3 scope ce fp) rfl rfl rfl hc i [] s5 _ H5 (fun _ _ => False) I5 (fpo I5 n5) t5 go) fun r s6 h6 => ?_
      obtain ⟨u, rfl, h6⟩ := h6
      refine thnF h6 fun _ s7 ⟨x, H7, I7, r7, y7, t7, n7⟩ => ?_
      have J7 := I7.pinned (fpo I7 n7) (T.obj _ _ t7)
      refine thnF (pg.run _ s7 _ H7 x u _ J7 r7 (step x H7 y7)) fun _ s8 ⟨σ8, H8, I8, ew, q8⟩ => ?_
      simp only [List.forIn_nil]
      refine wpAny_pure ?_
      simp only [if_true]
      refine thnF (pk.run _ s8 σ8 H8 _ I8 q8) fun u1 s10 ⟨yk, H10, I10, r10, q10⟩ => ?_
      refine thnF (pv.run _ s10 σ8 H10 _ I10 q10) fun u2 s11 ⟨yv, H11, I11, r11, b, kvs, k, ek, hb11, hD11, hl11, nx⟩ => ?_
      subst ek
      obtain rfl : u1 = .ref b := r10
      refine lay_entry (X := X.blk s3 H3 scope ce fp) hu I11 hD11 hb11 hl11 r11 fun s12 I12 => ?_
      obtain ⟨m', lt, w'⟩ := hNx _ nx
      have len8 : (wipe σ (own.map (·.2))).length = σ8.length := by rw [← ew, wipe_length]
      have stay : ∀ c ∈ fp, ∀ o, s7.heap.get? c = some o → s12.heap.get? c = some o ∧ (upd H11 D (.dT (putK kvs k yv))) c = none := fun c hc' o e =>
        have z := I12.pin (c, o) (List.mem_append_right _ (List.mem_append_right _ (mem_pinsAt hc' e)))
        ⟨z.1, z.2.1⟩
      refine ⟨m', lt, i + 1, _, (I12.unpinned (pins := [])).weak len8 (fun j v e => ?_), T.keep _ _ _ t7 fun c hc' o e => (stay c hc' o e).1, fun c hc' => ?_, w'⟩
      · rw [← ew] at e
        exact (wipe_some e).1
      · obtain ⟨o, e, _⟩ := T.obj _ _ t7 c hc'
        exact (stay c hc' o e).2
  exact codeAny_compStart_dict loop (T.self X.A 0 _ _ _ t4 loop)
end
end Pk
namespace Pk
open PySem L2
abbrev Pl := Int × Int
/-- v is a tuple that holds the place p -/
def Pr (H : Hp) (v : V) (p : Pl) : Prop := ∃ t, v = .ref t ∧ H t = some (.tup [.int p.1, .int p.2])
theorem Pr.same {H H' : Hp} {v : V} {p : Pl} (h : Pr H v p) (k : Same H H') : Pr H' v p := by
  obtain ⟨t, rfl, h⟩ := h
  exact ⟨t, rfl, k _ _ h⟩
inductive Prs (H : Hp) : List V → List Pl → Prop
  | nil : Prs H [] []
  | cons {v : V} {p : Pl} {vs : List V} {ps : List Pl} : Pr H v p → Prs H vs ps → Prs H (v :: vs) (p :: ps)
theorem Prs.same {H H' : Hp} {vs : List V} {ps : List Pl} (h : Prs H vs ps) (k : Same H H') : Prs H' vs ps := by
  induction h with
  | nil => exact .nil
  | cons a _ ih => exact .cons (a.same k) ih
theorem Prs.len {H : Hp} {vs : List V} {ps : List Pl} (h : Prs H vs ps) : vs.length = ps.length := by
  induction h with
  | nil => rfl
  | cons a _ ih => exact congrArg (· + 1) ih
theorem Prs.app {H : Hp} {vs us : List V} {ps qs : List Pl} (h : Prs H vs ps) (k : Prs H us qs) : Prs H (vs ++ us) (ps ++ qs) := by
  induction h with
  | nil => exact k
  | cons a _ ih => exact .cons a ih
theorem Prs.snoc {H : Hp} {vs : List V} {v : V} {ps : List Pl} {p : Pl} (h : Prs H vs ps) (k : Pr H v p) : Prs H (vs ++ [v]) (ps ++ [p]) := h.app (.cons k .nil)
theorem Prs.at {H : Hp} {vs : List V} {ps : List Pl} (h : Prs H vs ps) : ∀ {i : Nat} {v : V}, vs[i]? = some v → ∃ p, ps[i]? = some p ∧ Pr H v p := by
  induction h with
  | nil => intro i v e; cases e
  | cons a _ ih =>
    intro i v e
    cases i with
    | zero => cases e; exact ⟨_, rfl, a⟩
    | succ i => exact ih e
theorem Prs.take {H : Hp} {vs : List V} {ps : List Pl} (h : Prs H vs ps) : ∀ n, Prs H (vs.take n) (ps.take n) := by
  induction h with
  | nil => intro n; cases n <;> exact .nil
  | cons a _ ih => intro n; cases n with
    | zero => exact .nil
    | succ n => exact .cons a (ih n)
theorem Prs.drop {H : Hp} {vs : List V} {ps : List Pl} (h : Prs H vs ps) : ∀ n, Prs H (vs.drop n) (ps.drop n) := by
  induction h with
  | nil => intro n; cases n <;> exact .nil
  | cons a r ih => intro n; cases n with
    | zero => exact .cons a r
    | succ n => exact ih n
theorem Prs.mem {H : Hp} {vs : List V} {ps : List Pl} (h : Prs H vs ps) {v : V} (m : v ∈ vs) : ∃ p ∈ ps, Pr H v p := by
  induction h with
  | nil => cases m
  | cons a _ ih =>
    rcases List.mem_cons.mp m with e | m
    · subst e; exact ⟨_, List.mem_cons_self, a⟩
    · obtain ⟨p, hp, k⟩ := ih m
      exact ⟨p, List.mem_cons_of_mem _ hp, k⟩
theorem Prs.rev {H : Hp} {vs : List V} {ps : List Pl} (h : Prs H vs ps) : Prs H vs.reverse ps.reverse := by
  induction h with
  | nil => exact .nil
  | cons a _ ih => rw [List.reverse_cons, List.reverse_cons]; exact ih.snoc a
def dP (p : Pl) : PyData := .tuple [.int p.1, .int p.2]
def dL (ps : List Pl) : PyData := .list (ps.map dP)
theorem Pr.dp {K : PySem.W.Frag} {H : Hp} {v : V} {p : Pl} (h : Pr H v p) : Dp K H v (dP p) := by
  obtain ⟨t, rfl, h⟩ := h
  exact .tup (SqT.of h) (.cons (.int _) (.cons (.int _) .nil))
theorem Prs.dps {K : PySem.W.Frag} {H : Hp} {vs : List V} {ps : List Pl} (h : Prs H vs ps) : DpAll K H vs (ps.map dP) := by
  induction h with
  | nil => exact .nil
  | cons a _ ih => exact .cons a.dp ih
theorem Prs.dl {K : PySem.W.Frag} {H : Hp} {l : Addr} {vs : List V} {ps : List Pl} (h : Prs H vs ps) (e : SqL K H l vs) : Dp K H (.ref l) (dL ps) := .lst e h.dps
theorem eqv_int (a b : Int) : PyData.eqv (.int a) (.int b) = decide (a = b) := by
  rw [PyData.eqv]
  rfl
theorem eqv_dP (p q : Pl) : PyData.eqv (dP p) (dP q) = decide (p = q) := by
  obtain ⟨a, b⟩ := p
  obtain ⟨c, d⟩ := q
  show PyData.eqvAll [.int a, .int b] [.int c, .int d] = _
  simp only [PyData.eqvAll, eqv_int, Prod.ext_iff, Bool.and_true, Bool.decide_and]
theorem lay_dPs : ∀ ps : List Pl, PyData.canLayAll0 (ps.map dP) = true
  | [] => rfl
  | _ :: ps => by
    show (true && PyData.canLayAll0 (ps.map dP)) = true
    rw [lay_dPs ps]
    rfl
theorem depth_dPs : ∀ ps : List Pl, PyData.depthAll (ps.map dP) ≤ 1
  | [] => by show 0 ≤ 1; omega
  | _ :: ps => by
    have ih := depth_dPs ps
    show max 1 (PyData.depthAll (ps.map dP)) ≤ 1
    omega
theorem sh_dP (p : Pl) : SeqAt.shaped (dP p) = true := rfl
theorem sh_dL (ps : List Pl) : SeqAt.shaped (dL ps) = true := by
  have h := depth_dPs ps
  unfold SeqAt.shaped dL
  rw [show PyData.canLay0 (.list (ps.map dP)) = PyData.canLayAll0 (ps.map dP) from rfl, lay_dPs]
  refine decide_eq_true ?_
  show PyData.depthAll (ps.map dP) + 1 ≤ 64
  omega
theorem any_dP (ps : List Pl) (p : Pl) : ((ps.map dP).any fun z => PyData.eqv z (dP p)) = decide (p ∈ ps) := by
  induction ps with
  | nil => simp
  | cons q ps ih =>
    rw [List.map_cons, List.any_cons, ih, eqv_dP]
    by_cases h1 : q = p
    · subst h1; simp
    · have h2 : ¬ p = q := fun z => h1 z.symm
      simp [h1, h2]
end Pk
namespace Pk
open PySem L2
def lp (p q : Pl) : Prop := p.1 < q.1 ∨ (p.1 = q.1 ∧ p.2 ≤ q.2)
instance : DecidableRel lp := fun p q => inferInstanceAs (Decidable (p.1 < q.1 ∨ (p.1 = q.1 ∧ p.2 ≤ q.2)))
theorem lp_trans {p q r : Pl} (h : lp p q) (k : lp q r) : lp p r := by unfold lp at *; omega
theorem lp_total (p q : Pl) : lp p q ∨ lp q p := by unfold lp; omega
theorem lp_anti {p q : Pl} (h : lp p q) (k : lp q p) : p = q := by
  unfold lp at *
  exact Prod.ext (by omega) (by omega)
def insP (p : Pl) : List Pl → List Pl
  | [] => [p]
  | q :: r => if lp p q then p :: q :: r else q :: insP p r
def sortP : List Pl → List Pl
  | [] => []
  | p :: r => insP p (sortP r)
theorem insP_perm (p : Pl) : ∀ r, (insP p r).Perm (p :: r)
  | [] => .refl _
  | q :: r => by
    unfold insP
    split
    · exact .refl _
    · exact ((insP_perm p r).cons q).trans (.swap p q r)
theorem sortP_perm : ∀ r, (sortP r).Perm r
  | [] => .nil
  | p :: r => (insP_perm p (sortP r)).trans ((sortP_perm r).cons p)
theorem insP_pw (p : Pl) : ∀ {r}, List.Pairwise lp r → (insP p r).Pairwise lp
  | [], _ => List.pairwise_singleton _ _
  | q :: r, h => by
    unfold insP
    have hq : ∀ {x}, x ∈ r → lp q x := fun m => List.rel_of_pairwise_cons h m
    split
    · rename_i c
      refine List.pairwise_cons.mpr ⟨fun x hx => ?_, h⟩
      rcases List.mem_cons.mp hx with e | hx
      · rw [e]; exact c
      · exact lp_trans c (hq hx)
    · rename_i c
      refine List.pairwise_cons.mpr ⟨fun x hx => ?_, insP_pw p (List.Pairwise.of_cons h)⟩
      rcases List.mem_cons.mp ((insP_perm p r).mem_iff.mp hx) with e | hx
      · rw [e]; exact (lp_total p q).resolve_left c
      · exact hq hx
theorem sortP_pw : ∀ r, (sortP r).Pairwise lp
  | [] => .nil
  | p :: r => insP_pw p (sortP_pw r)
theorem pw_uniq : ∀ {a b : List Pl}, a.Perm b → a.Pairwise lp → b.Pairwise lp → a = b
  | [], b, h, _, _ => h.nil_eq
  | p :: a, [], h, _, _ => absurd h.length_eq (by simp)
  | p :: a, q :: b, h, ha, hb => by
    have e : p = q := by
      rcases List.mem_cons.mp (h.mem_iff.mp List.mem_cons_self) with e | m
      · exact e
      · rcases List.mem_cons.mp (h.mem_iff.mpr List.mem_cons_self) with e | m'
        · exact e.symm
        · exact lp_anti (List.rel_of_pairwise_cons ha m') (List.rel_of_pairwise_cons hb m)
    subst e
    rw [pw_uniq ((List.perm_cons p).mp h) ha.of_cons hb.of_cons]
theorem sortP_of {a b : List Pl} (h : a.Perm b) (ha : a.Pairwise lp) : a = sortP b := pw_uniq (h.trans (sortP_perm b).symm) ha (sortP_pw b)
theorem sortP_mem {p : Pl} {r : List Pl} : p ∈ sortP r ↔ p ∈ r := (sortP_perm r).mem_iff
theorem sortP_len (r : List Pl) : (sortP r).length = r.length := (sortP_perm r).length_eq
theorem sortP_nd {r : List Pl} : (sortP r).Nodup ↔ r.Nodup := (sortP_perm r).nodup_iff
/-- each place once -/
def nub : List Pl → List Pl
  | [] => []
  | p :: r => if p ∈ r then nub r else p :: nub r
theorem nub_mem {p : Pl} : ∀ {r : List Pl}, p ∈ nub r ↔ p ∈ r
  | [] => Iff.rfl
  | q :: r => by
    unfold nub
    split
    · rename_i h
      rw [nub_mem (r := r), List.mem_cons]
      exact ⟨.inr, fun k => k.elim (fun e => by rw [e]; exact h) id⟩
    · rw [List.mem_cons, List.mem_cons, nub_mem (r := r)]
theorem nub_nd : ∀ r : List Pl, (nub r).Nodup
  | [] => .nil
  | p :: r => by
    unfold nub
    split
    · exact nub_nd r
    · rename_i h
      exact List.nodup_cons.mpr ⟨fun m => h (nub_mem.mp m), nub_nd r⟩
theorem nub_le : ∀ r : List Pl, (nub r).length ≤ r.length
  | [] => Nat.le_refl _
  | p :: r => by
    unfold nub
    have := nub_le r
    split
    · rw [List.length_cons]; omega
    · rw [List.length_cons, List.length_cons]; omega
theorem nub_lt : ∀ r : List Pl, (nub r).length < r.length ↔ ¬ r.Nodup
  | [] => by simp [nub]
  | p :: r => by
    have ih := nub_lt r
    have hl := nub_le r
    unfold nub
    rw [List.nodup_cons]
    split
    · rename_i h
      rw [List.length_cons]
      exact ⟨fun _ k => k.1 h, fun _ => by omega⟩
    · rename_i h
      rw [List.length_cons, List.length_cons, Nat.add_lt_add_iff_right, ih]
      exact ⟨fun k z => k z.2, fun k z => k ⟨h, z⟩⟩
/-- a set of places stands at a -/
def SetOf (P : Program) (w : World) (H : Hp) (a : Addr) (ps : List Pl) : Prop := ∃ L : List (Addr × List Int), H a = some (SetTO P w a L) ∧
  (∀ x ∈ L, ∃ p ∈ ps, x.2 = [p.1, p.2] ∧ H x.1 = some (.tup [.int p.1, .int p.2])) ∧ ∀ p ∈ ps, [p.1, p.2] ∈ L.map (·.2)
section
variable {X : Cx} {pins : List (Addr × Obj)} {σ : St} {H : Hp} {s : Shared}
def toP (x : Addr × List Int) : Pl := (x.2.getD 0 0, x.2.getD 1 0)
theorem setOf_list {P : Program} {w : World} {a : Addr} {ps : List Pl} {L : List (Addr × List Int)}
    (h1 : ∀ x ∈ L, ∃ p ∈ ps, x.2 = [p.1, p.2] ∧ H x.1 = some (.tup [.int p.1, .int p.2])) (h2 : ∀ p ∈ ps, [p.1, p.2] ∈ L.map (·.2)) (nd : (L.map (·.2)).Nodup) :
    (L.map toP).Nodup ∧ ∀ p, p ∈ L.map toP ↔ p ∈ ps := by
  constructor
  · refine List.pairwise_map.mpr (List.Pairwise.imp_of_mem (fun {x y} hx hy ne e => ?_) (List.pairwise_map.mp nd))
    obtain ⟨p, _, ep, _⟩ := h1 x hx
    obtain ⟨q, _, eq, _⟩ := h1 y hy
    unfold toP at e
    rw [ep, eq] at e
    apply ne
    rw [ep, eq]
    have e1 : p.1 = q.1 := (Prod.mk.inj e).1
    have e2 : p.2 = q.2 := (Prod.mk.inj e).2
    rw [e1, e2]
  · intro p
    constructor
    · intro m
      obtain ⟨x, hx, rfl⟩ := List.mem_map.mp m
      obtain ⟨p, hp, ep, _⟩ := h1 x hx
      unfold toP
      rw [ep]
      exact hp
    · intro m
      obtain ⟨x, hx, e⟩ := List.mem_map.mp (h2 p m)
      refine List.mem_map.mpr ⟨x, hx, ?_⟩
      unfold toP
      rw [e]
      rfl
/-- set(xs), xs a list of places -/
def rSetP (K : PySem.W.Frag) (P : Program) (w : World) : List V → Hp → VK → Prop := fun xs H Q => ∃ (l : Addr) (vs : List V) (ps : List Pl), xs = [.ref l] ∧ SqL K H l vs ∧ Prs H vs ps ∧ ps.length < 64 ∧
  ∀ (H' : Hp) (a : Addr), H a = none → Same H H' → SetOf P w H' a ps → Q (.ref a) H'
theorem prs_ks {K : PySem.W.Frag} {vs : List V} {ps : List Pl} (h : Prs H vs ps) : ∃ ks : List (Addr × List Int), vs = ks.map (fun p => V.ref p.1) ∧ (∀ x ∈ ks, ∃ p ∈ ps, x.2 = [p.1, p.2] ∧ H x.1 = some (.tup [.int p.1, .int p.2])) ∧ ks.map (·.2) = ps.map (fun p => [p.1, p.2]) := by
  induction h with
  | nil => exact ⟨[], rfl, fun x hx => (nomatch hx), rfl⟩
  | @cons v p vs ps a _ ih =>
    obtain ⟨t, rfl, ht⟩ := a
    obtain ⟨ks, e, k, m⟩ := ih
    refine ⟨(t, [p.1, p.2]) :: ks, by rw [e]; rfl, fun x hx => ?_, by rw [List.map_cons, m]; rfl⟩
    rcases List.mem_cons.mp hx with z | z
    · subst z
      exact ⟨p, List.mem_cons_self, rfl, ht⟩
    · obtain ⟨q, hq, r⟩ := k x z
      exact ⟨q, List.mem_cons_of_mem _ hq, r⟩
theorem cr_setP (hc : X.calm = true) (hu : X.A.units + 64 < cLine) : CallR X (.type "set") (rSetP X.K X.prog X.w) := by
  intro pins s σ H xs us Q I r h
  obtain ⟨l, vs, ps, rfl, hl, hp, hn, q⟩ := h
  obtain ⟨ks, rfl, hk, hm⟩ := prs_ks (K := X.K) hp
  refine cr_setOfT hc hu pins s σ H [.ref l] us Q I r ⟨l, ks, rfl, hl, fun x hx => ?_, ?_, fun a L ha h1 h2 => ?_⟩
  · obtain ⟨p, _, e, k⟩ := hk x hx
    rw [e]
    exact SqT.of k
  · have e := congrArg List.length hm
    rw [List.length_map, List.length_map] at e
    omega
  · have sm : Same H (upd H a (SetTO X.prog X.w a L)) := fun b o e => by
      rw [upd_ne (ne_of_none e ha)]
      exact e
    refine q _ a ha sm ⟨L, upd_same, fun x hx => ?_, fun p hp => ?_⟩
    · obtain ⟨p, hp, e, k⟩ := hk x (h1 x hx)
      exact ⟨p, hp, e, sm _ _ k⟩
    · have m : [p.1, p.2] ∈ ks.map (·.2) := by
        rw [hm]
        exact List.mem_map.mpr ⟨p, hp, rfl⟩
      obtain ⟨x, hx, e⟩ := List.mem_map.mp m
      rw [← e]
      exact h2 x hx
/-- len(s), s a set of places -/
theorem call_lenP : CallR X (.builtin "len") (fun xs H Q => ∃ (a : Addr) (ps : List Pl), xs = [.ref a] ∧ SetOf X.prog X.w H a ps ∧ Q (.int (nub ps).length) H) := by
  intro pins s σ H xs us Q I r h
  obtain ⟨a, ps, rfl, ⟨L, ha, h1, h2⟩, q⟩ := h
  rw [Vals.ref1 r]
  have R0 : SetT0 X.prog X.w s.heap a L := (I.hok a _ ha).1
  obtain ⟨es, ep, t, R⟩ := R0.full fun x hx => by
    obtain ⟨p, _, e, k⟩ := h1 x hx
    have z : SqT X.K H x.1 (x.2.map V.int) := by rw [e]; exact SqT.of k
    exact I.isT z
  obtain ⟨o, ho, hex, hd⟩ := R.ob
  obtain ⟨n1, n2⟩ := setOf_list (P := X.prog) (w := X.w) (a := a) h1 h2 R0.ex.choose_spec.choose_spec.choose_spec.2.2.2.1
  have hl : L.length = (nub ps).length := by
    have z : (L.map toP).Perm (nub ps) := (List.perm_ext_iff_of_nodup n1 (nub_nd ps)).mpr fun p => (n2 p).trans nub_mem.symm
    have z2 := z.length_eq
    rw [List.length_map] at z2
    exact z2
  have hsz := R.size
  have hfew := R.few
  refine call_len_set ho hex hd R.fits (by omega) ⟨.int (nub ps).length, H, I.tok _, ⟨_, by rw [hsz, hl]⟩, q⟩
end
end Pk
namespace Pk
open PySem L2 PyProof.Rows
/-- what place a value stands for -/
def plAt (H : Hp) (v : V) : Pl := match v with
  | .ref t => (match H t with
    | some (.tup [.int a, .int b]) => (a, b)
    | _ => (0, 0))
  | _ => (0, 0)
theorem plAt_of {H : Hp} {v : V} {p : Pl} (h : Pr H v p) : plAt H v = p := by
  obtain ⟨t, rfl, h⟩ := h
  show (match H t with
    | some (.tup [.int a, .int b]) => (a, b)
    | _ => (0, 0)) = p
  rw [h]
theorem prs_plAt {H : Hp} {vs : List V} {ps : List Pl} (h : Prs H vs ps) : vs.map (plAt H) = ps := by
  induction h with
  | nil => rfl
  | cons a _ ih => rw [List.map_cons, ih, plAt_of a]
theorem prs_of_mem {H : Hp} : ∀ {ys : List V}, (∀ y ∈ ys, ∃ p, Pr H y p) → Prs H ys (ys.map (plAt H))
  | [], _ => .nil
  | y :: ys, h => by
    obtain ⟨p, hp⟩ := h y List.mem_cons_self
    refine .cons ?_ (prs_of_mem fun z hz => h z (List.mem_cons_of_mem _ hz))
    rw [plAt_of hp]
    exact hp
theorem prs_perm {H : Hp} {xs ys : List V} {ps : List Pl} (h : Prs H xs ps) (m : ys.Perm xs) : Prs H ys (ys.map (plAt H)) ∧ (ys.map (plAt H)).Perm ps := by
  refine ⟨prs_of_mem fun y hy => ?_, ?_⟩
  · obtain ⟨p, _, k⟩ := h.mem (m.mem_iff.mp hy)
    exact ⟨p, k⟩
  · have e := m.map (plAt H)
    rw [prs_plAt h] at e
    exact e
def rSortP (K : PySem.W.Frag) : List V → Hp → VK → Prop := fun vs H Q => ∃ (a : Addr) (xs : List V) (ps : List Pl), vs = [.ref a] ∧ SqL K H a xs ∧ Prs H xs ps ∧
  ∀ (p : Addr) (ys : List V), H p = none → Prs H ys (sortP ps) → Q (.ref p) (upd H p (.lst ys))
section
variable {X : Cx}
theorem call_sortP : CallR X (.builtin "sorted") (rSortP X.K) := by
  intro pins s σ H vs us Q I r h
  obtain ⟨a, xs, ps, rfl, hs, hp, q⟩ := h
  refine cr_sortedPO pins s σ H [.ref a] us Q I r ⟨a, xs, plAt H, rfl, hs, fun x hx => ?_, fun ys p h1 h2 hn => ?_⟩
  · obtain ⟨p, _, t, e, k⟩ := hp.mem hx
    refine ⟨t, e, ?_⟩
    have z : plAt H x = p := plAt_of ⟨t, e, k⟩
    rw [z]
    exact k
  · obtain ⟨k1, k2⟩ := prs_perm hp h2.perm
    have e : ys.map (plAt H) = sortP ps := sortP_of k2 (List.pairwise_map.mpr (List.Pairwise.imp (fun {x y} z => by
      have z1 : SrtO.lexB (plAt H y) (plAt H x) = false := z
      have z2 := SrtO.lexB_no.mp z1
      unfold lp
      omega) h1))
    rw [e] at k1
    exact q p ys hn k1
end
end Pk
namespace Pk
open PySem L2 PySem.Spec PyProof.Rows
theorem Pr.over {H : Hp} {m : Addr} {zs ws : List V} {v : V} {p : Pl} (h : Pr H v p) (hm : H m = some (.lst zs)) : Pr (upd H m (.lst ws)) v p := by
  obtain ⟨t, rfl, h⟩ := h
  exact ⟨t, rfl, by rw [upd_ne (ne_of h hm (by intro z; cases z))]; exact h⟩
theorem Prs.over {H : Hp} {m : Addr} {zs ws vs : List V} {ps : List Pl} (h : Prs H vs ps) (hm : H m = some (.lst zs)) : Prs (upd H m (.lst ws)) vs ps := by
  induction h with
  | nil => exact .nil
  | cons a _ ih => exact .cons (a.over hm) ih
theorem Same.over {H0 H : Hp} {m : Addr} {o : HO} (k : Same H0 H) (n : H0 m = none) : Same H0 (upd H m o) := fun b u e => by
  rw [upd_ne (ne_of_none e n)]
  exact k b u e
end Pk
namespace Pk
open PySem L2 PySem.Spec PyProof.Rows
abbrev Tk := List L2.Key
/-- v is a tuple that holds k -/
def Kr (H : Hp) (v : V) (k : Tk) : Prop := ∃ t, v = .ref t ∧ H t = some (.tup (k.map kV))
theorem Kr.same {H H' : Hp} {v : V} {k : Tk} (h : Kr H v k) (z : Same H H') : Kr H' v k := by
  obtain ⟨t, rfl, h⟩ := h
  exact ⟨t, rfl, z _ _ h⟩
theorem Kr.over {H : Hp} {m : Addr} {zs ws : List V} {v : V} {k : Tk} (h : Kr H v k) (hm : H m = some (.lst zs)) : Kr (upd H m (.lst ws)) v k := by
  obtain ⟨t, rfl, h⟩ := h
  refine ⟨t, rfl, ?_⟩
  rw [upd_ne (ne_of h hm fun z => nomatch z)]
  exact h
inductive Krs (H : Hp) : List V → List Tk → Prop
  | nil : Krs H [] []
  | cons {v : V} {k : Tk} {vs : List V} {ks : List Tk} : Kr H v k → Krs H vs ks → Krs H (v :: vs) (k :: ks)
section
variable {H H' : Hp} {vs us : List V} {ks ls : List Tk}
theorem Krs.same (h : Krs H vs ks) (z : Same H H') : Krs H' vs ks := by
  induction h with
  | nil => exact .nil
  | cons a _ ih => exact .cons (a.same z) ih
theorem Krs.over {m : Addr} {zs ws : List V} (h : Krs H vs ks) (hm : H m = some (.lst zs)) : Krs (upd H m (.lst ws)) vs ks := by
  induction h with
  | nil => exact .nil
  | cons a _ ih => exact .cons (a.over hm) ih
theorem Krs.len (h : Krs H vs ks) : vs.length = ks.length := by
  induction h with
  | nil => rfl
  | cons a _ ih => exact congrArg (· + 1) ih
theorem Krs.app (h : Krs H vs ks) (g : Krs H us ls) : Krs H (vs ++ us) (ks ++ ls) := by
  induction h with
  | nil => exact g
  | cons a _ ih => exact .cons a ih
theorem Krs.snoc {v : V} {k : Tk} (h : Krs H vs ks) (g : Kr H v k) : Krs H (vs ++ [v]) (ks ++ [k]) := h.app (.cons g .nil)
theorem Krs.at (h : Krs H vs ks) : ∀ {i : Nat} {v : V}, vs[i]? = some v → ∃ k, ks[i]? = some k ∧ Kr H v k := by
  induction h with
  | nil => intro i v e; cases e
  | cons a _ ih =>
    intro i v e
    cases i with
    | zero => cases e; exact ⟨_, rfl, a⟩
    | succ i => exact ih e
theorem Krs.mem (h : Krs H vs ks) {v : V} (m : v ∈ vs) : ∃ k ∈ ks, Kr H v k := by
  induction h with
  | nil => cases m
  | cons a _ ih =>
    rcases List.mem_cons.mp m with e | m
    · subst e; exact ⟨_, List.mem_cons_self, a⟩
    · obtain ⟨k, hk, q⟩ := ih m
      exact ⟨k, List.mem_cons_of_mem _ hk, q⟩
end
def kd : L2.Key → PyData
  | .inl i => .int i
  | .inr x => .str x
def dK (k : Tk) : PyData := .tuple (k.map kd)
def dKs (ks : List Tk) : PyData := .list (ks.map dK)
theorem eqv_kd (a b : L2.Key) : PyData.eqv (kd a) (kd b) = decide (a = b) := by
  cases a <;> cases b <;> simp only [kd, PyData.eqv, Sum.inl.injEq, Sum.inr.injEq, reduceCtorEq, decide_false] <;> first | rfl | (simp [PyData.eqv]; done) | skip
theorem eqvAll_kd : ∀ a b : Tk, PyData.eqvAll (a.map kd) (b.map kd) = decide (a = b)
  | [], [] => by simp [PyData.eqvAll]
  | [], _ :: _ => by simp [PyData.eqvAll]
  | _ :: _, [] => by simp [PyData.eqvAll]
  | p :: ps, q :: qs => by
    simp only [List.map_cons, PyData.eqvAll, eqv_kd, eqvAll_kd ps qs, List.cons.injEq]
    by_cases h1 : p = q <;> by_cases h2 : ps = qs <;> simp [h1, h2]
theorem eqv_dK (a b : Tk) : PyData.eqv (dK a) (dK b) = decide (a = b) := by
  unfold dK
  rw [PyData.eqv, eqvAll_kd]
instance (k : Tk) (ks : List Tk) : Decidable (k ∈ ks) := decidable_of_iff (ks.any (fun q => decide (q = k)) = true) (by simp)
theorem any_dK (ks : List Tk) (k : Tk) : ((ks.map dK).any fun z => PyData.eqv z (dK k)) = decide (k ∈ ks) := by
  induction ks with
  | nil => simp
  | cons q ks ih =>
    rw [List.map_cons, List.any_cons, ih, eqv_dK]
    by_cases h1 : q = k
    · subst h1; simp
    · have h2 : ¬ k = q := fun z => h1 z.symm
      simp [h1, h2]
theorem dp_keys {K : PySem.W.Frag} {H : Hp} : ∀ k : Tk, DpAll K H (k.map kV) (k.map kd)
  | [] => .nil
  | .inl i :: k => .cons (.int i) (dp_keys k)
  | .inr x :: k => .cons (.str x) (dp_keys k)
theorem Kr.dp {K : PySem.W.Frag} {H : Hp} {v : V} {k : Tk} (h : Kr H v k) : Dp K H v (dK k) := by
  obtain ⟨t, rfl, h⟩ := h
  exact .tup (SqT.of h) (dp_keys k)
theorem Krs.dps {K : PySem.W.Frag} {H : Hp} {vs : List V} {ks : List Tk} (h : Krs H vs ks) : DpAll K H vs (ks.map dK) := by
  induction h with
  | nil => exact .nil
  | cons a _ ih => exact .cons a.dp ih
theorem Krs.dl {K : PySem.W.Frag} {H : Hp} {l : Addr} {vs : List V} {ks : List Tk} (h : Krs H vs ks) (e : SqL K H l vs) : Dp K H (.ref l) (dKs ks) := .lst e h.dps
theorem depth_kds : ∀ k : Tk, PyData.depthAll (k.map kd) = 0
  | [] => rfl
  | .inl _ :: k => by
    show max 0 (PyData.depthAll (k.map kd)) = 0
    rw [depth_kds k]
    rfl
  | .inr _ :: k => by
    show max 0 (PyData.depthAll (k.map kd)) = 0
    rw [depth_kds k]
    rfl
/-- its texts are texts -/
def okk (k : Tk) : Bool := PyData.canLayAll0 (k.map kd)
theorem lay_dKs : ∀ ks : List Tk, (∀ k ∈ ks, okk k = true) → PyData.canLayAll0 (ks.map dK) = true
  | [], _ => rfl
  | k :: ks, h => by
    show (PyData.canLayAll0 (k.map kd) && PyData.canLayAll0 (ks.map dK)) = true
    rw [lay_dKs ks fun q hq => h q (List.mem_cons_of_mem _ hq), show PyData.canLayAll0 (k.map kd) = true from h k List.mem_cons_self]
    rfl
theorem depth_dKs : ∀ ks : List Tk, PyData.depthAll (ks.map dK) ≤ 1
  | [] => by show 0 ≤ 1; omega
  | k :: ks => by
    have ih := depth_dKs ks
    show max (PyData.depthAll (k.map kd) + 1) (PyData.depthAll (ks.map dK)) ≤ 1
    rw [depth_kds]
    omega
theorem sh_dK {k : Tk} (h : okk k = true) : SeqAt.shaped (dK k) = true := by
  unfold SeqAt.shaped dK
  rw [show PyData.canLay0 (.tuple (k.map kd)) = PyData.canLayAll0 (k.map kd) from rfl, show PyData.canLayAll0 (k.map kd) = true from h]
  refine decide_eq_true ?_
  show PyData.depthAll (k.map kd) + 1 ≤ 64
  rw [depth_kds]
  omega
theorem sh_dKs {ks : List Tk} (hk : ∀ k ∈ ks, okk k = true) : SeqAt.shaped (dKs ks) = true := by
  unfold SeqAt.shaped dKs
  rw [show PyData.canLay0 (.list (ks.map dK)) = PyData.canLayAll0 (ks.map dK) from rfl, lay_dKs ks hk]
  have h := depth_dKs ks
  refine decide_eq_true ?_
  show PyData.depthAll (ks.map dK) + 1 ≤ 64
  omega
end Pk
namespace Pk
open PySem L2 PySem.Spec PyProof.Rows
/-- where the texts stand -/
def shp (k : Tk) : List Bool := k.map fun x => match x with
  | .inl _ => false
  | .inr _ => true
theorem alike_kd : ∀ a b : Tk, shp a = shp b → PySem.W.alikeAll (a.map kd) (b.map kd) = true
  | [], [], _ => by simp [PySem.W.alikeAll]
  | [], _ :: _, h => by simp [shp] at h
  | _ :: _, [], h => by simp [shp] at h
  | x :: a, y :: b, h => by
    have h2 : shp a = shp b := by
      unfold shp at h ⊢
      simp only [List.map_cons, List.cons.injEq] at h
      exact h.2
    rw [List.map_cons, List.map_cons, PySem.W.alikeAll, alike_kd a b h2]
    unfold shp at h
    simp only [List.map_cons, List.cons.injEq] at h
    cases x <;> cases y <;> simp at h <;> simp [kd, PySem.W.alike]
theorem alike_dK {a b : Tk} (h : shp a = shp b) : PySem.W.alike (dK a) (dK b) = true := by
  unfold dK
  rw [PySem.W.alike]
  exact alike_kd a b h
/-- the order sorts: all alike, none empty -/
def Fit (ks : List Tk) : Prop := ∃ sh : List Bool, sh ≠ [] ∧ ∀ k ∈ ks, shp k = sh
theorem Fit.alike {L : List (Addr × Tk)} (h : Fit (L.map (·.2))) : PySem.W.AllAlike (L.map fun b => dK b.2) := by
  obtain ⟨sh, _, q⟩ := h
  intro d hd d' hd'
  obtain ⟨b, hb, rfl⟩ := List.mem_map.mp hd
  obtain ⟨c, hc, rfl⟩ := List.mem_map.mp hd'
  exact alike_dK ((q _ (List.mem_map_of_mem hb)).trans (q _ (List.mem_map_of_mem hc)).symm)
end Pk
namespace Pk
open PySem L2 PySem.Spec PyProof.Rows GxR NdefX
structure Kp (H H' : Hp) : Prop where
  at_ : ∀ b o, H b = some o → (∀ ps, o ≠ .tbl ps) → H' b = some o
  tab : ∀ P, TabG H P → TabG H' P
theorem kpS {H H' : Hp} (h : Same H H') : Kp H H' := ⟨fun b o e _ => h b o e, fun P ⟨ps, e, t⟩ => ⟨ps, h _ _ e, t⟩⟩
theorem Kp.refl (H : Hp) : Kp H H := kpS (Same.refl H)
theorem Kp.trans {H H1 H2 : Hp} (a : Kp H H1) (b : Kp H1 H2) : Kp H H2 := ⟨fun c o e n => b.at_ c o (a.at_ c o e n) n, fun P h => b.tab P (a.tab P h)⟩
theorem Tabbed.kp {P : Addr} {H H' : Hp} (h : Tabbed P H H') (t : TabG H P) : Kp H H' := by
  obtain ⟨ps, e0, t0⟩ := t
  refine ⟨fun b o e n => ?_, fun P' ⟨qs, e, t'⟩ => ?_⟩
  · rw [h.2 b fun z => by rw [z, e0] at e; exact n ps (Option.some.inj e).symm]
    exact e
  · by_cases z : P' = P
    · rw [z]
      exact h.1
    · exact ⟨qs, by rw [h.2 _ z]; exact e, t'⟩
section
variable {H H' : Hp}
theorem Kp.ins (k : Kp H H') {b C dx : Addr} {fs : List (Str × V)} (e : H b = some (.ins C dx fs)) : H' b = some (.ins C dx fs) := k.at_ _ _ e fun _ z => nomatch z
theorem Kp.lst (k : Kp H H') {b : Addr} {xs : List V} (e : H b = some (.lst xs)) : H' b = some (.lst xs) := k.at_ _ _ e fun _ z => nomatch z
theorem Kp.tup (k : Kp H H') {b : Addr} {xs : List V} (e : H b = some (.tup xs)) : H' b = some (.tup xs) := k.at_ _ _ e fun _ z => nomatch z
theorem Kp.dT (k : Kp H H') {b : Addr} {kvs : List (Tk × V)} (e : H b = some (.dT kvs)) : H' b = some (.dT kvs) := k.at_ _ _ e fun _ z => nomatch z
theorem Kp.frz (k : Kp H H') {b : Addr} {o : Obj} {u : HO} (e : H b = some (.frz o u)) : H' b = some (.frz o u) := k.at_ _ _ e fun _ z => nomatch z
theorem Kp.seq {K : PySem.W.Frag} (k : Kp H H') {a : Addr} {xs : List V} (h : SqL K H a xs) : SqL K H' a xs := by
  rcases h with (h | ⟨o, h⟩) | h
  · exact .inl (.inl (k.lst h))
  · exact .inl (.inr ⟨o, k.frz h⟩)
  · exact .inr h
theorem Kp.free (k : Kp H H') {l : Addr} (h : H' l = none) : H l = none ∨ ∃ ps, H l = some (.tbl ps) := by
  cases q : H l with
  | none => exact .inl rfl
  | some o =>
    by_cases t : ∃ ps, o = .tbl ps
    · obtain ⟨ps, rfl⟩ := t
      exact .inr ⟨ps, rfl⟩
    · rw [k.at_ _ _ q fun ps z => t ⟨ps, z⟩] at h
      cases h
theorem Kr.kp {v : V} {x : Tk} (h : Kr H v x) (k : Kp H H') : Kr H' v x := by
  obtain ⟨t, rfl, h⟩ := h
  exact ⟨t, rfl, k.tup h⟩
theorem Krs.kp {vs : List V} {ks : List Tk} (h : Krs H vs ks) (k : Kp H H') : Krs H' vs ks := by
  induction h with
  | nil => exact .nil
  | cons a _ ih => exact .cons (a.kp k) ih
theorem Pr.kp {v : V} {p : Pl} (h : Pr H v p) (k : Kp H H') : Pr H' v p := by
  obtain ⟨t, rfl, h⟩ := h
  exact ⟨t, rfl, k.tup h⟩
theorem Prs.kp {vs : List V} {ps : List Pl} (h : Prs H vs ps) (k : Kp H H') : Prs H' vs ps := by
  induction h with
  | nil => exact .nil
  | cons a _ ih => exact .cons (a.kp k) ih
end
structure FunC (K : PySem.W.Frag) (x qual : Str) (st : Stmt) (f c : Addr) (fd : FuncData) : Prop where
  ex : ∃ (oc : Value) (od : Option Addr) (kV doc pm : Value) (an : Option Addr) (ct : Value) (osl : Array (Option Value)),
    fd = PySem.W.fnOf x qual (defArgs st) (defBody st) (defScope st) .none kV doc pm an (.ref c) ct ∧ K.lookup f = some ⟨oc, od, .func fd, osl⟩ ∧ PySem.W.codeIn K (.ref c) qual = true
  kp : PySem.W.keepIn K (.ref f) = true
section
variable {P : Program} {w : World} {K : PySem.W.Frag} {mg : Str → Option Value} {base : Heap}
theorem FunC.ok {x qual : Str} {st : Stmt} {f c : Addr} {fd : FuncData} {N ps : List Str} {k : Nat} {sp : Sp} (F : FunC K x qual st f c fd) (S : FnScope N ps (defScope st)) (len : ∀ vs H Q E, sp vs H Q E → vs.length = ps.length)
    (hbody : ∀ (A : Around) (outer : List Env) (s : Shared) (H : Hp) (vs : List V) (Q : VK) (E : XK), Room k (A.deeper (envOfC qual (defScope st) s.heap.objs.size f (.ref c))) → sp vs H Q E →
      ∃ t, PSs (cxOf CX0 P w K mg base N qual (defScope st) f (.ref c) A outer s H E).nox (defBody st) t ∧ t { nx := fun _ H' => Q .non H', rt := Q } (start N vs) H) : FnOk P w K mg base CX0 (k + 1) f fd ps sp := by
  obtain ⟨oc, od, kV, doc, pm, an, ct, osl, rfl, lk, hcd⟩ := F.ex
  refine fn_of lk hcd S len fun A outer s H vs Q E hr h => ?_
  obtain ⟨t, z, q⟩ := hbody A outer s H vs Q E hr h
  exact ⟨t, z.nox, q⟩
theorem FunC.okX {x qual : Str} {st : Stmt} {f c : Addr} {fd : FuncData} {N ps : List Str} {k : Nat} {sp : Sp} (F : FunC K x qual st f c fd) (S : FnScope N ps (defScope st)) (len : ∀ vs H Q E, sp vs H Q E → vs.length = ps.length)
    (hbody : ∀ (A : Around) (outer : List Env) (s : Shared) (H : Hp) (vs : List V) (Q : VK) (E : XK), Room k (A.deeper (envOfC qual (defScope st) s.heap.objs.size f (.ref c))) → sp vs H Q E →
      ∃ t, PSs (cxOf (L2.CX P w) P w K mg base N qual (defScope st) f (.ref c) A outer s H E) (defBody st) t ∧ t { nx := fun _ H' => Q .non H', rt := Q } (start N vs) H) : FnOk P w K mg base (L2.CX P w) (k + 1) f fd ps sp := by
  obtain ⟨oc, od, kV, doc, pm, an, ct, osl, rfl, lk, hcd⟩ := F.ex
  exact fn_of lk hcd S len fun A outer s H vs Q E hr h => hbody A outer s H vs Q E hr h
end
def gscC (outer sc : Scope) : Bool := (match sc.kind with | .function => true | _ => false) && !sc.isCoroutine && (match sc.names.lookup (".0" : Str) with | some .local => true | _ => false) &&
  (sc.names.all fun y => match y.2 with
    | .cell => false
    | .free => (match outer.names.lookup y.1 with | some .cell => true | _ => false)
    | _ => true)
theorem gsc_by {env : Env} {outer sc : Scope} (ho : env.scope = outer) (hc : env.cells = cellsFrom (env.locals + 1) env.scope.names []) (h : gscC outer sc = true) : GSc env sc := by
  subst ho
  unfold gscC at h
  simp only [Bool.and_eq_true, List.all_eq_true] at h
  obtain ⟨⟨⟨h1, h2⟩, h3⟩, h4⟩ := h
  refine ⟨?_, by simpa using h2, fun y hy e => ?_, ?_, fun y hy e => ?_⟩
  · split at h1
    · assumption
    · cases h1
  · have q := h4 y hy
    rw [e] at q
    cases q
  · split at h3
    · assumption
    · cases h3
  · have q := h4 y hy
    rw [e] at q
    have q2 : (match env.scope.names.lookup y.1 with | some .cell => true | _ => false) = true := q
    split at q2
    · rename_i z
      rw [hc]
      exact cell_has z
    · cases q2
def gfrC (XN : List Str) (outer sc : Scope) (N : List Str) (fr : List (Option Nat)) : Bool := decide (fr.length = N.length) && ((N.zip fr).all fun p => match p.2 with
  | none => true
  | some j => (match sc.names.lookup p.1 with | some .free => true | _ => false) && decide (XN[j]? = some p.1) && (match outer.names.lookup p.1 with | some .cell => true | _ => false))
theorem gfr_by {X : Cx} {outer sc : Scope} {XN N : List Str} {fr : List (Option Nat)} (ho : X.env.scope = outer) (hn : X.N = XN) (h : gfrC XN outer sc N fr = true) : GFr X sc N fr := by
  subst ho hn
  unfold gfrC at h
  simp only [Bool.and_eq_true, List.all_eq_true, decide_eq_true_eq] at h
  obtain ⟨h1, h2⟩ := h
  refine ⟨h1, fun i y j e1 e2 => ?_⟩
  have m : (y, some j) ∈ N.zip fr := by
    refine List.mem_of_getElem? (i := i) ?_
    rw [List.getElem?_zip_eq_some]
    exact ⟨e1, e2⟩
  have q := h2 _ m
  simp only [Bool.and_eq_true, decide_eq_true_eq] at q
  obtain ⟨⟨q1, q2⟩, q3⟩ := q
  refine ⟨?_, q2, .inl ?_⟩
  · split at q1
    · assumption
    · cases q1
  · split at q3
    · assumption
    · cases q3
end Pk
namespace Pk
open PySem L2 PySem.Spec PyProof.Rows
theorem dcT_list {K : PySem.W.Frag} {a : Addr} {xs : List V} {g : TG} {tk tv : TE} {vs : List Nat} {σ : L2.St} {H1 : Hp} {D : Addr} {Qd : Hp → Prop} (Pv : Nat → Hp → Prop) (h0 : Pv 0 (upd H1 D (.dT []))) (hl : ∀ i H, i ≤ xs.length → Pv i H → SqL K H a xs)
    (hs : ∀ i x H, xs[i]? = some x → Pv i H → g x (wipe σ vs) H fun σ2 H2 => wipe σ2 vs = wipe σ vs ∧ tk σ2 H2 fun y H4 => tv σ2 H4 fun z H5 =>
      ∃ b kvs k, y = .ref b ∧ H5 b = some (.tup (k.map kV)) ∧ H5 D = some (.dT kvs) ∧ kvs.length < sizeLine ∧ Pv (i + 1) (upd H5 D (.dT (putK kvs k z)))) (hd : ∀ H, Pv xs.length H → Qd H) :
    ∃ W : Nat → Nat → Hp → Prop, (∃ m, W 0 m (upd H1 D (.dT []))) ∧ ∀ i m H, W i m H →
      ((Itl K a).stop i H ∧ Qd H) ∨ ((Itl K a).go i H ∧ ∃ Nx : Hp → Prop, (∀ H', Nx H' → ∃ m', m' < m ∧ W (i + 1) m' H') ∧
        ∀ x H', (Itl K a).yld i H x H' → g x (wipe σ vs) H' fun σ2 H2 => wipe σ2 vs = wipe σ vs ∧ tk σ2 H2 fun y H4 => tv σ2 H4 fun z H5 =>
          ∃ b kvs k, y = .ref b ∧ H5 b = some (.tup (k.map kV)) ∧ H5 D = some (.dT kvs) ∧ kvs.length < sizeLine ∧ Nx (upd H5 D (.dT (putK kvs k z)))) := by
  refine ⟨fun i m H => m = xs.length - i ∧ i ≤ xs.length ∧ Pv i H, ⟨xs.length, by simp, Nat.zero_le _, h0⟩, fun i m H w => ?_⟩
  obtain ⟨rfl, le, p⟩ := w
  have q := hl i H le p
  by_cases lt : i < xs.length
  · refine .inr ⟨⟨xs, xs[i], q, List.getElem?_eq_getElem lt⟩, Pv (i + 1), fun H' p' => ⟨xs.length - (i + 1), by omega, rfl, lt, p'⟩, fun x H' y => ?_⟩
    obtain ⟨rfl, y⟩ := y
    exact hs i x _ (y xs q) p
  · obtain rfl : i = xs.length := by omega
    exact .inl ⟨⟨xs, q, Nat.le_refl _⟩, hd H p⟩
theorem snoc_ind {α : Type} {P : List α → Prop} (h0 : P []) (h1 : ∀ l x, P l → P (l ++ [x])) (l : List α) : P l := by
  rw [← List.reverse_reverse l]
  induction l.reverse with
  | nil => exact h0
  | cons x r ih =>
    rw [List.reverse_cons]
    exact h1 _ _ ih
/-- laid one after another -/
def ded (ks : List Tk) : List (Tk × V) := ks.foldl (fun kvs k => putK kvs k (.bl true)) []
theorem ded_snoc (ks : List Tk) (k : Tk) : ded (ks ++ [k]) = putK (ded ks) k (.bl true) := by
  unfold ded
  rw [List.foldl_append]
  rfl
theorem ded_mem : ∀ (ks : List Tk) (k : Tk), (valV (ded ks) k).isSome = decide (k ∈ ks) := by
  intro ks
  refine snoc_ind (P := fun ks : List Tk => ∀ k : Tk, (valV (ded ks) k).isSome = decide (k ∈ ks)) (fun k => by simp [ded, valV_nil]) (fun ks x ih k => ?_) ks
  rw [ded_snoc, valV_put]
  by_cases h : k = x
  · subst h
    simp
  · rw [if_neg h, ih k]
    simp [h]
theorem ded_le (ks : List Tk) : (ded ks).length ≤ ks.length := by
  refine snoc_ind (P := fun ks : List Tk => (ded ks).length ≤ ks.length) (Nat.le_refl _) (fun ks x ih => ?_) ks
  rw [ded_snoc, List.length_append]
  have q := length_putK (ded ks) x (.bl true)
  show _ ≤ ks.length + 1
  omega
theorem putK_old {kvs : List (Tk × V)} {k : Tk} (v : V) (h : (valV kvs k).isSome = true) : (putK kvs k v).length = kvs.length := by
  unfold putK
  rw [if_pos (by rw [valV_any]; exact h), List.length_map]
theorem ded_eq (ks : List Tk) : (ks.Nodup → ded ks = ks.map fun k => (k, V.bl true)) ∧ (¬ ks.Nodup → (ded ks).length < ks.length) := by
  refine snoc_ind (P := fun ks : List Tk => (ks.Nodup → ded ks = ks.map fun k => (k, V.bl true)) ∧ (¬ ks.Nodup → (ded ks).length < ks.length)) ⟨fun _ => rfl, fun h => (h .nil).elim⟩ (fun ks x ih => ?_) ks
  obtain ⟨ih1, ih2⟩ := ih
  have le := ded_le ks
  by_cases hx : x ∈ ks
  · have hv : (valV (ded ks) x).isSome = true := by rw [ded_mem]; exact decide_eq_true hx
    refine ⟨fun h => ?_, fun _ => ?_⟩
    · have z := (List.nodup_append.mp h).2.2 x hx x (by simp)
      exact (z rfl).elim
    · rw [ded_snoc, putK_old _ hv, List.length_append]
      show _ < ks.length + 1
      omega
  · have hv : valV (ded ks) x = none := by
      have q := ded_mem ks x
      rw [decide_eq_false hx] at q
      cases e : valV (ded ks) x with
      | none => rfl
      | some y => rw [e] at q; cases q
    have step : ded (ks ++ [x]) = ded ks ++ [(x, .bl true)] := by rw [ded_snoc, putK_new _ hv]
    refine ⟨fun h => ?_, fun h => ?_⟩
    · rw [step, ih1 (List.nodup_append.mp h).1, List.map_append]
      rfl
    · have hn : ¬ ks.Nodup := fun z => h (List.nodup_append.mpr ⟨z, by simp, fun y hy y' hy' e => by
        rw [List.mem_singleton.mp hy'] at e
        rw [e] at hy
        exact hx hy⟩)
      have q := ih2 hn
      rw [step, List.length_append, List.length_append]
      show (ded ks).length + 1 < ks.length + 1
      omega
end Pk
namespace Pk
open PySem PySem.Spec PyProof.Rows L2
/-- ascending lists with the same numbers are the same -/
theorem rise_uniq : ∀ {a b : List Int}, a.Pairwise (· < ·) → b.Pairwise (· < ·) → (∀ k, k ∈ a ↔ k ∈ b) → a = b
  | [], [], _, _, _ => rfl
  | [], y :: b, _, _, h => absurd ((h y).mpr List.mem_cons_self) (by simp)
  | x :: a, [], _, _, h => absurd ((h x).mp List.mem_cons_self) (by simp)
  | x :: a, y :: b, ha, hb, h => by
    have hx := fun {z} (m : z ∈ a) => List.rel_of_pairwise_cons ha m
    have hy := fun {z} (m : z ∈ b) => List.rel_of_pairwise_cons hb m
    have e : x = y := by
      rcases List.mem_cons.mp ((h x).mp List.mem_cons_self) with z | z
      · exact z
      · rcases List.mem_cons.mp ((h y).mpr List.mem_cons_self) with z' | z'
        · exact z'.symm
        · have := hx z'
          have := hy z
          omega
    subst e
    rw [rise_uniq ha.of_cons hb.of_cons fun k => ?_]
    constructor
    · intro m
      rcases List.mem_cons.mp ((h k).mp (List.mem_cons_of_mem _ m)) with z | z
      · have := hx m
        omega
      · exact z
    · intro m
      rcases List.mem_cons.mp ((h k).mpr (List.mem_cons_of_mem _ m)) with z | z
      · have := hy m
        omega
      · exact z
end Pk
namespace Pk
open PySem L2 PySem.Spec PyProof.Rows GxR NdefX
/-- a relation of a value in a heap, kept as heaps grow -/
structure Rel where
  p : Hp → V → Prop
  mn : ∀ {H H' : Hp} {v : V}, Kp H H' → p H v → p H' v
/-- what an object that is being changed is -/
structure Own where
  p : Hp → HO → Prop
  mn : ∀ {H H' : Hp} {o : HO}, Kp H H' → p H o → p H' o
  ok : ∀ {H : Hp} {o : HO}, p H o → Mut (some o)
inductive Slot where
  | any
  | fz (R : Rel)
  | own (C : Own)
/-- where one stands: the heap at the start, facts of the heap, what is hidden, the slots -/
structure Ct where
  hs : Hp
  h0 : Hp
  om : Addr → Prop
  g : List Slot
abbrev Ct.set (c : Ct) (i : Nat) (s : Slot) : Ct := { c with g := c.g.set i s }
abbrev Ct.at (c : Ct) (g : List Slot) : Ct := { c with g := g }
def isOwn (g : List Slot) (σ : L2.St) (a : Addr) : Prop := ∃ (i : Nat) (C : Own), g[i]? = some (.own C) ∧ σ[i]? = some (some (.ref a))
open Classical in
/-- the heap without these -/
noncomputable def less (H : Hp) (M : Addr → Prop) : Hp := fun a => if M a then none else H a
noncomputable abbrev bas (c : Ct) (σ : L2.St) (H : Hp) : Hp := less H fun a => isOwn c.g σ a ∨ c.om a
theorem less_in {H : Hp} {M : Addr → Prop} {a : Addr} (h : M a) : less H M a = none := if_pos h
theorem less_out {H : Hp} {M : Addr → Prop} {a : Addr} (h : ¬ M a) : less H M a = H a := if_neg h
theorem less_some {H : Hp} {M : Addr → Prop} {a : Addr} {o : HO} (e : less H M a = some o) : ¬ M a ∧ H a = some o := by
  by_cases h : M a
  · rw [less_in h] at e
    cases e
  · rw [less_out h] at e
    exact ⟨h, e⟩
theorem bas_in {c : Ct} {σ : L2.St} {H : Hp} {a : Addr} (h : isOwn c.g σ a ∨ c.om a) : bas c σ H a = none := if_pos h
theorem bas_out {c : Ct} {σ : L2.St} {H : Hp} {a : Addr} (h : ¬ (isOwn c.g σ a ∨ c.om a)) : bas c σ H a = H a := if_neg h
theorem kp_of {H H' : Hp} (h : ∀ b o, H b = some o → H' b = some o) : Kp H H' := kpS h
theorem kp_less {H : Hp} {M : Addr → Prop} : Kp (less H M) H := kp_of fun b o e => (less_some e).2
theorem less_kp {H H' : Hp} {M : Addr → Prop} (k : Kp H H') : Kp (less H M) (less H' M) := by
  refine ⟨fun b o e n => ?_, fun P ⟨ps, e, t⟩ => ?_⟩
  · obtain ⟨h, e⟩ := less_some e
    rw [less_out h]
    exact k.at_ b o e n
  · obtain ⟨h, e⟩ := less_some e
    obtain ⟨qs, e', t'⟩ := k.tab P ⟨ps, e, t⟩
    exact ⟨qs, by rw [less_out h]; exact e', t'⟩
/-- less is hidden: more stands -/
theorem less_mono {H : Hp} {M M' : Addr → Prop} (h : ∀ a, M' a → M a) : Kp (less H M) (less H M') := kp_of fun b o e => by
  obtain ⟨n, e⟩ := less_some e
  rw [less_out fun z => n (h b z)]
  exact e
theorem kp_new {H : Hp} {p : Addr} {o : HO} (n : H p = none) : Kp H (upd H p o) := kp_of fun b u e => by
  rw [upd_ne (ne_of_none e n)]
  exact e
/-- new behind the heap at the start -/
def Fre (hs : Hp) (p : Addr) : Prop := (∀ o, hs p = some o → ∃ ps, o = .tbl ps) ∧ ¬ TabG hs p
theorem Fre.of {hs H : Hp} {p : Addr} (k : Kp hs H) (n : H p = none) : Fre hs p := by
  refine ⟨fun o e => ?_, fun t => ?_⟩
  · by_cases z : ∃ ps, o = .tbl ps
    · exact z
    · have := k.at_ p o e fun ps q => z ⟨ps, q⟩
      rw [n] at this
      cases this
  · obtain ⟨ps, e, _⟩ := k.tab p t
    rw [n] at e
    cases e
theorem Fre.upd {hs H : Hp} {p : Addr} {o : HO} (f : Fre hs p) (k : Kp hs H) : Kp hs (upd H p o) := by
  refine ⟨fun b u e n => ?_, fun P t => ?_⟩
  · have hb : b ≠ p := fun z => by
      subst z
      obtain ⟨ps, z⟩ := f.1 u e
      exact n ps z
    rw [upd_ne hb]
    exact k.at_ b u e n
  · have hb : P ≠ p := fun z => by
      subst z
      exact f.2 t
    obtain ⟨qs, e, t'⟩ := k.tab P t
    exact ⟨qs, by rw [upd_ne hb]; exact e, t'⟩
/-- the slots hold what they should -/
structure Sta (c : Ct) (σ : L2.St) (H : Hp) : Prop where
  len : σ.length = c.g.length
  fz : ∀ (i : Nat) (R : Rel), c.g[i]? = some (.fz R) → ∃ v, σ[i]? = some (some v) ∧ R.p (bas c σ H) v
  own : ∀ (i : Nat) (C : Own), c.g[i]? = some (.own C) → ∃ p o, σ[i]? = some (some (.ref p)) ∧ H p = some o ∧ C.p (bas c σ H) o ∧ Fre c.hs p ∧ ¬ c.om p
  ne : ∀ (i j : Nat) (C C' : Own) (p : Addr), c.g[i]? = some (.own C) → c.g[j]? = some (.own C') → σ[i]? = some (some (.ref p)) → σ[j]? = some (some (.ref p)) → i = j
  k0 : Kp c.h0 (bas c σ H)
  ks : Kp c.hs H
  hid : ∀ a, c.om a → ∃ o, H a = some o ∧ Mut (some o)
theorem notTbl {o : HO} (h : Mut (some o)) : ∀ ps, o ≠ .tbl ps := fun ps e => by
  subst e
  exact h
/-- a heap that grows -/
theorem Sta.kp {c : Ct} {σ : L2.St} {H H' : Hp} (h : Sta c σ H) (k : Kp H H') : Sta c σ H' := by
  have kb : Kp (bas c σ H) (bas c σ H') := less_kp k
  refine ⟨h.len, fun i R e => ?_, fun i C e => ?_, h.ne, h.k0.trans kb, h.ks.trans k, fun a z => ?_⟩
  · obtain ⟨v, e1, e2⟩ := h.fz i R e
    exact ⟨v, e1, R.mn kb e2⟩
  · obtain ⟨p, o, e1, e2, e3, e4, e5⟩ := h.own i C e
    exact ⟨p, o, e1, k.at_ p o e2 (notTbl (C.ok e3)), C.mn kb e3, e4, e5⟩
  · obtain ⟨o, e, m⟩ := h.hid a z
    exact ⟨o, k.at_ a o e (notTbl m), m⟩
theorem Sta.kb {c : Ct} {σ : L2.St} {H H' : Hp} (h : Sta c σ H) (k : Kp H H') : Kp (bas c σ H) (bas c σ H') := less_kp k
/-- what is new is not hidden -/
theorem Sta.free {c : Ct} {σ : L2.St} {H : Hp} (h : Sta c σ H) {p : Addr} (n : H p = none) : ¬ (isOwn c.g σ p ∨ c.om p) := by
  rintro (⟨i, C, e1, e2⟩ | z)
  · obtain ⟨q, o, e3, e4, _⟩ := h.own i C e1
    rw [e2] at e3
    cases e3
    rw [n] at e4
    cases e4
  · obtain ⟨o, e, _⟩ := h.hid p z
    rw [n] at e
    cases e
theorem getset {α : Type} {l : List α} {i j : Nat} {a b : α} (h : (l.set i a)[j]? = some b) : (j = i ∧ b = a) ∨ (j ≠ i ∧ l[j]? = some b) := by
  by_cases e : i = j
  · subst e
    left
    rw [List.getElem?_set] at h
    simp only [if_pos rfl, ite_true] at h
    split at h
    · cases h
      exact ⟨rfl, rfl⟩
    · cases h
  · right
    rw [List.getElem?_set_ne e] at h
    exact ⟨fun z => e z.symm, h⟩
theorem setget {α : Type} {l : List α} {i : Nat} {a : α} (h : i < l.length) : (l.set i a)[i]? = some a := by
  rw [List.getElem?_set]
  simp [h]
/-- a name holds a value that stays -/
theorem Sta.set {c : Ct} {σ : L2.St} {H : Hp} (h : Sta c σ H) {i : Nat} {R : Rel} {v : V} (hi : i < c.g.length) (hv : R.p (bas c σ H) v) :
    Sta (c.set i (.fz R)) (σ.set i (some v)) H ∧ Kp (bas c σ H) (bas (c.set i (.fz R)) (σ.set i (some v)) H) := by
  have back : ∀ {j : Nat} {C : Own}, (c.g.set i (.fz R))[j]? = some (.own C) → j ≠ i ∧ c.g[j]? = some (.own C) := fun {j C} e => by
    rcases getset e with ⟨_, z⟩ | z
    · cases z
    · exact z
  have kb : Kp (bas c σ H) (bas (c.set i (.fz R)) (σ.set i (some v)) H) := less_mono fun a => by
    rintro (⟨j, C, e1, e2⟩ | z)
    · obtain ⟨n, e1⟩ := back e1
      rw [List.getElem?_set_ne fun z => n z.symm] at e2
      exact .inl ⟨j, C, e1, e2⟩
    · exact .inr z
  refine ⟨⟨by rw [List.length_set, List.length_set]; exact h.len, fun j S e => ?_, fun j C e => ?_, fun j k C C' p e1 e2 e3 e4 => ?_, h.k0.trans kb, h.ks, h.hid⟩, kb⟩
  · rcases getset e with ⟨rfl, z⟩ | ⟨n, z⟩
    · cases z
      exact ⟨v, setget (by rw [h.len]; exact hi), R.mn kb hv⟩
    · obtain ⟨u, e1, e2⟩ := h.fz j S z
      exact ⟨u, by rw [List.getElem?_set_ne fun z => n z.symm]; exact e1, S.mn kb e2⟩
  · obtain ⟨n, z⟩ := back e
    obtain ⟨p, o, e1, e2, e3, e4, e5⟩ := h.own j C z
    exact ⟨p, o, by rw [List.getElem?_set_ne fun z => n z.symm]; exact e1, e2, C.mn kb e3, e4, e5⟩
  · obtain ⟨n1, e1⟩ := back e1
    obtain ⟨n2, e2⟩ := back e2
    rw [List.getElem?_set_ne fun z => n1 z.symm] at e3
    rw [List.getElem?_set_ne fun z => n2 z.symm] at e4
    exact h.ne j k C C' p e1 e2 e3 e4
/-- a slot of which nothing more is said -/
theorem Sta.drop {c : Ct} {σ : L2.St} {H : Hp} (h : Sta c σ H) (i : Nat) (o : Option V) : Sta (c.set i .any) (σ.set i o) H ∧ Kp (bas c σ H) (bas (c.set i .any) (σ.set i o) H) := by
  have back : ∀ {j : Nat} {s : Slot}, s ≠ .any → (c.g.set i .any)[j]? = some s → j ≠ i ∧ c.g[j]? = some s := fun {j s} ns e => by
    rcases getset e with ⟨_, z⟩ | z
    · exact absurd z ns
    · exact z
  have kb : Kp (bas c σ H) (bas (c.set i .any) (σ.set i o) H) := less_mono fun a => by
    rintro (⟨j, C, e1, e2⟩ | z)
    · obtain ⟨n, e1⟩ := back (by intro z; cases z) e1
      rw [List.getElem?_set_ne fun z => n z.symm] at e2
      exact .inl ⟨j, C, e1, e2⟩
    · exact .inr z
  refine ⟨⟨by rw [List.length_set, List.length_set]; exact h.len, fun j S e => ?_, fun j C e => ?_, fun j k C C' p e1 e2 e3 e4 => ?_, h.k0.trans kb, h.ks, h.hid⟩, kb⟩
  · obtain ⟨n, z⟩ := back (by intro z; cases z) e
    obtain ⟨u, e1, e2⟩ := h.fz j S z
    exact ⟨u, by rw [List.getElem?_set_ne fun z => n z.symm]; exact e1, S.mn kb e2⟩
  · obtain ⟨n, z⟩ := back (by intro z; cases z) e
    obtain ⟨p, u, e1, e2, e3, e4, e5⟩ := h.own j C z
    exact ⟨p, u, by rw [List.getElem?_set_ne fun z => n z.symm]; exact e1, e2, C.mn kb e3, e4, e5⟩
  · obtain ⟨n1, e1⟩ := back (by intro z; cases z) e1
    obtain ⟨n2, e2⟩ := back (by intro z; cases z) e2
    rw [List.getElem?_set_ne fun z => n1 z.symm] at e3
    rw [List.getElem?_set_ne fun z => n2 z.symm] at e4
    exact h.ne j k C C' p e1 e2 e3 e4
theorem setsame {α : Type} {l : List α} {i : Nat} {a : α} (h : l[i]? = some a) : l.set i a = l := by
  refine List.ext_getElem? fun j => ?_
  by_cases e : i = j
  · subst e
    obtain ⟨hi, _⟩ := List.getElem?_eq_some_iff.mp h
    rw [setget hi, h]
  · rw [List.getElem?_set_ne e]
/-- the slot of a name, weakened -/
theorem Sta.weak {c : Ct} {σ : L2.St} {H : Hp} (h : Sta c σ H) {i : Nat} {R S : Rel} (e : c.g[i]? = some (.fz R)) (k : ∀ H v, R.p H v → S.p H v) : Sta (c.set i (.fz S)) σ H := by
  obtain ⟨v, e1, e2⟩ := h.fz i R e
  have hi : i < c.g.length := (List.getElem?_eq_some_iff.mp e).1
  have := (h.set (R := S) hi (k _ _ e2)).1
  rw [setsame e1] at this
  exact this
/-- a name holds a new object that is going to be changed -/
theorem Sta.new {c : Ct} {σ : L2.St} {H : Hp} (h : Sta c σ H) {i : Nat} {C : Own} {p : Addr} {o : HO} (hi : i < c.g.length) (n : H p = none) (hv : C.p (bas c σ H) o) :
    Sta (c.set i (.own C)) (σ.set i (some (.ref p))) (upd H p o) ∧ Kp (bas c σ H) (bas (c.set i (.own C)) (σ.set i (some (.ref p))) (upd H p o)) := by
  have hf := h.free n
  have kb : Kp (bas c σ H) (bas (c.set i (.own C)) (σ.set i (some (.ref p))) (upd H p o)) := kp_of fun b u e => by
    obtain ⟨nb, e⟩ := less_some e
    have bp : b ≠ p := ne_of_none e n
    rw [bas_out, upd_ne bp]
    · exact e
    · rintro (⟨j, C', e1, e2⟩ | z)
      · by_cases ji : j = i
        · subst ji
          rw [setget (by rw [h.len]; exact hi)] at e2
          cases e2
          exact bp rfl
        · rcases getset e1 with ⟨z, _⟩ | ⟨_, z⟩
          · exact ji z
          · rw [List.getElem?_set_ne fun z => ji z.symm] at e2
            exact nb (.inl ⟨j, C', z, e2⟩)
      · exact nb (.inr z)
  have old : ∀ {j : Nat} {C' : Own} {q : Addr}, c.g[j]? = some (.own C') → σ[j]? = some (some (.ref q)) → q ≠ p := fun {j C' q} e1 e2 z => hf (.inl ⟨j, C', e1, by rw [← z]; exact e2⟩)
  refine ⟨⟨by rw [List.length_set, List.length_set]; exact h.len, fun j S e => ?_, fun j C' e => ?_, fun j k C1 C2 q e1 e2 e3 e4 => ?_, h.k0.trans kb, h.ks.trans (kp_new n), fun a z => ?_⟩, kb⟩
  · rcases getset e with ⟨_, z⟩ | ⟨nj, z⟩
    · cases z
    · obtain ⟨u, e1, e2⟩ := h.fz j S z
      exact ⟨u, by rw [List.getElem?_set_ne fun z => nj z.symm]; exact e1, S.mn kb e2⟩
  · rcases getset e with ⟨rfl, z⟩ | ⟨nj, z⟩
    · cases z
      exact ⟨p, o, setget (by rw [h.len]; exact hi), upd_same, C.mn kb hv, .of h.ks n, fun z => hf (.inr z)⟩
    · obtain ⟨q, u, e1, e2, e3, e4, e5⟩ := h.own j C' z
      exact ⟨q, u, by rw [List.getElem?_set_ne fun z => nj z.symm]; exact e1, by rw [upd_ne (old z e1)]; exact e2, C'.mn kb e3, e4, e5⟩
  · rcases getset e1 with ⟨rfl, z⟩ | ⟨nj, z⟩ <;> rcases getset e2 with ⟨rfl, y⟩ | ⟨nk, y⟩
    · rfl
    · rw [setget (by rw [h.len]; exact hi)] at e3
      cases e3
      rw [List.getElem?_set_ne fun z => nk z.symm] at e4
      exact absurd rfl (old y e4)
    · rw [setget (by rw [h.len]; exact hi)] at e4
      cases e4
      rw [List.getElem?_set_ne fun z => nj z.symm] at e3
      exact absurd rfl (old z e3)
    · rw [List.getElem?_set_ne fun z => nj z.symm] at e3
      rw [List.getElem?_set_ne fun z => nk z.symm] at e4
      exact h.ne j k C1 C2 q z y e3 e4
  · obtain ⟨u, e, m⟩ := h.hid a z
    exact ⟨u, by rw [upd_ne (ne_of_none e n)]; exact e, m⟩
/-- the object at a name is changed -/
theorem Sta.mut {c : Ct} {σ : L2.St} {H : Hp} (h : Sta c σ H) {i : Nat} {C C' : Own} {p : Addr} {o : HO} (e : c.g[i]? = some (.own C)) (es : σ[i]? = some (some (.ref p))) (hv : C'.p (bas c σ H) o) :
    Sta (c.set i (.own C')) σ (upd H p o) ∧ bas (c.set i (.own C')) σ (upd H p o) = bas c σ H := by
  have hi : i < c.g.length := (List.getElem?_eq_some_iff.mp e).1
  obtain ⟨p', o0, e1, e2, e3, e4, e5⟩ := h.own i C e
  rw [es] at e1
  cases e1
  have own' : ∀ a, isOwn (c.g.set i (.own C')) σ a ↔ isOwn c.g σ a := fun a => by
    constructor
    · rintro ⟨j, C1, q1, q2⟩
      rcases getset q1 with ⟨rfl, z⟩ | ⟨_, z⟩
      · exact ⟨j, C, e, q2⟩
      · exact ⟨j, C1, z, q2⟩
    · rintro ⟨j, C1, q1, q2⟩
      by_cases ji : j = i
      · subst ji
        exact ⟨j, C', setget hi, q2⟩
      · exact ⟨j, C1, by rw [List.getElem?_set_ne fun z => ji z.symm]; exact q1, q2⟩
  have hp : isOwn c.g σ p := ⟨i, C, e, es⟩
  have eb : bas (c.set i (.own C')) σ (upd H p o) = bas c σ H := by
    funext a
    by_cases m : isOwn c.g σ a ∨ c.om a
    · rw [bas_in m]
      exact bas_in (c := c.set i (.own C')) (m.elim (fun z => .inl ((own' a).mpr z)) .inr)
    · rw [bas_out m]
      refine (bas_out (c := c.set i (.own C')) fun z => m (z.elim (fun y => .inl ((own' a).mp y)) .inr)).trans (upd_ne ?_)
      intro z
      subst z
      exact m (.inl hp)
  refine ⟨⟨by show _ = (c.g.set i (.own C')).length; rw [List.length_set]; exact h.len, fun j S q => ?_, fun j C1 q => ?_, fun j k C1 C2 q q1 q2 q3 q4 => ?_, by rw [eb]; exact h.k0, e4.upd h.ks, fun a z => ?_⟩, eb⟩
  · rcases getset q with ⟨_, z⟩ | ⟨_, z⟩
    · cases z
    · obtain ⟨u, q1, q2⟩ := h.fz j S z
      exact ⟨u, q1, by rw [eb]; exact q2⟩
  · rcases getset q with ⟨rfl, z⟩ | ⟨nj, z⟩
    · cases z
      exact ⟨p, o, es, upd_same, by rw [eb]; exact hv, e4, e5⟩
    · obtain ⟨q, u, q1, q2, q3, q4, q5⟩ := h.own j C1 z
      refine ⟨q, u, q1, ?_, by rw [eb]; exact q3, q4, q5⟩
      rw [upd_ne fun y => ?_]
      · exact q2
      · subst y
        exact nj (h.ne j i C1 C q z e q1 es)
  · have f : ∀ {j : Nat} {D : Own}, (c.g.set i (.own C'))[j]? = some (.own D) → ∃ D', c.g[j]? = some (.own D') := fun {j D} y => by
      rcases getset y with ⟨rfl, _⟩ | ⟨_, z⟩
      · exact ⟨C, e⟩
      · exact ⟨D, z⟩
    obtain ⟨D1, y1⟩ := f q1
    obtain ⟨D2, y2⟩ := f q2
    exact h.ne j k D1 D2 q y1 y2 q3 q4
  · obtain ⟨u, y, m⟩ := h.hid a z
    refine ⟨u, ?_, m⟩
    rw [upd_ne fun x => ?_]
    · exact y
    · subst x
      exact e5 z
/-- more is known of the heap -/
theorem Sta.h0 {c : Ct} {σ : L2.St} {H : Hp} (h : Sta c σ H) {h1 : Hp} (k : Kp h1 (bas c σ H)) : Sta { c with h0 := h1 } σ H := ⟨h.len, h.fz, h.own, h.ne, k, h.ks, h.hid⟩
end Pk
namespace Pk
open PySem L2 PySem.Spec PyProof.Rows GxR NdefX
mutual
inductive Dt (H : Hp) : V → PyData → Prop
  | non : Dt H .non .none
  | bl (b : Bool) : Dt H (.bl b) (.bool b)
  | int (i : Int) : Dt H (.int i) (.int i)
  | str (x : Str) : Dt H (.str x) (.str x)
  | lst {a : Addr} {xs : List V} {ds : List PyData} : H a = some (.lst xs) → DtAll H xs ds → Dt H (.ref a) (.list ds)
  | tup {a : Addr} {xs : List V} {ds : List PyData} : H a = some (.tup xs) → DtAll H xs ds → Dt H (.ref a) (.tuple ds)
  | dT {a : Addr} {kvs : List (Tk × V)} {ds : List (PyData × PyData)} : H a = some (.dT kvs) → DtKv H dK kvs ds → Dt H (.ref a) (.dict ds)
  | dK {a : Addr} {kvs : List (L2.Key × V)} {ds : List (PyData × PyData)} : H a = some (.dK kvs) → DtKk H kvs ds → Dt H (.ref a) (.dict ds)
inductive DtAll (H : Hp) : List V → List PyData → Prop
  | nil : DtAll H [] []
  | cons {v : V} {vs : List V} {d : PyData} {ds : List PyData} : Dt H v d → DtAll H vs ds → DtAll H (v :: vs) (d :: ds)
inductive DtKv (H : Hp) : (Tk → PyData) → List (Tk × V) → List (PyData × PyData) → Prop
  | nil {f : Tk → PyData} : DtKv H f [] []
  | cons {f : Tk → PyData} {k : Tk} {v : V} {vs : List (Tk × V)} {d : PyData} {ds : List (PyData × PyData)} : Dt H v d → DtKv H f vs ds → DtKv H f ((k, v) :: vs) ((f k, d) :: ds)
inductive DtKk (H : Hp) : List (L2.Key × V) → List (PyData × PyData) → Prop
  | nil : DtKk H [] []
  | cons {k : L2.Key} {v : V} {vs : List (L2.Key × V)} {d : PyData} {ds : List (PyData × PyData)} : Dt H v d → DtKk H vs ds → DtKk H ((k, v) :: vs) ((kd k, d) :: ds)
end
section
variable {H H' : Hp}
mutual
theorem Dt.kp (k : Kp H H') : ∀ {v : V} {d : PyData}, Dt H v d → Dt H' v d
  | _, _, .non => .non
  | _, _, .bl b => .bl b
  | _, _, .int i => .int i
  | _, _, .str x => .str x
  | _, _, .lst e a => .lst (k.lst e) (DtAll.kp k a)
  | _, _, .tup e a => .tup (k.tup e) (DtAll.kp k a)
  | _, _, .dT e a => .dT (k.dT e) (DtKv.kp k a)
  | _, _, .dK e a => .dK (k.at_ _ _ e fun _ z => nomatch z) (DtKk.kp k a)
theorem DtAll.kp (k : Kp H H') : ∀ {vs : List V} {ds : List PyData}, DtAll H vs ds → DtAll H' vs ds
  | _, _, .nil => .nil
  | _, _, .cons a b => .cons (Dt.kp k a) (DtAll.kp k b)
theorem DtKv.kp (k : Kp H H') : ∀ {f : Tk → PyData} {vs : List (Tk × V)} {ds : List (PyData × PyData)}, DtKv H f vs ds → DtKv H' f vs ds
  | _, _, _, .nil => .nil
  | _, _, _, .cons a b => .cons (Dt.kp k a) (DtKv.kp k b)
theorem DtKk.kp (k : Kp H H') : ∀ {vs : List (L2.Key × V)} {ds : List (PyData × PyData)}, DtKk H vs ds → DtKk H' vs ds
  | _, _, .nil => .nil
  | _, _, .cons a b => .cons (Dt.kp k a) (DtKk.kp k b)
end
end
mutual
/-- data without lists and dicts -/
def flat : PyData → Bool
  | .list _ => false
  | .dict _ => false
  | .tuple ds => flats ds
  | _ => true
def flats : List PyData → Bool
  | [] => true
  | d :: ds => flat d && flats ds
end
section
variable {H : Hp} {M : Addr → Prop} (hM : ∀ a, M a → ∃ o, H a = some o ∧ Mut (some o))
include hM
mutual
theorem Dt.less : ∀ {v : V} {d : PyData}, Dt H v d → flat d = true → Dt (less H M) v d
  | _, _, .non, _ => .non
  | _, _, .bl b, _ => .bl b
  | _, _, .int i, _ => .int i
  | _, _, .str x, _ => .str x
  | _, _, .lst _ _, h => by cases h
  | _, _, .dT _ _, h => by cases h
  | _, _, .dK _ _, h => by cases h
  | _, .tuple ds, .tup (a := a) e q, h => by
    refine .tup ?_ (DtAll.less q h)
    rw [less_out]
    · exact e
    · intro z
      obtain ⟨o, e1, e2⟩ := hM a z
      rw [e] at e1
      cases e1
      exact e2
theorem DtAll.less : ∀ {vs : List V} {ds : List PyData}, DtAll H vs ds → flats ds = true → DtAll (less H M) vs ds
  | _, _, .nil, _ => .nil
  | _, d :: ds, .cons a b, h => by
    have h' : (flat d && flats ds) = true := h
    rw [Bool.and_eq_true] at h'
    exact .cons (Dt.less a h'.1) (DtAll.less b h'.2)
end
end
section
variable {H : Hp} {K : PySem.W.Frag}
mutual
/-- no dict within -/
def nod : PyData → Bool
  | .dict _ => false
  | .tuple ds => nods ds
  | .list ds => nods ds
  | _ => true
def nods : List PyData → Bool
  | [] => true
  | d :: ds => nod d && nods ds
end
mutual
theorem Dt.dp : ∀ {v : V} {d : PyData}, Dt H v d → nod d = true → Dp K H v d
  | _, _, .non, _ => .non
  | _, _, .bl b, _ => .bl b
  | _, _, .int i, _ => .int i
  | _, _, .str x, _ => .str x
  | _, .list ds, .lst e q, h => .lst (SqL.of e) (DtAll.dp q h)
  | _, _, .dT _ _, h => by cases h
  | _, _, .dK _ _, h => by cases h
  | _, .tuple ds, .tup (a := a) e q, h => .tup (SqT.of e) (DtAll.dp q h)
theorem DtAll.dp : ∀ {vs : List V} {ds : List PyData}, DtAll H vs ds → nods ds = true → DpAll K H vs ds
  | _, _, .nil, _ => .nil
  | _, d :: ds, .cons a b, h => by
    have h' : (nod d && nods ds) = true := h
    rw [Bool.and_eq_true] at h'
    exact .cons (Dt.dp a h'.1) (DtAll.dp b h'.2)
end
theorem DtAll.len : ∀ {vs : List V} {ds : List PyData}, DtAll H vs ds → vs.length = ds.length
  | _, _, .nil => rfl
  | _, _, .cons _ b => congrArg (· + 1) b.len
theorem DtAll.app : ∀ {vs us : List V} {ds es : List PyData}, DtAll H vs ds → DtAll H us es → DtAll H (vs ++ us) (ds ++ es)
  | _, _, _, _, .nil, h => h
  | _, _, _, _, .cons a b, h => .cons a (b.app h)
theorem DtAll.at {vs : List V} {ds : List PyData} (h : DtAll H vs ds) : ∀ {i : Nat} {d : PyData}, ds[i]? = some d → ∃ v, vs[i]? = some v ∧ Dt H v d := by
  induction vs generalizing ds with
  | nil => cases h; intro i d e; cases e
  | cons v vs ih =>
    cases h with
    | cons a b =>
      intro i d e
      cases i with
      | zero => cases e; exact ⟨_, rfl, a⟩
      | succ i => exact ih b e
theorem DtAll.at' {vs : List V} {ds : List PyData} (h : DtAll H vs ds) : ∀ {i : Nat} {v : V}, vs[i]? = some v → ∃ d, ds[i]? = some d ∧ Dt H v d := by
  induction vs generalizing ds with
  | nil => intro i d e; cases e
  | cons v vs ih =>
    cases h with
    | cons a b =>
      intro i d e
      cases i with
      | zero => cases e; exact ⟨_, rfl, a⟩
      | succ i => exact ih b e
theorem DtAll.atI {vs : List V} {ds : List PyData} (h : DtAll H vs ds) {i : Int} {d : PyData} (e : L2.atI ds i = some d) : ∃ v, L2.atI vs i = some v ∧ Dt H v d := by
  unfold L2.atI at *
  rw [← h.len] at e
  cases q : ixN vs.length i with
  | none => rw [q] at e; cases e
  | some j => rw [q] at e; exact h.at e
theorem DtAll.take {vs : List V} {ds : List PyData} (h : DtAll H vs ds) : ∀ n, DtAll H (vs.take n) (ds.take n) := by
  induction vs generalizing ds with
  | nil => cases h; intro n; simp only [List.take_nil]; exact .nil
  | cons v vs ih =>
    cases h with
    | cons a b =>
      intro n
      cases n with
      | zero => exact .nil
      | succ n => exact .cons a (ih b n)
theorem DtAll.drop {vs : List V} {ds : List PyData} (h : DtAll H vs ds) : ∀ n, DtAll H (vs.drop n) (ds.drop n) := by
  induction vs generalizing ds with
  | nil => cases h; intro n; simp only [List.drop_nil]; exact .nil
  | cons v vs ih =>
    cases h with
    | cons a b =>
      intro n
      cases n with
      | zero => exact .cons a b
      | succ n => exact ih b n
theorem DtAll.rev {vs : List V} {ds : List PyData} (h : DtAll H vs ds) : DtAll H vs.reverse ds.reverse := by
  induction vs generalizing ds with
  | nil => cases h; exact .nil
  | cons v vs ih =>
    cases h with
    | cons a b => rw [List.reverse_cons, List.reverse_cons]; exact (ih b).app (.cons a .nil)
end
/-- the slice of a list -/
def cutD (xs : List PyData) (lo hi : Option Int) : List PyData := (xs.drop (HT.sIx xs.length 0 lo)).take (HT.sIx xs.length xs.length hi - HT.sIx xs.length 0 lo)
theorem DtAll.cut {H : Hp} {vs : List V} {ds : List PyData} (h : DtAll H vs ds) (lo hi : Option Int) : DtAll H (cutV vs lo hi) (cutD ds lo hi) := by
  unfold cutV cutD
  rw [h.len]
  exact (h.drop _).take _
/-- data of a type, by its picture -/
def RD (d : PyData) : Rel := ⟨fun H v => Dt H v d, fun k h => h.kp k⟩
/-- a list that is being changed -/
def OL (ds : List PyData) : Own := ⟨fun H o => ∃ vs, o = .lst vs ∧ DtAll H vs ds, fun k ⟨vs, e, h⟩ => ⟨vs, e, h.kp k⟩, fun ⟨vs, e, _⟩ => by subst e; exact trivial⟩
noncomputable def msk (b : Bool) (c : Ct) (σ : L2.St) : Addr → Prop := fun a => b = true ∧ (isOwn c.g σ a ∨ c.om a)
noncomputable abbrev hb (b : Bool) (c : Ct) (σ : L2.St) (H : Hp) : Hp := less H (msk b c σ)
theorem hb_t {c : Ct} {σ : L2.St} {H : Hp} : hb true c σ H = bas c σ H := by
  funext a
  by_cases h : isOwn c.g σ a ∨ c.om a
  · rw [bas_in h]
    exact less_in ⟨rfl, h⟩
  · rw [bas_out h]
    exact less_out fun z => h z.2
theorem hb_f {c : Ct} {σ : L2.St} {H : Hp} : hb false c σ H = H := by
  funext a
  exact less_out fun z => Bool.false_ne_true z.1
theorem hb_kp {b : Bool} {c : Ct} {σ : L2.St} {H H' : Hp} (k : Kp H H') : Kp (hb b c σ H) (hb b c σ H') := less_kp k
theorem bas_hb {b : Bool} {c : Ct} {σ : L2.St} {H : Hp} : Kp (bas c σ H) (hb b c σ H) := less_mono fun _ z => z.2
/-- what is hidden stands, and is of those that may change -/
theorem Sta.hides {c : Ct} {σ : L2.St} {H : Hp} (h : Sta c σ H) {b : Bool} (a : Addr) (m : msk b c σ a) : ∃ o, H a = some o ∧ Mut (some o) := by
  rcases m.2 with ⟨i, C, e1, e2⟩ | z
  · obtain ⟨p, o, e3, e4, e5, _⟩ := h.own i C e1
    rw [e2] at e3
    cases e3
    exact ⟨o, e4, C.ok e5⟩
  · exact h.hid a z
/-- a value's reading: it gives a value as R says, in the heap (false), in the heap without what is being changed (true) -/
def E (b : Bool) (c : Ct) (t : TE) (R : Rel) : Prop := ∀ σ H, Sta c σ H → ∀ Q : VK, (∀ H' v, Kp H H' → R.p (hb b c σ H') v → Q v H') → t σ H Q
def ET (c : Ct) (t : TT) (b : Bool) : Prop := ∀ σ H, Sta c σ H → ∀ Q : Bool → Hp → Prop, (∀ H', Kp H H' → Q b H') → t σ H Q
def Rok : List Rel → Hp → List V → Prop
  | [], _, vs => vs = []
  | R :: Rs, H, vs => ∃ v r, vs = v :: r ∧ R.p H v ∧ Rok Rs H r
theorem Rok.kp {H H' : Hp} (k : Kp H H') : ∀ {Rs : List Rel} {vs : List V}, Rok Rs H vs → Rok Rs H' vs
  | [], _, h => h
  | R :: _, _, ⟨v, r, e, h1, h2⟩ => ⟨v, r, e, R.mn k h1, Rok.kp k h2⟩
def EA (b : Bool) (c : Ct) (t : TA) (Rs : List Rel) : Prop := ∀ σ H, Sta c σ H → ∀ Q : List V → Hp → Prop, (∀ H' vs, Kp H H' → Rok Rs (hb b c σ H') vs → Q vs H') → t σ H Q
/-- a list whose items stay, itself perhaps among what is being changed -/
def EI (c : Ct) (t : TE) (ds : List PyData) : Prop := ∀ σ H, Sta c σ H → ∀ Q : VK, (∀ H' a vs, Kp H H' → H' a = some (.lst vs) → DtAll (bas c σ H') vs ds → Q (.ref a) H') → t σ H Q
section
variable {b : Bool} {c : Ct} {R S : Rel} {t ta tb tc : TE} {d e : PyData}
theorem E.low (h : E true c t R) : E b c t R := fun σ H s Q q => h σ H s Q fun H' v k r => q H' v k (R.mn (by rw [hb_t]; exact bas_hb) r)
theorem E.imp (h : E b c t R) (k : ∀ H v, R.p H v → S.p H v) : E b c t S := fun σ H s Q q => h σ H s Q fun H' v k' r => q H' v k' (k _ _ r)
theorem E.eq (h : E b c t (RD d)) (z : d = e) : E b c t (RD e) := z ▸ h
theorem E.flat (h : E false c t (RD d)) (f : flat d = true) : E b c t (RD d) := fun σ H s Q q => h σ H s Q fun H' v k r => by
  rw [hb_f] at r
  exact q H' v k (Dt.less (fun a m => (s.kp k).hides a m) r f)
theorem ET.eq {t : TT} {a a' : Bool} (h : ET c t a) (z : a = a') : ET c t a' := z ▸ h
theorem e_var {i : Nat} (h : c.g[i]? = some (.fz R)) : E b c (tVar i) R := fun σ H s Q q => by
  obtain ⟨v, e, r⟩ := s.fz i R h
  exact ⟨v, e, q H v (Kp.refl _) (R.mn bas_hb r)⟩
/-- a list that is being changed, read -/
theorem e_own {i : Nat} {ds : List PyData} (h : c.g[i]? = some (.own (OL ds))) : E false c (tVar i) (RD (.list ds)) := fun σ H s Q q => by
  obtain ⟨p, o, e1, e2, ⟨vs, rfl, a⟩, _⟩ := s.own i _ h
  refine ⟨.ref p, e1, q H _ (Kp.refl _) ?_⟩
  rw [hb_f]
  exact .lst e2 (a.kp kp_less)
theorem i_own {i : Nat} {ds : List PyData} (h : c.g[i]? = some (.own (OL ds))) : EI c (tVar i) ds := fun σ H s Q q => by
  obtain ⟨p, o, e1, e2, ⟨vs, rfl, a⟩, _⟩ := s.own i _ h
  exact ⟨.ref p, e1, q H p vs (Kp.refl _) e2 a⟩
theorem i_of {ds : List PyData} (h : E true c t (RD (.list ds))) : EI c t ds := fun σ H s Q q => h σ H s Q fun H' v k r => by
  rw [hb_t] at r
  cases r with
  | lst e a => exact q H' _ _ k (less_some e).2 a
theorem e_int {i : Int} : E b c (tC (.int i)) (RD (.int i)) := fun σ H s Q q => q H _ (Kp.refl _) (.int i)
theorem e_str {x : Str} : E b c (tC (.str x)) (RD (.str x)) := fun σ H s Q q => q H _ (Kp.refl _) (.str x)
theorem e_bl {x : Bool} : E b c (tC (.bl x)) (RD (.bool x)) := fun σ H s Q q => q H _ (Kp.refl _) (.bl x)
theorem e_non : E b c (tC .non) (RD .none) := fun σ H s Q q => q H _ (Kp.refl _) .non
/-- an operation on values: M is hidden from it -/
def Hd (H : Hp) (M : Addr → Prop) : Prop := ∀ a, M a → ∃ o, H a = some o ∧ Mut (some o)
def O2 (r : R2) (R1 R2 R : Rel) : Prop := ∀ H M x y, Hd H M → R1.p (less H M) x → R2.p (less H M) y → ∀ Q : VK, (∀ H' v, Kp H H' → R.p (less H' M) v → Q v H') → r x y H Q
def O1 (r : V → Hp → VK → Prop) (R1 R : Rel) : Prop := ∀ H M x, Hd H M → R1.p (less H M) x → ∀ Q : VK, (∀ H' v, Kp H H' → R.p (less H' M) v → Q v H') → r x H Q
def On (r : List V → Hp → VK → Prop) (Rs : List Rel) (R : Rel) : Prop := ∀ H M vs, Hd H M → Rok Rs (less H M) vs → ∀ Q : VK, (∀ H' v, Kp H H' → R.p (less H' M) v → Q v H') → r vs H Q
theorem e_op {r : R2} {R1 R2 : Rel} (o : O2 r R1 R2 R) (ha : E b c ta R1) (hc : E b c tb R2) : E b c (tOp r ta tb) R := fun σ H s Q q =>
  ha σ H s _ fun H1 x k1 r1 => hc σ H1 (s.kp k1) _ fun H2 y k2 r2 => o H2 (msk b c σ) x y (fun a m => ((s.kp k1).kp k2).hides a m) (R1.mn (hb_kp k2) r1) r2 Q fun H' v k r => q H' v ((k1.trans k2).trans k) r
theorem e_un {r : V → Hp → VK → Prop} {R1 : Rel} (o : O1 r R1 R) (ha : E b c ta R1) : E b c (tUn r ta) R := fun σ H s Q q =>
  ha σ H s _ fun H1 x k1 r1 => o H1 (msk b c σ) x (fun a m => (s.kp k1).hides a m) r1 Q fun H' v k r => q H' v (k1.trans k) r
theorem a_nil : EA b c tNil [] := fun σ H s Q q => q H [] (Kp.refl _) rfl
theorem a_cons {u : TA} {Rs : List Rel} (ha : E b c t R) (hr : EA b c u Rs) : EA b c (tCons t u) (R :: Rs) := fun σ H s Q q =>
  ha σ H s _ fun H1 x k1 r1 => hr σ H1 (s.kp k1) _ fun H2 vs k2 r2 => q H2 _ (k1.trans k2) ⟨x, vs, rfl, R.mn (hb_kp k2) r1, r2⟩
theorem e_cb {r : List V → Hp → VK → Prop} {u : TA} {Rs : List Rel} (o : On r Rs R) (ha : EA b c u Rs) : E b c (tCB r u) R := fun σ H s Q q =>
  ha σ H s _ fun H1 vs k1 r1 => o H1 (msk b c σ) vs (fun a m => (s.kp k1).hides a m) r1 Q fun H' v k r => q H' v (k1.trans k) r
theorem o_I0 {g : Int → Int → Int} {i j : Int} : O2 (rI0 fun i j => .int (g i j)) (RD (.int i)) (RD (.int j)) (RD (.int (g i j))) := fun H M x y _ r1 r2 Q q => by
  cases r1
  cases r2
  exact ⟨i, j, rfl, rfl, q H _ (Kp.refl _) (.int _)⟩
theorem o_I {C : Int → Int → Prop} {g : Int → Int → Int} {i j : Int} (h : C i j) : O2 (rI C fun i j => .int (g i j)) (RD (.int i)) (RD (.int j)) (RD (.int (g i j))) := fun H M x y _ r1 r2 Q q => by
  cases r1
  cases r2
  exact ⟨i, j, rfl, rfl, h, q H _ (Kp.refl _) (.int _)⟩
theorem o_add {i j : Int} : O2 (rI0 fun i j => .int (i + j)) (RD (.int i)) (RD (.int j)) (RD (.int (i + j))) := o_I0
theorem o_sub {i j : Int} : O2 (rI0 fun i j => .int (i - j)) (RD (.int i)) (RD (.int j)) (RD (.int (i - j))) := o_I0
theorem o_cmpI0 {g : Int → Int → Bool} {i j : Int} : O2 (rI0 fun i j => .bl (g i j)) (RD (.int i)) (RD (.int j)) (RD (.bool (g i j))) := fun H M x y _ r1 r2 Q q => by
  cases r1
  cases r2
  exact ⟨i, j, rfl, rfl, q H _ (Kp.refl _) (.bl _)⟩
theorem o_U {g : Int → Int} {i : Int} : O1 (rU fun i => .int (g i)) (RD (.int i)) (RD (.int (g i))) := fun H M x _ r1 Q q => by
  cases r1
  exact ⟨i, rfl, q H _ (Kp.refl _) (.int _)⟩
theorem o_eqI {i j : Int} : O2 rEq (RD (.int i)) (RD (.int j)) (RD (.bool (decide (i = j)))) := fun H M x y _ r1 r2 Q q => by
  cases r1
  cases r2
  refine ⟨rfl, q H _ (Kp.refl _) ?_⟩
  rw [show decide (V.int i = V.int j) = decide (i = j) by simp]
  exact .bl _
theorem o_neS {i j : Str} : O2 rNe (RD (.str i)) (RD (.str j)) (RD (.bool (!decide (i = j)))) := fun H M x y _ r1 r2 Q q => by
  cases r1
  cases r2
  refine ⟨rfl, q H _ (Kp.refl _) ?_⟩
  rw [show decide (V.str i = V.str j) = decide (i = j) by simp]
  exact .bl _
theorem t_B {x : Bool} (h : E false c t (RD (.bool x))) : ET c (tB t) x := fun σ H s Q q => h σ H s _ fun H' v k r => by
  cases r
  exact ⟨x, rfl, q H' k⟩
theorem t_T {x : Bool} (h : E false c t (RD (.bool x))) : ET c (tTest t) x := fun σ H s Q q => h σ H s _ fun H' v k r => by
  cases r
  exact ⟨x, rfl, q H' k⟩
theorem t_and {t u : TT} {x y : Bool} (h : ET c t x) (g : x = true → ET c u y) : ET c (tAnd t u) (x && y) := fun σ H s Q q => h σ H s _ fun H1 k1 => by
  cases x with
  | false => rw [if_neg Bool.false_ne_true]; exact q H1 k1
  | true => rw [if_pos rfl]; exact g rfl σ H1 (s.kp k1) Q fun H2 k2 => q H2 (k1.trans k2)
theorem t_or {t u : TT} {x y : Bool} (h : ET c t x) (g : x = false → ET c u y) : ET c (tOr t u) (x || y) := fun σ H s Q q => h σ H s _ fun H1 k1 => by
  cases x with
  | true => rw [if_pos rfl]; exact q H1 k1
  | false => rw [if_neg Bool.false_ne_true]; exact g rfl σ H1 (s.kp k1) Q fun H2 k2 => q H2 (k1.trans k2)
theorem t_not {t : TT} {x : Bool} (h : ET c t x) : ET c (tNot t) (!x) := fun σ H s Q q => h σ H s _ fun H1 k1 => q H1 k1
theorem e_if {tt : TT} {x : Bool} (h : ET c tt x) (ha : x = true → E b c ta R) (hc : x = false → E b c tb R) : E b c (tIf tt ta tb) R := fun σ H s Q q => h σ H s _ fun H1 k1 => by
  cases x with
  | true => rw [if_pos rfl]; exact ha rfl σ H1 (s.kp k1) Q fun H' v k r => q H' v (k1.trans k) r
  | false => rw [if_neg Bool.false_ne_true]; exact hc rfl σ H1 (s.kp k1) Q fun H' v k r => q H' v (k1.trans k) r
theorem e_and {x y : Bool} (h : E false c ta (RD (.bool x))) (g : x = true → E false c tb (RD (.bool y))) : E b c (tAndV ta tb) (RD (.bool (x && y))) := E.flat (fun σ H s Q q => h σ H s _ fun H1 v k1 r => by
  cases r
  refine ⟨x, rfl, ?_⟩
  cases x with
  | false => rw [if_neg Bool.false_ne_true]; exact q H1 _ k1 (.bl _)
  | true => rw [if_pos rfl]; exact g rfl σ H1 (s.kp k1) Q fun H2 v k2 r => q H2 v (k1.trans k2) r) rfl
theorem e_or {x y : Bool} (h : E false c ta (RD (.bool x))) (g : x = false → E false c tb (RD (.bool y))) : E b c (tOrV ta tb) (RD (.bool (x || y))) := E.flat (fun σ H s Q q => h σ H s _ fun H1 v k1 r => by
  cases r
  refine ⟨x, rfl, ?_⟩
  cases x with
  | true => rw [if_pos rfl]; exact q H1 _ k1 (.bl _)
  | false => rw [if_neg Bool.false_ne_true]; exact g rfl σ H1 (s.kp k1) Q fun H2 v k2 r => q H2 v (k1.trans k2) r) rfl
theorem e_not {x : Bool} (h : E false c ta (RD (.bool x))) : E b c (tNotV ta) (RD (.bool (!x))) := E.flat (fun σ H s Q q => h σ H s _ fun H1 v k1 r => by
  cases r
  exact ⟨x, rfl, q H1 _ k1 (.bl _)⟩) rfl
end
end Pk
namespace Pk
open PySem L2 PySem.Spec PyProof.Rows GxR NdefX
/-- the picture of a type's things: told apart by ==, of depth n at most, laid out where P -/
structure Enc {α : Type} [DecidableEq α] (f : α → PyData) (n : Nat) (P : α → Prop) : Prop where
  eqv : ∀ a b, PyData.eqv (f a) (f b) = decide (a = b)
  lay : ∀ a, P a → (f a).canLay0 = true
  dep : ∀ a, (f a).depth ≤ n
  nod : ∀ a, Pk.nod (f a) = true
theorem layAll {α : Type} {f : α → PyData} {P : α → Prop} (h : ∀ a, P a → (f a).canLay0 = true) : ∀ xs : List α, (∀ a ∈ xs, P a) → PyData.canLayAll0 (xs.map f) = true
  | [], _ => rfl
  | x :: xs, k => by
    show (PyData.canLay0 (f x) && PyData.canLayAll0 (xs.map f)) = true
    rw [h x (k x (.head _)), layAll h xs fun a m => k a (.tail _ m)]
    rfl
theorem depAll {α : Type} {f : α → PyData} {n : Nat} (h : ∀ a, (f a).depth ≤ n) : ∀ xs : List α, PyData.depthAll (xs.map f) ≤ n
  | [] => Nat.zero_le _
  | x :: xs => by
    show max (PyData.depth (f x)) (PyData.depthAll (xs.map f)) ≤ n
    exact Nat.max_le.mpr ⟨h x, depAll h xs⟩
theorem nodAll {α : Type} {f : α → PyData} (h : ∀ a, Pk.nod (f a) = true) : ∀ xs : List α, nods (xs.map f) = true
  | [] => rfl
  | x :: xs => by
    show (Pk.nod (f x) && nods (xs.map f)) = true
    rw [h x, nodAll h xs]
    rfl
theorem eqvAllE {α : Type} [DecidableEq α] {f : α → PyData} (h : ∀ a b, PyData.eqv (f a) (f b) = decide (a = b)) : ∀ xs ys : List α, PyData.eqvAll (xs.map f) (ys.map f) = decide (xs = ys)
  | [], [] => rfl
  | [], _ :: _ => rfl
  | _ :: _, [] => rfl
  | x :: xs, y :: ys => by
    show (PyData.eqv (f x) (f y) && PyData.eqvAll (xs.map f) (ys.map f)) = decide (x :: xs = y :: ys)
    rw [h x y, eqvAllE h xs ys]
    by_cases e : x = y <;> by_cases k : xs = ys <;> simp [e, k]
theorem enc_int : Enc PyData.int 0 (fun _ => True) := ⟨eqv_int, fun _ _ => rfl, fun _ => Nat.zero_le _, fun _ => rfl⟩
theorem enc_str : Enc PyData.str 0 (fun x => PyData.strOk x = true) := ⟨fun a b => by
  show (a == b) = decide (a = b)
  exact Bool.eq_iff_iff.mpr (by simp), fun _ h => h, fun _ => Nat.zero_le _, fun _ => rfl⟩
theorem enc_bool : Enc PyData.bool 0 (fun _ => True) := ⟨fun a b => by
  show (a == b) = decide (a = b)
  cases a <;> cases b <;> rfl, fun _ _ => rfl, fun _ => Nat.zero_le _, fun _ => rfl⟩
section
variable {α β γ : Type} [DecidableEq α] [DecidableEq β] [DecidableEq γ] {f : α → PyData} {g : β → PyData} {k : γ → PyData} {n m l : Nat} {P : α → Prop} {S : β → Prop} {T : γ → Prop}
theorem Enc.up (h : Enc f n P) (e : n ≤ m) : Enc f m P := ⟨h.eqv, h.lay, fun a => Nat.le_trans (h.dep a) e, h.nod⟩
theorem Enc.imp {P' : α → Prop} (h : Enc f n P) (e : ∀ a, P' a → P a) : Enc f n P' := ⟨h.eqv, fun a k => h.lay a (e a k), h.dep, h.nod⟩
theorem enc_list (h : Enc f n P) : Enc (fun xs : List α => .list (xs.map f)) (n + 1) (fun xs => ∀ a ∈ xs, P a) :=
  ⟨fun a b => eqvAllE h.eqv a b, fun xs q => layAll h.lay xs q, fun xs => Nat.succ_le_succ (depAll h.dep xs), fun xs => nodAll h.nod xs⟩
theorem enc_tupl (h : Enc f n P) : Enc (fun xs : List α => .tuple (xs.map f)) (n + 1) (fun xs => ∀ a ∈ xs, P a) :=
  ⟨fun a b => eqvAllE h.eqv a b, fun xs q => layAll h.lay xs q, fun xs => Nat.succ_le_succ (depAll h.dep xs), fun xs => nodAll h.nod xs⟩
theorem enc_pair (h : Enc f n P) (q : Enc g n S) : Enc (fun p : α × β => .tuple [f p.1, g p.2]) (n + 1) (fun p => P p.1 ∧ S p.2) := by
  refine ⟨fun a b => ?_, fun a z => ?_, fun a => ?_, fun a => ?_⟩
  · show (PyData.eqv (f a.1) (f b.1) && (PyData.eqv (g a.2) (g b.2) && true)) = _
    rw [h.eqv, q.eqv, Bool.and_true, Bool.eq_iff_iff]
    simp [Prod.ext_iff]
  · show (PyData.canLay0 (f a.1) && (PyData.canLay0 (g a.2) && true)) = true
    rw [h.lay _ z.1, q.lay _ z.2]
    rfl
  · show max (PyData.depth (f a.1)) (max (PyData.depth (g a.2)) 0) + 1 ≤ n + 1
    have := h.dep a.1
    have := q.dep a.2
    omega
  · show (Pk.nod (f a.1) && (Pk.nod (g a.2) && true)) = true
    rw [h.nod, q.nod]
    rfl
theorem enc_lpair (h : Enc f n P) (q : Enc g n S) : Enc (fun p : α × β => PyData.list [f p.1, g p.2]) (n + 1) (fun p => P p.1 ∧ S p.2) := by
  refine ⟨fun a b => ?_, fun a z => ?_, fun a => ?_, fun a => ?_⟩
  · show (PyData.eqv (f a.1) (f b.1) && (PyData.eqv (g a.2) (g b.2) && true)) = _
    rw [h.eqv, q.eqv, Bool.and_true, Bool.eq_iff_iff]
    simp [Prod.ext_iff]
  · show (PyData.canLay0 (f a.1) && (PyData.canLay0 (g a.2) && true)) = true
    rw [h.lay _ z.1, q.lay _ z.2]
    rfl
  · show max (PyData.depth (f a.1)) (max (PyData.depth (g a.2)) 0) + 1 ≤ n + 1
    have := h.dep a.1
    have := q.dep a.2
    omega
  · show (Pk.nod (f a.1) && (Pk.nod (g a.2) && true)) = true
    rw [h.nod, q.nod]
    rfl
theorem enc_trip (h : Enc f n P) (q : Enc g n S) (r : Enc k n T) : Enc (fun p : α × β × γ => .tuple [f p.1, g p.2.1, k p.2.2]) (n + 1) (fun p => P p.1 ∧ S p.2.1 ∧ T p.2.2) := by
  refine ⟨fun a b => ?_, fun a z => ?_, fun a => ?_, fun a => ?_⟩
  · show (PyData.eqv (f a.1) (f b.1) && (PyData.eqv (g a.2.1) (g b.2.1) && (PyData.eqv (k a.2.2) (k b.2.2) && true))) = _
    rw [h.eqv, q.eqv, r.eqv, Bool.and_true, Bool.eq_iff_iff]
    simp [Prod.ext_iff]
  · show (PyData.canLay0 (f a.1) && (PyData.canLay0 (g a.2.1) && (PyData.canLay0 (k a.2.2) && true))) = true
    rw [h.lay _ z.1, q.lay _ z.2.1, r.lay _ z.2.2]
    rfl
  · show max (PyData.depth (f a.1)) (max (PyData.depth (g a.2.1)) (max (PyData.depth (k a.2.2)) 0)) + 1 ≤ n + 1
    have := h.dep a.1
    have := q.dep a.2.1
    have := r.dep a.2.2
    omega
  · show (Pk.nod (f a.1) && (Pk.nod (g a.2.1) && (Pk.nod (k a.2.2) && true))) = true
    rw [h.nod, q.nod, r.nod]
    rfl
/-- None, or a thing -/
def eO (f : α → PyData) : Option α → PyData
  | none => .none
  | some a => f a
theorem enc_opt (h : Enc f n P) (z : ∀ a, PyData.eqv .none (f a) = false ∧ PyData.eqv (f a) .none = false) : Enc (eO f) n (fun o => ∀ a, o = some a → P a) := by
  refine ⟨fun a b => ?_, fun a q => ?_, fun a => ?_, fun a => ?_⟩
  · cases a with
    | none =>
      cases b with
      | none => rfl
      | some b => show PyData.eqv .none (f b) = _; rw [(z b).1]; simp
    | some a =>
      cases b with
      | none => show PyData.eqv (f a) .none = _; rw [(z a).2]; simp
      | some b => show PyData.eqv (f a) (f b) = _; rw [h.eqv]; simp
  · cases a with
    | none => rfl
    | some a => exact h.lay a (q a rfl)
  · cases a with
    | none => exact Nat.zero_le _
    | some a => exact h.dep a
  · cases a with
    | none => rfl
    | some a => exact h.nod a
theorem Enc.shaped (h : Enc f n P) (hn : n ≤ 64) {a : α} (q : P a) : SeqAt.shaped (f a) = true := by
  unfold SeqAt.shaped
  rw [h.lay a q, Bool.true_and]
  exact decide_eq_true (Nat.le_trans (h.dep a) hn)
theorem dec_bl {p : Prop} (i j : Decidable p) (u : Bool → Bool) {H : Hp} : Dt H (.bl (u (@decide p i))) (.bool (u (@decide p j))) := by
  cases Subsingleton.elim i j
  exact .bl _
theorem t_eq {c : Ct} {tt : TT} {x y : Bool} (h : ET c tt x) (e : x = y) : ET c tt y := e ▸ h
theorem o_eqE {K : PySem.W.Frag} (h : Enc f n P) (hn : n ≤ 64) {a b : α} {hd : Decidable (a = b)} (qa : P a) (qb : P b) : O2 (rEqD K) (RD (f a)) (RD (f b)) (RD (.bool (@decide (a = b) hd))) := fun H M x y _ r1 r2 Q q => by
  refine ⟨f a, f b, (Dt.kp kp_less r1).dp (h.nod a), (Dt.kp kp_less r2).dp (h.nod b), h.shaped hn qa, h.shaped hn qb, q H _ (Kp.refl _) ?_⟩
  rw [h.eqv]
  exact dec_bl _ _ id
theorem o_neE {K : PySem.W.Frag} (h : Enc f n P) (hn : n ≤ 64) {a b : α} {hd : Decidable (a = b)} (qa : P a) (qb : P b) : O2 (rNeD K) (RD (f a)) (RD (f b)) (RD (.bool (!@decide (a = b) hd))) := fun H M x y _ r1 r2 Q q => by
  refine ⟨f a, f b, (Dt.kp kp_less r1).dp (h.nod a), (Dt.kp kp_less r2).dp (h.nod b), h.shaped hn qa, h.shaped hn qb, q H _ (Kp.refl _) ?_⟩
  rw [h.eqv]
  exact dec_bl _ _ not
theorem any_enc (h : Enc f n P) (xs : List α) (a : α) : ((xs.map f).any fun z => PyData.eqv z (f a)) = decide (a ∈ xs) := by
  induction xs with
  | nil => rfl
  | cons x xs ih =>
    rw [List.map_cons, List.any_cons, ih, h.eqv]
    by_cases e : x = a
    · subst e
      simp
    · rw [decide_eq_false e, Bool.false_or, Bool.eq_iff_iff, decide_eq_true_iff, decide_eq_true_iff, List.mem_cons]
      exact ⟨.inr, fun z => z.elim (fun y => absurd y.symm e) id⟩
theorem o_inE {K : PySem.W.Frag} (h : Enc f n P) (hn : n ≤ 63) {a : α} {xs : List α} {hd : Decidable (a ∈ xs)} (qa : P a) (qb : ∀ x ∈ xs, P x) : O2 (rInD K) (RD (f a)) (RD (.list (xs.map f))) (RD (.bool (@decide (a ∈ xs) hd))) := fun H M x y _ r1 r2 Q q => by
  have hl := enc_list h
  refine ⟨f a, xs.map f, (Dt.kp kp_less r1).dp (h.nod a), (Dt.kp kp_less r2).dp (hl.nod xs), h.shaped (by omega) qa, hl.shaped (by omega) qb, q H _ (Kp.refl _) ?_⟩
  rw [any_enc h]
  exact dec_bl _ _ id
theorem o_niE {K : PySem.W.Frag} (h : Enc f n P) (hn : n ≤ 63) {a : α} {xs : List α} {hd : Decidable (a ∈ xs)} (qa : P a) (qb : ∀ x ∈ xs, P x) : O2 (rNotInD K) (RD (f a)) (RD (.list (xs.map f))) (RD (.bool (!@decide (a ∈ xs) hd))) := fun H M x y _ r1 r2 Q q => by
  have hl := enc_list h
  refine ⟨f a, xs.map f, (Dt.kp kp_less r1).dp (h.nod a), (Dt.kp kp_less r2).dp (hl.nod xs), h.shaped (by omega) qa, hl.shaped (by omega) qb, q H _ (Kp.refl _) ?_⟩
  rw [any_enc h]
  exact dec_bl _ _ not
end
theorem new_at {H : Hp} {M : Addr → Prop} (h : Hd H M) {p : Addr} {o : HO} (n : H p = none) : less (upd H p o) M = upd (less H M) p o := by
  have np : ¬ M p := fun z => by
    obtain ⟨o, e, _⟩ := h p z
    rw [n] at e
    cases e
  funext a
  by_cases e : a = p
  · subst e
    rw [upd_same, less_out np, upd_same]
  · rw [upd_ne e]
    by_cases m : M a
    · rw [less_in m, less_in m]
    · rw [less_out m, less_out m, upd_ne e]
theorem hb_new {b : Bool} {c : Ct} {σ : L2.St} {H : Hp} (s : Sta c σ H) {p : Addr} {o : HO} (n : H p = none) : hb b c σ (upd H p o) = upd (hb b c σ H) p o := new_at (fun a m => s.hides a m) n
theorem less_none {H : Hp} {M : Addr → Prop} {p : Addr} (n : H p = none) : less H M p = none := by
  by_cases m : M p
  · exact less_in m
  · rw [less_out m]
    exact n
section
variable {b : Bool} {c : Ct} {R S : Rel} {t ta tb tc : TE} {d e : PyData}
/-- a reading gives a new object -/
def EN (c : Ct) (t : TE) (C : Own) : Prop := ∀ σ H, Sta c σ H → ∀ Q : VK, (∀ H' p o, Kp H H' → H' p = none → C.p (bas c σ H') o → Q (.ref p) (upd H' p o)) → t σ H Q
theorem n_e {ds : List PyData} (h : EN c t (OL ds)) : E b c t (RD (.list ds)) := fun σ H s Q q => h σ H s Q fun H' p o k n ⟨vs, e, a⟩ => by
  subst e
  refine q _ _ (k.trans (kp_new n)) ?_
  rw [hb_new (s.kp k) n]
  exact .lst upd_same ((a.kp bas_hb).kp (kp_new (less_none n)))
theorem i_n {ds : List PyData} (h : EN c t (OL ds)) : EI c t ds := i_of (n_e h)
/-- the values of arguments that are data -/
def EM (b : Bool) (c : Ct) (t : TA) (ds : List PyData) : Prop := ∀ σ H, Sta c σ H → ∀ Q : List V → Hp → Prop, (∀ H' vs, Kp H H' → DtAll (hb b c σ H') vs ds → Q vs H') → t σ H Q
theorem m_nil : EM b c tNil [] := fun σ H s Q q => q H [] (Kp.refl _) .nil
theorem m_cons {u : TA} {ds : List PyData} (ha : E b c t (RD d)) (hr : EM b c u ds) : EM b c (tCons t u) (d :: ds) := fun σ H s Q q =>
  ha σ H s _ fun H1 x k1 r1 => hr σ H1 (s.kp k1) _ fun H2 vs k2 r2 => q H2 _ (k1.trans k2) (.cons (Dt.kp (hb_kp k2) r1) r2)
theorem e_tup {u : TA} {ds : List PyData} (h : EM b c u ds) (l : Nat.ble ds.length sizeLine = true := by rfl) : E b c (tTup u) (RD (.tuple ds)) := fun σ H s Q q =>
  h σ H s _ fun H1 vs k1 r1 => ⟨by rw [r1.len]; exact Nat.le_of_ble_eq_true l, fun p n => q _ _ (k1.trans (kp_new n)) (by
    rw [hb_new (s.kp k1) n]
    exact .tup upd_same (r1.kp (kp_new (less_none n))))⟩
theorem n_lst {u : TA} {ds : List PyData} (h : EM true c u ds) (l : Nat.ble ds.length sizeLine = true := by rfl) : EN c (tLst u) (OL ds) := fun σ H s Q q =>
  h σ H s _ fun H1 vs k1 r1 => ⟨by rw [r1.len]; exact Nat.le_of_ble_eq_true l, fun p n => q H1 p _ k1 n ⟨vs, rfl, by rw [← hb_t]; exact r1⟩⟩
theorem e_lst {u : TA} {ds : List PyData} (h : EM true c u ds) (l : Nat.ble ds.length sizeLine = true := by rfl) : E b c (tLst u) (RD (.list ds)) := n_e (n_lst h l)
theorem o_ixL {K : PySem.W.Frag} {ds : List PyData} {i : Int} {d : PyData} (h : atI ds i = some d) : O2 (rIxL K) (RD (.list ds)) (RD (.int i)) (RD d) := fun H M x y _ r1 r2 Q q => by
  cases r2
  cases r1 with
  | lst e a =>
    obtain ⟨v, h1, h2⟩ := a.atI h
    exact ⟨_, _, i, v, rfl, rfl, SqL.of (less_some e).2, h1, q H _ (Kp.refl _) h2⟩
theorem o_ixT {K : PySem.W.Frag} {ds : List PyData} {i : Int} {d : PyData} (h : atI ds i = some d) : O2 (rIxT K) (RD (.tuple ds)) (RD (.int i)) (RD d) := fun H M x y _ r1 r2 Q q => by
  cases r2
  cases r1 with
  | tup e a =>
    obtain ⟨v, h1, h2⟩ := a.atI h
    exact ⟨_, _, i, v, rfl, rfl, SqT.of (less_some e).2, h1, q H _ (Kp.refl _) h2⟩
/-- an item of a list that is being changed -/
theorem e_ixO {K : PySem.W.Frag} {ds : List PyData} {i : Int} (h : EI c ta ds) (hi : E false c tb (RD (.int i))) (z : atI ds i = some d) : E b c (tOp (rIxL K) ta tb) (RD d) := E.low fun σ H s Q q =>
  h σ H s _ fun H1 a vs k1 e1 r1 => hi σ H1 (s.kp k1) _ fun H2 y k2 r2 => by
    cases r2
    obtain ⟨v, h1, h2⟩ := r1.atI z
    exact ⟨a, vs, i, v, rfl, rfl, SqL.of (k2.lst e1), h1, q H2 _ (k1.trans k2) (by rw [hb_t]; exact Dt.kp ((s.kp k1).kb k2) h2)⟩
def EO (c : Ct) (t : TO) (o : Option Int) : Prop := ∀ σ H, Sta c σ H → ∀ Q : Option Int → Hp → Prop, (∀ H', Kp H H' → Q o H') → t σ H Q
theorem p_some {i : Int} (h : E false c t (RD (.int i))) : EO c (tPart t) (some i) := fun σ H s Q q => h σ H s _ fun H1 x k r => by
  cases r
  exact ⟨i, rfl, q H1 k⟩
theorem n_sl {K : PySem.W.Frag} {ds : List PyData} {lo hi : Option Int} {tl th : TO} (h : EI c t ds) (hl : EO c tl lo) (hh : EO c th hi) : EN c (tSl (rSlL K) t tl th) (OL (cutD ds lo hi)) := fun σ H s Q q =>
  h σ H s _ fun H1 a vs k1 e1 r1 => hl σ H1 (s.kp k1) _ fun H2 k2 => hh σ H2 ((s.kp k1).kp k2) _ fun H3 k3 =>
    ⟨a, vs, rfl, SqL.of ((k2.trans k3).lst e1), fun p n => q H3 p _ ((k1.trans k2).trans k3) n ⟨_, rfl, (r1.kp ((s.kp k1).kb (k2.trans k3))).cut lo hi⟩⟩
theorem n_cat {ds es : List PyData} (h : EI c ta ds) (g : EI c tb es) (l : ds.length + es.length ≤ sizeLine) : EN c (tOp rCat ta tb) (OL (ds ++ es)) := fun σ H s Q q =>
  h σ H s _ fun H1 a vs k1 e1 r1 => g σ H1 (s.kp k1) _ fun H2 a2 ws k2 e2 r2 =>
    ⟨a, a2, vs, ws, rfl, rfl, k2.lst e1, e2, by rw [r1.len, r2.len]; exact l, fun p n => q H2 p _ (k1.trans k2) n ⟨_, rfl, (r1.kp ((s.kp k1).kb k2)).app r2⟩⟩
theorem o_lenL {K : PySem.W.Frag} {ds : List PyData} : On (fun xs H Q => ∃ x n, xs = [x] ∧ LenV K x H n ∧ Q (.int n) H) [RD (.list ds)] (RD (.int ds.length)) := fun H M vs _ r Q q => by
  obtain ⟨v, r', rfl, h1, rfl⟩ := r
  cases h1 with
  | lst e a => exact ⟨_, _, rfl, .inl ⟨_, SqL.of (less_some e).2, rfl⟩, by rw [a.len]; exact q H _ (Kp.refl _) (.int _)⟩
theorem o_lenT {K : PySem.W.Frag} {ds : List PyData} : On (fun xs H Q => ∃ x n, xs = [x] ∧ LenV K x H n ∧ Q (.int n) H) [RD (.tuple ds)] (RD (.int ds.length)) := fun H M vs _ r Q q => by
  obtain ⟨v, r', rfl, h1, rfl⟩ := r
  cases h1 with
  | tup e a => exact ⟨_, _, rfl, .inr ⟨_, SqT.of (less_some e).2, rfl⟩, by rw [a.len]; exact q H _ (Kp.refl _) (.int _)⟩
theorem o_int {i : Int} : On (fun xs H Q => (∃ i, xs = [.int i] ∧ Q (.int i) H) ∨ ∃ k, xs = [.bl k] ∧ Q (.int (if k then 1 else 0)) H) [RD (.int i)] (RD (.int i)) := fun H M vs _ r Q q => by
  obtain ⟨v, r', rfl, h1, rfl⟩ := r
  cases h1
  exact .inl ⟨_, rfl, q H _ (Kp.refl _) (.int _)⟩
end
end Pk
namespace Pk
open PySem L2 PySem.Spec PyProof.Rows GxR NdefX
def notOwn : Option Slot → Bool
  | some (.own _) => false
  | _ => true
theorem bas_iff {c c' : Ct} {σ σ' : L2.St} {H H' : Hp} (h : ∀ a, (isOwn c.g σ a ∨ c.om a) ↔ (isOwn c'.g σ' a ∨ c'.om a)) (e : ∀ a, ¬ (isOwn c.g σ a ∨ c.om a) → H a = H' a) : bas c σ H = bas c' σ' H' := by
  funext a
  by_cases m : isOwn c.g σ a ∨ c.om a
  · rw [bas_in m, bas_in ((h a).mp m)]
  · rw [bas_out m, bas_out fun z => m ((h a).mpr z)]
    exact e a m
theorem own_set {g : List Slot} {σ : L2.St} {i : Nat} {s : Slot} {o : Option V} (h : notOwn g[i]? = true) (hs : notOwn (some s) = true) (a : Addr) : isOwn (g.set i s) (σ.set i o) a ↔ isOwn g σ a := by
  constructor
  · rintro ⟨j, C, e1, e2⟩
    rcases getset e1 with ⟨_, z⟩ | ⟨n, z⟩
    · rw [← z] at hs
      cases hs
    · rw [List.getElem?_set_ne fun z => n z.symm] at e2
      exact ⟨j, C, z, e2⟩
  · rintro ⟨j, C, e1, e2⟩
    have n : i ≠ j := fun z => by
      subst z
      rw [e1] at h
      cases h
    exact ⟨j, C, by rw [List.getElem?_set_ne n]; exact e1, by rw [List.getElem?_set_ne n]; exact e2⟩
theorem wipe_set {σ : L2.St} {i : Nat} {o : Option V} : ∀ {vs : List Nat}, i ∈ vs → wipe (σ.set i o) vs = wipe σ vs
  | v :: vs, h => by
    show (wipe (σ.set i o) vs).set v none = (wipe σ vs).set v none
    by_cases m : i ∈ vs
    · rw [wipe_set m]
    · have e : i = v := by
        rcases List.mem_cons.mp h with z | z
        · exact z
        · exact absurd z m
      subst e
      have : ∀ (ws : List Nat), i ∉ ws → wipe (σ.set i o) ws = (wipe σ ws).set i o := fun ws => by
        induction ws with
        | nil => intro _; rfl
        | cons w ws ih =>
          intro q
          show (wipe (σ.set i o) ws).set w none = ((wipe σ ws).set w none).set i o
          rw [ih fun z => q (.tail _ z), List.set_comm _ _ (fun z => q (by rw [z]; exact .head _))]
      rw [this vs m, List.set_set]
theorem wipe_wipe {σ : L2.St} : ∀ {vs ws : List Nat}, (∀ i ∈ vs, i ∈ ws) → wipe (wipe σ vs) ws = wipe σ ws
  | [], _, _ => rfl
  | v :: vs, ws, h => by
    show wipe ((wipe σ vs).set v none) ws = wipe σ ws
    rw [wipe_set (h v (.head _)), wipe_wipe fun i m => h i (.tail _ m)]
theorem own_wipe {g : List Slot} {σ : L2.St} : ∀ {vs : List Nat}, (∀ i ∈ vs, g[i]? = some .any) → ∀ a, isOwn g (wipe σ vs) a ↔ isOwn g σ a
  | [], _, _ => Iff.rfl
  | v :: vs, h, a => by
    have e := h v (.head _)
    have := own_set (σ := wipe σ vs) (o := none) (s := .any) (by rw [e]; rfl) rfl a
    rw [setsame e] at this
    exact this.trans (own_wipe (fun i m => h i (.tail _ m)) a)
theorem Sta.wipe {c : Ct} {σ : L2.St} {H : Hp} (s : Sta c σ H) : ∀ {vs : List Nat}, (∀ i ∈ vs, c.g[i]? = some .any) → Sta c (wipe σ vs) H
  | [], _ => s
  | v :: vs, h => by
    have q := ((s.wipe (vs := vs) fun i m => h i (.tail _ m)).drop v none).1
    rw [show c.set v .any = c by unfold Ct.set; rw [setsame (h v (.head _))]] at q
    exact q
/-- a target takes a value: the slots are then g', those at `is` new -/
def EG (c : Ct) (g : TG) (R : Rel) (g' : List Slot) (is : List Nat) : Prop := ∀ σ H v, Sta c σ H → R.p (bas c σ H) v → ∀ Q : L2.St → Hp → Prop,
  (∀ σ', Sta (c.at g') σ' H → (∀ H', bas (c.at g') σ' H' = bas c σ H') → (∀ vs, (∀ i ∈ is, i ∈ vs) → wipe σ' vs = wipe σ vs) → Q σ' H) → g v σ H Q
def EGs (c : Ct) (u : TGs) (ds : List PyData) (g' : List Slot) (is : List Nat) : Prop := ∀ σ H vs, Sta c σ H → DtAll (bas c σ H) vs ds → ∀ Q : L2.St → Hp → Prop,
  (∀ σ', Sta (c.at g') σ' H → (∀ H', bas (c.at g') σ' H' = bas c σ H') → (∀ vs, (∀ i ∈ is, i ∈ vs) → wipe σ' vs = wipe σ vs) → Q σ' H) → u vs σ H Q
section
variable {c : Ct} {R : Rel} {g1 g2 : List Slot} {is js : List Nat} {d : PyData} {ds : List PyData}
theorem g_name {i : Nat} (hi : Nat.blt i c.g.length = true := by rfl) (hn : notOwn c.g[i]? = true := by rfl) : EG c (gName i) R (c.g.set i (.fz R)) [i] := fun σ H v s r Q q => by
  have hi' : i < c.g.length := by simpa using hi
  refine q _ (s.set hi' r).1 (fun H' => ?_) fun vs h => wipe_set (h i (.head _))
  exact bas_iff (fun a => or_congr (own_set hn rfl a) Iff.rfl) fun _ _ => rfl
theorem gs_nil : EGs c gNil [] c.g [] := fun σ H vs s r Q q => by
  cases r
  exact ⟨rfl, q σ s (fun _ => rfl) fun _ _ => rfl⟩
theorem gs_cons {t : TG} {u : TGs} (h : EG c t (RD d) g1 is) (k : EGs (c.at g1) u ds g2 js) : EGs c (gCons t u) (d :: ds) g2 (is ++ js) := fun σ H vs s r Q q => by
  cases r with
  | cons a b =>
    refine ⟨_, _, rfl, h σ H _ s a _ fun σ1 s1 e1 w1 => k σ1 H _ s1 (by rw [e1]; exact b) Q fun σ2 s2 e2 w2 => q σ2 s2 (fun H' => (e2 H').trans (e1 H')) fun vs hv => ?_⟩
    exact (w2 vs fun i m => hv i (List.mem_append_right _ m)).trans (w1 vs fun i m => hv i (List.mem_append_left _ m))
theorem g_tup {K : PySem.W.Frag} {n : Nat} {u : TGs} (h : EGs c u ds g1 is) (e : ds.length = n := by rfl) : EG c (gTup K n u) (RD (.tuple ds)) g1 is := fun σ H v s r Q q => by
  cases r with
  | tup e1 a => exact ⟨_, _, rfl, SqT.of (less_some e1).2, by rw [a.len]; exact e, h σ H _ s a Q q⟩
end
/-- a new object is hidden -/
theorem Sta.hide {c : Ct} {σ : L2.St} {H : Hp} (s : Sta c σ H) {p : Addr} {o : HO} (n : H p = none) (m : Mut (some o)) :
    Sta ⟨c.hs, c.h0, fun a => c.om a ∨ a = p, c.g⟩ σ (upd H p o) ∧ bas ⟨c.hs, c.h0, fun a => c.om a ∨ a = p, c.g⟩ σ (upd H p o) = bas c σ H := by
  have eb : bas ⟨c.hs, c.h0, fun a => c.om a ∨ a = p, c.g⟩ σ (upd H p o) = bas c σ H := by
    funext a
    by_cases e : a = p
    · subst e
      rw [bas_in (c := ⟨c.hs, c.h0, fun b => c.om b ∨ b = a, c.g⟩) (.inr (.inr rfl)), bas_out (s.free n), n]
    · by_cases z : isOwn c.g σ a ∨ c.om a
      · rw [bas_in z]
        exact bas_in (c := ⟨c.hs, c.h0, fun b => c.om b ∨ b = p, c.g⟩) (z.elim .inl fun y => .inr (.inl y))
      · rw [bas_out z]
        refine (bas_out (c := ⟨c.hs, c.h0, fun b => c.om b ∨ b = p, c.g⟩) fun y => z (y.elim .inl fun x => x.elim .inr fun w => absurd w e)).trans (upd_ne e)
  refine ⟨⟨s.len, fun i R e => by rw [eb]; exact s.fz i R e, fun i C e => ?_, s.ne, by rw [eb]; exact s.k0, s.ks.trans (kp_new n), fun a z => ?_⟩, eb⟩
  · obtain ⟨q, u, e1, e2, e3, e4, e5⟩ := s.own i C e
    have qp : q ≠ p := ne_of_none e2 n
    exact ⟨q, u, e1, by rw [upd_ne qp]; exact e2, by rw [eb]; exact e3, e4, fun y => y.elim e5 qp⟩
  · rcases z with z | z
    · obtain ⟨u, e, k⟩ := s.hid a z
      exact ⟨u, by rw [upd_ne (ne_of_none e n)]; exact e, k⟩
    · subst z
      exact ⟨o, upd_same, m⟩
/-- a hidden object is changed -/
theorem Sta.hmut {c : Ct} {σ : L2.St} {H : Hp} (s : Sta c σ H) {p : Addr} {o : HO} (hp : c.om p) (f : Fre c.hs p) (m : Mut (some o)) : Sta c σ (upd H p o) ∧ bas c σ (upd H p o) = bas c σ H := by
  have eb : bas c σ (upd H p o) = bas c σ H := bas_iff (fun _ => Iff.rfl) fun a z => upd_ne fun e => z (.inr (e ▸ hp))
  refine ⟨⟨s.len, fun i R e => by rw [eb]; exact s.fz i R e, fun i C e => ?_, s.ne, by rw [eb]; exact s.k0, f.upd s.ks, fun a z => ?_⟩, eb⟩
  · obtain ⟨q, u, e1, e2, e3, e4, e5⟩ := s.own i C e
    exact ⟨q, u, e1, by rw [upd_ne fun z => e5 (by rw [z]; exact hp)]; exact e2, by rw [eb]; exact e3, e4, e5⟩
  · obtain ⟨u, e, k⟩ := s.hid a z
    by_cases y : a = p
    · subst y
      exact ⟨o, upd_same, m⟩
    · exact ⟨u, by rw [upd_ne y]; exact e, k⟩
noncomputable def wo (H : Hp) (p : Addr) : Hp := less H fun a => a = p
theorem wo_at {H : Hp} {p : Addr} : wo H p p = none := if_pos rfl
theorem wo_ne {H : Hp} {p a : Addr} (h : ¬ a = p) : wo H p a = H a := if_neg h
theorem wo_some {H : Hp} {p a : Addr} {o : HO} (e : wo H p a = some o) : H a = some o := (less_some e).2
theorem wo_kp {H H' : Hp} {p : Addr} (k : Kp H H') : Kp (wo H p) (wo H' p) := less_kp k
theorem upd_less {H : Hp} {p : Addr} {o : HO} (e : H p = some o) : upd (wo H p) p o = H := by
  funext a
  by_cases z : a = p
  · subst z
    rw [upd_same, e]
  · rw [upd_ne z, wo_ne z]
theorem bas_less {c : Ct} {σ : L2.St} {H : Hp} {p : Addr} : bas c σ (wo H p) = bas ⟨c.hs, c.h0, fun a => c.om a ∨ a = p, c.g⟩ σ H := by
  funext a
  by_cases z : isOwn c.g σ a ∨ c.om a
  · rw [bas_in z]
    exact (bas_in (c := ⟨c.hs, c.h0, fun b => c.om b ∨ b = p, c.g⟩) (z.elim .inl fun y => .inr (.inl y))).symm
  · rw [bas_out z]
    by_cases e : a = p
    · subst e
      rw [wo_at]
      exact (bas_in (c := ⟨c.hs, c.h0, fun b => c.om b ∨ b = a, c.g⟩) (.inr (.inr rfl))).symm
    · rw [wo_ne e]
      exact (bas_out (c := ⟨c.hs, c.h0, fun b => c.om b ∨ b = p, c.g⟩) fun y => z (y.elim .inl fun x => x.elim .inr fun w => absurd w e)).symm
theorem less_upd {H : Hp} {p : Addr} {o : HO} : wo (upd H p o) p = wo H p := by
  funext a
  by_cases z : a = p
  · subst z
    rw [wo_at, wo_at]
  · rw [wo_ne z, wo_ne z, upd_ne z]
/-- what a comprehension keeps -/
structure Kc (c : Ct) (σ : L2.St) (H1 : Hp) (D : Addr) (ds : List PyData) (H : Hp) : Prop where
  ex : ∃ acc, H D = some (.lst acc) ∧ DtAll (bas ⟨c.hs, c.h0, fun a => c.om a ∨ a = D, c.g⟩ σ H) acc ds
  st : Sta ⟨c.hs, c.h0, fun a => c.om a ∨ a = D, c.g⟩ σ H
  kp : Kp H1 (wo H D)
theorem Kc.grow {c : Ct} {σ : L2.St} {H1 H H' : Hp} {D : Addr} {ds : List PyData} (h : Kc c σ H1 D ds H) (k : Kp H H') : Kc c σ H1 D ds H' := by
  obtain ⟨acc, e, a⟩ := h.ex
  exact ⟨⟨acc, k.lst e, a.kp (h.st.kb k)⟩, h.st.kp k, h.kp.trans (wo_kp k)⟩
theorem Kc.put {c : Ct} {σ : L2.St} {H1 H : Hp} {D : Addr} {acc : List V} {ds : List PyData} {y : V} {d : PyData} (h : Kc c σ H1 D ds H) (f : Fre c.hs D) (e : H D = some (.lst acc)) (r : Dt (bas ⟨c.hs, c.h0, fun a => c.om a ∨ a = D, c.g⟩ σ H) y d) :
    Kc c σ H1 D (ds ++ [d]) (upd H D (.lst (acc ++ [y]))) := by
  obtain ⟨acc', e', a⟩ := h.ex
  rw [e] at e'
  cases e'
  obtain ⟨s, eb⟩ := h.st.hmut (p := D) (o := .lst (acc ++ [y])) (.inr rfl) f trivial
  exact ⟨⟨_, upd_same, by rw [eb]; exact a.app (.cons r .nil)⟩, s, by rw [less_upd]; exact h.kp⟩
theorem ft_succ {α : Type} {p : α → Bool} {f : α → PyData} {xs : List α} {i : Nat} {x : α} (h : xs[i]? = some x) : ((xs.take (i + 1)).filter p).map f = ((xs.take i).filter p).map f ++ (if p x = true then [f x] else []) := by
  have hi : i < xs.length := (List.getElem?_eq_some_iff.mp h).1
  have e : xs[i] = x := (List.getElem?_eq_some_iff.mp h).2
  rw [List.take_succ_eq_append_getElem hi, e, List.filter_append, List.map_append]
  congr 1
  cases hp : p x <;> simp [hp]
section
variable {c : Ct} {K : PySem.W.Frag} {α : Type} {xs : List α} {enc : α → PyData} {G : α → List Slot} {is vs : List Nat} {p : α → Bool} {f : α → PyData} {tl te : TE} {tt : TT} {g : TG}
theorem lc_len {xs : List α} {p : α → Bool} {f : α → PyData} {i n : Nat} (h : xs.length ≤ n) : (((xs.take i).filter p).map f).length ≤ n := by
  rw [List.length_map]
  refine Nat.le_trans (List.length_filter_le _ _) (Nat.le_trans ?_ h)
  rw [List.length_take]
  omega
/-- [e for x in xs if t] -/
theorem n_lc (hs : EI c tl (xs.map enc)) (hw : ∀ i ∈ vs, c.g[i]? = some .any) (his : ∀ i ∈ is, i ∈ vs)
    (hg : ∀ om, ∀ x ∈ xs, EG ⟨c.hs, c.h0, om, c.g⟩ g (RD (enc x)) (G x) is) (ht : ∀ om, ∀ x ∈ xs, ET ⟨c.hs, c.h0, om, G x⟩ tt (p x))
    (he : ∀ om, ∀ x ∈ xs, p x = true → E true ⟨c.hs, c.h0, om, G x⟩ te (RD (f x))) (hl : xs.length < sizeLine) : EN c (tLc (iList K tl) g tt te vs) (OL ((xs.filter p).map f)) := fun σ H s Q q => by
  refine hs σ H s _ fun H1 a us k1 e1 r1 => ⟨a, rfl, ⟨us, SqL.of e1⟩, fun D nD => ?_⟩
  have s1 := s.kp k1
  have fD : Fre c.hs D := .of s1.ks nD
  have hul : us.length = xs.length := by rw [r1.len, List.length_map]
  have sw := s1.wipe hw
  have ew : ∀ H', bas c (wipe σ vs) H' = bas c σ H' := fun H' => bas_iff (fun a => or_congr (own_wipe hw a) Iff.rfl) fun _ _ => rfl
  refine lc_list (K := K) (a := a) (xs := us) (fun i H' => Kc c (wipe σ vs) H1 D (((xs.take i).filter p).map f) H') ?_ ?_ ?_ ?_
  · obtain ⟨sh, eb⟩ := sw.hide (o := .lst []) nD trivial
    exact ⟨⟨[], upd_same, by simpa using DtAll.nil⟩, sh, by rw [less_upd]; exact kp_of fun b o e => by rw [wo_ne (ne_of_none e nD)]; exact e⟩
  · intro i H' hi h
    exact SqL.of (wo_some (h.kp.lst e1))
  · intro i v H' hx h
    obtain ⟨d0, hd0, hv⟩ := r1.at' hx
    rw [List.getElem?_map] at hd0
    obtain ⟨x, ex, rfl⟩ := Option.map_eq_some_iff.mp hd0
    have hm : x ∈ xs := List.mem_of_getElem? ex
    have hv' : Dt (bas ⟨c.hs, c.h0, fun b => c.om b ∨ b = D, c.g⟩ (wipe σ vs) H') v (enc x) := by
      rw [← bas_less, ew]
      exact hv.kp (s1.kb h.kp)
    refine hg _ x hm _ H' v h.st hv' _ fun σ2 s2 e2 w2 => ⟨(w2 vs his).trans (wipe_wipe fun _ m => m), ht _ x hm σ2 H' s2 _ fun H3 k3 => ?_⟩
    cases hp : p x with
    | false =>
      rw [if_neg Bool.false_ne_true, ft_succ ex, hp, if_neg Bool.false_ne_true, List.append_nil]
      exact h.grow k3
    | true =>
      rw [if_pos rfl]
      refine he _ x hm hp σ2 H3 (s2.kp k3) _ fun H4 y k4 r4 => ?_
      have h4 := (h.grow k3).grow k4
      obtain ⟨acc, ea, aa⟩ := h4.ex
      refine ⟨acc, ea, ?_, ?_⟩
      · have := lc_len (p := p) (f := f) (i := i) (Nat.le_refl xs.length)
        rw [aa.len]
        omega
      · rw [ft_succ ex, hp, if_pos rfl]
        refine h4.put fD ea ?_
        rw [hb_t] at r4
        rw [← e2]
        exact r4
  · intro H' h
    obtain ⟨acc, ea, aa⟩ := h.ex
    rw [← upd_less ea]
    refine q _ D _ (k1.trans h.kp) wo_at ⟨acc, rfl, ?_⟩
    rw [← ew, bas_less]
    rw [hul, List.take_length] at aa
    exact aa
/-- [e for i in range(..) if t] -/
theorem n_lcR {lo : Int} {n : Nat} {G : Int → List Slot} {p : Int → Bool} {f : Int → PyData} {wi : TI} (hs : ∀ σ H, Sta c σ H → ∀ R : It → Hp → Prop, (∀ H', Kp H H' → R (Itr lo n) H') → wi σ H R) (hw : ∀ i ∈ vs, c.g[i]? = some .any) (his : ∀ i ∈ is, i ∈ vs)
    (hg : ∀ om, ∀ k : Nat, k < n → EG ⟨c.hs, c.h0, om, c.g⟩ g (RD (.int (lo + k))) (G (lo + k)) is) (ht : ∀ om, ∀ k : Nat, k < n → ET ⟨c.hs, c.h0, om, G (lo + k)⟩ tt (p (lo + k)))
    (he : ∀ om, ∀ k : Nat, k < n → p (lo + k) = true → E true ⟨c.hs, c.h0, om, G (lo + k)⟩ te (RD (f (lo + k)))) (hl : n < sizeLine) :
    EN c (tLc wi g tt te vs) (OL ((((List.range n).map fun k : Nat => lo + (k : Int)).filter p).map f)) := fun σ H s Q q => by
  refine hs σ H s _ fun H1 k1 D nD => ?_
  have s1 := s.kp k1
  have fD : Fre c.hs D := .of s1.ks nD
  have sw := s1.wipe hw
  have ew : ∀ H', bas c (wipe σ vs) H' = bas c σ H' := fun H' => bas_iff (fun a => or_congr (own_wipe hw a) Iff.rfl) fun _ _ => rfl
  have at_ : ∀ {i : Nat}, i < n → ((List.range n).map fun k : Nat => lo + (k : Int))[i]? = some (lo + (i : Int)) := fun {i} hi => by
    rw [List.getElem?_map, List.getElem?_range hi]
    rfl
  have hln : ((List.range n).map fun k : Nat => lo + (k : Int)).length = n := by rw [List.length_map, List.length_range]
  generalize hX : ((List.range n).map fun k : Nat => lo + (k : Int)) = X at *
  refine lc_range (lo := lo) (n := n) (fun i H' => Kc c (wipe σ vs) H1 D (((X.take i).filter p).map f) H') ?_ ?_ ?_
  · obtain ⟨sh, eb⟩ := sw.hide (o := .lst []) nD trivial
    exact ⟨⟨[], upd_same, by simpa using DtAll.nil⟩, sh, by rw [less_upd]; exact kp_of fun b o e => by rw [wo_ne (ne_of_none e nD)]; exact e⟩
  · intro i H' hi h
    have ex := at_ hi
    refine hg _ i hi _ H' _ h.st (.int _) _ fun σ2 s2 e2 w2 => ⟨(w2 vs his).trans (wipe_wipe fun _ m => m), ht _ i hi σ2 H' s2 _ fun H3 k3 => ?_⟩
    cases hp : p (lo + (i : Int)) with
    | false =>
      rw [if_neg Bool.false_ne_true, ft_succ ex, hp, if_neg Bool.false_ne_true, List.append_nil]
      exact h.grow k3
    | true =>
      rw [if_pos rfl]
      refine he _ i hi hp σ2 H3 (s2.kp k3) _ fun H4 y k4 r4 => ?_
      have h4 := (h.grow k3).grow k4
      obtain ⟨acc, ea, aa⟩ := h4.ex
      refine ⟨acc, ea, ?_, ?_⟩
      · have := lc_len (xs := X) (p := p) (f := f) (i := i) (n := n) (by omega)
        rw [aa.len]
        omega
      · rw [ft_succ ex, hp, if_pos rfl]
        refine h4.put fD ea ?_
        rw [hb_t] at r4
        rw [← e2]
        exact r4
  · intro H' h
    obtain ⟨acc, ea, aa⟩ := h.ex
    rw [← upd_less ea]
    refine q _ D _ (k1.trans h.kp) wo_at ⟨acc, rfl, ?_⟩
    rw [← ew, bas_less]
    rw [← hln, List.take_length] at aa
    exact aa
end
/-- what a range walks -/
def EW (c : Ct) (wi : TI) (lo : Int) (n : Nat) : Prop := ∀ σ H, Sta c σ H → ∀ R : It → Hp → Prop, (∀ H', Kp H H' → R (Itr lo n) H') → wi σ H R
section
variable {c : Ct} {t ta tb : TE}
theorem w_rng1 {j : Int} (h : E false c t (RD (.int j))) (b : -(2 ^ 62) ≤ j ∧ j < 2 ^ 62) : EW c (iRng1 (tCons t tNil)) 0 j.toNat := fun σ H s R q => h σ H s _ fun H1 v k r => by
  cases r
  exact ⟨j, rfl, b.1, b.2, q H1 k⟩
theorem w_rng2 {i j : Int} (h : E false c ta (RD (.int i))) (g : E false c tb (RD (.int j))) (b : -(2 ^ 62) ≤ i ∧ i < 2 ^ 62 ∧ -(2 ^ 62) ≤ j ∧ j < 2 ^ 62) : EW c (iRng2 (tCons ta (tCons tb tNil))) i (j - i).toNat := fun σ H s R q =>
  h σ H s _ fun H1 v k1 r1 => g σ H1 (s.kp k1) _ fun H2 u k2 r2 => by
    cases r1
    cases r2
    exact ⟨i, j, rfl, b, q H2 (k1.trans k2)⟩
end
end Pk
namespace Pk
open PySem L2 PySem.Spec PyProof.Rows GxR NdefX
/-- what is wanted holds wherever the slots hold what they should -/
def WC (c : Ct) (k : L2.St → Hp → Prop) : Prop := ∀ σ H, Sta c σ H → k σ H
/-- one of these holds -/
def Nx (c : Ct) (I : List Slot → Prop) : L2.St → Hp → Prop := fun σ H => ∃ g, I g ∧ Sta (c.at g) σ H
section
variable {c : Ct} {R S : Rel} {C : Own} {t te tl : TE} {tt : TT} {g : TG} {i : Nat} {D : Ends} {k : L2.St → Hp → Prop} {a u : TS} {K : PySem.W.Frag}
theorem s_of {I : List Slot → Prop} {hs h0 : Hp} {om : Addr → Prop} {gs : List Slot} (h : I gs) : WC ⟨hs, h0, om, gs⟩ (Nx ⟨hs, h0, om, []⟩ I) := fun σ H s => ⟨gs, h, s⟩
theorem s_seq (h : WC c (a { D with nx := u D })) : WC c (tSeq a u D) := h
theorem s_pass (h : WC c D.nx) : WC c (tNext D) := h
theorem s_set (h : E true c te R) (q : WC (c.set i (.fz R)) D.nx) (hi : Nat.blt i c.g.length = true := by rfl) : WC c (tAsg te (gName i) D) := fun σ H s => h σ H s _ fun H' v kp r => by
  rw [hb_t] at r
  exact q _ H' ((s.kp kp).set (by simpa using hi) r).1
theorem s_new (h : EN c te C) (q : WC (c.set i (.own C)) D.nx) (hi : Nat.blt i c.g.length = true := by rfl) : WC c (tAsg te (gName i) D) := fun σ H s => h σ H s _ fun H' p o kp n r =>
  q _ _ ((s.kp kp).new (by simpa using hi) n r).1
theorem s_asg {g' : List Slot} {is : List Nat} (h : E true c te R) (hg : EG c g R g' is) (q : WC (c.at g') D.nx) : WC c (tAsg te g D) := fun σ H s => h σ H s _ fun H' v kp r => by
  rw [hb_t] at r
  exact hg σ H' v (s.kp kp) r _ fun σ' s' _ _ => q σ' H' s'
theorem s_expr (h : E false c te R) (q : WC c D.nx) : WC c (tDrop te D) := fun σ H s => h σ H s _ fun H' v kp _ => q σ H' (s.kp kp)
theorem s_if {x : Bool} (h : ET c tt x) (ha : x = true → WC c (a D)) (hb : x = false → WC c (u D)) : WC c (tIfS tt a u D) := fun σ H s => h σ H s _ fun H' kp => by
  cases x with
  | true => rw [if_pos rfl]; exact ha rfl σ H' (s.kp kp)
  | false => rw [if_neg Bool.false_ne_true]; exact hb rfl σ H' (s.kp kp)
theorem s_ret (h : E true c te R) (q : ∀ H' v, Kp c.hs H' → R.p (less H' c.om) v → D.rt v H') : WC c (tRet te D) := fun σ H s => h σ H s _ fun H' v kp r => by
  rw [hb_t] at r
  exact q H' v (s.ks.trans kp) (R.mn (less_mono fun _ z => .inr z) r)
/-- nothing more is said of a slot -/
theorem s_drop (i : Nat) (q : WC (c.set i .any) k) : WC c k := fun σ H s => by
  cases e : σ[i]? with
  | none =>
    have := (s.drop i none).1
    rw [List.set_eq_of_length_le (List.getElem?_eq_none_iff.mp e)] at this
    exact q σ H this
  | some o =>
    have := (s.drop i o).1
    rw [setsame e] at this
    exact q σ H this
/-- l.append(e), l being changed -/
theorem s_app {d : PyData} {ds : List PyData} (e : c.g[i]? = some (.own (OL ds))) (h : E true c te (RD d)) (l : ds.length < sizeLine) (q : WC (c.set i (.own (OL (ds ++ [d])))) D.nx) :
    WC c (tDrop (tBM K "list" rAppend (tVar i) (tCons te tNil)) D) := fun σ H s => by
  obtain ⟨p, o, e1, e2, ⟨vs, rfl, a⟩, _⟩ := s.own i _ e
  refine ⟨.ref p, e1, .inl ⟨rfl, vs, SqL.of e2⟩, h σ H s _ fun H1 v kp r => ⟨p, vs, v, rfl, rfl, kp.lst e2, by rw [a.len]; exact l, ?_⟩⟩
  rw [hb_t] at r
  exact q σ _ ((s.kp kp).mut (C' := OL (ds ++ [d])) e e1 ⟨_, rfl, (a.kp (s.kb kp)).app (.cons r .nil)⟩).1
end
section
variable {c : Ct} {tl : TE} {wi : TI} {g : TG} {D : Ends} {tb : TS} {K : PySem.W.Frag} {tt : TT}
abbrev inL (hs h1 : Hp) (om : Addr → Prop) (I : List Slot → Prop) (D : Ends) : Ends := { D with nx := Nx ⟨hs, h1, om, []⟩ I, ct := Nx ⟨hs, h1, om, []⟩ I, bk := D.nx }
theorem s_for {α : Type} {xs : List α} {enc : α → PyData} (I : Nat → List Slot → Prop) (hs : E true c tl (RD (.list (xs.map enc)))) (h0 : I 0 c.g)
    (hb : ∀ h1 i x gs, Kp c.h0 h1 → xs[i]? = some x → I i gs → ∃ g' is, EG ⟨c.hs, h1, c.om, gs⟩ g (RD (enc x)) g' is ∧ WC ⟨c.hs, h1, c.om, g'⟩ (tb (inL c.hs h1 c.om (I (i + 1)) D)))
    (hd : ∀ gs, I xs.length gs → WC (c.at gs) D.nx) : WC c (tFor (iList K tl) g tb D) := fun σ H s => hs σ H s _ fun H1 v k1 r1 => by
  rw [hb_t] at r1
  have s1 := s.kp k1
  cases r1 with
  | @lst a0 vs0 _ e a =>
    refine ⟨a0, rfl, ⟨vs0, SqL.of (less_some e).2⟩, ?_⟩
    have hl := a.len
    rw [List.length_map] at hl
    refine for_list (K := K) (a := a0) (xs := vs0) (fun i σ' H' => Nx ⟨c.hs, bas c σ H1, c.om, []⟩ (I i) σ' H') ⟨c.g, h0, s1.h0 (Kp.refl _)⟩ ?_ ?_ ?_
    · rintro i σ' H' _ ⟨gs, _, s'⟩
      exact SqL.of (less_some (s'.k0.lst e)).2
    · rintro i v σ' H' hv ⟨gs, hi, s'⟩
      obtain ⟨d, hd', rd⟩ := a.at' hv
      rw [List.getElem?_map] at hd'
      obtain ⟨x, ex, rfl⟩ := Option.map_eq_some_iff.mp hd'
      obtain ⟨g', is, hg, hw⟩ := hb (bas c σ H1) i x gs s1.k0 ex hi
      exact hg σ' H' v s' (rd.kp s'.k0) _ fun σ2 s2 _ _ => hw σ2 H' s2
    · rintro σ' H' ⟨gs, hi, s'⟩
      rw [hl] at hi
      exact hd gs hi σ' H' (s'.h0 (s1.k0.trans s'.k0))
theorem s_rng {lo : Int} {n : Nat} (I : Nat → List Slot → Prop) (hs : EW c wi lo n) (h0 : I 0 c.g)
    (hb : ∀ i gs, i < n → I i gs → ∃ g' is, EG (c.at gs) g (RD (.int (lo + (i : Int)))) g' is ∧ WC (c.at g') (tb (inL c.hs c.h0 c.om (I (i + 1)) D)))
    (hd : ∀ gs, I n gs → WC (c.at gs) D.nx) : WC c (tFor wi g tb D) := fun σ H s => hs σ H s _ fun H1 k1 => by
  refine for_range (fun i σ' H' => Nx ⟨c.hs, c.h0, c.om, []⟩ (I i) σ' H') ⟨c.g, h0, s.kp k1⟩ ?_ ?_
  · rintro i σ' H' hi ⟨gs, hg, s'⟩
    obtain ⟨g', is, hg', hw⟩ := hb i gs hi hg
    exact hg' σ' H' _ s' (.int _) _ fun σ2 s2 _ _ => hw σ2 H' s2
  · rintro σ' H' ⟨gs, hg, s'⟩
    exact hd gs hg σ' H' s'
end
/-- for arguments that are as Rs says, and P: a value as R says -/
def Sps {α : Type} (Rs : α → List Rel) (P : α → Hp → Prop) (R : α → Rel) : Sp := fun vs H Q _ => ∃ (a : α) (om : Addr → Prop), Hd H om ∧ Rok (Rs a) (less H om) vs ∧ P a (less H om) ∧ ∀ H' v, Kp H H' → (R a).p (less H' om) v → Q v H'
/-- a promise serves such arguments -/
def Sok (sp : Sp) (Rs : List Rel) (P : Hp → Prop) (R : Rel) : Prop := ∀ H om vs, Hd H om → Rok Rs (less H om) vs → P (less H om) → ∀ (Q : VK) (E : XK), (∀ H' v, Kp H H' → R.p (less H' om) v → Q v H') → sp vs H Q E
theorem sok_sps {α : Type} {Rs : α → List Rel} {P : α → Hp → Prop} {R : α → Rel} (a : α) : Sok (Sps Rs P R) (Rs a) (P a) (R a) := fun H om vs ho hr hp Q E q => ⟨a, om, ho, hr, hp, q⟩
section
variable {b : Bool} {c : Ct} {R R0 : Rel} {Rs : List Rel} {P : Hp → Prop} {sp : Sp} {te : TE} {ta : TA} {E' : XK} {C : Addr} {m : Str}
theorem Sta.hd {σ : L2.St} {H : Hp} (s : Sta c σ H) : Hd H (msk b c σ) := fun a m => s.hides a m
theorem c_call (hsp : Sok sp Rs P R) (ha : EA b c ta Rs) (hp : ∀ H, Kp c.h0 H → P H) : E b c (tCall sp [] E' ta) R := fun σ H s Q q => ha σ H s _ fun H1 vs k1 r1 => by
  rw [List.append_nil]
  exact hsp H1 (msk b c σ) vs (s.kp k1).hd r1 (hp _ ((s.kp k1).k0.trans bas_hb)) Q E' fun H' v k r => q H' v (k1.trans k) r
theorem c_meth (hi : ∀ H v, R0.p H v → ∃ a dx fs, v = .ref a ∧ H a = some (.ins C dx fs) ∧ fs.lookup m = none) (hsp : Sok sp (R0 :: Rs) P R) (ho : E b c te R0) (ha : EA b c ta Rs) (hp : ∀ H, Kp c.h0 H → P H) : E b c (tMeth C m sp [] E' te ta) R := fun σ H s Q q =>
  ho σ H s _ fun H1 x k1 r1 => by
    obtain ⟨a, dx, fs, rfl, e, l⟩ := hi _ _ r1
    refine ⟨a, dx, fs, rfl, (less_some e).2, l, ha σ H1 (s.kp k1) _ fun H2 vs k2 r2 => ?_⟩
    rw [List.append_nil]
    have s2 := (s.kp k1).kp k2
    exact hsp H2 (msk b c σ) _ s2.hd ⟨_, _, rfl, R0.mn (hb_kp k2) r1, r2⟩ (hp _ (s2.k0.trans bas_hb)) Q E' fun H' v k r => q H' v ((k1.trans k2).trans k) r
theorem c_prop (hi : ∀ H v, R0.p H v → ∃ a dx fs, v = .ref a ∧ H a = some (.ins C dx fs)) (hsp : Sok sp [R0] P R) (ho : E b c te R0) (hp : ∀ H, Kp c.h0 H → P H) : E b c (tProp C sp [] E' te) R := fun σ H s Q q =>
  ho σ H s _ fun H1 x k1 r1 => by
    obtain ⟨a, dx, fs, rfl, e⟩ := hi _ _ r1
    have s1 := s.kp k1
    exact ⟨a, dx, fs, rfl, (less_some e).2, hsp H1 (msk b c σ) _ s1.hd ⟨_, _, rfl, r1, rfl⟩ (hp _ (s1.k0.trans bas_hb)) Q E' fun H' v k r => q H' v (k1.trans k) r⟩
end
/-- the slots at the start of a def -/
def slots0 (Rs : List Rel) (n : Nat) : List Slot := Rs.map .fz ++ List.replicate (n - Rs.length) .any
theorem Rok.len : ∀ {Rs : List Rel} {H : Hp} {vs : List V}, Rok Rs H vs → vs.length = Rs.length
  | [], _, _, h => by rw [show _ = [] from h]; rfl
  | _ :: Rs, _, _, ⟨v, r, e, _, h⟩ => by rw [e]; exact congrArg (· + 1) h.len
theorem Rok.at : ∀ {Rs : List Rel} {H : Hp} {vs : List V}, Rok Rs H vs → ∀ {i : Nat} {R : Rel}, Rs[i]? = some R → ∃ v, vs[i]? = some v ∧ R.p H v
  | [], _, _, _, i, _, e => by simp at e
  | _ :: Rs, _, _, ⟨v, r, rfl, h1, h2⟩, 0, _, e => by cases e; exact ⟨v, rfl, h1⟩
  | _ :: Rs, _, _, ⟨v, r, rfl, h1, h2⟩, i + 1, _, e => h2.at e
theorem no_own {Rs : List Rel} {n : Nat} {i : Nat} {C : Own} : (slots0 Rs n)[i]? ≠ some (.own C) := fun e => by
  unfold slots0 at e
  have m := List.mem_of_getElem? e
  rcases List.mem_append.mp m with z | z
  · obtain ⟨R, _, q⟩ := List.mem_map.mp z
    cases q
  · cases (List.eq_of_mem_replicate z)
theorem sta_start {H : Hp} {om : Addr → Prop} {Rs : List Rel} {N : List Str} {vs : List V} (ho : Hd H om) (h : Rok Rs (less H om) vs) : Sta ⟨H, less H om, om, slots0 Rs N.length⟩ (L2.start N vs) H := by
  have hl := h.len
  have eb : bas ⟨H, less H om, om, slots0 Rs N.length⟩ (L2.start N vs) H = less H om := by
    funext a
    by_cases m : om a
    · rw [less_in m]
      exact bas_in (c := ⟨H, less H om, om, slots0 Rs N.length⟩) (.inr m)
    · rw [less_out m]
      exact bas_out (c := ⟨H, less H om, om, slots0 Rs N.length⟩) fun z => z.elim (fun ⟨i, C, e, _⟩ => no_own e) m
  refine ⟨?_, fun i R e => ?_, fun i C e => absurd e no_own, fun i j C _ _ e => absurd e no_own, by rw [eb]; exact Kp.refl _, Kp.refl _, ho⟩
  · show (vs.map some ++ List.replicate (N.length - vs.length) none).length = (Rs.map Slot.fz ++ List.replicate (N.length - Rs.length) Slot.any).length
    rw [List.length_append, List.length_append, List.length_map, List.length_map, List.length_replicate, List.length_replicate, hl]
  · rw [eb]
    have e : (Rs.map Slot.fz ++ List.replicate (N.length - Rs.length) Slot.any)[i]? = some (.fz R) := e
    by_cases hi : i < Rs.length
    · rw [List.getElem?_append_left (by rw [List.length_map]; exact hi), List.getElem?_map] at e
      obtain ⟨R', e1, e2⟩ := Option.map_eq_some_iff.mp e
      cases e2
      obtain ⟨v, e3, e4⟩ := h.at e1
      refine ⟨v, ?_, e4⟩
      show (vs.map some ++ List.replicate (N.length - vs.length) none)[i]? = _
      rw [List.getElem?_append_left (by rw [List.length_map, hl]; exact hi), List.getElem?_map, e3]
      rfl
    · rw [List.getElem?_append_right (by rw [List.length_map]; omega)] at e
      cases (List.eq_of_mem_replicate (List.mem_of_getElem? e))
section
variable {P : Program} {w : World} {K : PySem.W.Frag} {mg : Str → Option Value} {base : Heap}
/-- a def that keeps such a promise -/
theorem fn_ok {x qual : Str} {st : Stmt} {f : Addr} {fd : FuncData} {N ps : List Str} {k : Nat} {α : Type} {Rs : α → List Rel} {Pr : α → Hp → Prop} {R : α → Rel} (F : Fun K x qual st f fd) (S : FnScope N ps (defScope st)) (hl : ∀ a, (Rs a).length = ps.length)
    (hbody : ∀ (cdv : Value) (A : Around) (outer : List Env) (s : Shared) (H : Hp) (E : XK), Room k (A.deeper (envOfC qual (defScope st) s.heap.objs.size f cdv)) →
      ∃ t, PSs (cxOf CX0 P w K mg base N qual (defScope st) f cdv A outer s H E).nox (defBody st) t ∧ ∀ (a : α) (hs : Hp) (om : Addr → Prop) (Q : VK), Pr a (less hs om) → (∀ H' v, Kp hs H' → (R a).p (less H' om) v → Q v H') → WC ⟨hs, less hs om, om, slots0 (Rs a) N.length⟩ (t { nx := fun _ H' => Q .non H', rt := Q })) :
    FnOk P w K mg base CX0 (k + 1) f fd ps (Sps Rs Pr R) := by
  refine F.ok S (fun vs H Q E h => ?_) (fun cdv A outer s H vs Q E hr h => ?_)
  · obtain ⟨a, om, ho, hr, _⟩ := h
    rw [hr.len, hl]
  · obtain ⟨a, om, ho, hR, hP, q⟩ := h
    obtain ⟨t, ht, hw⟩ := hbody cdv A outer s H E hr
    exact ⟨t, ht, hw a H om Q hP q _ _ (sta_start ho hR)⟩
end
end Pk
namespace Pk
open PySem L2 PySem.Spec PyProof.Rows GxR NdefX
abbrev eL {α : Type} (f : α → PyData) : List α → PyData := fun xs => .list (xs.map f)
abbrev eH2 {α β : Type} (f : α → PyData) (g : β → PyData) : α × β → PyData := fun p => .list [f p.1, g p.2]
abbrev eTL {α : Type} (f : α → PyData) : List α → PyData := fun xs => .tuple (xs.map f)
abbrev eT2 {α β : Type} (f : α → PyData) (g : β → PyData) : α × β → PyData := fun p => .tuple [f p.1, g p.2]
abbrev eT3 {α β γ : Type} (f : α → PyData) (g : β → PyData) (k : γ → PyData) : α × β × γ → PyData := fun p => .tuple [f p.1, g p.2.1, k p.2.2]
abbrev dLk : Str × Int × Int → PyData := fun c => .tuple [.str c.1, .int c.2.1, .int c.2.2]
theorem enc_P : Enc dP 1 (fun p : Pl => True ∧ True) := enc_pair enc_int enc_int
theorem enc_Lk : Enc dLk 1 (fun c : Str × Int × Int => PyData.strOk c.1 = true ∧ True ∧ True) := enc_trip enc_str enc_int enc_int
theorem enc_H2 {α β : Type} [DecidableEq α] [DecidableEq β] {f : α → PyData} {g : β → PyData} {n m : Nat} {P : α → Prop} {S : β → Prop} (h : Enc f n P) (q : Enc g m S) : Enc (eH2 f g) (max n m + 1) (fun p => P p.1 ∧ S p.2) :=
  enc_lpair (h.up (Nat.le_max_left n m)) (q.up (Nat.le_max_right n m))
theorem enc_T3 {α β γ : Type} [DecidableEq α] [DecidableEq β] [DecidableEq γ] {f : α → PyData} {g : β → PyData} {k : γ → PyData} {n m l : Nat} {P : α → Prop} {S : β → Prop} {T : γ → Prop} (h : Enc f n P) (q : Enc g m S) (r : Enc k l T) : Enc (eT3 f g k) (max (max n m) l + 1) (fun p => P p.1 ∧ S p.2.1 ∧ T p.2.2) :=
  enc_trip (h.up (by omega)) (q.up (by omega)) (r.up (by omega))
/-- the item at i, counted from the end if i is negative -/
def ix {α : Type} [Inhabited α] (xs : List α) (i : Int) : α := (atI xs i).getD default
theorem atI_in {α : Type} {xs : List α} {i : Int} (h : -(xs.length : Int) ≤ i ∧ i < xs.length) : ∃ a, atI xs i = some a := by
  unfold atI ixN
  by_cases h0 : 0 ≤ i
  · rw [if_pos h0, if_pos h.2]
    show ∃ a, xs[i.toNat]? = some a
    exact ⟨_, List.getElem?_eq_getElem (by omega)⟩
  · rw [if_neg h0, if_pos h.1]
    show ∃ a, xs[(i + xs.length).toNat]? = some a
    exact ⟨_, List.getElem?_eq_getElem (by omega)⟩
theorem atI_map {α β : Type} (f : α → β) (xs : List α) (i : Int) : atI (xs.map f) i = (atI xs i).map f := by
  unfold atI
  rw [List.length_map]
  cases ixN xs.length i with
  | none => rfl
  | some j => exact List.getElem?_map ..
theorem ix_some {α : Type} [Inhabited α] {xs : List α} {i : Int} (h : -(xs.length : Int) ≤ i ∧ i < xs.length) : atI xs i = some (ix xs i) := by
  obtain ⟨a, e⟩ := atI_in h
  unfold ix
  rw [e]
  rfl
theorem ix_at {α : Type} [Inhabited α] {enc : α → PyData} {xs : List α} {i : Int} (h : -(xs.length : Int) ≤ i ∧ i < xs.length) : atI (xs.map enc) i = some (enc (ix xs i)) := by
  rw [atI_map, ix_some h]
  rfl
theorem ix_nat {α : Type} [Inhabited α] {xs : List α} {j : Nat} {a : α} (h : xs[j]? = some a) : ix xs (j : Int) = a := by
  unfold ix
  rw [atI_nat h]
  rfl
theorem ix_last {α : Type} [Inhabited α] (xs : List α) (a : α) : ix (xs ++ [a]) (-1) = a := by
  unfold ix
  rw [atI_last]
  rfl
def cutL {α : Type} (xs : List α) (lo hi : Option Int) : List α := (xs.drop (HT.sIx xs.length 0 lo)).take (HT.sIx xs.length xs.length hi - HT.sIx xs.length 0 lo)
theorem cutD_map {α : Type} (f : α → PyData) (xs : List α) (lo hi : Option Int) : cutD (xs.map f) lo hi = (cutL xs lo hi).map f := by
  unfold cutD cutL
  rw [List.length_map, List.map_take, List.map_drop]
def rgI (lo : Int) (n : Nat) : List Int := (List.range n).map fun k : Nat => lo + (k : Int)
section
variable {b : Bool} {c : Ct} {α β γ : Type} {t ta tb tc te tl : TE} {K : PySem.W.Frag} {R S : Rel} {d e : PyData}
theorem EN.eqL {ds es : List PyData} (h : EN c t (OL ds)) (e : ds = es) : EN c t (OL es) := e ▸ h
theorem n_catM {xs ys : List α} {enc : α → PyData} (h : EI c ta (xs.map enc)) (g : EI c tb (ys.map enc)) (l : xs.length + ys.length ≤ 16777216) : EN c (tOp rCat ta tb) (OL ((xs ++ ys).map enc)) :=
  (n_cat h g (by rw [List.length_map, List.length_map]; exact l)).eqL (List.map_append ..).symm
theorem n_lstM {xs : List α} {enc : α → PyData} {u : TA} (h : EM true c u (xs.map enc)) (l : Nat.ble (xs.map enc).length sizeLine = true := by rfl) : EN c (tLst u) (OL (xs.map enc)) := n_lst h l
theorem n_slM {xs : List α} {enc : α → PyData} {lo hi : Option Int} {tl th : TO} (h : EI c t (xs.map enc)) (hl : EO c tl lo) (hh : EO c th hi) : EN c (tSl (rSlL K) t tl th) (OL ((cutL xs lo hi).map enc)) :=
  (n_sl h hl hh).eqL (cutD_map _ _ _ _)
theorem o_lenM {xs : List α} {enc : α → PyData} : On (fun xs H Q => ∃ x n, xs = [x] ∧ LenV K x H n ∧ Q (.int n) H) [RD (.list (xs.map enc))] (RD (.int xs.length)) := by
  have := o_lenL (K := K) (ds := xs.map enc)
  rw [List.length_map] at this
  exact this
theorem t_yes : ET c tYes true := fun σ H s Q q => q H (Kp.refl _)
theorem t_truL {xs : List α} {enc : α → PyData} (h : EI c t (xs.map enc)) : ET c (fun σ H Q => t σ H fun x H' => ∃ k, TruV K x H' k ∧ Q k H') (!xs.isEmpty) := fun σ H s Q q => h σ H s _ fun H1 a vs k1 e1 r1 => by
  refine ⟨!vs.isEmpty, .inl ⟨vs, SqL.of e1, rfl⟩, ?_⟩
  have hl := r1.len
  rw [List.length_map] at hl
  rw [show (!vs.isEmpty) = !xs.isEmpty by cases vs <;> cases xs <;> first | rfl | cases hl]
  exact q H1 k1
theorem e_chain {r r' : R2} {R1 R2 R3 : Rel} {x y : Bool} (o : O2 r R1 R2 (RD (.bool x))) (o' : O2 r' R2 R3 (RD (.bool y))) (ha : E b c ta R1) (hb' : E b c tb R2) (hc : x = true → E b c tc R3) : E b c (tChain r r' ta tb tc) (RD (.bool (x && y))) := fun σ H s Q q =>
  ha σ H s _ fun H1 v1 k1 r1 => hb' σ H1 (s.kp k1) _ fun H2 v2 k2 r2 => o H2 (msk b c σ) v1 v2 ((s.kp k1).kp k2).hd (R1.mn (hb_kp k2) r1) r2 _ fun H3 v3 k3 r3 => by
    cases r3
    refine ⟨x, rfl, ?_⟩
    have s3 := ((s.kp k1).kp k2).kp k3
    cases x with
    | false => rw [if_neg Bool.false_ne_true]; exact q H3 _ ((k1.trans k2).trans k3) (.bl _)
    | true =>
      rw [if_pos rfl]
      refine hc rfl σ H3 s3 _ fun H4 v4 k4 r4 => o' H4 (msk b c σ) v2 v4 (s3.kp k4).hd (R2.mn (hb_kp (k3.trans k4)) r2) r4 Q fun H5 v5 k5 r5 => q H5 v5 ((((k1.trans k2).trans k3).trans k4).trans k5) r5
theorem e_ite {tt : TT} {x : Bool} {enc : α → PyData} {u v : α} (h : ET c tt x) (ha : x = true → E b c ta (RD (enc u))) (hc : x = false → E b c tb (RD (enc v))) : E b c (tIf tt ta tb) (RD (enc (if x = true then u else v))) := by
  refine e_if h (fun z => ?_) fun z => ?_
  · rw [if_pos z]; exact ha z
  · rw [if_neg (by rw [z]; exact Bool.false_ne_true)]; exact hc z
theorem mulL {i j : Int} (h1 : -(2 ^ 64) < i) (h2 : i < 2 ^ 64) : CMul i j := .inl ⟨h1, h2⟩
theorem o_mul {i j : Int} (h : CMul i j) : O2 (rI CMul fun i j => .int (i * j)) (RD (.int i)) (RD (.int j)) (RD (.int (i * j))) := o_I h
theorem o_mod {i j : Int} (h : 0 < j) : O2 (rI (fun _ j => 0 < j) fun i j => .int (i % j)) (RD (.int i)) (RD (.int j)) (RD (.int (i % j))) := o_I (C := fun _ j => 0 < j) h
theorem o_neg {i : Int} : O1 (rU fun i => .int (-i)) (RD (.int i)) (RD (.int (-i))) := o_U
theorem DtAll.bls {H : Hp} : ∀ {vs : List V} {bs : List Bool}, DtAll H vs (bs.map PyData.bool) → vs = bs.map V.bl
  | [], [], _ => rfl
  | [], _ :: _, h => by cases h
  | _ :: _, [], h => by cases h
  | v :: vs, x :: bs, .cons a r => by
    cases a
    rw [r.bls]
    rfl
theorem DtAll.ints {H : Hp} : ∀ {vs : List V} {ns : List Int}, DtAll H vs (ns.map PyData.int) → vs = ns.map V.int
  | [], [], _ => rfl
  | [], _ :: _, h => by cases h
  | _ :: _, [], h => by cases h
  | v :: vs, x :: ns, .cons a r => by
    cases a
    rw [r.ints]
    rfl
theorem DtAll.ofInts {H : Hp} : ∀ ns : List Int, DtAll H (ns.map V.int) (ns.map PyData.int)
  | [] => .nil
  | n :: ns => .cons (.int n) (DtAll.ofInts ns)
theorem o_all {bs : List Bool} : On (rAll K) [RD (.list (bs.map PyData.bool))] (RD (.bool (bs.all id))) := fun H M vs _ r Q q => by
  obtain ⟨v, r', rfl, h1, rfl⟩ := r
  cases h1 with
  | lst e a => exact ⟨_, bs, rfl, by rw [← a.bls]; exact SqL.of (less_some e).2, q H _ (Kp.refl _) (.bl _)⟩
theorem o_any {bs : List Bool} : On (rAny K) [RD (.list (bs.map PyData.bool))] (RD (.bool (bs.any id))) := fun H M vs _ r Q q => by
  obtain ⟨v, r', rfl, h1, rfl⟩ := r
  cases h1 with
  | lst e a => exact ⟨_, bs, rfl, by rw [← a.bls]; exact SqL.of (less_some e).2, q H _ (Kp.refl _) (.bl _)⟩
theorem o_sum {ns : List Int} : On (rSum K) [RD (.list (ns.map PyData.int))] (RD (.int ns.sum)) := fun H M vs _ r Q q => by
  obtain ⟨v, r', rfl, h1, rfl⟩ := r
  cases h1 with
  | lst e a => exact ⟨_, ns, rfl, by rw [← a.ints]; exact SqL.of (less_some e).2, q H _ (Kp.refl _) (.int _)⟩
section
variable {xs : List α} {enc : α → PyData} {G : α → List Slot} {is vs : List Nat} {p : α → Bool} {h : α → β} {encB : β → PyData} {tt : TT} {g : TG}
def anyAt (g : List Slot) (vs : List Nat) : Bool := vs.all fun i => match g[i]? with
  | some .any => true
  | _ => false
theorem anyAt_of {g : List Slot} {vs : List Nat} (h : anyAt g vs = true) : ∀ i ∈ vs, g[i]? = some .any := fun i m => by
  have := List.all_eq_true.mp h i m
  cases e : g[i]? with
  | none => rw [e] at this; cases this
  | some s =>
    rw [e] at this
    cases s with
    | any => rfl
    | fz R => cases this
    | own C => cases this
theorem n_lcM (hs : EI c tl (xs.map enc)) (hw : anyAt c.g vs = true) (his : ∀ i ∈ is, i ∈ vs)
    (hg : ∀ om, ∀ x, x ∈ xs → EG ⟨c.hs, c.h0, om, c.g⟩ g (RD (enc x)) (G x) is) (ht : ∀ om, ∀ x, x ∈ xs → ET ⟨c.hs, c.h0, om, G x⟩ tt (p x))
    (he : ∀ om, ∀ x, x ∈ xs → p x = true → E true ⟨c.hs, c.h0, om, G x⟩ te (RD (encB (h x)))) (hl : xs.length < 16777216) : EN c (tLc (iList K tl) g tt te vs) (OL (((xs.filter p).map h).map encB)) :=
  (n_lc (f := fun x => encB (h x)) hs (anyAt_of hw) his (fun om x m => hg om x m) (fun om x m => ht om x m) (fun om x m q => he om x m q) hl).eqL (by rw [List.map_map]; rfl)
theorem n_lcM1 (hs : EI c tl (xs.map enc)) (hw : anyAt c.g vs = true) (his : ∀ i ∈ is, i ∈ vs)
    (hg : ∀ om, ∀ x, x ∈ xs → EG ⟨c.hs, c.h0, om, c.g⟩ g (RD (enc x)) (G x) is)
    (he : ∀ om, ∀ x, x ∈ xs → True → E true ⟨c.hs, c.h0, om, G x⟩ te (RD (encB (h x)))) (hl : xs.length < 16777216) : EN c (tLc (iList K tl) g tYes te vs) (OL ((xs.map h).map encB)) :=
  (n_lcM (p := fun _ => true) hs hw his hg (fun _ _ _ => t_yes) (fun om x m _ => he om x m trivial) hl).eqL (by rw [List.filter_eq_self.mpr (fun _ _ => rfl)])
end
section
variable {lo : Int} {n : Nat} {G : Int → List Slot} {is vs : List Nat} {p : Int → Bool} {h : Int → β} {encB : β → PyData} {tt : TT} {g : TG} {wi : TI}
theorem rgI_mem {k : Int} : k ∈ rgI lo n ↔ lo ≤ k ∧ k < lo + n := by
  unfold rgI
  rw [List.mem_map]
  constructor
  · rintro ⟨j, hj, rfl⟩
    have := List.mem_range.mp hj
    omega
  · rintro ⟨h1, h2⟩
    exact ⟨(k - lo).toNat, List.mem_range.mpr (by omega), by omega⟩
theorem n_lcRM (hs : EW c wi lo n) (hw : anyAt c.g vs = true) (his : ∀ i ∈ is, i ∈ vs)
    (hg : ∀ om, ∀ k : Int, (lo ≤ k ∧ k < lo + n) → EG ⟨c.hs, c.h0, om, c.g⟩ g (RD (.int k)) (G k) is) (ht : ∀ om, ∀ k : Int, (lo ≤ k ∧ k < lo + n) → ET ⟨c.hs, c.h0, om, G k⟩ tt (p k))
    (he : ∀ om, ∀ k : Int, (lo ≤ k ∧ k < lo + n) → p k = true → E true ⟨c.hs, c.h0, om, G k⟩ te (RD (encB (h k)))) (hl : n < 16777216) : EN c (tLc wi g tt te vs) (OL ((((rgI lo n).filter p).map h).map encB)) :=
  (n_lcR (f := fun x => encB (h x)) hs (anyAt_of hw) his (fun om k m => hg om _ (by omega)) (fun om k m => ht om _ (by omega)) (fun om k m q => he om _ (by omega) q) hl).eqL (by rw [List.map_map]; rfl)
theorem n_lcRM1 (hs : EW c wi lo n) (hw : anyAt c.g vs = true) (his : ∀ i ∈ is, i ∈ vs)
    (hg : ∀ om, ∀ k : Int, (lo ≤ k ∧ k < lo + n) → EG ⟨c.hs, c.h0, om, c.g⟩ g (RD (.int k)) (G k) is)
    (he : ∀ om, ∀ k : Int, (lo ≤ k ∧ k < lo + n) → True → E true ⟨c.hs, c.h0, om, G k⟩ te (RD (encB (h k)))) (hl : n < 16777216) : EN c (tLc wi g tYes te vs) (OL (((rgI lo n).map h).map encB)) :=
  (n_lcRM (p := fun _ => true) hs hw his hg (fun _ _ _ => t_yes) (fun om x m _ => he om x m trivial) hl).eqL (by rw [List.filter_eq_self.mpr (fun _ _ => rfl)])
end
theorem s_appM {i : Nat} {D : Ends} {xs : List α} {enc : α → PyData} {a : α} (e : c.g[i]? = some (.own (OL (xs.map enc)))) (h : E true c te (RD (enc a))) (l : xs.length < 16777216) (q : WC (c.set i (.own (OL ((xs ++ [a]).map enc)))) D.nx) :
    WC c (tDrop (tBM K "list" rAppend (tVar i) (tCons te tNil)) D) := s_app e h (by rw [List.length_map]; exact l) (by rw [List.map_append] at q; exact q)
end
end Pk
namespace Pk
open PySem PySem.Spec PyProof.Rows L2
abbrev zObj (f0 : Value) (g : Bool) (TI TO : Addr) : Obj := { cls := .type "zip", dict := none, data := .fields #[f0, .bool g, .bool false, .ref TI, .ref TO], slots := #[] }
/-- a zip in the midst of its walk; the tuple that it gave last still stands -/
structure ZS (h : Heap) (z TI TO i1 i2 l1 l2 : Addr) (i : Nat) (xs ys : Array Value) : Prop where
  ob : h.get? z = some (zObj .none false TI TO) ∨ ∃ (T : Addr) (o : Obj) (g : Bool), h.get? z = some (zObj (rawInt T) g TI TO) ∧ h.get? T = some o ∧ T ≠ z ∧ T ≠ TO ∧ T ≠ i1 ∧ T ≠ i2
  ti : IsPair h TI (.ref i1) (.ref i2)
  to_ : ∃ a b, IsPair h TO a b
  it1 : h.IsListIter i1 l1 i
  it2 : h.IsListIter i2 l2 i
  ls1 : h.IsList l1 xs
  ls2 : h.IsList l2 ys
def Keeps4 (z TO i1 i2 : Addr) (h h' : Heap) : Prop := ∀ c o, c ≠ z → c ≠ TO → c ≠ i1 → c ≠ i2 → h.get? c = some o → h'.get? c = some o
section
variable {P : Program} {w : World} {A : Around} {E : Value → Shared → Prop} {s : Shared} {z TI TO i1 i2 l1 l2 : Addr} {i : Nat} {xs ys : Array Value}
theorem own_taken {T : Addr} {o : Obj} {g : Bool} {R : Bool → Shared → Prop} (ez : s.heap.get? z = some (zObj (rawInt T) g TI TO)) (eT : s.heap.get? T = some o)
    (fin : ∀ h1, h1.get? z = some (zObj (rawInt T) true TI TO) → Heap.SameBut z s.heap h1 → R false { s with heap := h1 }) : wpAny (model P w) A (Builtin.SmallTypes.ownedTupleIsFree (.ref z)) R E s := by
  unfold Builtin.SmallTypes.ownedTupleIsFree
  refine wpAny_bind (wpAny_field ez rfl (x := rawInt T) rfl ?_)
  show wpAny _ _ (loadIfAlive ((T : Int).toNat) >>= _) _ _ _
  rw [Int.toNat_natCast]
  refine wpAny_bind (PySem.W.kdx_alive eT ?_)
  simp only [Option.isNone_some, Bool.false_eq_true, if_false]
  refine wpAny_bind (wpAny_field ez rfl (x := .bool g) rfl ?_)
  cases g with
  | true =>
    rw [if_neg (by decide)]
    exact wpAny_pure (fin s.heap ez (Heap.SameBut.refl _ _))
  | false =>
    rw [if_pos (by decide)]
    refine wpAny_bind (wpAny_setField_rec ez (by show 1 < 5; decide) fun h1 e1 sb => wpAny_pure (fin h1 ?_ sb))
    exact e1
/-- the next pair, by a tuple of its own -/
theorem zip_go {T : Addr} {o : Obj} {g : Bool} {x y : Value} {Q : Value → Shared → Prop} (D : ZipApart z TI TO i1 i2 l1 l2) (ez : s.heap.get? z = some (zObj (rawInt T) g TI TO)) (eT : s.heap.get? T = some o)
    (eI : IsPair s.heap TI (.ref i1) (.ref i2)) (g1 : s.heap.IsListIter i1 l1 i) (g2 : s.heap.IsListIter i2 l2 i) (q1 : s.heap.IsList l1 xs) (q2 : s.heap.IsList l2 ys) (ex : xs[i]? = some x) (ey : ys[i]? = some y)
    (fin : ∀ h', h'.get? z = some (zObj (rawInt T) true TI TO) → h'.IsListIter i1 l1 (i + 1) → h'.IsListIter i2 l2 (i + 1) → IsPair h' s.heap.objs.size x y → h'.objs.size = s.heap.objs.size + 1 →
      (∀ c u, c ≠ z → c ≠ i1 → c ≠ i2 → s.heap.get? c = some u → h'.get? c = some u) → Q (.ref s.heap.objs.size) { s with heap := h' }) :
    wpAny (model P w) A (Builtin.«zip.__next__» ⟨[.ref z], []⟩) (fun r s' => ∃ v, r = .done (.ret v) ∧ Q v s') E s := by
  refine wpAny_bind (m := PySem.field (.ref z) 2) (wpAny_field ez rfl (x := .bool false) rfl ?_)
  refine wpAny_bind (m := PySem.field (.ref z) 3) (wpAny_field ez rfl (x := .ref TI) rfl ?_)
  refine wpAny_bind (wpAny_seqItems eI rfl ?_)
  refine wpAny_bind (m := Builtin.SmallTypes.ownedTupleIsFree (.ref z)) (own_taken ez eT fun h1 e1 sb => ?_)
  simp only [Bool.false_eq_true, if_false, List.forIn_toArray, List.forIn_cons, List.forIn_nil]
  refine wpAny_bind (wpAny_bind (wpAny_bind (wpAny_holding ?_)))
  refine wpAny_bind (m := Builtin.SmallTypes.nextOf (.ref i1)) (wpAny_nextOf_list_item (s := { s with heap := h1 }) (g1.extBut sb.extBut D.i1z) (q1.extBut sb.extBut D.l1z) ex fun h2 g12 sb2 => wpAny_pure (wpAny_pure ?_))
  refine wpAny_bind (wpAny_bind (wpAny_holding ?_))
  refine wpAny_bind (m := Builtin.SmallTypes.nextOf (.ref i2)) (wpAny_nextOf_list_item (s := { s with heap := h2 }) ((g2.extBut sb.extBut D.i2z).extBut sb2.extBut D.i12.symm) ((q2.extBut sb.extBut D.l2z).extBut sb2.extBut D.l2i1) ey fun h3 g23 sb3 => wpAny_pure (wpAny_pure (wpAny_pure ?_)))
  have hz3 : h3.objs.size = s.heap.objs.size := by rw [sb3.1, sb2.1, sb.1]
  refine wpAny_bind (wpAny_newTuple ?_ (by show 2 ≤ sizeLine; decide))
  refine wpAny_pure ⟨_, rfl, ?_⟩
  show Q (.ref h3.objs.size) _
  rw [hz3]
  refine fin _ (Heap.get?_push_of_some _ (sb3.extBut _ _ D.i2z.symm (sb2.extBut _ _ D.i1z.symm e1))) ((g12.extBut sb3.extBut D.i12).at fun o e => Heap.get?_push_of_some _ e) (g23.at fun o e => Heap.get?_push_of_some _ e) ?_ ?_ fun c u n0 n1 n2 e => Heap.get?_push_of_some _ (sb3.extBut _ _ n2 (sb2.extBut _ _ n1 (sb.extBut _ _ n0 e)))
  · show (h3.push _).get? s.heap.objs.size = _
    rw [← hz3]
    exact Heap.get?_push_size _ rfl
  · rw [Heap.size_push, hz3]
theorem zip_stop {T : Addr} {o : Obj} {g : Bool} {Q : PySem.Fin → Shared → Prop} (hh : A.handled = none) (D : ZipApart z TI TO i1 i2 l1 l2) (ez : s.heap.get? z = some (zObj (rawInt T) g TI TO)) (eT : s.heap.get? T = some o)
    (eI : IsPair s.heap TI (.ref i1) (.ref i2)) (g1 : s.heap.IsListIter i1 l1 i) (g2 : s.heap.IsListIter i2 l2 i) (q1 : s.heap.IsList l1 xs) (q2 : s.heap.IsList l2 ys) (stop : xs[i]? = none ∨ ys[i]? = none)
    (fin : ∀ h' e, (∀ c u, c ≠ z → c ≠ i1 → c ≠ i2 → s.heap.get? c = some u → h'.get? c = some u) → (∃ o, h'.get? e = some o ∧ o.cls = .type "StopIteration") → E (.ref e) { s with heap := h' }) :
    wpAny (model P w) A (Builtin.«zip.__next__» ⟨[.ref z], []⟩) Q E s := by
  refine wpAny_bind (m := PySem.field (.ref z) 2) (wpAny_field ez rfl (x := .bool false) rfl ?_)
  refine wpAny_bind (m := PySem.field (.ref z) 3) (wpAny_field ez rfl (x := .ref TI) rfl ?_)
  refine wpAny_bind (wpAny_seqItems eI rfl ?_)
  refine wpAny_bind (m := Builtin.SmallTypes.ownedTupleIsFree (.ref z)) (own_taken ez eT fun h1 e1 sb => ?_)
  simp only [Bool.false_eq_true, if_false, List.forIn_toArray, List.forIn_cons, List.forIn_nil]
  refine wpAny_bind (wpAny_bind (wpAny_bind (wpAny_holding ?_)))
  cases ex : xs[i]? with
  | none =>
    refine wpAny_bind (m := Builtin.SmallTypes.nextOf (.ref i1)) (wpAny_nextOf_list_end (s := { s with heap := h1 }) hh (g1.extBut sb.extBut D.i1z) (q1.extBut sb.extBut D.l1z) ex fun h2 e sb2 he => fin h2 e (fun c u n0 n1 _ q => sb2 _ _ n1 (sb.extBut _ _ n0 q)) he)
  | some x =>
    have ey : ys[i]? = none := stop.elim (fun z => by rw [ex] at z; cases z) id
    refine wpAny_bind (m := Builtin.SmallTypes.nextOf (.ref i1)) (wpAny_nextOf_list_item (s := { s with heap := h1 }) (g1.extBut sb.extBut D.i1z) (q1.extBut sb.extBut D.l1z) ex fun h2 g12 sb2 => wpAny_pure (wpAny_pure ?_))
    refine wpAny_bind (wpAny_bind (wpAny_holding ?_))
    exact wpAny_bind (m := Builtin.SmallTypes.nextOf (.ref i2)) (wpAny_nextOf_list_end (s := { s with heap := h2 }) hh ((g2.extBut sb.extBut D.i2z).extBut sb2.extBut D.i12.symm) ((q2.extBut sb.extBut D.l2z).extBut sb2.extBut D.l2i1) ey fun h3 e sb3 he => fin h3 e (fun c u n0 n1 n2 q => sb3 _ _ n2 (sb2.extBut _ _ n1 (sb.extBut _ _ n0 q))) he)
theorem ZS.over {h h' : Heap} {n : Addr} (S : ZS h z TI TO i1 i2 l1 l2 i xs ys) (k : ∀ b u, b ≠ n → h.get? b = some u → h'.get? b = some u) (nz : z ≠ n) (nI : TI ≠ n) (nO : TO ≠ n) (n1 : i1 ≠ n) (n2 : i2 ≠ n) (m1 : l1 ≠ n) (m2 : l2 ≠ n)
    (nT : ∀ (T : Addr) (g : Bool), h.get? z = some (zObj (rawInt T) g TI TO) → T ≠ n) : ZS h' z TI TO i1 i2 l1 l2 i xs ys := by
  refine ⟨?_, k _ _ nI S.ti, ?_, S.it1.at fun o e => k _ o n1 e, S.it2.at fun o e => k _ o n2 e, S.ls1.at fun o e => k _ o m1 e, S.ls2.at fun o e => k _ o m2 e⟩
  · rcases S.ob with e | ⟨T, o, g, e, q, r⟩
    · exact .inl (k _ _ nz e)
    · exact .inr ⟨T, o, g, k _ _ nz e, k _ _ (nT T g e) q, r⟩
  · obtain ⟨a, b, e⟩ := S.to_
    exact ⟨a, b, k _ _ nO e⟩
/-- a pair comes -/
theorem zs_item {x y : Value} {Q : Option Value → Shared → Prop} (D : ZipApart z TI TO i1 i2 l1 l2) (S : ZS s.heap z TI TO i1 i2 l1 l2 i xs ys) (ex : xs[i]? = some x) (ey : ys[i]? = some y)
    (fin : ∀ h', ZS h' z TI TO i1 i2 l1 l2 (i + 1) xs ys → (∀ (T : Addr) (g : Bool), h'.get? z = some (zObj (rawInt T) g TI TO) → T = s.heap.objs.size ∨ ∃ g, s.heap.get? z = some (zObj (rawInt T) g TI TO)) → IsPair h' s.heap.objs.size x y → h'.objs.size = s.heap.objs.size + 1 → Keeps4 z TO i1 i2 s.heap h' → Q (some (.ref s.heap.objs.size)) { s with heap := h' }) :
    wpAny (model P w) A (pyNext (.ref z)) Q E s := by
  have lt : ∀ {c : Addr} {u : Obj}, s.heap.get? c = some u → s.heap.objs.size ≠ c := fun e => Nat.ne_of_gt (Heap.lt_size e)
  obtain ⟨a, b, eO⟩ := S.to_
  rcases S.ob with ez | ⟨T, o, g, ez, eT, nz, nO, n1, n2⟩
  · refine wpAny_pyNext_zip_item D ez S.ti eO S.it1 S.it2 S.ls1 S.ls2 ex ey fun h' a1 a2 a3 a4 a5 a6 a7 => fin h' ⟨.inr ⟨_, _, false, a1, a5, lt ez, lt eO, ?_, ?_⟩, a7 _ _ D.TIz D.TITO D.TIi1 D.TIi2 S.ti, ⟨_, _, a2⟩, a3, a4, S.ls1.at fun o e => a7 _ o D.l1z D.l1TO D.l1i1 D.l1i2 e, S.ls2.at fun o e => a7 _ o D.l2z D.l2TO D.l2i1 D.l2i2 e⟩ (fun T g e => .inl ?_) a5 a6 a7
    · obtain ⟨_, e, _⟩ := S.it1
      exact lt e
    · obtain ⟨_, e, _⟩ := S.it2
      exact lt e
    · rw [a1] at e
      have q := congrArg Obj.data (Option.some.inj e)
      injection q with q
      have q2 := congrArg (fun v : Array Value => v[0]?) q
      simp [rawInt] at q2
      exact (Int.ofNat.inj q2).symm
  · have hT : s.TypeIs (.ref z) "zip" := ⟨_, ez, rfl⟩
    unfold pyNext
    refine wpAny_bind (wpAny_attempt (wpAny_callSpecial?_slot (name := Str.ofString "__next__") hT F.slot_zip_next (wpAny_call_entry F.slot_zip_next hT F.entry_zip_next (zip_go D ez eT S.ti S.it1 S.it2 S.ls1 S.ls2 ex ey fun h' b1 b2 b3 b4 b5 b6 => wpAny_pure ?_) (F.args_zip_next_1 _))))
    refine fin h' ⟨.inr ⟨T, o, true, b1, b6 _ _ nz n1 n2 eT, nz, nO, n1, n2⟩, b6 _ _ D.TIz D.TIi1 D.TIi2 S.ti, ⟨a, b, b6 _ _ D.TOz D.TOi1 D.TOi2 eO⟩, b2, b3, S.ls1.at fun o e => b6 _ o D.l1z D.l1i1 D.l1i2 e, S.ls2.at fun o e => b6 _ o D.l2z D.l2i1 D.l2i2 e⟩ (fun T' g' e => .inr ?_) b4 b5 fun c u c1 _ c3 c4 e => b6 c u c1 c3 c4 e
    rw [b1] at e
    have q := congrArg Obj.data (Option.some.inj e)
    injection q with q
    have q2 := congrArg (fun v : Array Value => v[0]?) q
    simp [rawInt] at q2
    have : T = T' := Int.ofNat.inj q2
    subst this
    exact ⟨g, ez⟩
theorem zs_done {Q : Option Value → Shared → Prop} (hh : A.handled = none) (D : ZipApart z TI TO i1 i2 l1 l2) (S : ZS s.heap z TI TO i1 i2 l1 l2 i xs ys) (stop : xs[i]? = none ∨ ys[i]? = none)
    (fin : ∀ h', Keeps4 z TO i1 i2 s.heap h' → Q none { s with heap := h' }) : wpAny (model P w) A (pyNext (.ref z)) Q E s := by
  obtain ⟨a, b, eO⟩ := S.to_
  rcases S.ob with ez | ⟨T, o, g, ez, eT, nz, nO, n1, n2⟩
  · exact wpAny_pyNext_zip_end hh D ez S.ti eO S.it1 S.it2 S.ls1 S.ls2 stop fun h' k => fin h' k
  · have hT : s.TypeIs (.ref z) "zip" := ⟨_, ez, rfl⟩
    unfold pyNext
    refine wpAny_bind (wpAny_attempt (wpAny_callSpecial?_slot (name := Str.ofString "__next__") hT F.slot_zip_next (wpAny_call_entry F.slot_zip_next hT F.entry_zip_next (zip_stop hh D ez eT S.ti S.it1 S.it2 S.ls1 S.ls2 stop fun h' e k he => ?_) (F.args_zip_next_1 _))))
    obtain ⟨u, hu, hc⟩ := he
    refine wpAny_bind (wpAny_isInstance (T := "StopIteration") (b := true) ⟨u, hu, hc⟩ isSubtype_stop ?_)
    exact wpAny_pure (fin _ fun c u c1 _ c3 c4 e => k c u c1 c3 c4 e)
/-- the pairs that were laid -/
structure Laid (h : Heap) (lo : Addr) (xs ys : Array Value) (as : List Addr) : Prop where
  rise : as.Pairwise (· < ·)
  above : ∀ a ∈ as, lo < a
  prs : ∀ (j : Nat) (a : Addr), as[j]? = some a → ∃ x y, xs[j]? = some x ∧ ys[j]? = some y ∧ IsPair h a x y
theorem Laid.there {h : Heap} {lo : Addr} {as : List Addr} (L : Laid h lo xs ys as) {a : Addr} (ha : a ∈ as) : a < h.objs.size := by
  obtain ⟨j, hj⟩ := List.mem_iff_getElem?.mp ha
  obtain ⟨_, _, _, _, e⟩ := L.prs j a hj
  exact Heap.lt_size e
abbrev lObj (acc : Array Value) (c : Nat) : Obj := { cls := .type "list", dict := none, data := .seq acc c, slots := #[] }
section
variable {R : Result → Shared → Prop} {S : Addr}
theorem zl_loop (hh : A.handled = none) (D : ZipApart z TI TO i1 i2 l1 l2) (nS : S ≠ z ∧ S ≠ TI ∧ S ≠ TO ∧ S ≠ i1 ∧ S ≠ i2 ∧ S ≠ l1 ∧ S ≠ l2) (zlt : z < S ∧ TO < S ∧ i1 < S ∧ i2 < S) (sz : xs.size = ys.size) (hn : xs.size ≤ sizeLine) (res : Value) {h0 : Heap}
    (fin : ∀ h' acc c as, (∀ b o, b ≠ S → b ≠ z → b ≠ TO → b ≠ i1 → b ≠ i2 → h0.get? b = some o → h'.get? b = some o) → h'.get? S = some (lObj acc c) → as.length = xs.size → Laid h' S xs ys as → acc.toList = as.map Value.ref → R (.ok (.ret res)) { s with heap := h' }) :
    ∀ (k i : Nat) (h : Heap) (c : Nat) (acc : Array Value) (as : List Addr), xs.size - i = k → i ≤ xs.size → ZS h z TI TO i1 i2 l1 l2 i xs ys → (∀ (T : Addr) (g : Bool), h.get? z = some (zObj (rawInt T) g TI TO) → S < T) → (∀ b o, b ≠ S → b ≠ z → b ≠ TO → b ≠ i1 → b ≠ i2 → h0.get? b = some o → h.get? b = some o) →
      h.get? S = some (lObj acc c) → acc.toList = as.map Value.ref → as.length = i → Laid h S xs ys as → codeAny (model P w) A (.builtin "list.extend.loop" ⟨[.ref S, .ref z, res], []⟩) R { s with heap := h } := by
  obtain ⟨s1, s2, s3, s4, s5, s6, s7⟩ := nS
  intro k
  induction k with
  | zero =>
    intro i h c acc as hk hi hZ hT keep eS ea el L
    have ei : i = xs.size := by omega
    refine codeAny_builtin PySem.F.entry_extend_loop ?_
    rw [Around.under_plainId PySem.F.plain_extend_loop _]
    refine wpAny_bind (m := pyNext (.ref z)) (zs_done (s := { s with heap := h }) (A := A.in1) hh D hZ (.inl (Array.getElem?_eq_none (by omega))) fun h' k4 => ?_)
    refine wpAny_pure (fin h' acc c as (fun b o b1 b2 b3 b4 b5 e => k4 b o b2 b3 b4 b5 (keep b o b1 b2 b3 b4 b5 e)) (k4 S _ s1 s3 s4 s5 eS) (by omega) ⟨L.rise, L.above, fun j a hj => ?_⟩ ea)
    obtain ⟨x, y, e1, e2, e3⟩ := L.prs j a hj
    have := L.above a (List.mem_of_getElem? hj)
    exact ⟨x, y, e1, e2, k4 a _ (Nat.ne_of_gt (Nat.lt_trans zlt.1 this)) (Nat.ne_of_gt (Nat.lt_trans zlt.2.1 this)) (Nat.ne_of_gt (Nat.lt_trans zlt.2.2.1 this)) (Nat.ne_of_gt (Nat.lt_trans zlt.2.2.2 this)) e3⟩
  | succ k ih =>
    intro i h c acc as hk hi hZ hT keep eS ea el L
    have lt : i < xs.size := by omega
    have ex : xs[i]? = some xs[i] := Array.getElem?_eq_getElem lt
    have ey : ys[i]? = some (ys[i]'(by omega)) := Array.getElem?_eq_getElem (by omega)
    have hsz : acc.size = i := by rw [← Array.length_toList, ea, List.length_map, el]
    have Slt : S < h.objs.size := Heap.lt_size eS
    refine codeAny_builtin PySem.F.entry_extend_loop ?_
    rw [Around.under_plainId PySem.F.plain_extend_loop _]
    refine wpAny_bind (m := pyNext (.ref z)) (zs_item (s := { s with heap := h }) D hZ ex ey fun h' hZ' hT' hp hsz' k4 => ?_)
    dsimp only at hT' hp hsz' k4 ⊢
    have eS' := k4 S _ s1 s3 s4 s5 eS
    have up : ∀ b o, b ≠ S → h'.get? b = some o → (h'.update S (Obj.mapSeq (·.push (Value.ref h.objs.size)))).get? b = some o := fun b o hb e => (Heap.get?_update_other _ _ (Ne.symm hb)).trans e
    have last : ∀ (T : Addr) (g : Bool), h'.get? z = some (zObj (rawInt T) g TI TO) → S < T := fun T g e => by
      rcases hT' T g e with q | ⟨g', q⟩
      · rw [q]
        exact Slt
      · exact hT T g' q
    refine wpAny_bind (m := updateSeq S (·.push (Value.ref h.objs.size))) ?_
    refine wpAny_updateSeq eS' rfl (wpAny_pure ⟨plainId_quiet PySem.F.plain_extend_loop _, ih (i + 1) _ _ (acc.push (Value.ref h.objs.size)) (as ++ [h.objs.size]) (by omega) lt
      (hZ'.over up s1.symm s2.symm s3.symm s4.symm s5.symm s6.symm s7.symm fun T g e => Nat.ne_of_gt (last T g e)) (fun T g e => ?_) (fun b o b1 b2 b3 b4 b5 e => up b o b1 (k4 b o b2 b3 b4 b5 (keep b o b1 b2 b3 b4 b5 e))) (Heap.get?_update_self _ eS' rfl)
      (by rw [Array.toList_push, ea, List.map_append]; rfl) (by rw [List.length_append, el]; rfl) ⟨?_, ?_, ?_⟩⟩) (by rw [hsz]; omega) (by show (acc.push _).size ≤ sizeLine + 1; rw [Array.size_push, hsz]; omega)
    · have := hZ'.ob
      rw [Heap.get?_update_other _ _ s1] at e
      exact last T g e
    · refine List.pairwise_append.mpr ⟨L.rise, List.pairwise_singleton _ _, fun a ha b hb => ?_⟩
      rw [List.mem_singleton.mp hb]
      exact L.there ha
    · intro a ha
      rcases List.mem_append.mp ha with ha | ha
      · exact L.above a ha
      · rw [List.mem_singleton.mp ha]
        exact Slt
    · intro j b hj
      rcases Nat.lt_trichotomy j as.length with q | q | q
      · rw [List.getElem?_append_left q] at hj
        obtain ⟨x, y, e1, e2, e3⟩ := L.prs j b hj
        have hb := L.above b (List.mem_of_getElem? hj)
        exact ⟨x, y, e1, e2, up b _ (Nat.ne_of_gt hb) (k4 b _ (Nat.ne_of_gt (Nat.lt_trans zlt.1 hb)) (Nat.ne_of_gt (Nat.lt_trans zlt.2.1 hb)) (Nat.ne_of_gt (Nat.lt_trans zlt.2.2.1 hb)) (Nat.ne_of_gt (Nat.lt_trans zlt.2.2.2 hb)) e3)⟩
      · subst q
        have hb : h.objs.size = b := by simpa using hj
        subst hb
        exact ⟨_, _, by rw [el]; exact ex, by rw [el]; exact ey, up _ _ (Nat.ne_of_gt Slt) hp⟩
      · rw [List.getElem?_eq_none (by rw [List.length_append, List.length_singleton]; omega)] at hj
        cases hj
theorem zip_nolen : typeLookup (.type "zip") "__len__" = pure none := by rw [typeLookup_type, builtinLookup_eq_fast]; kernel_rfl
theorem zip_nohint : typeLookup (.type "zip") "__length_hint__" = pure none := by rw [typeLookup_type, builtinLookup_eq_fast]; kernel_rfl
theorem ZS.type {h : Heap} (S : ZS h z TI TO i1 i2 l1 l2 i xs ys) : ∃ o, h.get? z = some o ∧ o.cls = .type "zip" := by
  rcases S.ob with e | ⟨T, o, g, e, _⟩
  · exact ⟨_, e, rfl⟩
  · exact ⟨_, e, rfl⟩
/-- a fresh zip -/
structure Z0 (h : Heap) (z TI TO i1 i2 l1 l2 : Addr) (xs ys : Array Value) : Prop where
  ob : h.get? z = some (zObj .none false TI TO)
  zs : ZS h z TI TO i1 i2 l1 l2 0 xs ys
theorem Z0.over {h h' : Heap} {n : Addr} (S : Z0 h z TI TO i1 i2 l1 l2 xs ys) (k : ∀ b u, b ≠ n → h.get? b = some u → h'.get? b = some u) (nz : z ≠ n) (nI : TI ≠ n) (nO : TO ≠ n) (n1 : i1 ≠ n) (n2 : i2 ≠ n) (m1 : l1 ≠ n) (m2 : l2 ≠ n) : Z0 h' z TI TO i1 i2 l1 l2 xs ys := by
  refine ⟨k _ _ nz S.ob, S.zs.over k nz nI nO n1 n2 m1 m2 fun T g e => ?_⟩
  rw [S.ob] at e
  have q := congrArg Obj.data (Option.some.inj e)
  injection q with q
  have q2 := congrArg (fun v : Array Value => v[0]?) q
  simp [rawInt] at q2
abbrev AftZ (S : Addr) (z TO i1 i2 : Addr) (h0 h' : Heap) : Prop := ∀ b o, b ≠ S → b ≠ z → b ≠ TO → b ≠ i1 → b ≠ i2 → h0.get? b = some o → h'.get? b = some o
theorem zl_extend (hh : A.handled = none) (D : ZipApart z TI TO i1 i2 l1 l2) (nS : S ≠ z ∧ S ≠ TI ∧ S ≠ TO ∧ S ≠ i1 ∧ S ≠ i2 ∧ S ≠ l1 ∧ S ≠ l2) (zlt : z < S ∧ TO < S ∧ i1 < S ∧ i2 < S) (sz : xs.size = ys.size) (hn : xs.size ≤ sizeLine) (res : Value) {c : Nat}
    (Z : Z0 s.heap z TI TO i1 i2 l1 l2 xs ys) (eS : s.heap.get? S = some { cls := .type "list", data := .seq #[] c })
    (fin : ∀ h' acc c as, AftZ S z TO i1 i2 s.heap h' → h'.get? S = some (lObj acc c) → as.length = xs.size → Laid h' S xs ys as → acc.toList = as.map Value.ref → R (.ok (.ret res)) { s with heap := h' }) :
    wpAny (model P w) A.in1 (Builtin.List.listExtendWith (.ref S) (.ref z) res)
      (fun r s' => match r with | .done f => R (.ok f) s' | .again c' => c'.quiet = true ∧ codeAny (model P w) A c' R s') (fun e s' => R (.error e) s') s := by
  have hT : s.TypeIs (.ref z) "zip" := Z.zs.type
  have hoth : ∀ b o, b ≠ S → s.heap.get? b = some o → ((s.heap.update S (Obj.mapSeq (·.push Value.none))).update S (Obj.mapSeq (·.pop))).get? b = some o := fun b o hb e => (Heap.get?_update_other _ _ (Ne.symm hb)).trans ((Heap.get?_update_other _ _ (Ne.symm hb)).trans e)
  unfold Builtin.List.listExtendWith
  refine wpAny_bind (wpAny_typeOf hT ?_)
  rw [show Builtin.List.listSameRef (.ref S) (.ref z) = false by simp [Builtin.List.listSameRef, nS.1]]
  rw [show (Value.type "zip" == Value.type "list") = false by decide, show (Value.type "zip" == Value.type "tuple") = false by decide]
  simp only [Bool.or_false, Bool.false_eq_true, if_false]
  refine wpAny_bind (wpAny_pyIter_zip Z.ob ?_)
  refine wpAny_bind (wpAny_holding ?_)
  unfold Builtin.List.listLengthHint
  refine wpAny_bind (wpAny_specialOf hT zip_nolen ?_)
  refine wpAny_bind (m := specialOf (Value.ref z) (Str.ofString "__length_hint__")) (wpAny_specialOf hT zip_nohint ?_)
  refine wpAny_pure ?_
  refine wpAny_bind (m := rule "list.extend.makes-room") (wpAny_rule ?_)
  refine wpAny_bind (m := Builtin.List.listTouch (.ref S)) ?_
  refine wpAny_bind (m := updateSeq S (·.push .none)) (wpAny_updateSeq eS rfl ?_)
  have eS2 := Heap.get?_update_self (Obj.mapSeq (·.push Value.none)) eS rfl
  refine wpAny_updateSeq (hz := by seq_fits) eS2 rfl ?_
  have eS3 := Heap.get?_update_self (Obj.mapSeq (·.pop)) eS2 rfl
  obtain ⟨s1, s2, s3, s4, s5, s6, s7⟩ := nS
  have Z3 := Z.over hoth s1.symm s2.symm s3.symm s4.symm s5.symm s6.symm s7.symm
  refine wpAny_pure ⟨plainId_quiet PySem.F.plain_extend_loop _, zl_loop (s := s) (h0 := s.heap) hh D ⟨s1, s2, s3, s4, s5, s6, s7⟩ zlt sz hn res (fun h' acc c as k e1 e2 L e3 => fin h' acc c as k e1 e2 L e3) xs.size 0 _ _ #[] [] (Nat.sub_zero _) (Nat.zero_le _) Z3.zs
    (fun T g e => ?_) (fun b o b1 _ _ _ _ e => hoth b o b1 e) eS3 rfl rfl ⟨List.Pairwise.nil, (fun _ ha => nomatch ha), fun j a hj => by simp at hj⟩⟩
  rw [Z3.ob] at e
  have q := congrArg Obj.data (Option.some.inj e)
  injection q with q
  have q2 := congrArg (fun v : Array Value => v[0]?) q
  simp [rawInt] at q2
theorem zl_call {Q : Value → Shared → Prop} (hh : A.handled = none) (D : ZipApart z TI TO i1 i2 l1 l2) (sz : xs.size = ys.size) (hn : xs.size ≤ sizeLine) (Z : Z0 s.heap z TI TO i1 i2 l1 l2 xs ys)
    (fin : ∀ h' acc c as, (∀ b o, b ≠ z → b ≠ TO → b ≠ i1 → b ≠ i2 → s.heap.get? b = some o → h'.get? b = some o) → h'.get? s.heap.objs.size = some (lObj acc c) → as.length = xs.size → Laid h' s.heap.objs.size xs ys as → acc.toList = as.map Value.ref → Q (.ref s.heap.objs.size) { s with heap := h' }) :
    wpAny (model P w) A (call (.type "list") [.ref z]) Q E s := by
  have below : ∀ {c : Addr}, (∃ o, s.heap.get? c = some o) → c < s.heap.objs.size := fun ⟨_, e⟩ => Heap.lt_size e
  have bz := below ⟨_, Z.ob⟩
  have bI := below ⟨_, Z.zs.ti⟩
  have bO : TO < s.heap.objs.size := by
    obtain ⟨_, _, e⟩ := Z.zs.to_
    exact below ⟨_, e⟩
  have b1 : i1 < s.heap.objs.size := by
    obtain ⟨o, e, _⟩ := Z.zs.it1
    exact below ⟨_, e⟩
  have b2 : i2 < s.heap.objs.size := by
    obtain ⟨o, e, _⟩ := Z.zs.it2
    exact below ⟨_, e⟩
  have c1 : l1 < s.heap.objs.size := by
    obtain ⟨o, e, _⟩ := Z.zs.ls1
    exact below ⟨_, e⟩
  have c2 : l2 < s.heap.objs.size := by
    obtain ⟨o, e, _⟩ := Z.zs.ls2
    exact below ⟨_, e⟩
  refine callType_codes (Q₁ := fun v s1 => v = .ref s.heap.objs.size ∧ s1 = { s with heap := s.heap.push { cls := .type "list", data := .seq #[] } }) PySem.F.called_list (PySem.F.typeCall_list_1 _) PySem.F.entry_list_init (code_list_new _ ⟨rfl, rfl⟩) fun v s1 hv => ?_
  obtain ⟨rfl, rfl⟩ := hv
  have eS : (s.heap.push { cls := .type "list", data := .seq #[] }).get? s.heap.objs.size = some { cls := .type "list", data := .seq #[] } := Heap.get?_push_size _ rfl
  refine ⟨⟨_, eS, rfl⟩, PySem.F.args_list_init_2 _ _, ?_⟩
  refine wpAny_bind (m := Builtin.List.listItems (.ref s.heap.objs.size)) ?_
  unfold Builtin.List.listItems
  refine wpAny_bind (wpAny_seqItems eS rfl (wpAny_pure ?_))
  refine wpAny_bind (m := updateSeq s.heap.objs.size (fun _ => #[])) (wpAny_updateSeq eS rfl ?_)
  have eS2 := Heap.get?_update_self (Obj.mapSeq (fun _ => (#[] : Array Value))) eS rfl
  refine wpAny_bind (m := letGo (#[] : Array Value).toList.reverse) (wpAny_letGo ?_)
  have upn : ∀ b o, b ≠ s.heap.objs.size → s.heap.get? b = some o → ((s.heap.push { cls := .type "list", data := .seq #[] }).update s.heap.objs.size (Obj.mapSeq (fun _ => (#[] : Array Value)))).get? b = some o := fun b o hb e => (Heap.get?_update_other _ _ (Ne.symm hb)).trans (Heap.get?_push_of_some _ e)
  refine zl_extend (A := A.in1) hh D ⟨Nat.ne_of_gt bz, Nat.ne_of_gt bI, Nat.ne_of_gt bO, Nat.ne_of_gt b1, Nat.ne_of_gt b2, Nat.ne_of_gt c1, Nat.ne_of_gt c2⟩ ⟨bz, bO, b1, b2⟩ sz hn .none (Z.over upn (Nat.ne_of_lt bz) (Nat.ne_of_lt bI) (Nat.ne_of_lt bO) (Nat.ne_of_lt b1) (Nat.ne_of_lt b2) (Nat.ne_of_lt c1) (Nat.ne_of_lt c2)) eS2 fun h' acc c as k e1 e2 L e3 => ?_
  exact ⟨rfl, fin h' acc c as (fun b o n1 n2 n3 n4 e => k b o (Nat.ne_of_lt (Heap.lt_size e)) n1 n2 n3 n4 (upn b o (Nat.ne_of_lt (Heap.lt_size e)) e)) e1 e2 L e3⟩
end
end
end Pk
namespace Pk
open PySem PySem.Spec PyProof.Rows L2 GxR NdefX
/-- the heap with the list at p and its pairs at as -/
def zipHp (H : Hp) (p : Addr) (as : List Addr) (xs ys : List V) : Hp := fun b => if b = p then some (.lst (as.map V.ref)) else match as.findIdx? (· == b) with
  | some j => match xs[j]?, ys[j]? with
    | some x, some y => some (.tup [x, y])
    | _, _ => H b
  | none => H b
theorem zipHp_p {H : Hp} {p : Addr} {as : List Addr} {xs ys : List V} : zipHp H p as xs ys p = some (.lst (as.map V.ref)) := if_pos rfl
theorem idx_of {as : List Addr} (nd : as.Pairwise (· < ·)) {j : Nat} {t : Addr} (h : as[j]? = some t) : as.findIdx? (· == t) = some j := by
  obtain ⟨hj, e⟩ := List.getElem?_eq_some_iff.mp h
  rw [List.findIdx?_eq_some_iff_getElem]
  refine ⟨hj, by simp [e], fun k hk z => ?_⟩
  have lt := List.pairwise_iff_getElem.mp nd k j (by omega) hj hk
  have z' : as[k] = t := by simpa using z
  rw [z', e] at lt
  exact Nat.lt_irrefl _ lt
theorem zipHp_off {H : Hp} {p b : Addr} {as : List Addr} {xs ys : List V} (h1 : b ≠ p) (h2 : b ∉ as) : zipHp H p as xs ys b = H b := by
  unfold zipHp
  rw [if_neg h1, List.findIdx?_eq_none_iff.mpr fun x hx => by simpa using fun z => h2 (by rw [← z]; exact hx)]
theorem zipHp_at {H : Hp} {p t : Addr} {as : List Addr} {xs ys : List V} {j : Nat} {x y : V} (nd : as.Pairwise (· < ·)) (np : t ≠ p) (ht : as[j]? = some t) (hx : xs[j]? = some x) (hy : ys[j]? = some y) : zipHp H p as xs ys t = some (.tup [x, y]) := by
  unfold zipHp
  rw [if_neg np, idx_of nd ht]
  simp only [hx, hy]
def tListZip (K : PySem.W.Frag) (ta : TA) : TE := fun σ H Q => ta σ H fun vs H1 => ∃ a b xs ys, vs = [.ref a, .ref b] ∧ SqL K H1 a xs ∧ SqL K H1 b ys ∧ xs.length = ys.length ∧
  ∀ (p : Addr) (as : List Addr), H1 p = none → (∀ t ∈ as, H1 t = none ∧ t ≠ p) → as.Pairwise (· < ·) → as.length = xs.length → Q (.ref p) (zipHp H1 p as xs ys)
theorem pe_listZip {X : Cx} {e e2 : Expr} {ta : TA} {p pz pos zpos : Pos} (hc : X.calm = true) (hg : Gl X "list") (hm : X.mg "list" = none) (zg : Gl X "zip") (zm : X.mg "zip" = none) (ha : PA X [e, e2] ta)
    (hs : starEach [e, e2] X.env = (false, eval e X.env) :: starEach [e2] X.env := by rfl) (hpl : (backTo zpos (starEach [e2] X.env)).any (·.1) = false := by rfl)
    (na : starEach [.Call (.Name "zip" pz) [e, e2] [] zpos] X.env = (false, eval (.Call (.Name "zip" pz) [e, e2] [] zpos) X.env) :: starEach [] X.env := by rfl) :
    PE X (.Call (.Name "list" p) [.Call (.Name "zip" pz) [e, e2] [] zpos] [] pos) (tListZip X.K ta) := by
  refine ⟨fun pins s σ H Q I h => ?_⟩
  refine Call_ (ld_blt I hg hm boot_list (PyProof.Rows.callWith_type1 (args_cons ?_ na) na))
  refine Call_ (ld_blt I zg zm PyProof.Rows.boot_zip (PyProof.Rows.callWith_type1 (thn (ha.run zpos pins s σ H _ I h) fun us s1 ⟨vs, H1, I1, r1, a, b, xs, ys, ev, qx, qy, sz, q⟩ => ?_) hs hpl))
  subst ev
  cases r1 with
  | cons r rr =>
    cases rr with
    | cons r' rr =>
      cases rr
      cases r
      cases r'
      obtain ⟨ix, vx, px, zx⟩ := I1.list qx
      obtain ⟨iy, vy, py, zy⟩ := I1.list qy
      have lx := vx.length
      have ly := vy.length
      refine call_zip_2 px.isList py.isList fun h' z1 z2 z3 z4 z5 hz hk => args_nil ?_
      have I2 : Inv X pins σ H1 { s1 with heap := h' } := I1.kept (t' := s1.toks) hk
      have Z : Z0 h' (s1.heap.objs.size + 4) (s1.heap.objs.size + 2) (s1.heap.objs.size + 3) s1.heap.objs.size (s1.heap.objs.size + 1) a b ix.toArray iy.toArray := ⟨z1, ⟨.inl z1, z2, ⟨_, _, z3⟩, z4, z5, px.isList.at fun o e => hk _ o e, py.isList.at fun o e => hk _ o e⟩⟩
      refine zl_call (s := { s1 with heap := h' }) (I1.ok.hd hc) (PySem.W.ktu_apart s1.heap.objs.size a b px.lt py.lt) (by simp only [List.size_toArray]; omega) (by simp only [List.size_toArray]; omega) Z fun h2 acc c as k eS el L ea => ?_
      dsimp only at k eS el L ea ⊢
      rw [List.size_toArray] at el
      have fresh : ∀ {t : Addr}, s1.heap.objs.size ≤ t → H1 t = none := fun h => I1.hok.fresh h
      have up : s1.heap.objs.size ≤ h'.objs.size := by rw [hz]; exact Nat.le_add_right _ _
      have old : ∀ c o, s1.heap.get? c = some o → h2.get? c = some o := fun c o e => by
        have lt := Heap.lt_size e
        exact k c o (Nat.ne_of_lt (Nat.lt_of_lt_of_le lt (Nat.le_add_right _ _))) (Nat.ne_of_lt (Nat.lt_of_lt_of_le lt (Nat.le_add_right _ _))) (Nat.ne_of_lt lt) (Nat.ne_of_lt (Nat.lt_of_lt_of_le lt (Nat.le_add_right _ _))) (hk c o e)
      have high : ∀ t ∈ as, s1.heap.objs.size ≤ t := fun t ht => Nat.le_trans up (Nat.le_of_lt (L.above t ht))
      have asp : ∀ t ∈ as, t ≠ h'.objs.size := fun t ht => Nat.ne_of_gt (L.above t ht)
      have low : ∀ {c : Addr} {o : Obj}, s1.heap.get? c = some o → c ≠ h'.objs.size ∧ c ∉ as := fun e => ⟨Nat.ne_of_lt (Nat.lt_of_lt_of_le (Heap.lt_size e) up), fun z => absurd (Heap.lt_size e) (Nat.not_lt.mpr (high _ z))⟩
      have kpH : ∀ c u, H1 c = some u → zipHp H1 h'.objs.size as xs ys c = some u := fun c u e => by
        have lt := (I1.hok c u e).lt
        rw [zipHp_off (Nat.ne_of_lt (Nat.lt_of_lt_of_le lt up)) fun z => absurd lt (Nat.not_lt.mpr (high _ z))]
        exact e
      refine ⟨.ref h'.objs.size, zipHp H1 h'.objs.size as xs ys, ?_, rfl, q _ as (fresh up) (fun t ht => ⟨fresh (high t ht), asp t ht⟩) L.rise (by omega)⟩
      refine I1.call' (s' := { s1 with heap := h2 }) (ch := []) rfl ⟨fun c o e _ _ _ => old c o e, fun c o e _ _ _ => ⟨o.slots, old c o e⟩, fun c o e n _ => ?_, fun c o e _ => ⟨o, old c o e⟩, fun c ws e => kpH c _ e, fun c o u e => kpH c _ e, fun c ps e => ⟨#[], by rw [kpH c _ e]; simp⟩⟩ (fun c u e => ?_) I1.bare fun c z => by simp at z
      · obtain ⟨n1, n2⟩ := low e
        rw [zipHp_off n1 n2]
        exact n
      · by_cases e1 : c = h'.objs.size
        · subst e1
          rw [zipHp_p] at e
          cases e
          refine ⟨by rw [List.length_map]; omega, acc.toList, c, by rw [ea]; exact LiI.vals_refs as, ?_⟩
          rw [Array.toArray_toList]
          exact eS
        · by_cases e2 : c ∈ as
          · obtain ⟨j, hj⟩ := List.mem_iff_getElem?.mp e2
            obtain ⟨u1, u2, f1, f2, f3⟩ := L.prs j c hj
            have hjl := (List.getElem?_eq_some_iff.mp hj).1
            obtain ⟨x, hx⟩ : ∃ x, xs[j]? = some x := ⟨_, List.getElem?_eq_getElem (by omega)⟩
            obtain ⟨y, hy⟩ : ∃ y, ys[j]? = some y := ⟨_, List.getElem?_eq_getElem (by omega)⟩
            rw [zipHp_at L.rise e1 hj hx hy] at e
            cases e
            obtain ⟨w1, g1, rx⟩ := vx.get hx
            obtain ⟨w2, g2, ry⟩ := vy.get hy
            have f1' : ix[j]? = some u1 := by simpa using f1
            have f2' : iy[j]? = some u2 := by simpa using f2
            rw [g1] at f1'
            cases f1'
            rw [g2] at f2'
            cases f2'
            exact ⟨by show 2 ≤ sizeLine; decide, [u1, u2], .cons rx (.cons ry .nil), ⟨_, f3, rfl, _, rfl⟩⟩
          · rw [zipHp_off e1 e2] at e
            exact (I1.hok c u e).stay (fun d v _ y => old d v y) (fun d y => kpH d _ y) fun d ws y => kpH d _ y
end Pk
namespace Pk
open PySem PySem.Spec PyProof.Rows L2 GxR NdefX
theorem DtAll.zip {H : Hp} : ∀ {ts : List Addr} {ds es : List PyData}, ts.length = ds.length → es.length = ds.length → (∀ (j : Nat) (t : Addr) (d e : PyData), ts[j]? = some t → ds[j]? = some d → es[j]? = some e → ∃ x y, H t = some (.tup [x, y]) ∧ Dt H x d ∧ Dt H y e) → DtAll H (ts.map V.ref) ((ds.zip es).map fun p => .tuple [p.1, p.2])
  | [], [], [], _, _, _ => .nil
  | [], _ :: _, _, h, _, _ => by cases h
  | _ :: _, [], _, h, _, _ => by cases h
  | _, [], _ :: _, _, h, _ => by cases h
  | _, _ :: _, [], _, h, _ => by cases h
  | t :: ts, d :: ds, e :: es, h1, h2, f => by
    obtain ⟨x, y, q, r1, r2⟩ := f 0 t d e rfl rfl rfl
    exact .cons (.tup q (.cons r1 (.cons r2 .nil))) (DtAll.zip (Nat.succ.inj h1) (Nat.succ.inj h2) fun j t' d' e' a b c => f (j + 1) t' d' e' a b c)
section
variable {b : Bool} {c : Ct} {ta tb : TE} {K : PySem.W.Frag}
/-- list(zip(xs, ys)), as long as one another -/
theorem n_zip {ds es : List PyData} (h : EI c ta ds) (g : EI c tb es) (l : ds.length = es.length) : EN c (tListZip K (tCons ta (tCons tb tNil))) (OL ((ds.zip es).map fun p => .tuple [p.1, p.2])) := fun σ H s Q q =>
  h σ H s _ fun H1 a1 vs k1 e1 r1 => g σ H1 (s.kp k1) _ fun H2 a2 us k2 e2 r2 => by
    have s2 := (s.kp k1).kp k2
    refine ⟨a1, a2, vs, us, rfl, SqL.of (k2.lst e1), SqL.of e2, by rw [r1.len, r2.len]; exact l, fun p as np ha pw al => ?_⟩
    have r1' := r1.kp ((s.kp k1).kb k2)
    -- the pairs alone
    have kA : Kp H2 (wo (zipHp H2 p as vs us) p) := kp_of fun b o e => by
      rw [wo_ne (ne_of_none e np)]
      exact (zipHp_off (ne_of_none e np) fun z => by rw [(ha b z).1] at e; cases e).trans e
    have := q _ p (.lst (as.map V.ref)) ((k1.trans k2).trans kA) wo_at ⟨_, rfl, ?_⟩
    · rw [upd_less zipHp_p] at this
      exact this
    · have kB := s2.kb kA
      refine DtAll.zip (by rw [al, r1.len]) l.symm fun j t d e ht hd he => ?_
      obtain ⟨x, hx, rx⟩ := r1'.at hd
      obtain ⟨y, hy, ry⟩ := r2.at he
      have hm := List.mem_of_getElem? ht
      refine ⟨x, y, ?_, rx.kp kB, ry.kp kB⟩
      have tn : H2 t = none := (ha t hm).1
      rw [bas_out (s2.free tn), wo_ne (ha t hm).2]
      exact zipHp_at pw (ha t hm).2 ht hx hy
theorem n_zipM {α β : Type} {xs : List α} {ys : List β} {f : α → PyData} {g : β → PyData} (h : EI c ta (xs.map f)) (k : EI c tb (ys.map g)) (l : xs.length = ys.length) : EN c (tListZip K (tCons ta (tCons tb tNil))) (OL ((xs.zip ys).map (eT2 f g))) :=
  (n_zip h k (by rw [List.length_map, List.length_map]; exact l)).eqL (by rw [List.zip_map, List.map_map]; rfl)
end
end Pk
namespace Pk
open PySem L2 PySem.Spec PyProof.Rows GxR NdefX
/-- the slots of the generator's frame -/
def gslots (fr : List (Option Nat)) (g : List Slot) : List Slot := fr.map fun o => match o with
  | none => .any
  | some j => match g[j]? with
    | some (.fz R) => .fz R
    | _ => .any
theorem gslots_fz {fr : List (Option Nat)} {g : List Slot} {i : Nat} {R : Rel} (h : (gslots fr g)[i]? = some (.fz R)) : ∃ j, fr[i]? = some (some j) ∧ g[j]? = some (.fz R) := by
  unfold gslots at h
  rw [List.getElem?_map] at h
  obtain ⟨o, e1, e2⟩ := Option.map_eq_some_iff.mp h
  cases o with
  | none => cases e2
  | some j =>
    refine ⟨j, e1, ?_⟩
    dsimp only at e2
    cases q : g[j]? with
    | none => rw [q] at e2; cases e2
    | some s =>
      rw [q] at e2
      cases s with
      | any => cases e2
      | fz S => cases e2; rfl
      | own C => cases e2
theorem gslots_own {fr : List (Option Nat)} {g : List Slot} {i : Nat} {C : Own} : (gslots fr g)[i]? ≠ some (.own C) := fun h => by
  unfold gslots at h
  rw [List.getElem?_map] at h
  obtain ⟨o, e1, e2⟩ := Option.map_eq_some_iff.mp h
  cases o with
  | none => cases e2
  | some j =>
    dsimp only at e2
    cases q : g[j]? with
    | none => rw [q] at e2; cases e2
    | some s =>
      rw [q] at e2
      cases s <;> cases e2
abbrev omG (c : Ct) (σ : L2.St) : Addr → Prop := fun a => isOwn c.g σ a ∨ c.om a
theorem sta_gen {c : Ct} {σ : L2.St} {H : Hp} (s : Sta c σ H) (fr : List (Option Nat)) : Sta ⟨c.hs, c.h0, omG c σ, gslots fr c.g⟩ (slotsG fr σ) H ∧ bas ⟨c.hs, c.h0, omG c σ, gslots fr c.g⟩ (slotsG fr σ) H = bas c σ H := by
  have eb : bas ⟨c.hs, c.h0, omG c σ, gslots fr c.g⟩ (slotsG fr σ) H = bas c σ H :=
    bas_iff (fun a => ⟨fun z => z.elim (fun ⟨i, C, e, _⟩ => absurd e gslots_own) id, fun z => .inr z⟩) fun _ _ => rfl
  refine ⟨⟨by show (fr.map _).length = (fr.map _).length; rw [List.length_map, List.length_map], fun i R e => ?_, fun i C e => absurd e gslots_own, fun i j C _ _ e => absurd e gslots_own, by rw [eb]; exact s.k0, s.ks, fun a z => ?_⟩, eb⟩
  · obtain ⟨j, e1, e2⟩ := gslots_fz e
    obtain ⟨v, e3, e4⟩ := s.fz j R e2
    refine ⟨v, ?_, by rw [eb]; exact e4⟩
    unfold slotsG
    rw [List.getElem?_map, e1]
    show some ((σ[j]?).join) = _
    rw [e3]
    rfl
  · rcases z with ⟨i, C, e1, e2⟩ | z
    · obtain ⟨p, o, e3, e4, e5, _⟩ := s.own i C e1
      rw [e2] at e3
      cases e3
      exact ⟨o, e4, C.ok e5⟩
    · exact s.hid a z
def dropS (g : List Slot) (is : List Nat) : List Slot := is.foldl (fun g i => g.set i .any) g
theorem Sta.dropS {c : Ct} {σ : L2.St} {H : Hp} : ∀ (is : List Nat) (g : List Slot), Sta (c.at g) σ H → Sta (c.at (Pk.dropS g is)) σ H
  | [], g, s => s
  | i :: is, g, s => by
    have : Sta (c.at (g.set i .any)) σ H := by
      cases e : σ[i]? with
      | none =>
        have q := (s.drop i none).1
        rw [List.set_eq_of_length_le (List.getElem?_eq_none_iff.mp e)] at q
        exact q
      | some o =>
        have q := (s.drop i o).1
        rw [setsame e] at q
        exact q
    exact Sta.dropS is (g.set i .any) this
theorem tabbed_kp {P : Addr} {H H' : Hp} (h : Tabbed P H H') (t : TabG H P) : Kp H H' := Tabbed.kp h t
section
variable {b : Bool} {c : Ct} {K : PySem.W.Frag} {tl te : TE} {g : TG} {PT : Addr} {fr : List (Option Nat)} {is : List Nat} {g0 : List Slot}
/-- the answer of a search -/
theorem srch {α : Type} {xs : List α} {p : α → Bool} (st : Bool) : (if st = true then xs.any p else xs.all p) = if (∀ x ∈ xs, p x = !st) then !st else st := by
  cases st with
  | true =>
    rw [if_pos rfl]
    by_cases h : ∀ x ∈ xs, p x = !true
    · rw [if_pos h]
      exact List.any_eq_false.mpr fun x m => by rw [h x m]; decide
    · rw [if_neg h]
      rw [List.any_eq_true]
      refine Classical.byContradiction fun z => h fun x m => ?_
      cases e : p x with
      | false => rfl
      | true => exact absurd ⟨x, m, e⟩ z
  | false =>
    rw [if_neg Bool.false_ne_true]
    by_cases h : ∀ x ∈ xs, p x = !false
    · rw [if_pos h]
      exact List.all_eq_true.mpr h
    · rw [if_neg h]
      cases e : xs.all p with
      | false => rfl
      | true => exact absurd (List.all_eq_true.mp e) h
theorem e_genR {lo : Int} {n : Nat} {wi : TI} {G : Int → List Slot} {p : Int → Bool} (st : Bool) (hs : EW c wi lo n) (eg : gslots fr c.g = g0) (tb : ∀ H, Kp c.h0 H → TabG H PT)
    (hg : ∀ om, ∀ k : Int, (lo ≤ k ∧ k < lo + n) → EG ⟨c.hs, c.h0, om, g0⟩ g (RD (.int k)) (G k) is) (hd : ∀ x, dropS (G x) is = g0)
    (he : ∀ om, ∀ k : Int, (lo ≤ k ∧ k < lo + n) → E false ⟨c.hs, c.h0, om, G k⟩ te (RD (.bool (p k)))) : E b c (tGen PT fr wi g te st) (RD (.bool (if st = true then (rgI lo n).any p else (rgI lo n).all p))) := by
  refine E.flat (fun σ H s Q q => ?_) rfl
  refine hs σ H s _ fun H1 k1 => ?_
  have s1 := s.kp k1
  have tg : TabG H1 PT := tb _ (s1.k0.trans kp_less)
  refine ⟨tg, fun H2 t2 => ?_⟩
  have k2 := tabbed_kp t2 tg
  have s2 := s1.kp k2
  obtain ⟨sg, eb⟩ := sta_gen s2 fr
  rw [eg] at sg eb
  have fin : ∀ {v : Bool} {H' : Hp}, Kp H2 H' → (if (∀ x ∈ rgI lo n, p x = !st) then !st else st) = v → Q (.bl v) H' := fun {v H'} k e => by
    refine q H' _ ((k1.trans k2).trans k) ?_
    rw [srch, e]
    exact .bl _
  refine ⟨fun i m σ' H' => m = n - i ∧ i ≤ n ∧ Sta ⟨c.hs, c.h0, omG c σ, g0⟩ σ' H' ∧ Kp H2 H' ∧ ∀ k : Int, lo ≤ k → k < lo + i → p k = !st, ⟨n, by simp, Nat.zero_le _, sg, Kp.refl _, fun k h1 h2 => by omega⟩, ?_⟩
  rintro i m σ' H' ⟨rfl, hi, s', k', hp⟩
  by_cases lt : i < n
  · refine .inr ⟨lt, fun σ3 H3 => Sta ⟨c.hs, c.h0, omG c σ, g0⟩ σ3 H3 ∧ Kp H2 H3 ∧ p (lo + (i : Int)) = !st, fun σ3 H3 z => ?_, fun v H3 y => ?_⟩
    · obtain ⟨a1, a2, a4⟩ := z
      refine ⟨n - (i + 1), by omega, rfl, lt, a1, a2, fun k h1 h2 => ?_⟩
      by_cases e : k = lo + (i : Int)
      · rw [e]
        exact a4
      · exact hp k h1 (by omega)
    · obtain ⟨rfl, rfl⟩ := y
      have hm : lo ≤ lo + (i : Int) ∧ lo + (i : Int) < lo + n := by omega
      refine hg (omG c σ) _ hm σ' H3 _ s' (.int _) _ fun σ4 s4 e4 _ => he (omG c σ) _ hm σ4 H3 s4 _ fun H5 y5 k5 r5 => ?_
      cases r5
      refine ⟨p (lo + (i : Int)), rfl, ?_⟩
      by_cases h : p (lo + (i : Int)) = st
      · rw [if_pos h]
        exact fin (k'.trans k5) (if_neg fun z => by rw [z _ (rgI_mem.mpr hm)] at h; cases st <;> cases h)
      · rw [if_neg h]
        have s6 := Sta.dropS (c := ⟨c.hs, c.h0, omG c σ, g0⟩) is (G (lo + (i : Int))) (s4.kp k5)
        rw [hd] at s6
        exact ⟨s6, k'.trans k5, by cases st <;> cases hh : p (lo + (i : Int)) <;> first | rfl | exact absurd hh h⟩
  · have e : i = n := by omega
    subst e
    exact .inl ⟨Nat.le_refl _, fin k' (if_pos fun x m => by
      have := rgI_mem.mp m
      exact hp x this.1 this.2)⟩
end
section
variable {P : Program} {w : World} {K : PySem.W.Frag} {mg : Str → Option Value} {base : Heap}
/-- a def with a generator expression that keeps such a promise -/
theorem fn_okC {x qual : Str} {st : Stmt} {f c : Addr} {fd : FuncData} {N ps : List Str} {k : Nat} {α : Type} {Rs : α → List Rel} {Pr : α → Hp → Prop} {R : α → Rel} (F : FunC K x qual st f c fd) (S : FnScope N ps (defScope st)) (hl : ∀ a, (Rs a).length = ps.length)
    (hbody : ∀ (A : Around) (outer : List Env) (s : Shared) (H : Hp) (E : XK), Room k (A.deeper (envOfC qual (defScope st) s.heap.objs.size f (.ref c))) →
      ∃ t, PSs (cxOf CX0 P w K mg base N qual (defScope st) f (.ref c) A outer s H E).nox (defBody st) t ∧ ∀ (a : α) (hs : Hp) (om : Addr → Prop) (Q : VK), Pr a (less hs om) → (∀ H' v, Kp hs H' → (R a).p (less H' om) v → Q v H') → WC ⟨hs, less hs om, om, slots0 (Rs a) N.length⟩ (t { nx := fun _ H' => Q .non H', rt := Q })) :
    FnOk P w K mg base CX0 (k + 1) f fd ps (Sps Rs Pr R) := by
  refine F.ok S (fun vs H Q E h => ?_) (fun A outer s H vs Q E hr h => ?_)
  · obtain ⟨a, om, ho, hr, _⟩ := h
    rw [hr.len, hl]
  · obtain ⟨a, om, ho, hR, hP, q⟩ := h
    obtain ⟨t, ht, hw⟩ := hbody A outer s H E hr
    exact ⟨t, ht, hw a H om Q hP q _ _ (sta_start ho hR)⟩
end
end Pk
namespace Pk
open PySem L2 PySem.Spec PyProof.Rows GxR NdefX
def SpN {α : Type} (Rs : α → List Rel) (P : α → Hp → Prop) (C : α → Own) : Sp := fun vs H Q _ => ∃ (a : α) (om : Addr → Prop), Hd H om ∧ Rok (Rs a) (less H om) vs ∧ P a (less H om) ∧
  ∀ H' p o, Kp H H' → H' p = none → (C a).p (less H' om) o → Q (.ref p) (upd H' p o)
def Skn (sp : Sp) (Rs : List Rel) (P : Hp → Prop) (C : Own) : Prop := ∀ H om vs, Hd H om → Rok Rs (less H om) vs → P (less H om) → ∀ (Q : VK) (E : XK), (∀ H' p o, Kp H H' → H' p = none → C.p (less H' om) o → Q (.ref p) (upd H' p o)) → sp vs H Q E
theorem skn_spn {α : Type} {Rs : α → List Rel} {P : α → Hp → Prop} {C : α → Own} (a : α) : Skn (SpN Rs P C) (Rs a) (P a) (C a) := fun H om vs ho hr hp Q E q => ⟨a, om, ho, hr, hp, q⟩
/-- a reading gives a value of which it is told that it is one of these -/
def EX {β : Type} (c : Ct) (t : TE) (R : β → Rel) (G : β → Prop) : Prop := ∀ σ H, Sta c σ H → ∀ Q : VK, (∀ H' v y, Kp H H' → G y → (R y).p (bas c σ H') v → Q v H') → t σ H Q
section
variable {b : Bool} {c : Ct} {R R0 : Rel} {C : Own} {Rs : List Rel} {P : Hp → Prop} {sp : Sp} {te : TE} {ta : TA} {E' : XK} {Cl : Addr} {m : Str} {D : Ends} {i : Nat}
theorem n_call (hsp : Skn sp Rs P C) (ha : EA true c ta Rs) (hp : ∀ H, Kp c.h0 H → P H) : EN c (tCall sp [] E' ta) C := fun σ H s Q q => ha σ H s _ fun H1 vs k1 r1 => by
  rw [List.append_nil]
  refine hsp H1 (msk true c σ) vs (s.kp k1).hd r1 (hp _ ((s.kp k1).k0.trans bas_hb)) Q E' fun H' p o k n r => q H' p o (k1.trans k) n ?_
  rw [← hb_t]
  exact r
theorem s_setX {β : Type} {R : β → Rel} {G : β → Prop} (h : EX c te R G) (q : ∀ y, G y → WC (c.set i (.fz (R y))) D.nx) (hi : Nat.blt i c.g.length = true := by rfl) : WC c (tAsg te (gName i) D) := fun σ H s => h σ H s _ fun H' v y kp g r => 
  q y g _ H' ((s.kp kp).set (by simpa using hi) r).1
theorem s_asgX {β : Type} {R : β → Rel} {G : β → Prop} {g : TG} {g' : β → List Slot} {is : List Nat} (h : EX c te R G) (hg : ∀ y, G y → EG c g (R y) (g' y) is) (q : ∀ y, G y → WC (c.at (g' y)) D.nx) : WC c (tAsg te g D) := fun σ H s => h σ H s _ fun H' v y kp gd r =>
  hg y gd σ H' v (s.kp kp) r _ fun σ' s' _ _ => q y gd σ' H' s'
/-- a new object is handed back -/
theorem s_retNew (h : EN c te C) (q : ∀ H' p o, Kp c.hs H' → H' p = none → C.p (less H' c.om) o → D.rt (.ref p) (upd H' p o)) : WC c (tRet te D) := fun σ H s => h σ H s _ fun H' p o kp n r => q H' p o (s.ks.trans kp) n (C.mn (less_mono fun _ z => .inr z) r)
theorem wo_less {H : Hp} {p : Addr} {M : Addr → Prop} : wo (less H M) p = less (wo H p) M := by
  funext a
  by_cases h : a = p
  · subst h
    by_cases m : M a
    · rw [wo_at, less_in m]
    · rw [wo_at, less_out m, wo_at]
  · by_cases m : M a
    · rw [wo_ne h, less_in m, less_in m]
    · rw [wo_ne h, less_out m, less_out m, wo_ne h]
/-- what was being changed is handed back -/
theorem s_retOwn (e : c.g[i]? = some (.own C)) (q : ∀ H' p o, Kp c.hs H' → H' p = none → C.p (less H' c.om) o → D.rt (.ref p) (upd H' p o)) : WC c (tRet (tVar i) D) := fun σ H s => by
  obtain ⟨p, o, e1, e2, e3, e4, e5⟩ := s.own i C e
  refine ⟨.ref p, e1, ?_⟩
  have := q (wo H p) p o ?_ wo_at ?_
  · rw [upd_less e2] at this
    exact this
  · refine ⟨fun b u hb nt => ?_, fun T t => ?_⟩
    · have n : b ≠ p := fun z => by
        subst z
        obtain ⟨ps, z⟩ := e4.1 u hb
        exact nt ps z
      rw [wo_ne n]
      exact s.ks.at_ b u hb nt
    · have n : T ≠ p := fun z => e4.2 (z ▸ t)
      obtain ⟨qs, h1, h2⟩ := s.ks.tab T t
      exact ⟨qs, by rw [wo_ne n]; exact h1, h2⟩
  · rw [← wo_less]
    refine C.mn (kp_of fun b u hb => ?_) e3
    obtain ⟨nb, hb'⟩ := less_some hb
    have n : b ≠ p := fun z => nb (.inl ⟨i, C, e, by rw [z]; exact e1⟩)
    rw [wo_ne n, less_out fun z => nb (.inr z)]
    exact hb'
end
section
variable {P : Program} {w : World} {K : PySem.W.Frag} {mg : Str → Option Value} {base : Heap} {x qual : Str} {st : Stmt} {f c : Addr} {fd : FuncData} {N ps : List Str} {k : Nat} {α β : Type} {Rs : α → List Rel} {Pr : α → Hp → Prop} {C : α → Own} {R : β → Rel} {G : α → β → Prop}
theorem fn_okN (F : Fun K x qual st f fd) (S : FnScope N ps (defScope st)) (hl : ∀ a, (Rs a).length = ps.length)
    (hbody : ∀ (cdv : Value) (A : Around) (outer : List Env) (s : Shared) (H : Hp) (E : XK), Room k (A.deeper (envOfC qual (defScope st) s.heap.objs.size f cdv)) →
      ∃ t, PSs (cxOf CX0 P w K mg base N qual (defScope st) f cdv A outer s H E).nox (defBody st) t ∧ ∀ (a : α) (hs : Hp) (om : Addr → Prop) (Q : VK), Pr a (less hs om) → (∀ H' p o, Kp hs H' → H' p = none → (C a).p (less H' om) o → Q (.ref p) (upd H' p o)) → WC ⟨hs, less hs om, om, slots0 (Rs a) N.length⟩ (t { nx := fun _ H' => Q .non H', rt := Q })) :
    FnOk P w K mg base CX0 (k + 1) f fd ps (SpN Rs Pr C) := by
  refine F.ok S (fun vs H Q E h => ?_) (fun cdv A outer s H vs Q E hr h => ?_)
  · obtain ⟨a, om, ho, hr, _⟩ := h
    rw [hr.len, hl]
  · obtain ⟨a, om, ho, hR, hP, q⟩ := h
    obtain ⟨t, ht, hw⟩ := hbody cdv A outer s H E hr
    exact ⟨t, ht, hw a H om Q hP q _ _ (sta_start ho hR)⟩
end
/-- a list of the script's numbers, locked -/
def RScr (K : PySem.W.Frag) (ns : List Int) : Rel := ⟨fun H v => ∃ a, v = .ref a ∧ SqL K H a (ns.map V.int), fun k ⟨a, e, h⟩ => ⟨a, e, k.seq h⟩⟩
end Pk
namespace Pk
open PySem L2 PySem.Spec PyProof.Rows GxR NdefX
/-- a list taken apart -/
theorem g_lst {K : PySem.W.Frag} {c : Ct} {n : Nat} {u : TGs} {ds : List PyData} {g1 : List Slot} {is : List Nat} (h : EGs c u ds g1 is) (e : ds.length = n := by rfl) : EG c (gLst K n u) (RD (.list ds)) g1 is := fun σ H v s r Q q => by
  cases r with
  | lst e1 a => exact ⟨_, _, rfl, SqL.of (less_some e1).2, by rw [a.len]; exact e, h σ H _ s a Q q⟩
/-- a tuple of two things -/
def RT2 (R S : Rel) : Rel := ⟨fun H v => ∃ t x y, v = .ref t ∧ H t = some (.tup [x, y]) ∧ R.p H x ∧ S.p H y, fun k ⟨t, x, y, e, h, r, s⟩ => ⟨t, x, y, e, k.tup h, R.mn k r, S.mn k s⟩⟩
theorem g_tup2 {K : PySem.W.Frag} {c : Ct} {R S : Rel} {t1 t2 : TG} {g1 g2 : List Slot} {is js : List Nat} (h1 : EG c t1 R g1 is) (h2 : EG (c.at g1) t2 S g2 js) : EG c (gTup K 2 (gCons t1 (gCons t2 gNil))) (RT2 R S) g2 (is ++ js) := fun σ H v s r Q q => by
  obtain ⟨t, x, y, rfl, e, rx, ry⟩ := r
  refine ⟨t, _, rfl, SqT.of (less_some e).2, rfl, x, _, rfl, h1 σ H x s rx _ fun σ1 s1 e1 w1 => ⟨y, _, rfl, h2 σ1 H y s1 (by rw [e1]; exact ry) _ fun σ2 s2 e2 w2 => ⟨rfl, q σ2 s2 (fun H' => (e2 H').trans (e1 H')) fun vs hv => ?_⟩⟩⟩
  exact (w2 vs fun i m => hv i (List.mem_append_right _ m)).trans (w1 vs fun i m => hv i (List.mem_append_left _ m))
def Told (c : Ct) (i n m : Nat) (σ : L2.St) (H : Hp) : Prop := ∃ σ0 H0 p p1 p2 vs us, Sta c σ0 H0 ∧ σ = σ0.set i (some (.ref p)) ∧ Kp H0 H ∧ Fre H0 p1 ∧ Fre H0 p2 ∧ p1 ≠ p ∧ p2 ≠ p ∧ p1 ≠ p2 ∧ H p = some (.lst [.ref p1, .ref p2]) ∧ H p1 = some (.lst vs) ∧ H p2 = some (.lst us) ∧ vs.length + n ≤ sizeLine ∧ us.length + m ≤ sizeLine
def WT (c : Ct) (i n m : Nat) (k : L2.St → Hp → Prop) : Prop := ∀ σ H, Told c i n m σ H → k σ H
section
variable {c : Ct} {ta tb : TE} {ds es : List PyData} {i n m : Nat} {D : Ends} {k : L2.St → Hp → Prop} {K : PySem.W.Frag}
theorem wt_seq {a u : TS} (h : WT c i n m (a { D with nx := u D })) : WT c i n m (tSeq a u D) := h
/-- told = [.., ..]; if told ..: never -/
theorem s_told {tt : TT} {a u : TS} (ha : EN c ta (OL ds)) (hb : EN c tb (OL es)) (he : c.g[i]? = some .any) (ld : ds.length + n ≤ 16777216) (le : es.length + m ≤ 16777216)
    (ht : ET (c.set i (.fz (RD (.list [.list ds, .list es])))) tt false) (q : WT c i n m (u D)) : WC c (tSeq (tAsg (tLst (tCons ta (tCons tb tNil))) (gName i)) (tSeq (tIfS tt a tNext) u) D) := fun σ H s => by
  have hi : i < c.g.length := (List.getElem?_eq_some_iff.mp he).1
  refine ha σ H s _ fun H1 p1 o1 k1 n1 c1 => hb σ (upd H1 p1 o1) (s.kp (k1.trans (kp_new n1))) _ fun H2 p2 o2 k2 n2 c2 => ⟨(by decide : 2 ≤ sizeLine), fun p n3 => ?_⟩
  obtain ⟨vs, rfl, dv⟩ := c1
  obtain ⟨us, rfl, du⟩ := c2
  have e1 : H2 p1 = some (.lst vs) := k2.lst upd_same
  have n12 : p1 ≠ p2 := ne_of_none e1 n2
  have e1' : (upd H2 p2 (.lst us)) p1 = some (.lst vs) := by rw [upd_ne n12]; exact e1
  have e2' : (upd H2 p2 (.lst us)) p2 = some (.lst us) := upd_same
  have n1p : p1 ≠ p := ne_of_none e1' n3
  have n2p : p2 ≠ p := ne_of_none e2' n3
  have kH1 : Kp H H1 := k1
  have kH2 : Kp H H2 := (k1.trans (kp_new n1)).trans k2
  have kU : Kp H (upd H2 p2 (.lst us)) := kH2.trans (kp_new n2)
  have kA : Kp H (upd (upd H2 p2 (.lst us)) p (.lst [.ref p1, .ref p2])) := kU.trans (kp_new n3)
  have s3 := s.kp kA
  have kv : Kp (bas c σ H1) (bas c σ (upd (upd H2 p2 (.lst us)) p (.lst [.ref p1, .ref p2]))) := (s.kp k1).kb ((((kp_new n1).trans k2).trans (kp_new n2)).trans (kp_new n3))
  have ku : Kp (bas c σ H2) (bas c σ (upd (upd H2 p2 (.lst us)) p (.lst [.ref p1, .ref p2]))) := (s.kp kH2).kb ((kp_new n2).trans (kp_new n3))
  have b1 : bas c σ (upd (upd H2 p2 (.lst us)) p (.lst [.ref p1, .ref p2])) p1 = some (.lst vs) := by
    rw [bas_out ((s.kp k1).free n1), upd_ne n1p]
    exact e1'
  have b2 : bas c σ (upd (upd H2 p2 (.lst us)) p (.lst [.ref p1, .ref p2])) p2 = some (.lst us) := by
    rw [bas_out ((s.kp kH2).free n2), upd_ne n2p]
    exact e2'
  have b3 : bas c σ (upd (upd H2 p2 (.lst us)) p (.lst [.ref p1, .ref p2])) p = some (.lst [.ref p1, .ref p2]) := by
    rw [bas_out ((s.kp kU).free n3), upd_same]
  have dd : (RD (.list [.list ds, .list es])).p (bas c σ (upd (upd H2 p2 (.lst us)) p (.lst [.ref p1, .ref p2]))) (.ref p) :=
    .lst b3 (.cons (.lst b1 (dv.kp kv)) (.cons (.lst b2 (du.kp ku)) .nil))
  refine ht _ _ (s3.set hi dd).1 _ fun H4 k4 => ?_
  rw [if_neg Bool.false_ne_true]
  exact q _ _ ⟨σ, H, p, p1, p2, vs, us, s, rfl, kA.trans k4, .of k1 n1, .of kH2 n2, n1p, n2p, n12, k4.lst upd_same, k4.lst (by rw [upd_ne n1p]; exact e1'), k4.lst (by rw [upd_ne n2p]; exact e2'), by rw [dv.len]; exact ld, by rw [du.len]; exact le⟩
theorem set_at {c : Ct} {σ : L2.St} {H : Hp} (s : Sta c σ H) (he : c.g[i]? = some .any) {o : Option V} : (σ.set i o)[i]? = some o := by
  rw [List.getElem?_set_self]
  rw [s.len]
  exact (List.getElem?_eq_some_iff.mp he).1
theorem wt_app1 {z : V} (he : c.g[i]? = some .any) (q : WT c i n m D.nx) : WT c i n (m + 1) (tDrop (tBM K "list" rAppend (tOp (rIxL K) (tVar i) (tC (.int 1))) (tCons (tC z) tNil)) D) := fun σ H h => by
  obtain ⟨σ0, H0, p, p1, p2, vs, us, s, rfl, k, f1, f2, a1, a2, a3, e, e1, e2, l1, l2⟩ := h
  refine ⟨_, set_at s he, p, _, 1, _, rfl, rfl, SqL.of e, rfl, .inl ⟨rfl, us, SqL.of e2⟩, p2, us, _, rfl, rfl, e2, by omega, q _ _ ?_⟩
  refine ⟨σ0, H0, p, p1, p2, vs, _, s, rfl, f2.upd k, f1, f2, a1, a2, a3, ?_, ?_, upd_same, l1, ?_⟩
  · rw [upd_ne fun z => a2 z.symm]; exact e
  · rw [upd_ne a3]; exact e1
  · rw [List.length_append]
    show us.length + 1 + m ≤ _
    omega
/-- told[0].clear() -/
theorem wt_clr0 (he : c.g[i]? = some .any) (q : WT c i n m D.nx) : WT c i n m (tDrop (tBM0 K "list" rClear (tOp (rIxL K) (tVar i) (tC (.int 0)))) D) := fun σ H h => by
  obtain ⟨σ0, H0, p, p1, p2, vs, us, s, rfl, k, f1, f2, a1, a2, a3, e, e1, e2, l1, l2⟩ := h
  refine ⟨_, set_at s he, p, _, 0, _, rfl, rfl, SqL.of e, rfl, .inl ⟨rfl, vs, SqL.of e1⟩, p1, vs, rfl, rfl, e1, q _ _ ?_⟩
  refine ⟨σ0, H0, p, p1, p2, [], us, s, rfl, f1.upd k, f1, f2, a1, a2, a3, ?_, upd_same, ?_, ?_, l2⟩
  · rw [upd_ne fun z => a1 z.symm]; exact e
  · rw [upd_ne fun z => a3 z.symm]; exact e2
  · show 0 + n ≤ _
    omega
/-- nothing more is said of it -/
theorem wt_done (he : c.g[i]? = some .any) (q : WC c k) : WT c i n m k := fun σ H h => by
  obtain ⟨σ0, H0, p, p1, p2, vs, us, s, rfl, kp, _⟩ := h
  have := ((s.kp kp).drop i (some (.ref p))).1
  rw [show c.set i .any = c from by
    unfold Ct.set
    rw [setsame he]] at this
  exact q _ _ this
end
def noOwn (g : List Slot) : Bool := g.all fun s => notOwn (some s)
theorem bas_all {hs h0 : Hp} {g : List Slot} {σ : L2.St} {H : Hp} (h : noOwn g = true) : bas ⟨hs, h0, fun _ => False, g⟩ σ H = H := by
  funext a
  refine bas_out ?_
  rintro (⟨i, C, e, _⟩ | z)
  · have := List.all_eq_true.mp h _ (List.mem_of_getElem? e)
    cases this
  · exact z
theorem less_no {H : Hp} : less H (fun _ => False) = H := by
  funext a
  exact less_out id
/-- promises told of the whole heap -/
def Skx0 {β : Type} (sp : Sp) (Rs : List Rel) (P : Hp → Prop) (R : β → Rel) (G : β → Prop) : Prop := ∀ H vs, Rok Rs H vs → P H → ∀ (Q : VK) (E : XK), (∀ H' v y, Kp H H' → G y → (R y).p H' v → Q v H') → sp vs H Q E
section
variable {hs h0 : Hp} {g : List Slot} {R : Rel} {C : Own} {Rs : List Rel} {P : Hp → Prop} {sp : Sp} {te : TE} {ta : TA} {E' : XK} {Cl : Addr} {m : Str} {D : Ends}
theorem x_call0 {β : Type} {R : β → Rel} {G : β → Prop} (hsp : Skx0 sp Rs P R G) (ha : EA true ⟨hs, h0, fun _ => False, g⟩ ta Rs) (hp : ∀ H, Kp h0 H → P H) (no : noOwn g = true := by rfl) : EX ⟨hs, h0, fun _ => False, g⟩ (tCall sp [] E' ta) R G := fun σ H s Q q => ha σ H s _ fun H1 vs k1 r1 => by
  rw [List.append_nil]
  rw [hb_t, bas_all no] at r1
  have k0 := (s.kp k1).k0
  rw [bas_all no] at k0
  refine hsp H1 vs r1 (hp _ k0) Q E' fun H' v y k gd r => q H' v y (k1.trans k) gd ?_
  rw [bas_all no]
  exact r
end
section
variable {P : Program} {w : World} {K : PySem.W.Frag} {mg : Str → Option Value} {base : Heap} {x qual : Str} {st : Stmt} {f c : Addr} {fd : FuncData} {N ps : List Str} {k : Nat}
/-- a law: for each script, with these tables, True -/
def spLawT (K : PySem.W.Frag) (Ts : List Addr) : Sp := fun vs H Q _ => ∃ (a : Addr) (ns : List Int), vs = [.ref a] ∧ SqL K H a (ns.map V.int) ∧ ns.length ≤ 63 ∧ (∀ T ∈ Ts, TabG H T) ∧ ∀ H', Q (.bl true) H'
end
end Pk
namespace Pk
open PySem L2 PySem.Spec PyProof.Rows GxR NdefX
/-- the law, asked by the caller -/
def AskOk (P : Program) (w : World) (K : PySem.W.Frag) (mg : Str → Option Value) (base : Heap) (f : Addr) (fd : FuncData) (x : Str) (sp : Sp) : Prop :=
  ∀ (s : Shared) (H : Hp) (us : List Value) (vs : List V) (Q : VK), Env0 P w K mg base callerA [] s H → BindsTo s fd ⟨us, []⟩ ([x].zip us) → Vals vs us → sp vs H Q (fun _ _ _ => False) →
    codeAny (model P w) callerA (.call (.ref f) ⟨us, []⟩) (CR CX0 [] P w H s Q fun _ _ _ => False) s
section
variable {P : Program} {w : World} {K : PySem.W.Frag} {mg : Str → Option Value} {base : Heap} {x qual : Str} {st : Stmt} {f : Addr} {fd : FuncData} {N : List Str} {y : Str} {sp : Sp} {k : Nat}
theorem ask_of (F : Fun K x qual st f fd) (S : FnScope N [y] (defScope st)) (room : Room (k + 1) callerA) (one : ∀ vs H Q E, sp vs H Q E → vs.length = 1)
    (body : ∀ (cd : Value) (A : Around) (out : List Env) (s : Shared) (H : Hp) (vs : List V) (Q : VK) (E : XK), Room k (A.deeper (envOfC qual (defScope st) s.heap.objs.size f cd)) → (A.deeper (envOfC qual (defScope st) s.heap.objs.size f cd)).guards = some [] → sp vs H Q E →
      ∃ t, PSs (cxOf CX0 P w K mg base N qual (defScope st) f cd A out s H E).nox (defBody st) t ∧ t { nx := fun _ G => Q .non G, rt := Q } (start N vs) H) : AskOk P w K mg base f fd y sp := by
  obtain ⟨_, _, _, _, _, _, cd, _, _, rfl, at_, code⟩ := F.ex
  intro s H us vs Q env0 binds vals said
  have one' : vs.length = [y].length := one vs H Q _ said
  have inK : K.In s.heap := env0.mod.kin.keeps fun b o e => (env0.bs b o e).left
  refine codeAny_call_function room.depth (inK _ _ at_) rfl S.co S.gen rfl (PySem.W.codeRec_of inK code) (binds _ _ _ _ (wpAny_newFunctionEnv_cells S.kind (fun z hz => ?_) fun env e s1 call => ?_))
  · obtain ⟨n, v⟩ := z
    exact (S.par n (List.of_mem_zip hz).left).imp id fun c => ⟨c, PySem.W.cellsFrom_some _ _ _ (.inl c)⟩
  · subst e
    refine ⟨(env0.mod.nolimit.keeps fun b o e => (env0.bs b o e).left).keeps call.toInCall.keep, codeAny_func ?_⟩
    obtain ⟨t, term, reads⟩ := body cd callerA [] s H vs Q _ (room.deeper _) rfl said
    have I0 := inv_start (CX := CX0) (E := fun _ _ _ => False) S room.hd env0 one' vals call
    refine wpAny_mono (term.nox.run [] s1 (start N vs) H _ I0 reads) (fun end_ s2 h => ?_) fun _ _ h => h
    match end_, h with
    | .ret u, ⟨v, _, G, J, r, q⟩ => exact ⟨v, G, J.os, J.bare, J.base, J.hok, r, q⟩
    | .next, ⟨_, G, J, q⟩ => exact ⟨.non, G, J.os, J.bare, J.base, J.hok, rfl, q⟩
    | .brk, ⟨_, _, _, q⟩ => exact q.elim
    | .cont, ⟨_, _, _, q⟩ => exact q.elim
end
section
variable {P : Program} {w : World} {K : PySem.W.Frag} {mg mb : Str → Option Value} {fa a : Addr} {cs : List (Addr × Addr)} {fd : FuncData} {x : Str} {sp : Sp} {s₁ : Shared} {vs : List Value} {ns : List Int}
/-- the heap that is told of: the tables, and the script where it stands in no known part -/
noncomputable def askHp (K : PySem.W.Frag) (a : Addr) (ts : List Addr) (vs : List Value) (ns : List Int) : Hp := fun b =>
  if b ∈ ts then some (.tbl #[]) else if b = a ∧ K.lookup a = none then some (.frz { cls := .type "list", data := .seq vs.toArray } (.lst (ns.map V.int))) else none
theorem askHp_t {ts : List Addr} {b : Addr} (h : b ∈ ts) : askHp K a ts vs ns b = some (.tbl #[]) := if_pos h
theorem askHp_a {ts : List Addr} (h : a ∉ ts) (n : K.lookup a = none) : askHp K a ts vs ns a = some (.frz { cls := .type "list", data := .seq vs.toArray } (.lst (ns.map V.int))) := (if_neg h).trans (if_pos ⟨rfl, n⟩)
theorem askHp_no {ts : List Addr} {b : Addr} (h : b ∉ ts) (n : ¬ (b = a ∧ K.lookup a = none)) : askHp K a ts vs ns b = none := (if_neg h).trans (if_neg n)
theorem askHp_cases {ts : List Addr} (b : Addr) : (b ∈ ts ∧ askHp K a ts vs ns b = some (.tbl #[])) ∨ (b ∉ ts ∧ b = a ∧ K.lookup a = none ∧ askHp K a ts vs ns b = some (.frz { cls := .type "list", data := .seq vs.toArray } (.lst (ns.map V.int)))) ∨ (b ∉ ts ∧ ¬ (b = a ∧ K.lookup a = none) ∧ askHp K a ts vs ns b = none) := by
  by_cases h : b ∈ ts
  · exact .inl ⟨h, askHp_t h⟩
  · by_cases z : b = a ∧ K.lookup a = none
    · obtain ⟨rfl, n⟩ := z
      exact .inr (.inl ⟨h, rfl, n, askHp_a h n⟩)
    · exact .inr (.inr ⟨h, z, askHp_no h z⟩)
theorem ask_run (KX : K.In s₁.heap) (hns : s₁.heap.Ns mainGlobals mg) (hb : s₁.heap.Ns builtinsNs mb) (hbb : ∀ x : Str, x ≠ "__name__" → mb x = bootBuiltins x) (hlim : s₁.heap.NoLimit) (hg : s₁.gens = #[])
    (hT : ∀ p ∈ cs, s₁.heap.get? p.2 = some { cls := .none, data := .fields #[] }) (nT : ∀ p ∈ cs, K.lookup p.2 = none) (C : ∀ p ∈ cs, PySem.W.CodeHd s₁.heap p.1 p.2)
    (hbm : ∃ (bm : Addr) (ob : Obj), mg "__builtins__" = some (.ref bm) ∧ bm ≠ builtinsNs ∧ s₁.heap.get? bm = some ob ∧ ob.cls = .type "module" ∧ ob.dict = some builtinsNs ∧ ob.data = .plain)
    (ha : s₁.heap.get? a = some { cls := .type "list", data := .seq vs.toArray }) (hi : IntsAre vs ns) (hl : ns.length ≤ sizeLine)
    (F : ∀ base : Heap, K.In base → base.Ns mainGlobals mg → (∀ p ∈ cs, LamX.TabB base mg p.1 p.2) → AskOk P w K mg base fa fd x sp) (bind : ∀ (s : Shared) (u : Value), BindsTo s fd ⟨[u], []⟩ [(x, u)])
    (hsp : ∀ H : Hp, (∀ p ∈ cs, H p.2 = some (.tbl #[])) → SqL K H a (ns.map V.int) → sp [.ref a] H (fun v _ => v = .bl true) fun _ _ _ => False) :
    codeAny (model P w) callerA (.call (.ref fa) ⟨[.ref a], []⟩) (fun r s' => r = .ok (.ret (.bool true)) ∧ OldK s₁.heap s'.heap ∧ s'.os = s₁.os ∧ AllBare s'.gens) s₁ := by
  let ts := cs.map (·.2)
  let H : Hp := askHp K a ts vs ns
  have inT : ∀ p ∈ cs, p.2 ∈ ts := fun p hp => List.mem_map.mpr ⟨p, hp, rfl⟩
  have tab : ∀ b ∈ ts, s₁.heap.get? b = some { cls := .none, data := .fields #[] } ∧ K.lookup b = none := fun b hb => by
    obtain ⟨p, hp, rfl⟩ := List.mem_map.mp hb
    exact ⟨hT p hp, nT p hp⟩
  have aT : a ∉ ts := fun z => by
    have e := (tab a z).1
    rw [ha] at e
    have z' : Data.seq vs.toArray _ = Data.fields #[] := congrArg Obj.data (Option.some.inj e)
    cases z'
  have rv := vals_ints hi
  have ok : HOk P w H s₁.heap := fun b u e => by
    rcases askHp_cases (K := K) (a := a) (vs := vs) (ns := ns) (ts := ts) b with ⟨hb, z⟩ | ⟨_, rfl, _, z⟩ | ⟨_, _, z⟩
    · have e' := z.symm.trans e
      cases e'
      exact (tab b hb).1
    · have e' := z.symm.trans e
      cases e'
      exact ⟨ha, by rw [List.length_map]; exact hl, vs, _, rv, ha⟩
    · have e' := z.symm.trans e
      cases e'
  have seq : SqL K H a (ns.map V.int) := by
    cases hk : K.lookup a with
    | none => exact .inl (.inr ⟨_, askHp_a aT hk⟩)
    | some o =>
      have e := KX a o hk
      rw [ha] at e
      cases e
      exact .inr ⟨_, vs.toArray, _, hk, rfl, rfl, rfl, by rw [List.size_toArray, hi.length]; exact hl, by simpa using rv⟩
  -- what is not told of stands in the ground
  have free : ∀ {b : Addr} {o : Obj}, s₁.heap.get? b = some o → b ∉ ts → ¬ (b = a ∧ K.lookup a = none) → (hidT s₁.heap H).get? b = some o := fun e h1 h2 => hidT_get e (askHp_no h1 h2)
  have noseq : ∀ {b : Addr} {o : Obj}, s₁.heap.get? b = some o → (∀ ws n, o.data ≠ .seq ws n) → o.data ≠ .fields #[] → (hidT s₁.heap H).get? b = some o := fun {b o} e h1 h2 => by
    refine free e (fun z => ?_) fun z => ?_
    · rw [(tab b z).1] at e
      cases e
      exact h2 rfl
    · rw [z.1, ha] at e
      cases e
      exact h1 _ _ rfl
  have nsd : ∀ {b : Addr} {m : Str → Option Value}, s₁.heap.Ns b m → (hidT s₁.heap H).Ns b m := fun {b m} h => by
    obtain ⟨o, es, ep, e, d, r⟩ := h
    exact ⟨o, es, ep, noseq e (by rw [d]; exact fun _ _ z => nomatch z) (by rw [d]; exact fun z => nomatch z), d, r⟩
  have ground : K.In (hidT s₁.heap H) := fun b o e => by
    refine free (KX b o e) (fun z => ?_) fun z => ?_
    · rw [(tab b z).2] at e
      cases e
    · rw [z.1, z.2] at e
      cases e
  have tabs : ∀ p ∈ cs, LamX.TabB (hidT s₁.heap H) mg p.1 p.2 := fun p hp => by
    refine ⟨?_, ?_, fun z => ?_⟩
    · obtain ⟨o, us, f1, f2, f3, f4, f5, f6, f7, e, r1, r2, r3, r⟩ := C p hp
      refine ⟨o, us, f1, f2, f3, f4, f5, f6, f7, noseq e (by rw [r2]; exact fun _ _ z => nomatch z) (fun z => ?_), r1, r2, r3, r⟩
      rw [r2] at z
      cases z
      simp at r3
    · obtain ⟨bm, ob, b1, b2, b3, b4, b5, b6⟩ := hbm
      refine ⟨bm, ob, b1, b2, fun z => ?_, fun z => ?_, noseq b3 (by rw [b6]; exact fun _ _ z => nomatch z) (by rw [b6]; exact fun z => nomatch z), b4, b5, b6⟩
      · obtain ⟨o, es, ep, e, d, _⟩ := hns
        rw [z, e] at b3
        cases b3
        rw [d] at b6
        cases b6
      · rw [z, hT p hp] at b3
        cases b3
        cases b6
    · obtain ⟨o, es, ep, e, d, _⟩ := hns
      rw [z, hT p hp] at e
      cases e
      cases d
  have env0 : Env0 P w K mg (hidT s₁.heap H) callerA [] s₁ H :=
    { frames := rfl, mod := ⟨ground, nsd hns, ⟨mb, nsd hb, hbb⟩, let ⟨mc, h1, h2⟩ := hlim; ⟨mc, nsd h1, h2⟩⟩, bs := fun b o e => of_hidT e, bsz := Nat.le_of_eq (hidT_size _ _), funs := trivial, frf := fun _ z => (nomatch z), hok := ok, bare := .of_eq hg }
  refine codeAny_mono (F _ ground (nsd hns) tabs s₁ H [.ref a] [.ref a] _ env0 (bind s₁ (.ref a)) (.cons rfl .nil) (hsp H (fun p hp => askHp_t (inT p hp)) seq)) fun r s' h => ?_
  match r, h with
  | .error _, h => exact h.elim
  | .ok .next, h => exact h.elim
  | .ok .brk, h => exact h.elim
  | .ok .cont, h => exact h.elim
  | .ok (.ret u), ⟨v, G, os, bare, un, ok', rel, e⟩ =>
    obtain rfl : v = .bl true := e
    obtain rfl : u = Value.bool true := rel
    have grown : ∀ b ∈ ts, ∃ more : Array Value, s'.heap.get? b = some { cls := .none, data := .fields more } := fun b hb => by
      obtain ⟨more, z⟩ := un.tbls b #[] (askHp_t hb)
      exact ⟨_, ok' b _ z⟩
    have kept : ∀ b o, b ∉ ts → s₁.heap.get? b = some o → s'.heap.get? b = some o := fun b o hb e => by
      rcases askHp_cases (K := K) (a := a) (vs := vs) (ns := ns) (ts := ts) b with ⟨z, _⟩ | ⟨_, _, _, z⟩ | ⟨_, _, z⟩
      · exact absurd z hb
      · have z1 := (ok b _ z).1
        rw [e] at z1
        cases z1
        exact (ok' b _ (un.frzs b _ _ z)).1
      · exact un.keep b o e z (fun z => nomatch z) (fun z => nomatch z)
    refine ⟨rfl, ⟨fun b o e => ?_, fun b o e => ?_⟩, os, bare⟩
    · by_cases hb : b ∈ ts
      · obtain ⟨p, hp, rfl⟩ := List.mem_map.mp hb
        obtain ⟨more, hm⟩ := grown _ hb
        rw [hT p hp] at e
        cases e
        exact .inr (.inl ⟨((C p hp).tab (hT p hp)).isCodeTable, rfl, #[], more, rfl, by rw [Array.empty_append]; exact hm⟩)
      · exact .inl (kept b o hb e)
    · by_cases hb : b ∈ ts
      · obtain ⟨_, z⟩ := grown b hb
        exact ⟨_, z⟩
      · exact ⟨o, kept b o hb e⟩
end
/-- the whole of it, for a statement of a law -/
theorem ask_walk {l : PySem.W.OpenLaw} {q : Program} {loose : List Str} {XP : (Str → Option Value) → Heap → Prop} {YP : World → Heap → Prop} {d : DefRec} {K : Params → PySem.W.Frag} {x : Str} (most : l.most = some 63) (plain : d.params.defaults = []) (hY : ∀ (w : World) (h : Heap), YP w h → (K w.params).In h)
    (F : ∀ (w : World) (mg : Str → Option Value) (fa : Addr) (h : Heap), YP w h → (K w.params).In h → h.Ns mainGlobals mg → mg d.name = some (.ref fa) →
      ∃ (fd : FuncData) (cs : List (Addr × Addr)) (sp : Sp), (∀ p ∈ cs, h.get? p.2 = some { cls := .none, data := .fields #[] } ∧ (K w.params).lookup p.2 = none ∧ PySem.W.CodeHd h p.1 p.2) ∧ (∀ (s : Shared) (u : Value), BindsTo s fd ⟨[u], []⟩ [(x, u)]) ∧
        (∀ (H : Hp) (a : Addr) (ns : List Int), ns.length ≤ 63 → (∀ p ∈ cs, H p.2 = some (.tbl #[])) → SqL (K w.params) H a (ns.map V.int) → sp [.ref a] H (fun v _ => v = .bl true) fun _ _ _ => False) ∧
        ∀ base : Heap, (K w.params).In base → base.Ns mainGlobals mg → (∀ p ∈ cs, LamX.TabB base mg p.1 p.2) → AskOk l.prog w (K w.params) mg base fa fd x sp) :
    PySem.W.WalkO q loose XP YP l.row.toRowW d [] (fun f vs => PySem.call f vs) :=
  Att.attach_callB most plain fun w s0 s1 mg mb fa o pm cd doc a vs ns G Y _ _ _ hmg ob1 in1 len _ gens => by
    obtain ⟨fd, cs, sp, hc, bind, hsp, ask⟩ := F w mg fa _ Y (hY w _ Y) G.T.g hmg
    exact ask_run (hY w _ Y) G.T.g G.T.b G.T.builtins G.T.nolimit gens (fun p hp => (hc p hp).1) (fun p hp => (hc p hp).2.1) (fun p hp => (hc p hp).2.2) G.T.bmain ob1 in1 (Nat.le_trans len (by decide)) ask bind fun H hH hS => hsp H a ns len hH hS
def rReprD (K : PySem.W.Frag) : List V → Hp → VK → Prop := fun xs H Q => ∃ (v : V) (d : PyData), xs = [v] ∧ Dp K H v d ∧ (∃ a, v = .ref a) ∧ d.showable = true ∧ d.hasDict = false ∧ d.depth ≤ 60 ∧ d.shown.length ≤ sizeLine ∧ Q (.str d.shown) H
theorem call_reprD {X : Cx} (none_ : X.A.guards = some []) (room : X.A.units + 64 < cLine) : CallR X (.builtin "repr") (rReprD X.K) := by
  intro pins s σ H xs us Q I r h
  obtain ⟨v, d, rfl, at_, ⟨a, rfl⟩, show_, flat_, deep, short, q⟩ := h
  obtain ⟨u, rfl, e⟩ := vals1 r
  obtain ⟨as, rd⟩ := Dp.reads I d _ u at_ e
  obtain rfl : u = Value.ref a := e
  exact repr_of_reads' rd show_ (PyData.noDict_hsm flat_) none_ (by omega) (fun _ _ z => z) (fun h' t tk keep => ⟨.str _, H, I.kept keep, ⟨t, rfl⟩, q⟩) short
section
variable {P : Program} {w : World} {K : PySem.W.Frag} {mg : Str → Option Value} {base : Heap} {x qual : Str} {st : Stmt} {f : Addr} {fd : FuncData} {N : List Str} {k : Nat}
theorem ask_okL {Ts : List Addr} (F : Fun K x qual st f fd) (S : FnScope N ["script"] (defScope st)) (room : Room (k + 1) callerA)
    (hbody : ∀ (cdv : Value) (A : Around) (outer : List Env) (s : Shared) (H : Hp) (E : XK), Room k (A.deeper (envOfC qual (defScope st) s.heap.objs.size f cdv)) → (A.deeper (envOfC qual (defScope st) s.heap.objs.size f cdv)).guards = some [] →
      ∃ t, PSs (cxOf CX0 P w K mg base N qual (defScope st) f cdv A outer s H E).nox (defBody st) t ∧ ∀ (ns : List Int) (hs : Hp) (Q : VK), ns.length ≤ 63 → (∀ T ∈ Ts, TabG hs T) → (∀ H', Q (.bl true) H') → WC ⟨hs, hs, fun _ => False, slots0 [RScr K ns] N.length⟩ (t { nx := fun _ H' => Q .non H', rt := Q })) :
    AskOk P w K mg base f fd "script" (spLawT K Ts) := by
  refine ask_of F S room (fun vs H Q E h => ?_) fun cd A out s H vs Q E hr hg h => ?_
  · obtain ⟨a, ns, rfl, _⟩ := h
    rfl
  · obtain ⟨a, ns, rfl, hS, hl, hT, q⟩ := h
    obtain ⟨t, ht, hw⟩ := hbody cd A out s H E hr hg
    have z := sta_start (H := H) (om := fun _ => False) (Rs := [RScr K ns]) (N := N) (vs := [.ref a]) (fun _ z => z.elim) ⟨_, _, rfl, ⟨a, rfl, by rw [less_no]; exact hS⟩, rfl⟩
    rw [less_no] at z
    exact ⟨t, ht, hw ns H Q hl hT q _ _ z⟩
end
/-- a text shown and not too long -/
structure Shows (d : PyData) : Prop where
  a : d.showable = true
  b : d.hasDict = false
  c : d.depth ≤ 60
  d : d.shown.length ≤ 16777216
theorem o_reprD {K : PySem.W.Frag} {d : PyData} (n : nod d = true) (r : (match d with | .list _ => true | .tuple _ => true | _ => false) = true) (h : Shows d) : On (rReprD K) [RD d] (RD (.str d.shown)) := fun H M vs _ z Q q => by
  obtain ⟨v, r', rfl, h1, rfl⟩ := z
  refine ⟨v, d, rfl, (Dt.kp kp_less h1).dp n, ?_, h.a, h.b, h.c, h.d, q H _ (Kp.refl _) (.str _)⟩
  cases h1 with
  | lst e a => exact ⟨_, rfl⟩
  | tup e a => exact ⟨_, rfl⟩
  | _ => cases r
end Pk
namespace L2
open PySem PySem.Spec PyProof.Rows
section
variable {P : Program} {w : World} {A : Around} {E : Value → Shared → Prop} {s : Shared} {a x : Addr} {L : List (Addr × List Int)} {es : Array (Int × Value)} {ep : Nat} {t : SetTable} {k : List Int}
/-- what a search needs of the set -/
structure Seek (P : Program) (w : World) (h : Heap) (a : Addr) (L : List (Addr × List Int)) (es : Array (Int × Value)) (ep : Nat) (t : SetTable) : Prop where
  ob : ∃ o, h.get? a = some o ∧ o.ExactSet ∧ o.data = .set es ep t
  row : ∀ {i : Nat} {p : Addr × List Int}, L[i]? = some p → es[i]? = some (thash P w p.2, Value.ref p.1)
  all : es.toList = rowsOf P w L
  tab : TabOk t (L.map fun p => thash P w p.2)
  tup : ∀ p ∈ L, IsT P w h p.2 p.1
  room : L.length * 5 < t.mask * 3
theorem Seek.of (R : SetTR P w s.heap a L es ep t) : Seek P w s.heap a L es ep t := ⟨R.ob, fun h => R.entry h, R.rows, R.tab, R.tup, R.room⟩
variable {K : Nat} {Q : SetFound → Shared → Prop}
end
end L2
namespace Pk
open PySem L2 PySem.Spec PyProof.Rows GxR NdefX
section
variable {P : Program} {w : World} {K : PySem.W.Frag} {c : Ct} {b : Bool} {ta : TE} {ps : List Pl}
theorem SetOf.kp {H H' : Hp} {a : Addr} (h : SetOf P w H a ps) (k : Kp H H') : SetOf P w H' a ps := by
  obtain ⟨L, h1, h2, h3⟩ := h
  refine ⟨L, k.at_ _ _ h1 (fun _ z => nomatch z), fun x hx => ?_, h3⟩
  obtain ⟨p, m, e, z⟩ := h2 x hx
  exact ⟨p, m, e, k.tup z⟩
/-- xs[::-1] -/
theorem n_rev {α : Type} {xs : List α} {enc : α → PyData} (h : EI c ta (xs.map enc)) : EN c (tRevL K ta) (OL (xs.reverse.map enc)) := fun σ H s Q q =>
  h σ H s _ fun H1 a vs k1 e1 r1 => ⟨a, vs, rfl, SqL.of e1, fun p n => q H1 p _ k1 n ⟨_, rfl, by rw [List.map_reverse]; exact r1.rev⟩⟩
end
structure ShE (d : PyData) (n m : Nat) : Prop where
  sh : d.showable = true
  no : d.hasDict = false
  dp : d.depth ≤ n
  lv : d.leavesShort 13 = true
  bk : d.bulk ≤ m
theorem ShE.shows {d : PyData} {n m : Nat} (h : ShE d n m) (hn : n ≤ 60) (hm : m ≤ 1048576) : Shows d := ⟨h.sh, h.no, Nat.le_trans h.dp hn, PyData.shown_fits_bulk (B := 13) (by decide) (by decide) h.lv (Nat.le_trans h.bk hm)⟩
theorem ShE.up {d : PyData} {n m n' m' : Nat} (h : ShE d n m) (hn : n ≤ n') (hm : m ≤ m') : ShE d n' m' := ⟨h.sh, h.no, Nat.le_trans h.dp hn, h.lv, Nat.le_trans h.bk hm⟩
theorem sh_int {i : Int} (h : i.natAbs < 10 ^ 12) : ShE (.int i) 0 0 := by
  refine ⟨decide_eq_true ?_, rfl, Nat.zero_le _, decide_eq_true (PyData.shown_int_le h), Nat.zero_le _⟩
  by_cases z : i.natAbs = 0
  · rw [z]; decide
  · exact (Nat.log2_lt z).mpr (Nat.lt_trans h (Nat.lt_trans (show 10 ^ 12 < 2 ^ 64 by decide) (Nat.pow_lt_pow_right (by decide) (by decide))))
theorem sh_all {ds : List PyData} {n m : Nat} (h : ∀ d ∈ ds, ShE d n m) : PyData.showableAll ds = true ∧ PyData.hasDictAll ds = false ∧ PyData.depthAll ds ≤ n ∧ PyData.leavesShortAll 13 ds = true ∧ PyData.bulkAll ds ≤ ds.length * (m + 1) := by
  induction ds with
  | nil => exact ⟨rfl, rfl, Nat.zero_le _, rfl, Nat.zero_le _⟩
  | cons d ds ih =>
    obtain ⟨a1, a2, a3, a4, a5⟩ := ih fun e m => h e (.tail _ m)
    have q := h d (.head _)
    refine ⟨?_, ?_, ?_, ?_, ?_⟩
    · show (d.showable && PyData.showableAll ds) = true
      rw [q.sh, a1]; rfl
    · show (d.hasDict || PyData.hasDictAll ds) = false
      rw [q.no, a2]; rfl
    · show max d.depth (PyData.depthAll ds) ≤ n
      exact Nat.max_le.mpr ⟨q.dp, a3⟩
    · show (d.leavesShort 13 && PyData.leavesShortAll 13 ds) = true
      rw [q.lv, a4]; rfl
    · show d.bulk + 1 + PyData.bulkAll ds ≤ (ds.length + 1) * (m + 1)
      have := q.bk
      rw [Nat.add_mul, Nat.one_mul]
      omega
theorem sh_list {ds : List PyData} {n m : Nat} (h : ∀ d ∈ ds, ShE d n m) : ShE (.list ds) (n + 1) (ds.length * (m + 1)) := by
  obtain ⟨a1, a2, a3, a4, a5⟩ := sh_all h
  exact ⟨a1, a2, Nat.succ_le_succ a3, a4, a5⟩
theorem sh_tuple {ds : List PyData} {n m : Nat} (h : ∀ d ∈ ds, ShE d n m) : ShE (.tuple ds) (n + 1) (ds.length * (m + 1)) := by
  obtain ⟨a1, a2, a3, a4, a5⟩ := sh_all h
  exact ⟨a1, a2, Nat.succ_le_succ a3, a4, a5⟩
theorem sh_map {α : Type} {f : α → PyData} {xs : List α} {n m k : Nat} (h : ∀ x ∈ xs, ShE (f x) n m) (l : xs.length ≤ k) : ShE (.list (xs.map f)) (n + 1) (k * (m + 1)) := by
  refine (sh_list (n := n) (m := m) fun d hd => ?_).up (Nat.le_refl _) ?_
  · obtain ⟨x, hx, rfl⟩ := List.mem_map.mp hd
    exact h x hx
  · rw [List.length_map]
    exact Nat.mul_le_mul_right _ l
theorem sh_pl {p : Pl} (h1 : p.1.natAbs < 10 ^ 12) (h2 : p.2.natAbs < 10 ^ 12) : ShE (dP p) 1 2 := sh_tuple (n := 0) (m := 0) fun d hd => by
  rcases List.mem_cons.mp hd with e | e
  · subst e; exact sh_int h1
  · rw [List.mem_singleton.mp e]; exact sh_int h2
end Pk
namespace Pk
open PySem L2 PySem.Spec PyProof.Rows GxR NdefX
structure ItOk {α : Type} (B : Hp) (J : It) (xs : List α) (R : α → Rel) : Prop where
  go : ∀ (i : Nat) (H : Hp) (M : Addr → Prop), Hd H M → Kp B (less H M) → i < xs.length → J.go i H
  stop : ∀ (i : Nat) (H : Hp) (M : Addr → Prop), Hd H M → Kp B (less H M) → xs.length ≤ i → J.stop i H
  yld : ∀ (i : Nat) (H : Hp) (M : Addr → Prop) (v : V) (H' : Hp), Hd H M → Kp B (less H M) → J.yld i H v H' → ∀ a, xs[i]? = some a → Kp H H' ∧ (R a).p (less H' M) v
def EWg {α : Type} (c : Ct) (wi : TI) (xs : List α) (R : α → Rel) : Prop := ∀ σ H, Sta c σ H → ∀ Q : It → Hp → Prop, (∀ H' J, Kp H H' → ItOk (bas c σ H') J xs R → Q J H') → wi σ H Q
theorem less_lst {B H : Hp} {M : Addr → Prop} (k : Kp B (less H M)) {a : Addr} {vs : List V} (e : B a = some (.lst vs)) : H a = some (.lst vs) := (less_some (k.lst e)).2
theorem less_tup {B H : Hp} {M : Addr → Prop} (k : Kp B (less H M)) {a : Addr} {vs : List V} (e : B a = some (.tup vs)) : H a = some (.tup vs) := (less_some (k.tup e)).2
section
variable {c : Ct} {wi : TI} {ta : TA} {tl te ti : TE} {tt : TT} {g : TG} {D : Ends} {tb : TS} {K : PySem.W.Frag} {α β : Type} {xs : List α} {ys : List β} {R : α → Rel} {f : α → PyData} {h : β → PyData}
theorem Sta.hid' {σ : L2.St} {H : Hp} (s : Sta c σ H) : Hd H (fun a => isOwn c.g σ a ∨ c.om a) := fun a m => s.hides (b := true) a ⟨rfl, m⟩
/-- a new tuple of what stands -/
theorem tup_new {H : Hp} {M : Addr → Prop} (hd : Hd H M) {T : Addr} {us : List V} {ds : List PyData} (n : H T = none) (a : DtAll (less H M) us ds) : Kp H (upd H T (.tup us)) ∧ Dt (less (upd H T (.tup us)) M) (.ref T) (.tuple ds) := by
  refine ⟨kp_new n, ?_⟩
  rw [new_at hd n]
  exact .tup upd_same (a.kp (kp_new (less_none n)))
theorem w_list (hl : E true c tl (RD (.list (xs.map f)))) : EWg c (iList K tl) xs (fun a => RD (f a)) := fun σ H s Q q => hl σ H s _ fun H1 v k1 r1 => by
  rw [hb_t] at r1
  cases r1 with
  | @lst a vs _ e r =>
    have n := r.len
    rw [List.length_map] at n
    refine ⟨a, rfl, ⟨vs, SqL.of (less_some e).2⟩, q H1 _ k1 ⟨fun i G M hd k hi => ?_, fun i G M hd k hi => ?_, fun i G M v G' hd k y x hx => ?_⟩⟩
    · exact ⟨vs, vs[i], SqL.of (less_lst k e), List.getElem?_eq_getElem (by omega)⟩
    · exact ⟨vs, SqL.of (less_lst k e), by omega⟩
    · obtain ⟨rfl, y⟩ := y
      obtain ⟨w, e1, e2⟩ := r.at (i := i) (d := f x) (by rw [List.getElem?_map, hx]; rfl)
      have := (y vs (SqL.of (less_lst k e))).symm.trans e1
      cases this
      exact ⟨Kp.refl _, e2.kp k⟩
theorem w_tup (hl : E true c tl (RD (.tuple (xs.map f)))) : EWg c (iTup K tl) xs (fun a => RD (f a)) := fun σ H s Q q => hl σ H s _ fun H1 v k1 r1 => by
  rw [hb_t] at r1
  cases r1 with
  | @tup a vs _ e r =>
    have n := r.len
    rw [List.length_map] at n
    refine ⟨a, rfl, ⟨vs, SqT.of (less_some e).2⟩, q H1 _ k1 ⟨fun i G M hd k hi => ?_, fun i G M hd k hi => ?_, fun i G M v G' hd k y x hx => ?_⟩⟩
    · exact ⟨vs, vs[i], SqT.of (less_tup k e), List.getElem?_eq_getElem (by omega)⟩
    · exact ⟨vs, SqT.of (less_tup k e), by omega⟩
    · obtain ⟨rfl, y⟩ := y
      obtain ⟨w, e1, e2⟩ := r.at (i := i) (d := f x) (by rw [List.getElem?_map, hx]; rfl)
      have := (y vs (SqT.of (less_tup k e))).symm.trans e1
      cases this
      exact ⟨Kp.refl _, e2.kp k⟩
/-- for x in .. -/
theorem s_forG (I : Nat → List Slot → Prop) (hs : EWg c wi xs R) (h0 : I 0 c.g)
    (hb : ∀ h1 i x gs, Kp c.h0 h1 → xs[i]? = some x → I i gs → ∃ g' is, EG ⟨c.hs, h1, c.om, gs⟩ g (R x) g' is ∧ WC ⟨c.hs, h1, c.om, g'⟩ (tb (inL c.hs h1 c.om (I (i + 1)) D)))
    (hd : ∀ gs, I xs.length gs → WC (c.at gs) D.nx) : WC c (tFor wi g tb D) := fun σ H s => hs σ H s _ fun H1 J k1 ok => by
  have s1 := s.kp k1
  refine ⟨fun i m σ' H' => m = xs.length - i ∧ i ≤ xs.length ∧ Nx ⟨c.hs, bas c σ H1, c.om, []⟩ (I i) σ' H', ⟨xs.length, rfl, Nat.zero_le _, c.g, h0, s1.h0 (Kp.refl _)⟩, ?_⟩
  rintro i m σ' H' ⟨rfl, hi, gs, hg, s'⟩
  by_cases hlt : i < xs.length
  · refine .inr ⟨ok.go i H' _ s'.hid' s'.k0 hlt, Nx ⟨c.hs, bas c σ H1, c.om, []⟩ (I (i + 1)), fun σ'' H'' p' => ⟨xs.length - (i + 1), by omega, rfl, hlt, p'⟩, fun x H2 y => ?_⟩
    obtain ⟨k2, r⟩ := ok.yld i H' _ x H2 s'.hid' s'.k0 y _ (List.getElem?_eq_getElem hlt)
    obtain ⟨g', is, hg', hw⟩ := hb (bas c σ H1) i _ gs s1.k0 (List.getElem?_eq_getElem hlt) hg
    exact hg' σ' H2 x (s'.kp k2) r _ fun σ2 s2 _ _ => hw σ2 H2 s2
  · have e : i = xs.length := by omega
    subst e
    exact .inl ⟨ok.stop _ H' _ s'.hid' s'.k0 (Nat.le_refl _), hd gs hg σ' H' (s'.h0 (s1.k0.trans s'.k0))⟩
/-- [e for x in .. if t] -/
theorem n_lcG {G : α → List Slot} {is vs : List Nat} {p : α → Bool} {fe : α → PyData} (hs : EWg c wi xs R) (hw : anyAt c.g vs = true) (his : ∀ i ∈ is, i ∈ vs)
    (hg : ∀ om, ∀ x, x ∈ xs → EG ⟨c.hs, c.h0, om, c.g⟩ g (R x) (G x) is) (ht : ∀ om, ∀ x, x ∈ xs → ET ⟨c.hs, c.h0, om, G x⟩ tt (p x))
    (he : ∀ om, ∀ x, x ∈ xs → p x = true → E true ⟨c.hs, c.h0, om, G x⟩ te (RD (fe x))) (hl : xs.length < 16777216) : EN c (tLc wi g tt te vs) (OL ((xs.filter p).map fe)) := fun σ H s Q q => by
  refine hs σ H s _ fun H1 J k1 ok D nD => ?_
  have s1 := s.kp k1
  have fD : Fre c.hs D := .of s1.ks nD
  have hw := anyAt_of hw
  have sw := s1.wipe hw
  have ew : ∀ H', bas c (wipe σ vs) H' = bas c σ H' := fun H' => bas_iff (fun a => or_congr (own_wipe hw a) Iff.rfl) fun _ _ => rfl
  refine ⟨fun i m H' => m = xs.length - i ∧ i ≤ xs.length ∧ Kc c (wipe σ vs) H1 D (((xs.take i).filter p).map fe) H', ⟨xs.length, rfl, Nat.zero_le _, ?_⟩, ?_⟩
  · obtain ⟨sh, eb⟩ := sw.hide (o := .lst []) nD trivial
    exact ⟨⟨[], upd_same, by simpa using DtAll.nil⟩, sh, by rw [less_upd]; exact kp_of fun b o e => by rw [wo_ne (ne_of_none e nD)]; exact e⟩
  rintro i m H' ⟨rfl, hi, h⟩
  have kB : Kp (bas c σ H1) (bas ⟨c.hs, c.h0, fun a => c.om a ∨ a = D, c.g⟩ (wipe σ vs) H') := by
    rw [← bas_less, ew]
    exact s1.kb h.kp
  by_cases hlt : i < xs.length
  · refine .inr ⟨ok.go i H' _ h.st.hid' kB hlt, Kc c (wipe σ vs) H1 D (((xs.take (i + 1)).filter p).map fe), fun H'' p' => ⟨xs.length - (i + 1), by omega, rfl, hlt, p'⟩, fun v H2 y => ?_⟩
    have ex := List.getElem?_eq_getElem hlt
    obtain ⟨k2, r⟩ := ok.yld i H' _ v H2 h.st.hid' kB y _ ex
    have h2 := h.grow k2
    have hm : xs[i] ∈ xs := List.getElem_mem hlt
    refine hg _ _ hm _ H2 v h2.st r _ fun σ2 s2 e2 w2 => ⟨(w2 vs his).trans (wipe_wipe fun _ m => m), ht _ _ hm σ2 H2 s2 _ fun H3 k3 => ?_⟩
    cases hp : p xs[i] with
    | false =>
      rw [if_neg Bool.false_ne_true, ft_succ ex, hp, if_neg Bool.false_ne_true, List.append_nil]
      exact h2.grow k3
    | true =>
      rw [if_pos rfl]
      refine he _ _ hm hp σ2 H3 (s2.kp k3) _ fun H4 y k4 r4 => ?_
      have h4 := (h2.grow k3).grow k4
      obtain ⟨acc, ea, aa⟩ := h4.ex
      refine ⟨acc, ea, ?_, ?_⟩
      · have := lc_len (p := p) (f := fe) (i := i) (Nat.le_refl xs.length)
        have hs : sizeLine = 16777216 := sizeLine_eq
        rw [aa.len]
        omega
      · rw [ft_succ ex, hp, if_pos rfl]
        refine h4.put fD ea ?_
        rw [hb_t] at r4
        rw [← e2]
        exact r4
  · have e : i = xs.length := by omega
    subst e
    refine .inl ⟨ok.stop _ H' _ h.st.hid' kB (Nat.le_refl _), ?_⟩
    obtain ⟨acc, ea, aa⟩ := h.ex
    rw [← upd_less ea]
    refine q _ D _ (k1.trans h.kp) wo_at ⟨acc, rfl, ?_⟩
    rw [← ew, bas_less]
    rw [List.take_length] at aa
    exact aa
theorem n_lcGM {γ : Type} {G : α → List Slot} {is vs : List Nat} {p : α → Bool} {fe : α → γ} {encB : γ → PyData} (hs : EWg c wi xs R) (hw : anyAt c.g vs = true) (his : ∀ i ∈ is, i ∈ vs)
    (hg : ∀ om, ∀ x, x ∈ xs → EG ⟨c.hs, c.h0, om, c.g⟩ g (R x) (G x) is) (ht : ∀ om, ∀ x, x ∈ xs → ET ⟨c.hs, c.h0, om, G x⟩ tt (p x))
    (he : ∀ om, ∀ x, x ∈ xs → p x = true → E true ⟨c.hs, c.h0, om, G x⟩ te (RD (encB (fe x)))) (hl : xs.length < 16777216) : EN c (tLc wi g tt te vs) (OL (((xs.filter p).map fe).map encB)) :=
  (n_lcG (fe := fun x => encB (fe x)) hs hw his hg ht he hl).eqL (by rw [List.map_map]; rfl)
theorem n_lcGM1 {γ : Type} {G : α → List Slot} {is vs : List Nat} {fe : α → γ} {encB : γ → PyData} (hs : EWg c wi xs R) (hw : anyAt c.g vs = true) (his : ∀ i ∈ is, i ∈ vs)
    (hg : ∀ om, ∀ x, x ∈ xs → EG ⟨c.hs, c.h0, om, c.g⟩ g (R x) (G x) is)
    (he : ∀ om, ∀ x, x ∈ xs → True → E true ⟨c.hs, c.h0, om, G x⟩ te (RD (encB (fe x)))) (hl : xs.length < 16777216) : EN c (tLc wi g tYes te vs) (OL ((xs.map fe).map encB)) :=
  (n_lcGM (p := fun _ => true) hs hw his hg (fun _ _ _ => t_yes) (fun om x m _ => he om x m trivial) hl).eqL (by rw [List.filter_eq_self.mpr (fun _ _ => rfl)])
theorem DtAll.set {H : Hp} {vs : List V} {ds : List PyData} (h : DtAll H vs ds) : ∀ {j : Nat} {v : V} {d : PyData}, Dt H v d → DtAll H (vs.set j v) (ds.set j d) := by
  induction vs generalizing ds with
  | nil => cases h; intro j v d _; exact .nil
  | cons u vs ih =>
    cases h with
    | cons a b =>
      intro j v d r
      cases j with
      | zero => exact .cons r b
      | succ j => exact .cons a (ih b r)
theorem o_intB {x : Bool} : On (fun xs H Q => (∃ i, xs = [.int i] ∧ Q (.int i) H) ∨ ∃ k, xs = [.bl k] ∧ Q (.int (if k then 1 else 0)) H) [RD (.bool x)] (RD (.int (if x = true then 1 else 0))) := fun H M vs _ r Q q => by
  obtain ⟨v, r', rfl, h1, rfl⟩ := r
  cases h1
  refine .inr ⟨_, rfl, ?_⟩
  cases x
  · exact q H _ (Kp.refl _) (.int _)
  · exact q H _ (Kp.refl _) (.int _)
/-- t[i], t a tuple of things of one kind -/
theorem e_ixTL {b : Bool} {ta tb : TE} {i : Int} [Inhabited α] (ha : E b c ta (RD (.tuple (xs.map f)))) (hi : E b c tb (RD (.int i))) (z : -(xs.length : Int) ≤ i ∧ i < xs.length) : E b c (tOp (rIxT K) ta tb) (RD (f (ix xs i))) := e_op (o_ixT (ix_at z)) ha hi
end
abbrev eH3 {α β γ : Type} (f : α → PyData) (g : β → PyData) (k : γ → PyData) : α × β × γ → PyData := fun p => .list [f p.1, g p.2.1, k p.2.2]
/-- a tuple of numbers, written or made -/
def RTI (K : PySem.W.Frag) (ns : List Int) : Rel := ⟨fun H v => ∃ a, v = .ref a ∧ SqT K H a (ns.map V.int), fun k ⟨a, e, h⟩ => ⟨a, e, by
  rcases h with (h | ⟨o, h⟩) | h
  · exact .inl (.inl (k.tup h))
  · exact .inl (.inr ⟨o, k.at_ _ _ h fun _ z => nomatch z⟩)
  · exact .inr h⟩⟩
theorem RTI.dp {K : PySem.W.Frag} {ns : List Int} {H : Hp} {v : V} (h : (RTI K ns).p H v) : Dp K H v (.tuple (ns.map PyData.int)) := by
  obtain ⟨a, rfl, h⟩ := h
  refine .tup h ?_
  clear h
  induction ns with
  | nil => exact .nil
  | cons n ns ih => exact .cons (.int n) ih
end Pk
namespace Pk
open PySem L2 PySem.Spec PyProof.Rows GxR NdefX
section
variable {α : Type} (lt : α → α → Bool)
/-- the item at i is not less than that above it -/
def OkH (ts : Array α) (i : Nat) : Prop := ∀ (h : i < ts.size) (_ : 0 < i), lt ts[i] (ts[(i - 1) / 2]'(by omega)) = false
variable {lt}
end
section
variable {prog : Program} {w : World} {A : Around} {s0 : Shared} {l : Addr} {α : Type} {val : α → Value} {lt : α → α → Bool} {R : Result → Shared → Prop} {res : Value}
/-- the list at l holds these; all else stands as it did -/
structure Hl (h0 : Heap) (l : Addr) (val : α → Value) (ts : Array α) (h : Heap) : Prop where
  at_ : ∃ n : Nat, h.get? l = some { cls := .type "list", data := .seq (ts.map val) n }
  keep : ∀ b o, b ≠ l → h0.get? b = some o → h.get? b = some o
theorem swap_map {val : α → Value} {ts : Array α} {i j : Nat} (hi : i < ts.size) (hj : j < ts.size) : ((ts.map val).setIfInBounds i (val ts[j])).setIfInBounds j (val ts[i]) = (ts.swap i j hi hj).map val := by
  refine Array.ext_getElem? fun k => ?_
  rw [Array.getElem?_setIfInBounds, Array.getElem?_setIfInBounds, Array.getElem?_map, Array.getElem?_map]
  simp only [Array.size_setIfInBounds, Array.size_map]
  by_cases e1 : j = k
  · subst e1
    rw [if_pos rfl, if_pos hj, Array.getElem?_eq_getElem (by simpa using hj), Array.getElem_swap]
    by_cases e2 : j = i
    · subst e2; simp
    · rw [if_neg e2, if_pos rfl]; rfl
  · rw [if_neg e1]
    by_cases e2 : i = k
    · subst e2
      rw [if_pos rfl, if_pos hi, Array.getElem?_eq_getElem (by simpa using hi), Array.getElem_swap, if_pos rfl]; rfl
    · rw [if_neg e2]
      by_cases hk : k < ts.size
      · rw [Array.getElem?_eq_getElem hk, Array.getElem?_eq_getElem (by simpa using hk), Array.getElem_swap, if_neg (Ne.symm e2), if_neg (Ne.symm e1)]
      · rw [Array.getElem?_eq_none (by omega), Array.getElem?_eq_none (by simpa using hk)]
theorem Hl.swap {h0 h : Heap} {l : Addr} {val : α → Value} {ts : Array α} (H : Hl h0 l val ts h) {i j : Nat} (hi : i < ts.size) (hj : j < ts.size) :
    Hl h0 l val (ts.swap i j hi hj) (h.update l (Obj.mapSeq fun xs => (xs.setIfInBounds i (val ts[j])).setIfInBounds j (val ts[i]))) := by
  obtain ⟨n, e⟩ := H.at_
  have q := PySem.IsL.update e fun xs => (xs.setIfInBounds i (val ts[j])).setIfInBounds j (val ts[i])
  rw [swap_map hi hj] at q
  exact ⟨⟨_, q⟩, fun b o hb eo => (Heap.get?_update_other h _ (Ne.symm hb)).trans (H.keep b o hb eo)⟩
theorem Hl.push {h0 h : Heap} {l : Addr} {val : α → Value} {ts : Array α} (H : Hl h0 l val ts h) (a : α) : Hl h0 l val (ts.push a) (h.update l (Obj.mapSeq (·.push (val a)))) := by
  obtain ⟨n, e⟩ := H.at_
  have q := PySem.IsL.update e (·.push (val a))
  rw [← Array.map_push] at q
  exact ⟨⟨_, q⟩, fun b o hb eo => (Heap.get?_update_other h _ (Ne.symm hb)).trans (H.keep b o hb eo)⟩
end
abbrev QI : Type := Int × Pl
def ltQ (p q : QI) : Bool := decide (p.1 < q.1 ∨ (p.1 = q.1 ∧ (p.2.1 < q.2.1 ∨ (p.2.1 = q.2.1 ∧ p.2.2 < q.2.2))))
def HeapQ (qs : List QI) : Prop := ∀ i, OkH ltQ qs.toArray i
theorem HeapQ.nil : HeapQ [] := fun i h => absurd h (Nat.not_lt_zero _)
end Pk
namespace Pk
open PySem L2 PySem.Spec PyProof.Rows GxR NdefX
structure OrdD {α : Type} (enc : α → PyData) (lt : α → α → Bool) : Prop where
  lt_eq : ∀ a b, PySem.W.dataLt (enc a) (enc b) = lt a b
  al : ∀ a b, PySem.W.alike (enc a) (enc b) = true
  tup : ∀ a, ∃ x r, enc a = .tuple (x :: r)
  inj : ∀ a b, enc a = enc b → a = b
  dep : ∀ a, (enc a).depth ≤ 8
  nod : ∀ a, Pk.nod (enc a) = true
section
variable {X : Cx} {α : Type} {enc : α → PyData} {lt : α → α → Bool}
theorem OrdD.ne (O : OrdD enc lt) (a : α) : enc a ≠ .none := by
  obtain ⟨x, r, e⟩ := O.tup a
  rw [e]
  exact fun z => nomatch z
end
end Pk
namespace Pk
open PySem L2 PySem.Spec PyProof.Rows GxR NdefX
/-- what can be held fast here -/
def DL : HO → Prop
  | .dT _ => True
  | .dK _ => True
  | .ext _ => True
  | _ => False
theorem DL.t {u : HO} (h : DL u) (xs : List V) : u ≠ .tup xs := fun e => by rw [e] at h; exact h
theorem DL.b {u : HO} (h : DL u) (ps) : u ≠ .tbl ps := fun e => by rw [e] at h; exact h
theorem DL.m {u : HO} (h : DL u) : Mut (some u) := by
  cases u <;> first | exact trivial | exact h.elim
/-- what stands though a dict is held fast -/
def Lk (R : Rel) : Prop := ∀ (H : Hp) (v : V) (d : Addr) (u : HO) (od : Obj), DL u → H d = some u → R.p H v → R.p (upd H d (.frz od u)) v
def AllLk : List Slot → Prop
  | [] => True
  | .fz R :: g => Lk R ∧ AllLk g
  | _ :: g => AllLk g
theorem AllLk.at : ∀ {g : List Slot}, AllLk g → ∀ {j : Nat} {R : Rel}, g[j]? = some (.fz R) → Lk R
  | [], _, _, _, e => by simp at e
  | .fz S :: g, h, 0, R, e => by cases e; exact h.1
  | .fz S :: g, h, j + 1, R, e => AllLk.at (g := g) h.2 e
  | .any :: g, h, 0, R, e => by cases e
  | .any :: g, h, j + 1, R, e => AllLk.at (g := g) h e
  | .own C :: g, h, 0, R, e => by cases e
  | .own C :: g, h, j + 1, R, e => AllLk.at (g := g) h e
section
variable {c : Ct} {t te : TE}
def OLk (C : Own) : Prop := ∀ (H : Hp) (o : HO) (d : Addr) (u : HO) (od : Obj), DL u → H d = some u → C.p H o → C.p (upd H d (.frz od u)) o
def AllLk2 : List Slot → Prop
  | [] => True
  | .fz R :: g => Lk R ∧ AllLk2 g
  | .own C :: g => OLk C ∧ AllLk2 g
  | .any :: g => AllLk2 g
theorem AllLk2.at : ∀ {g : List Slot}, AllLk2 g → ∀ {j : Nat}, (∀ (R : Rel), g[j]? = some (.fz R) → Lk R) ∧ ∀ (C : Own), g[j]? = some (.own C) → OLk C
  | [], _, _ => And.intro (fun _ e => by simp at e) (fun _ e => by simp at e)
  | .fz S :: g, h, 0 => And.intro (fun _ e => by cases e; exact h.1) (fun _ e => by cases e)
  | .fz S :: g, h, j + 1 => AllLk2.at (g := g) h.2
  | .any :: g, h, 0 => And.intro (fun _ e => by cases e) (fun _ e => by cases e)
  | .any :: g, h, j + 1 => AllLk2.at (g := g) h
  | .own C :: g, h, 0 => And.intro (fun _ e => by cases e) (fun _ e => by cases e; exact h.1)
  | .own C :: g, h, j + 1 => AllLk2.at (g := g) h.2
end
end Pk
namespace Pk
open PySem L2 PySem.Spec PyProof.Rows GxR NdefX
section
variable {X : Cx}
/-- sum(t), t a tuple of numbers -/
def rSumT (K : PySem.W.Frag) : List V → Hp → VK → Prop := fun vs H Q => ∃ (a : Addr) (ns : List Int), vs = [V.ref a] ∧ SqT K H a (ns.map V.int) ∧ Q (.int ns.sum) H
theorem cr_sumT (hc : X.calm = true) : CallR X (.builtin "sum") (rSumT X.K) := by
  intro pins s σ H vs us Q I r h
  obtain ⟨a, ns, rfl, hs, q⟩ := h
  obtain ⟨its, rv, hl, _⟩ := I.tuple hs
  rw [Vals.ref1 r]
  obtain ⟨xs, hx⟩ := (rv.ints).allInts.items
  have hn : numsOf its.toArray.toList = ns := by rw [show its.toArray.toList = its by simp, (rv.ints).numsOf]
  have hl : s.heap.IsTuple a its.toArray := hl
  rw [hx] at hl hn
  rw [nums_intItems] at hn
  refine PySem.W.ktm_sumG (I.ok.hd hc) hl fun h' tk t' kk => ⟨.int ns.sum, H, I.kept kk, ⟨t', ?_⟩, q⟩
  rw [preSum_eq, List.take_of_length_le (by simp), hn]
end
section
variable {b : Bool} {c : Ct} {K : PySem.W.Frag} {ta tb te tl : TE} {tt : TT} {wi : TI} {g : TG} {α : Type} {xs ys : List α} {enc : α → PyData}
theorem dt_tup {H : Hp} {v : V} {ds : List PyData} (h : Dt H v (.tuple ds)) : ∃ a vs, v = .ref a ∧ H a = some (.tup vs) ∧ DtAll H vs ds := by
  cases h with
  | tup e a => exact ⟨_, _, rfl, e, a⟩
theorem o_catT (l : xs.length + ys.length ≤ 16777216) : O2 (rCatA K) (RD (.tuple (xs.map enc))) (RD (.tuple (ys.map enc))) (RD (.tuple ((xs ++ ys).map enc))) := fun H M x y hd r1 r2 Q q => by
  obtain ⟨a, vs, rfl, ea, ra⟩ := dt_tup r1
  obtain ⟨a2, us, rfl, eb, rb⟩ := dt_tup r2
  have la := ra.len
  have lb := rb.len
  rw [List.length_map] at la lb
  refine ⟨a, a2, vs, us, rfl, rfl, SqT.of (less_some ea).2, SqT.of (less_some eb).2, by rw [la, lb, sizeLine_eq]; exact l, fun e => ?_, fun _ e => ?_, fun _ _ p n => ?_⟩
  · subst e
    have : xs = [] := List.eq_nil_of_length_eq_zero (by simpa using la.symm)
    subst this
    exact q H _ (Kp.refl _) r2
  · subst e
    have : ys = [] := List.eq_nil_of_length_eq_zero (by simpa using lb.symm)
    subst this
    rw [List.append_nil] at q
    exact q H _ (Kp.refl _) r1
  · obtain ⟨k, d⟩ := tup_new hd n (ra.app rb)
    refine q _ _ k ?_
    show Dt _ _ (.tuple ((xs ++ ys).map enc))
    rw [List.map_append]
    exact d
theorem e_slT {lo hi : Option Int} {tl' th : TO} (h : E true c ta (RD (.tuple (xs.map enc)))) (hl : EO c tl' lo) (hh : EO c th hi) : E true c (tSl (rSlA K) ta tl' th) (RD (.tuple ((cutL xs lo hi).map enc))) := fun σ H s Q q =>
  h σ H s _ fun H1 v k1 r1 => hl σ H1 (s.kp k1) _ fun H2 k2 => hh σ H2 ((s.kp k1).kp k2) _ fun H3 k3 => by
    obtain ⟨a, vs, rfl, ea, ra⟩ := dt_tup ((RD (.tuple (xs.map enc))).mn (hb_kp (k2.trans k3)) r1)
    have e : HT.sIx vs.length 0 lo = HT.sIx xs.length 0 lo := by rw [ra.len, List.length_map]
    have s3 := ((s.kp k1).kp k2).kp k3
    have cut : DtAll (hb true c σ H3) (cutV vs lo hi) ((cutL xs lo hi).map enc) := by
      rw [← cutD_map]
      exact ra.cut lo hi
    refine ⟨a, vs, rfl, SqT.of (less_some ea).2, fun w => ?_, fun _ p n => ?_⟩
    · refine q H3 _ ((k1.trans k2).trans k3) ?_
      have z : cutV vs lo hi = vs := by
        unfold cutV
        rw [w.1, w.2, List.drop_zero, Nat.sub_zero, List.take_length]
      rw [z] at cut
      exact .tup ea cut
    · obtain ⟨k, d⟩ := tup_new s3.hd n cut
      exact q _ _ (((k1.trans k2).trans k3).trans k) d
theorem o_lenTM : On (fun xs H Q => ∃ x n, xs = [x] ∧ LenV K x H n ∧ Q (.int n) H) [RD (.tuple (xs.map enc))] (RD (.int xs.length)) := by
  have := o_lenT (K := K) (ds := xs.map enc)
  rw [List.length_map] at this
  exact this
theorem o_sumT {ns : List Int} : On (rSumT K) [RD (.tuple (ns.map PyData.int))] (RD (.int ns.sum)) := fun H M vs _ r Q q => by
  obtain ⟨v, r', rfl, h1, rfl⟩ := r
  obtain ⟨a, vs, rfl, ea, ra⟩ := dt_tup h1
  refine ⟨a, ns, rfl, ?_, q H _ (Kp.refl _) (.int _)⟩
  rw [← ra.ints]
  exact SqT.of (less_some ea).2
/-- x in (a, b, ..), flat things -/
theorem inV_intsM {i : Int} {ns : List Int} : inV (.int i) (ns.map V.int) = decide (i ∈ ns) := by
  unfold inV
  rw [List.any_map, Bool.eq_iff_iff, List.any_eq_true, decide_eq_true_eq]
  constructor
  · rintro ⟨j, hj, e⟩
    have e : (j == i) = true := e
    rw [beq_iff_eq] at e
    rw [← e]
    exact hj
  · intro h
    exact ⟨i, h, by show (i == i) = true; simp⟩
theorem flat_intsM (ns : List Int) : (ns.map V.int).all flatV = true := by
  rw [List.all_map, List.all_eq_true]
  exact fun _ _ => rfl
theorem o_inI {i : Int} {ns : List Int} (neg : Bool) : O2 (rIn K neg) (RD (.int i)) (RD (.tuple (ns.map PyData.int))) (RD (.bool (if neg then !decide (i ∈ ns) else decide (i ∈ ns)))) := fun H M x y hd r1 r2 Q q => by
  cases r1
  obtain ⟨a, vs, rfl, ea, ra⟩ := dt_tup r2
  have e := ra.ints
  subst e
  refine ⟨a, _, rfl, .inr (SqT.of (less_some ea).2), rfl, flat_intsM ns, q H _ (Kp.refl _) ?_⟩
  rw [inV_intsM]
  exact .bl _
variable {PT : Addr} {fr : List (Option Nat)} {is : List Nat} {g0 : List Slot}
end
end Pk
namespace Pk
section
variable {α : Type} [DecidableEq α] {e : α → List (α × Int)} {s : α}
/-- a walk of this length leads from s to p -/
inductive Wk (e : α → List (α × Int)) (s : α) : α → Int → Prop
  | nil : Wk e s s 0
  | snoc {q p : α} {d l : Int} : Wk e s q d → (p, l) ∈ e q → Wk e s p (d + l)
/-- the distance -/
def Dst (e : α → List (α × Int)) (s p : α) (d : Int) : Prop := Wk e s p d ∧ ∀ d', Wk e s p d' → d ≤ d'
def PosE (e : α → List (α × Int)) : Prop := ∀ q p l, (p, l) ∈ e q → 1 ≤ l
theorem Wk.nn (hp : PosE e) {p : α} {d : Int} (h : Wk e s p d) : 0 ≤ d := by
  induction h with
  | nil => exact Int.le_refl 0
  | snoc _ m ih =>
    have := hp _ _ _ m
    omega
theorem Dst.uniq {p : α} {d d' : Int} (h : Dst e s p d) (h' : Dst e s p d') : d = d' := Int.le_antisymm (h.2 _ h'.1) (h'.2 _ h.1)
theorem Dst.self (hp : PosE e) : Dst e s s 0 := ⟨.nil, fun _ h => h.nn hp⟩
theorem Dst.pred (hp : PosE e) {p : α} {d : Int} (h : Dst e s p d) : (p = s ∧ d = 0) ∨ ∃ q dq l, Dst e s q dq ∧ (p, l) ∈ e q ∧ d = dq + l := by
  obtain ⟨w, m⟩ := h
  cases w with
  | nil => exact .inl ⟨rfl, rfl⟩
  | @snoc q _ d l w k => exact .inr ⟨q, d, l, ⟨w, fun d1 w1 => by have := m _ (.snoc w1 k); omega⟩, k, rfl⟩
theorem Dst.zero (hp : PosE e) {p : α} (h : Dst e s p 0) : p = s := by
  rcases h.pred hp with ⟨h1, _⟩ | ⟨q, dq, l, h1, h2, h3⟩
  · exact h1
  · have := h1.1.nn hp
    have := hp _ _ _ h2
    omega
/-- a table that leaves nothing to do tells the distances -/
theorem closed_dst (hp : PosE e) {f : α → Option Int} (h0 : f s = some 0) (hw : ∀ p d, f p = some d → Wk e s p d) (hc : ∀ q d p l, f q = some d → (p, l) ∈ e q → ∃ d', f p = some d' ∧ d' ≤ d + l) (p : α) (d : Int) : f p = some d ↔ Dst e s p d := by
  have key : ∀ {p : α} {d' : Int}, Wk e s p d' → ∃ d'', f p = some d'' ∧ d'' ≤ d' := fun {p d'} w => by
    induction w with
    | nil => exact ⟨0, h0, Int.le_refl _⟩
    | snoc _ m ih =>
      obtain ⟨d2, h2, l2⟩ := ih
      obtain ⟨d3, h3, l3⟩ := hc _ _ _ _ h2 m
      exact ⟨d3, h3, by omega⟩
  constructor
  · intro h
    refine ⟨hw _ _ h, fun d' w => ?_⟩
    obtain ⟨d2, h2, l2⟩ := key w
    rw [h] at h2
    cases h2
    exact l2
  · intro h
    obtain ⟨d2, h2, l2⟩ := key h.1
    have := h.2 _ (hw _ _ h2)
    rw [h2, show d2 = d by omega]
/-- how many places are nearer -/
noncomputable def cnt (e : α → List (α × Int)) (s : α) (V : List α) (d : Int) : Nat := by
  classical exact (V.filter fun q => decide (∃ dq, Dst e s q dq ∧ dq < d)).length
/-- a turn over the places hs of a table f0 has come to f; ch: something has changed -/
structure Turn (e : α → List (α × Int)) (s : α) (f0 : α → Option Int) (hs : List α) (f : α → Option Int) (ch : Bool) : Prop where
  zero : f s = some 0
  walk : ∀ p d, f p = some d → Wk e s p d
  mono : ∀ p d, f0 p = some d → ∃ d', f p = some d' ∧ d' ≤ d
  done : ∀ q ∈ hs, ∀ dq, Dst e s q dq → f0 q = some dq → ∀ p l, (p, l) ∈ e q → ∃ d', f p = some d' ∧ d' ≤ dq + l
  same : ch = false → (∀ p, f p = f0 p) ∧ ∀ q ∈ hs, ∀ dq, f0 q = some dq → ∀ p l, (p, l) ∈ e q → ∃ d', f p = some d' ∧ d' ≤ dq + l
/-- inside: at the place q with the number dq, the first links es of it -/
structure Step (e : α → List (α × Int)) (s : α) (f0 : α → Option Int) (hs : List α) (q : α) (es : List (α × Int)) (f : α → Option Int) (ch : Bool) : Prop extends Turn e s f0 hs f ch where
  part : ∀ dq, Dst e s q dq → f0 q = some dq → ∀ p l, (p, l) ∈ es → ∃ d', f p = some d' ∧ d' ≤ dq + l
  samp : ch = false → ∀ dq, f0 q = some dq → ∀ p l, (p, l) ∈ es → ∃ d', f p = some d' ∧ d' ≤ dq + l
theorem Turn.start {f0 : α → Option Int} (h0 : f0 s = some 0) (hw : ∀ p d, f0 p = some d → Wk e s p d) : Turn e s f0 [] f0 false :=
  ⟨h0, hw, fun _ d h => ⟨d, h, Int.le_refl _⟩, (fun _ z => nomatch z), fun _ => ⟨fun _ => rfl, fun _ z => nomatch z⟩⟩
theorem Turn.step {f0 f : α → Option Int} {hs : List α} {ch : Bool} (t : Turn e s f0 hs f ch) (q : α) : Step e s f0 hs q [] f ch :=
  { t with part := (fun _ _ _ _ _ z => nomatch z), samp := fun _ _ _ _ _ z => nomatch z }
/-- the value at an exact place stays -/
theorem Turn.exact {f0 f : α → Option Int} {hs : List α} {ch : Bool} (t : Turn e s f0 hs f ch) {q : α} {dq : Int} (h : Dst e s q dq) (h0 : f0 q = some dq) : f q = some dq := by
  obtain ⟨d', h1, h2⟩ := t.mono q dq h0
  have := h.2 _ (t.walk _ _ h1)
  rw [h1, show d' = dq by omega]
/-- a link that changes nothing -/
theorem Step.keep {f0 f : α → Option Int} {hs : List α} {q p : α} {es : List (α × Int)} {ch : Bool} {d l d' : Int} (t : Step e s f0 hs q es f ch) (hq : f q = some d) (hp : f p = some d') (le : d' ≤ d + l) : Step e s f0 hs q (es ++ [(p, l)]) f ch := by
  refine { t with part := fun dq h1 h2 p' l' m => ?_, samp := fun c dq h2 p' l' m => ?_ }
  · rcases List.mem_append.mp m with z | z
    · exact t.part dq h1 h2 p' l' z
    · have e1 := List.mem_singleton.mp z
      cases e1
      have := t.exact h1 h2
      rw [hq] at this
      cases this
      exact ⟨d', hp, le⟩
  · rcases List.mem_append.mp m with z | z
    · exact t.samp c dq h2 p' l' z
    · have e1 := List.mem_singleton.mp z
      cases e1
      have := (t.same c).1 q
      rw [hq, h2] at this
      cases this
      exact ⟨d', hp, le⟩
/-- a turn without a change -/
theorem Turn.stop {f0 f : α → Option Int} {hs : List α} (hpos : PosE e) (hk : ∀ q, f0 q ≠ none → q ∈ hs) (t : Turn e s f0 hs f false) (p : α) (d : Int) : f p = some d ↔ Dst e s p d := by
  obtain ⟨h1, h2⟩ := t.same rfl
  refine closed_dst hpos t.zero t.walk (fun q dq p l hq m => ?_) p d
  rw [h1] at hq
  exact h2 q (hk q (by rw [hq]; exact fun z => nomatch z)) dq hq p l m
end
end Pk
namespace Pk
open PySem L2 PySem.Spec PyProof.Rows GxR NdefX
abbrev MapE := List ((Pl × Pl) × Int)
def keyP (p : Pl) : NestedKey := .tup [.num p.1, .num p.2]
def keyE (e : Pl × Pl) : NestedKey := .tup [keyP e.1, keyP e.2]
theorem keyE_inj {e f : Pl × Pl} (h : keyE e = keyE f) : e = f := by
  unfold keyE keyP at h
  simp only [NestedKey.tup.injEq, List.cons.injEq, NestedKey.num.injEq, and_true] at h
  exact Prod.ext (Prod.ext h.1.1 h.1.2) (Prod.ext h.2.1 h.2.2)
/-- the tuple of the two -/
def PairAt (H : Hp) (t : Addr) (e : Pl × Pl) : Prop := ∃ u v, H t = some (.tup [.ref u, .ref v]) ∧ H u = some (.tup [.int e.1.1, .int e.1.2]) ∧ H v = some (.tup [.int e.2.1, .int e.2.2])
section
variable {P : Program} {w : World} {H : Hp} {h : Heap}
theorem nested_pl {t : Addr} {p : Pl} (ok : HOk P w H h) (k : H t = some (.tup [.int p.1, .int p.2])) : NestedIs h (keyP p) (.ref t) := by
  obtain ⟨_, its, r, o, h1, h2, n, h3⟩ := (show ObjOk P w H h t (.tup [.int p.1, .int p.2]) from ok t _ k)
  obtain ⟨a, b, rfl, ra, rb⟩ := vals2 r
  obtain ⟨ta, rfl⟩ := ra
  obtain ⟨tb, rfl⟩ := rb
  exact .tup h1 h2 h3 (.cons (.int _ _) (.cons (.int _ _) .nil))
theorem PairAt.is {t : Addr} {e : Pl × Pl} (ok : HOk P w H h) (k : PairAt H t e) : (nestedKind P w).is h (keyE e) t := by
  obtain ⟨u, v, k1, k2, k3⟩ := k
  obtain ⟨_, its, r, o, h1, h2, n, h3⟩ := (show ObjOk P w H h t (.tup [.ref u, .ref v]) from ok t _ k1)
  obtain ⟨a, b, rfl, ra, rb⟩ := vals2 r
  cases ra
  cases rb
  exact ⟨.tup h1 h2 h3 (.cons (nested_pl ok k2) (.cons (nested_pl ok k3) .nil)), by show (2 : Nat) ≤ 8; decide⟩
/-- what stands at a -/
def PDAt (P : Program) (w : World) (a : Addr) (xs : List (NestedKey × Addr × Value)) : Heap → Prop := fun h => (a == sysModules) = false ∧ ∃ o es ep, h.get? a = some o ∧ o.ExactDict ∧ o.data = .dict es ep ∧ es.toList = xs.map (entryOfKey (nestedKind P w))
abbrev RowE (H : Hp) : (Pl × Pl) × Int → NestedKey × Addr × Value → Prop := fun m x => x.1 = keyE m.1 ∧ PairAt H x.2.1 m.1 ∧ RelV (.int m.2) x.2.2
def PDOf (P : Program) (w : World) (H : Hp) (a : Addr) (M : MapE) : Prop := ∃ (a' : Addr) (xs : List (NestedKey × Addr × Value)), H a = some (.ext (PDAt P w a' xs)) ∧ Paired (RowE H) M xs ∧ (M.map (·.1)).Nodup ∧ M.length ≤ sizeLine
/-- .. held fast, or not -/
def PDRd (P : Program) (w : World) (H : Hp) (a : Addr) (M : MapE) : Prop := ∃ (a' : Addr) (xs : List (NestedKey × Addr × Value)), (H a = some (.ext (PDAt P w a' xs)) ∨ ∃ o, H a = some (.frz o (.ext (PDAt P w a' xs)))) ∧ Paired (RowE H) M xs ∧ (M.map (·.1)).Nodup ∧ M.length ≤ sizeLine
theorem rowE_is {M : MapE} {xs : List (NestedKey × Addr × Value)} (ok : HOk P w H h) (r : Paired (RowE H) M xs) : ∀ x ∈ xs, (nestedKind P w).is h x.1 x.2.1 := by
  induction r with
  | nil => exact fun _ z => nomatch z
  | cons q _ ih =>
    intro x hx
    rcases List.mem_cons.mp hx with z | z
    · subst z
      rw [q.1]
      exact q.2.1.is ok
    · exact ih x z
theorem rowE_keys {M : MapE} {xs : List (NestedKey × Addr × Value)} (r : Paired (RowE H) M xs) : xs.map (·.1) = (M.map (·.1)).map keyE := by
  induction r with
  | nil => rfl
  | cons q _ ih => rw [List.map_cons, List.map_cons, List.map_cons, ih, q.1]
theorem nodup_keyE {es : List (Pl × Pl)} (h : es.Nodup) : (es.map keyE).Nodup := by
  induction es with
  | nil => exact .nil
  | cons e es ih =>
    rw [List.map_cons, List.nodup_cons]
    obtain ⟨h1, h2⟩ := List.nodup_cons.mp h
    refine ⟨fun z => ?_, ih h2⟩
    obtain ⟨f, hf, q⟩ := List.mem_map.mp z
    rw [← keyE_inj q] at h1
    exact h1 hf
/-- the object that is told of is the one that stands there -/
theorem ext_at {p a : Addr} {xs : List (NestedKey × Addr × Value)} (x : ObjOk P w H h p (.ext (PDAt P w a xs))) : a = p := by
  obtain ⟨φ, _, st⟩ := x
  by_cases z : a = p
  · exact z
  · exfalso
    obtain ⟨G, g1, g2⟩ := restrict h fun b => decide (b ≠ a)
    obtain ⟨_, o, _, _, e, _⟩ := st h G φ fun o ho => by
      rw [g1 p (decide_eq_true fun y => z y.symm)]
      exact ho
    rw [g2 a (decide_eq_false fun y => y rfl)] at e
    cases e
theorem PDRd.dict {a : Addr} {M : MapE} (ok : HOk P w H h) (d : PDRd P w H a M) : ∃ xs, Paired (RowE H) M xs ∧ h.DictOfH (nestedKind P w) a xs := by
  obtain ⟨a', xs, e, r, nd, l⟩ := d
  have ob : ObjOk P w H h a (.ext (PDAt P w a' xs)) := by
    rcases e with e | ⟨o, e⟩
    · exact ok a _ e
    · exact (show ObjOk P w H h a (.frz o (.ext (PDAt P w a' xs))) from ok a _ e).2
  obtain rfl := ext_at ob
  obtain ⟨_, o, es, ep, h1, h2, h3, h4⟩ := ob.1
  exact ⟨xs, r, o, es, ep, h1, h2, h3, h4, rowE_is ok r, by rw [rowE_keys r]; exact nodup_keyE nd⟩
theorem PDOf.dict {a : Addr} {M : MapE} (ok : HOk P w H h) (d : PDOf P w H a M) : ∃ xs, H a = some (.ext (PDAt P w a xs)) ∧ Paired (RowE H) M xs ∧ h.DictOfH (nestedKind P w) a xs ∧ (a == sysModules) = false := by
  obtain ⟨a', xs, e, r, nd, l⟩ := d
  have ob : ObjOk P w H h a (.ext (PDAt P w a' xs)) := ok a _ e
  obtain rfl := ext_at ob
  obtain ⟨hz, o, es, ep, h1, h2, h3, h4⟩ := ob.1
  exact ⟨xs, e, r, ⟨o, es, ep, h1, h2, h3, h4, rowE_is ok r, by rw [rowE_keys r]; exact nodup_keyE nd⟩, hz⟩
end
/-- {} -/
def tPNew (P : Program) (w : World) : TE := fun _ H Q => ∀ p, H p = none → Q (.ref p) (upd H p (.ext (PDAt P w p [])))
section
variable {X : Cx} {o i e value tg : Expr} {pos pos' : Pos} {td ty tv : TE}
theorem pe_pnew : PE X (.Dict [] [] pos) (tPNew X.prog X.w) := ⟨fun pins s σ H Q I h =>
  wpAny_Dict_empty ⟨.ref s.heap.objs.size, _, I.laid (a := s.heap.objs.size) (o := .ext (PDAt X.prog X.w s.heap.objs.size [])) (t' := s.toks) (fun _ _ q => Heap.get?_push_of_some _ q) (Nat.le_refl _)
    ⟨⟨beq_eq_false_iff_ne.mpr (Ne.symm (Nat.ne_of_lt I.big)), _, #[], 0, Heap.get?_push_size _ rfl, ⟨rfl, rfl, rfl⟩, rfl, rfl⟩, ⟨_, Heap.get?_push_size _ rfl⟩, fun h1 h2 k st => by
      obtain ⟨hz, o, es', ep', k1, k2, k3, k4⟩ := k
      exact ⟨hz, o, es', ep', st o k1, k2, k3, k4⟩⟩, rfl, h _ (I.hok.fresh (Nat.le_refl _))⟩⟩
end
end Pk
namespace Pk
open PySem L2 PySem.Spec PyProof.Rows GxR NdefX
structure KeyT {α : Type} (key : α → NestedKey) (KAt : Hp → Addr → α → Prop) : Prop where
  inj : ∀ {a b : α}, key a = key b → a = b
  is : ∀ {P : Program} {w : World} {H : Hp} {h : Heap} {t : Addr} {e : α}, HOk P w H h → KAt H t e → (nestedKind P w).is h (key e) t
  mono : ∀ {H H' : Hp} {t : Addr} {e : α}, (∀ c ys, H c = some (.tup ys) → H' c = some (.tup ys)) → KAt H t e → KAt H' t e
abbrev MapN (α : Type) := List (α × V)
section
variable {α : Type} [DecidableEq α]
def getN (M : MapN α) (e : α) : Option V := (M.find? fun x => decide (x.1 = e)).map (·.2)
def putN (M : MapN α) (e : α) (v : V) : MapN α := if (getN M e).isSome = true then M.map (fun x => if x.1 = e then (x.1, v) else x) else M ++ [(e, v)]
theorem putN_keys (M : MapN α) (e : α) (v : V) (nd : (M.map (·.1)).Nodup) : ((putN M e v).map (·.1)).Nodup ∧ (putN M e v).length ≤ M.length + 1 := by
  unfold putN
  by_cases c : (getN M e).isSome = true
  · rw [if_pos c, List.map_map, List.length_map]
    refine ⟨?_, Nat.le_succ _⟩
    have z : ((fun x : α × V => x.1) ∘ fun x : α × V => if x.1 = e then (x.1, v) else x) = fun x => x.1 := funext fun x => by
      show (if x.1 = e then (x.1, v) else x).1 = x.1
      split <;> rfl
    rw [z]
    exact nd
  · rw [if_neg c, List.map_append, List.length_append]
    refine ⟨List.nodup_append.mpr ⟨nd, by simp, fun y hy y' hy' ez => c ?_⟩, Nat.le_refl _⟩
    obtain ⟨m, hm, rfl⟩ := List.mem_map.mp hy
    have h0 : m.1 = e := by rw [ez]; simpa using hy'
    unfold getN
    rw [Option.isSome_map, List.find?_isSome]
    exact ⟨m, hm, decide_eq_true h0⟩
end
section
variable {α : Type} [DecidableEq α] {key : α → NestedKey} {KAt : Hp → Addr → α → Prop} (T : KeyT key KAt)
abbrev RowN {α : Type} (key : α → NestedKey) (KAt : Hp → Addr → α → Prop) (H : Hp) : α × V → NestedKey × Addr × Value → Prop := fun m x => x.1 = key m.1 ∧ KAt H x.2.1 m.1 ∧ RelV m.2 x.2.2
def NDOf {α : Type} (key : α → NestedKey) (KAt : Hp → Addr → α → Prop) (P : Program) (w : World) (H : Hp) (a : Addr) (M : MapN α) : Prop := ∃ (a' : Addr) (xs : List (NestedKey × Addr × Value)), H a = some (.ext (PDAt P w a' xs)) ∧ Paired (RowN key KAt H) M xs ∧ (M.map (·.1)).Nodup ∧ M.length ≤ sizeLine
variable {P : Program} {w : World} {H : Hp} {h : Heap}
include T
theorem rowN_is {M : MapN α} {xs : List (NestedKey × Addr × Value)} (ok : HOk P w H h) (r : Paired (RowN key KAt H) M xs) : ∀ x ∈ xs, (nestedKind P w).is h x.1 x.2.1 := by
  induction r with
  | nil => exact fun _ z => nomatch z
  | cons q _ ih =>
    intro x hx
    rcases List.mem_cons.mp hx with z | z
    · subst z
      rw [q.1]
      exact T.is ok q.2.1
    · exact ih x z
omit T in
theorem rowN_keys {M : MapN α} {xs : List (NestedKey × Addr × Value)} (r : Paired (RowN key KAt H) M xs) : xs.map (·.1) = (M.map (·.1)).map key := by
  induction r with
  | nil => rfl
  | cons q _ ih => rw [List.map_cons, List.map_cons, List.map_cons, ih, q.1]
theorem nodup_keyN {es : List α} (h : es.Nodup) : (es.map key).Nodup := by
  induction es with
  | nil => exact .nil
  | cons e es ih =>
    rw [List.map_cons, List.nodup_cons]
    obtain ⟨h1, h2⟩ := List.nodup_cons.mp h
    refine ⟨fun z => ?_, ih h2⟩
    obtain ⟨f, hf, q⟩ := List.mem_map.mp z
    rw [← T.inj q] at h1
    exact h1 hf
theorem rowN_get {M : MapN α} {xs : List (NestedKey × Addr × Value)} (r : Paired (RowN key KAt H) M xs) (e : α) : match getN M e with
    | none => atKey xs (key e) = none
    | some v => ∃ p, atKey xs (key e) = some p ∧ RelV v p.2 := by
  induction r with
  | nil => exact rfl
  | @cons m x M xs q _ ih =>
    unfold getN atKey at ih ⊢
    rw [List.find?_cons, List.find?_cons]
    by_cases c : m.1 = e
    · rw [decide_eq_true c, decide_eq_true (show x.1 = key e by rw [q.1, c])]
      exact ⟨_, rfl, q.2.2⟩
    · rw [decide_eq_false c, decide_eq_false (show ¬ x.1 = key e from fun z => c (T.inj (q.1.symm.trans z)))]
      exact ih
theorem rowN_isSome {M : MapN α} {xs : List (NestedKey × Addr × Value)} (r : Paired (RowN key KAt H) M xs) (e : α) : (atKey xs (key e)).isSome = (getN M e).isSome := by
  have z := rowN_get T r e
  cases g : getN M e with
  | none =>
    rw [g] at z
    rw [show atKey xs (key e) = none from z]
    rfl
  | some v =>
    rw [g] at z
    obtain ⟨p, hp, _⟩ := z
    rw [hp]
    rfl
theorem rowN_map {M : MapN α} {xs : List (NestedKey × Addr × Value)} {e : α} {v : V} {u : Value} (rv : RelV v u) (r : Paired (RowN key KAt H) M xs) : Paired (RowN key KAt H) (M.map fun x => if x.1 = e then (x.1, v) else x) (xs.map (putAt (key e) u)) := by
  induction r with
  | nil => exact .nil
  | @cons m x M xs q _ ih =>
    refine .cons ?_ ih
    show RowN key KAt H (if m.1 = e then (m.1, v) else m) (putAt (key e) u x)
    by_cases c : m.1 = e
    · rw [if_pos c]
      have cx : x.1 = key e := by rw [q.1, c]
      have : putAt (key e) u x = (x.1, x.2.1, u) := by unfold putAt; simp [cx]
      rw [this]
      exact ⟨q.1, q.2.1, rv⟩
    · rw [if_neg c]
      have cx : ¬ x.1 = key e := fun z => c (T.inj (q.1.symm.trans z))
      have : putAt (key e) u x = x := by unfold putAt; simp [cx]
      rw [this]
      exact q
theorem NDOf.dict {a : Addr} {M : MapN α} (ok : HOk P w H h) (d : NDOf key KAt P w H a M) : ∃ xs, H a = some (.ext (PDAt P w a xs)) ∧ Paired (RowN key KAt H) M xs ∧ h.DictOfH (nestedKind P w) a xs ∧ (a == sysModules) = false := by
  obtain ⟨a', xs, e, r, nd, l⟩ := d
  have ob : ObjOk P w H h a (.ext (PDAt P w a' xs)) := ok a _ e
  obtain rfl := ext_at ob
  obtain ⟨hz, o, es, ep, h1, h2, h3, h4⟩ := ob.1
  exact ⟨xs, e, r, ⟨o, es, ep, h1, h2, h3, h4, rowN_is T ok r, by rw [rowN_keys r]; exact nodup_keyN T nd⟩, hz⟩
end
section
variable {α : Type} [DecidableEq α] {key : α → NestedKey} {KAt : Hp → Addr → α → Prop}
variable {X : Cx} {pins : List (Addr × Obj)} {σ : L2.St} {H : Hp} {s : Shared} {A : Around} {E : Value → Shared → Prop}
theorem nd_getItem (T : KeyT key KAt) {Q : Value → Shared → Prop} {a b : Addr} {M : MapN α} {e : α} {v : V} (hu : A.units + 64 < cLine) (I : Inv X pins σ H s) (d : NDOf key KAt X.prog X.w H a M) (hb : KAt H b e) (g : getN M e = some v) (h : ∀ w' s', Inv X pins σ H s' → RelV v w' → Q w' s') :
    wpAny (model X.prog X.w) A (getItem (.ref a) (.ref b)) Q E s := by
  obtain ⟨xs, _, r, dd, _⟩ := d.dict T I.hok
  have z := rowN_get T r e
  rw [g] at z
  obtain ⟨p, hp, rv⟩ := z
  exact wpAny_getItem_heap (by show A.units + 1 + 8 < cLine; omega) (T.is I.hok hb) dd hp (h _ _ (I.tok _) rv)
theorem nd_setItem (T : KeyT key KAt) {Q : Unit → Shared → Prop} {a b : Addr} {M : MapN α} {e : α} {v : V} {u : Value} (hu : A.units + 64 < cLine) (I : Inv X pins σ H s) (d : NDOf key KAt X.prog X.w H a M) (hb : KAt H b e) (l : M.length < sizeLine) (rv : RelV v u)
    (h : ∀ xs s', Inv X pins σ (upd H a (.ext (PDAt X.prog X.w a xs))) s' → NDOf key KAt X.prog X.w (upd H a (.ext (PDAt X.prog X.w a xs))) a (putN M e v) → Q () s') :
    wpAny (model X.prog X.w) A (setItem (.ref a) (.ref b) u) Q E s := by
  obtain ⟨xs, ea, r, dd, ha⟩ := d.dict T I.hok
  obtain ⟨_, _, _, _, nd, _⟩ := d
  have so := rowN_isSome T r e
  obtain ⟨kn, kl⟩ := putN_keys M e v nd
  have hz : xs.length ≤ sizeLine := by rw [← Paired.length r]; omega
  refine wpAny_setItem_heap (hsz := hz) (by show A.units + 1 + 8 < cLine; omega) (T.is I.hok hb) dd fun h' dd' hs => ?_
  obtain ⟨zs, ez⟩ : ∃ zs, storedH xs (key e) b u = zs := ⟨_, rfl⟩
  rw [ez] at dd'
  obtain ⟨q, es, ep, hq, h2, h3, h4, _, h5⟩ := dd'
  have ta : ∀ c ys, H c = some (.tup ys) → upd H a (.ext (PDAt X.prog X.w a zs)) c = some (.tup ys) := fun c ys ec => by
    rw [upd_ne (fun z => by rw [z, ea] at ec; cases ec)]
    exact ec
  have pr : Paired (RowN key KAt H) (putN M e v) zs := by
    rw [← ez]
    unfold putN
    by_cases c : (getN M e).isSome = true
    · rw [if_pos c]
      rw [c] at so
      obtain ⟨p, hp⟩ := Option.isSome_iff_exists.mp so
      rw [storedH_old hp]
      exact rowN_map T rv r
    · rw [if_neg c]
      have c' : (getN M e).isSome = false := by simpa using c
      rw [c'] at so
      rw [storedH_new (by simpa using so)]
      exact Paired.snoc r ⟨rfl, hb, rv⟩
  refine h zs _ (I.write (x := a) (e := a) (by rw [ea]; exact True.intro) (.inl rfl) (fun c v hb z => (hs.2 c hb).trans z) ⟨q, hq⟩ ⟨⟨ha, q, es, ep, hq, h2, h3, h4⟩, ⟨q, hq⟩, fun h1 h2' k st => ?_⟩) ⟨a, _, upd_same, ?_, kn, by omega⟩
  · obtain ⟨_, o, es', ep', k1, k2, k3, k4⟩ := k
    exact ⟨ha, o, es', ep', st o k1, k2, k3, k4⟩
  · exact Paired.mapP pr fun _ _ k => ⟨k.1, T.mono ta k.2.1, k.2.2⟩
end
section
variable {α : Type} [DecidableEq α] {key : α → NestedKey} {KAt : Hp → Addr → α → Prop} {X : Cx} {o e i value : Expr} {pos pos' : Pos} {td ty tv : TE}
/-- d[k], there -/
def tNGet (key : α → NestedKey) (KAt : Hp → Addr → α → Prop) (P : Program) (w : World) (td ty : TE) : TE := fun σ H Q => td σ H fun x H1 => ty σ H1 fun y H2 => ∃ a b M e v, x = .ref a ∧ y = .ref b ∧ NDOf key KAt P w H2 a M ∧ KAt H2 b e ∧ getN M e = some v ∧ Q v H2
/-- k in d, k not in d -/
def rNIn (key : α → NestedKey) (KAt : Hp → Addr → α → Prop) (P : Program) (w : World) (f : Bool → Bool) : R2 := fun x y H Q => ∃ (a b : Addr) (M : MapN α) (e : α), x = .ref b ∧ y = .ref a ∧ NDOf key KAt P w H a M ∧ KAt H b e ∧ Q (.bl (f (getN M e).isSome)) H
/-- d[k] = v -/
def sNPut (key : α → NestedKey) (KAt : Hp → Addr → α → Prop) (P : Program) (w : World) (td ty tv : TE) : TS := fun D σ H => tv σ H fun v H1 => td σ H1 fun x H2 => ty σ H2 fun y H3 => ∃ a b M e, x = .ref a ∧ y = .ref b ∧ NDOf key KAt P w H3 a M ∧ KAt H3 b e ∧ M.length < sizeLine ∧
  ∀ xs, NDOf key KAt P w (upd H3 a (.ext (PDAt P w a xs))) a (putN M e v) → D.nx σ (upd H3 a (.ext (PDAt P w a xs)))
theorem pe_nget (T : KeyT key KAt) (hu : X.A.units + 64 < cLine) (ho : PE X o td) (hi : PE X i ty) (hs : NoSl i) : PE X (.Subscript o i pos) (tNGet key KAt X.prog X.w td ty) := by
  refine ⟨fun pins s σ H Q I h => ?_⟩
  refine subD_of PySem.F.slot_dict_getitem.lookup hs (thn (ho.run pins s σ H _ I h) fun u s1 ⟨x, H1, I1, rx, q1⟩ => thn (hi.run pins s1 σ H1 _ I1 q1) fun iv s2 ⟨y, H2, I2, ry, a, b, M, e, v, ex, ey, d, hb, g, q2⟩ => ?_)
  subst ex ey
  obtain rfl : u = Value.ref a := rx
  obtain rfl : iv = Value.ref b := ry
  obtain ⟨xs, _, _, dd, _⟩ := d.dict T I2.hok
  exact ⟨dd.typeIs, nd_getItem T hu I2 d hb g fun w' s3 I3 rw' => ⟨_, H2, I3, rw', q2⟩⟩
theorem op_notInN (T : KeyT key KAt) (hu : X.A.units + 64 < cLine) : OpR X (compareOp .NotIn) (rNIn key KAt X.prog X.w not) := by
  intro pins s σ H x y v u Q I rx ry h
  obtain ⟨a, b, M, e, rfl, rfl, d, hb, q⟩ := h
  obtain rfl : v = Value.ref b := rx
  obtain rfl : u = Value.ref a := ry
  obtain ⟨xs, _, r, dd, ha⟩ := d.dict T I.hok
  show wpAny _ _ (do return Value.bool (!(← contains (.ref a) (.ref b)))) _ _ s
  refine wpAny_bind (wpAny_contains_heap (by show X.A.units + 1 + 8 < cLine; omega) (T.is I.hok hb) ha dd (wpAny_pure ?_))
  rw [rowN_isSome T r]
  exact ⟨.bl _, H, I.tok _, rfl, q⟩
theorem ps_nput (T : KeyT key KAt) (hu : X.A.units + 64 < cLine) (ho : PE X o td) (hi : PE X i ty) (hv : PE X value tv) (hs : swapsWith value (some (.Subscript o i pos')) pos.line X.env = pure false) :
    PS X (.Assign [.Subscript o i pos'] value pos) (sNPut key KAt X.prog X.w td ty tv) := by
  refine ⟨fun pins s σ H D I h => ?_⟩
  refine wpAny_Assign_Subscript (thn (hv.run pins s σ H _ I h) fun r s1 ⟨v, H1, I1, rv, q1⟩ => thn (ho.run pins s1 σ H1 _ I1 q1) fun u s2 ⟨x, H2, I2, rx, q2⟩ => thn (hi.run pins s2 σ H2 _ I2 q2) fun iv s3 ⟨y, H3, I3, ry, a, b, M, e, ex, ey, d, hb, l, q3⟩ => ?_) hs
  subst ex ey
  obtain rfl : u = Value.ref a := rx
  obtain rfl : iv = Value.ref b := ry
  exact nd_setItem T hu I3 d hb l rv fun xs s4 I4 d4 => ⟨σ, _, I4, q3 xs d4⟩
end
abbrev SG := Int × Int × Bool
def keySG (e : SG) : NestedKey := .tup [.num e.1, .num e.2.1, .num (if e.2.2 = true then 1 else 0)]
def SGAt (H : Hp) (t : Addr) (e : SG) : Prop := H t = some (.tup [.int e.1, .int e.2.1, .bl e.2.2])
theorem keyT_SG : KeyT keySG SGAt := by
  refine ⟨fun {a b} h => ?_, fun {P w H h t e} ok k => ?_, fun {H H' t e} m k => m _ _ k⟩
  · unfold keySG at h
    simp only [NestedKey.tup.injEq, List.cons.injEq, NestedKey.num.injEq, and_true] at h
    obtain ⟨h1, h2, h3⟩ := h
    refine Prod.ext h1 (Prod.ext h2 ?_)
    cases ha : a.2.2 <;> cases hb : b.2.2 <;> rw [ha, hb] at h3 <;> first | rfl | cases h3
  · obtain ⟨_, its, r, o, h1, h2, n, h3⟩ := (show ObjOk P w H h t (.tup [.int e.1, .int e.2.1, .bl e.2.2]) from ok t _ k)
    cases r with
    | cons ra r =>
      cases r with
      | cons rb r =>
        cases r with
        | cons rc r =>
          cases r
          obtain ⟨ta, rfl⟩ := ra
          obtain ⟨tb, rfl⟩ := rb
          have rc : _ = Value.bool e.2.2 := rc
          subst rc
          exact ⟨.tup h1 h2 h3 (NestedAll.cons (NestedIs.int _ _) (NestedAll.cons (NestedIs.int _ _) (NestedAll.cons (NestedIs.bool rfl) NestedAll.nil))), by show (1 : Nat) ≤ 8; decide⟩
end Pk
namespace Pk
section
variable {α : Type} [DecidableEq α] {e : α → List (α × Int)} {s : α}
/-- what is known when the nearest is taken out again and again: q the queue -/
structure Near1 (e : α → List (α × Int)) (s : α) (f : α → Option Int) (qs : List (Int × α)) : Prop where
  ok : ∀ p d, f p = some d → Dst e s p d
  walk : ∀ x ∈ qs, Wk e s x.2 x.1
  edge : ∀ q d p l, f q = some d → (p, l) ∈ e q → f p ≠ none ∨ (d + l, p) ∈ qs
  root : f s ≠ none ∨ (0, s) ∈ qs
/-- .. while what lies beside h is looked at -/
structure Near2 (e : α → List (α × Int)) (s h : α) (n : Int) (es : List (α × Int)) (f : α → Option Int) (qs : List (Int × α)) : Prop where
  ok : ∀ p d, f p = some d → Dst e s p d
  at_ : f h = some n
  walk : ∀ x ∈ qs, Wk e s x.2 x.1
  edge : ∀ q d p l, f q = some d → (p, l) ∈ e q → (q = h → (p, l) ∈ es) → f p ≠ none ∨ (d + l, p) ∈ qs
  root : f s ≠ none
theorem Near1.start : Near1 e s (fun _ => none) [(0, s)] := by
  refine ⟨fun _ _ h => (nomatch h), fun x hx => ?_, fun _ _ _ _ h => (nomatch h), .inr (.head _)⟩
  rw [List.mem_singleton.mp hx]
  exact .nil
theorem Near2.push {f : α → Option Int} {qs qs' : List (Int × α)} {n : Int} {h : α} {es : List (α × Int)} {p : α} {l : Int} (N : Near2 e s h n es f qs) (m0 : (p, l) ∈ e h) (pm : qs'.Perm (qs ++ [(n + l, p)])) : Near2 e s h n (es ++ [(p, l)]) f qs' := by
  refine ⟨N.ok, N.at_, fun x hx => ?_, fun q d p' l' fq m c => ?_, N.root⟩
  · rcases List.mem_append.mp (pm.mem_iff.mp hx) with z | z
    · exact N.walk x z
    · rw [List.mem_singleton.mp z]
      exact .snoc (N.ok _ _ N.at_).1 m0
  · by_cases ch : q = h
    · rcases List.mem_append.mp (c ch) with w | w
      · rcases N.edge q d p' l' fq m fun _ => w with z | z
        · exact .inl z
        · exact .inr (pm.mem_iff.mpr (List.mem_append_left _ z))
      · have z := List.mem_singleton.mp w
        injection z with z1 z2
        rw [ch, N.at_] at fq
        cases fq
        rw [z1, z2]
        exact .inr (pm.mem_iff.mpr (by simp))
    · rcases N.edge q d p' l' fq m fun y => absurd y ch with z | z
      · exact .inl z
      · exact .inr (pm.mem_iff.mpr (List.mem_append_left _ z))
theorem Near2.done {f : α → Option Int} {qs : List (Int × α)} {n : Int} {h : α} (N : Near2 e s h n (e h) f qs) : Near1 e s f qs := ⟨N.ok, N.walk, fun q d p l fq m => N.edge q d p l fq m fun c => by rw [← c]; exact m, .inl N.root⟩
structure Way (e : α → List (α × Int)) (s : α) (D : α → Int) (ws : List α) : Prop where
  ne : ws ≠ []
  on : ∀ p ∈ ws, ∃ d, Dst e s p d
  step : ∀ (j : Nat) (h : j + 1 < ws.length), ∃ l, (ws[j + 1], l) ∈ e (ws[j]'(by omega)) ∧ D ws[j + 1] + l = D (ws[j]'(by omega))
theorem Way.snoc {D : α → Int} {ws : List α} {p q : α} {l d : Int} (W : Way e s D (ws ++ [p])) (m : (q, l) ∈ e p) (hq : D q + l = D p) (hd : Dst e s q d) : Way e s D ((ws ++ [p]) ++ [q]) := by
  refine ⟨by simp, fun x hx => ?_, fun j hj => ?_⟩
  · rcases List.mem_append.mp hx with z | z
    · exact W.on x z
    · rw [List.mem_singleton.mp z]
      exact ⟨d, hd⟩
  · rw [List.length_append, List.length_singleton] at hj
    by_cases c : j + 1 < (ws ++ [p]).length
    · obtain ⟨l', h1, h2⟩ := W.step j c
      refine ⟨l', ?_⟩
      rw [List.getElem_append_left c, List.getElem_append_left (show j < (ws ++ [p]).length by omega)]
      exact ⟨h1, h2⟩
    · have ej : j = ws.length := by
        rw [List.length_append, List.length_singleton] at c hj
        omega
      subst ej
      refine ⟨l, ?_⟩
      have e1 : ((ws ++ [p]) ++ [q])[ws.length + 1]'(by simp) = q := by simp
      have e2 : ((ws ++ [p]) ++ [q])[ws.length]'(by simp) = p := by simp
      rw [e1, e2]
      exact ⟨m, hq⟩
theorem Way.fall (hp : PosE e) {D : α → Int} {ws : List α} (W : Way e s D ws) : ∀ (n j : Nat) (h : j + n < ws.length), D ws[j + n] + n ≤ D (ws[j]'(by omega))
  | 0, j, h => by simp
  | n + 1, j, h => by
    have a := W.fall hp n j (by omega)
    obtain ⟨l, m, q⟩ := W.step (j + n) h
    have := hp _ _ _ m
    have e1 : D ws[j + (n + 1)] = D ws[j + n + 1] := rfl
    omega
theorem Way.nodup (hp : PosE e) {D : α → Int} {ws : List α} (W : Way e s D ws) : ws.Nodup := by
  rw [List.nodup_iff_pairwise_ne, List.pairwise_iff_getElem]
  intro i j hi hj lt z
  have := W.fall hp (j - i) i (by omega)
  have e1 : ws[i + (j - i)]'(by omega) = ws[j] := by congr 1; omega
  rw [e1, ← z] at this
  omega
theorem Way.most (hp : PosE e) {D : α → Int} {ws U : List α} (W : Way e s D ws) (hU : ∀ p d, Wk e s p d → p ∈ U) : ws.length ≤ U.length := by
  have : ∀ {a b : List α}, a.Nodup → (∀ x ∈ a, x ∈ b) → a.length ≤ b.length := fun {a} => by
    induction a with
    | nil => intro b _ _; exact Nat.zero_le _
    | cons x a ih =>
      intro b nd h
      have hx := h x List.mem_cons_self
      have ih := ih (b := b.erase x) (List.nodup_cons.mp nd).2 fun y hy => by
        have ne : y ≠ x := fun z => (List.nodup_cons.mp nd).1 (by rw [← z]; exact hy)
        exact (List.mem_erase_of_ne ne).mpr (h y (List.mem_cons_of_mem _ hy))
      rw [List.length_erase_of_mem hx] at ih
      have := List.length_pos_of_mem hx
      rw [List.length_cons]
      omega
  exact this (W.nodup hp) fun x hx => by
    obtain ⟨d, h⟩ := W.on x hx
    exact hU _ _ h.1
end
end Pk
namespace Pk
open PySem L2
def topS (i : Nat) : Stmt := PySem.Challenge.pw_pickaisle_k25_options.main.body.getD i (.Pass ⟨0, 0, 0, 0⟩)
abbrev s_InvalidPlace___init__ : Stmt := inClass (topS 5) 0
theorem sc_InvalidPlace___init__ : FnScope ["self", "place"] ["self", "place"] (defScope s_InvalidPlace___init__) := ⟨rfl, rfl, rfl, by decide +kernel, rfl, by decide +kernel, by decide +kernel⟩
abbrev s_Task___init__ : Stmt := inClass (topS 8) 0
theorem sc_Task___init__ : FnScope ["self", "start", "end", "picks"] ["self", "start", "end", "picks"] (defScope s_Task___init__) := ⟨rfl, rfl, rfl, by decide +kernel, rfl, by decide +kernel, by decide +kernel⟩
abbrev s_Task_picks : Stmt := inClass (topS 8) 1
theorem sc_Task_picks : FnScope ["self"] ["self"] (defScope s_Task_picks) := ⟨rfl, rfl, rfl, by decide +kernel, rfl, by decide +kernel, by decide +kernel⟩
abbrev s_check_task : Stmt := topS 9
theorem sc_check_task : FnScope ["house", "task", "place"] ["house", "task"] (defScope s_check_task) := ⟨rfl, rfl, rfl, by decide +kernel, rfl, by decide +kernel, by decide +kernel⟩
abbrev s_ends_of_stretch : Stmt := topS 11
theorem sc_ends_of_stretch : FnScope ["house", "stretch", "crosses"] ["house", "stretch"] (defScope s_ends_of_stretch) := ⟨rfl, rfl, rfl, by decide +kernel, rfl, by decide +kernel, by decide +kernel⟩
abbrev s_marks_inside : Stmt := topS 12
theorem sc_marks_inside : FnScope ["house", "task", "aisle", "stretch", "low", "high", "number", "height"] ["house", "task", "aisle", "stretch"] (defScope s_marks_inside) := ⟨rfl, rfl, rfl, by decide +kernel, rfl, by decide +kernel, by decide +kernel⟩
abbrev s_is_free : Stmt := topS 13
theorem sc_is_free : FnScope ["house", "aisle", "piece", "low", "high", "height"] ["house", "aisle", "piece"] (defScope s_is_free) := ⟨rfl, rfl, rfl, by decide +kernel, rfl, by decide +kernel, by decide +kernel⟩
abbrev s_options_of : Stmt := topS 14
theorem sc_options_of : FnScope ["house", "task", "aisle", "stretch"] ["house", "task", "aisle", "stretch"] (defScope s_options_of) := ⟨rfl, rfl, rfl, by decide +kernel, rfl, by decide +kernel, by decide +kernel⟩
abbrev s_best_options : Stmt := topS 15
theorem sc_best_options : FnScope ["house", "task", "aisle", "stretch"] ["house", "task", "aisle", "stretch"] (defScope s_best_options) := ⟨rfl, rfl, rfl, by decide +kernel, rfl, by decide +kernel, by decide +kernel⟩
abbrev s_options_between : Stmt := topS 16
theorem sc_options_between : FnScope ["house", "aisle", "stretch", "inside", "pieces", "closed", "low", "high", "options", "piece"] ["house", "aisle", "stretch", "inside"] (defScope s_options_between) := ⟨rfl, rfl, rfl, by decide +kernel, rfl, by decide +kernel, by decide +kernel⟩
abbrev s_best_between : Stmt := topS 17
theorem sc_best_between : FnScope ["house", "aisle", "stretch", "inside", "options", "best", "option", "signs"] ["house", "aisle", "stretch", "inside"] (defScope s_best_between) := ⟨rfl, rfl, rfl, by decide +kernel, rfl, by decide +kernel, by decide +kernel⟩
abbrev s__pieces_between : Stmt := topS 18
theorem sc__pieces_between : FnScope ["house", "stretch", "inside", "low", "high"] ["house", "stretch", "inside"] (defScope s__pieces_between) := ⟨rfl, rfl, rfl, by decide +kernel, rfl, by decide +kernel, by decide +kernel⟩
abbrev s__option_without : Stmt := topS 19
theorem sc__option_without : FnScope ["low", "high", "piece", "lower", "upper", "length"] ["low", "high", "piece"] (defScope s__option_without) := ⟨rfl, rfl, rfl, by decide +kernel, rfl, by decide +kernel, by decide +kernel⟩
abbrev s_House___init__ : Stmt := inClass (topS 25) 0
theorem sc_House___init__ : FnScope ["self", "lengths", "gaps", "closed", "link"] ["self", "lengths", "gaps", "closed"] (defScope s_House___init__) := ⟨rfl, rfl, rfl, by decide +kernel, rfl, by decide +kernel, by decide +kernel⟩
abbrev s_House_lengths : Stmt := inClass (topS 25) 1
theorem sc_House_lengths : FnScope ["self"] ["self"] (defScope s_House_lengths) := ⟨rfl, rfl, rfl, by decide +kernel, rfl, by decide +kernel, by decide +kernel⟩
abbrev s_House_crosses : Stmt := inClass (topS 25) 6
theorem sc_House_crosses : FnScope ["self"] ["self"] (defScope s_House_crosses) := ⟨rfl, rfl, rfl, by decide +kernel, rfl, by decide +kernel, by decide +kernel⟩
abbrev s_House_is_place : Stmt := inClass (topS 25) 7
theorem sc_House_is_place : FnScope ["self", "place", "aisle", "height"] ["self", "place"] (defScope s_House_is_place) := ⟨rfl, rfl, rfl, by decide +kernel, rfl, by decide +kernel, by decide +kernel⟩
abbrev s_House_is_cross : Stmt := inClass (topS 25) 8
theorem sc_House_is_cross : FnScope ["self", "place"] ["self", "place"] (defScope s_House_is_cross) := ⟨rfl, rfl, rfl, by decide +kernel, rfl, by decide +kernel, by decide +kernel⟩
abbrev s_House_is_link : Stmt := inClass (topS 25) 9
theorem sc_House_is_link : FnScope ["self", "link", "word", "aisle", "height"] ["self", "link"] (defScope s_House_is_link) := ⟨rfl, rfl, rfl, by decide +kernel, rfl, by decide +kernel, by decide +kernel⟩
abbrev s_House_is_closed : Stmt := inClass (topS 25) 10
theorem sc_House_is_closed : FnScope ["self", "link"] ["self", "link"] (defScope s_House_is_closed) := ⟨rfl, rfl, rfl, by decide +kernel, rfl, by decide +kernel, by decide +kernel⟩
abbrev s__are_long : Stmt := topS 26
theorem sc__are_long : FnScope ["numbers", "number"] ["numbers"] (defScope s__are_long) := ⟨rfl, rfl, rfl, by decide +kernel, rfl, by decide +kernel, by decide +kernel⟩
abbrev s__cross_heights : Stmt := topS 27
theorem sc__cross_heights : FnScope ["lengths", "heights", "length"] ["lengths"] (defScope s__cross_heights) := ⟨rfl, rfl, rfl, by decide +kernel, rfl, by decide +kernel, by decide +kernel⟩
abbrev s__law_row : Stmt := topS 29
theorem sc__law_row : FnScope ["cell", "many", "row", "rest", "state", "k"] ["cell", "many"] (defScope s__law_row) := ⟨rfl, rfl, rfl, by decide +kernel, rfl, by decide +kernel, by decide +kernel⟩
abbrev s__law_numbers : Stmt := topS 30
theorem sc__law_numbers : FnScope ["script", "many", "cells", "each", "numbers", "cell", "number"] ["script", "many"] (defScope s__law_numbers) := ⟨rfl, rfl, rfl, by decide +kernel, rfl, by decide +kernel, by decide +kernel⟩
abbrev s__law_crosses : Stmt := topS 31
theorem sc__law_crosses : FnScope ["lengths", "heights", "length"] ["lengths"] (defScope s__law_crosses) := ⟨rfl, rfl, rfl, by decide +kernel, rfl, by decide +kernel, by decide +kernel⟩
abbrev s__law_link : Stmt := topS 32
theorem sc__law_link : FnScope ["lengths", "gaps", "first", "second"] ["lengths", "gaps", "first", "second"] (defScope s__law_link) := ⟨rfl, rfl, rfl, by decide +kernel, rfl, by decide +kernel, by decide +kernel⟩
abbrev s__law_house : Stmt := topS 33
theorem sc__law_house : FnScope ["numbers", "at", "many", "most", "lengths", "gaps", "closed", "k", "link"] ["numbers", "at", "many", "most"] (defScope s__law_house) := ⟨rfl, rfl, rfl, by decide +kernel, rfl, by decide +kernel, by decide +kernel⟩
abbrev s__law_cross : Stmt := topS 34
theorem sc__law_cross : FnScope ["house", "number", "crosses"] ["house", "number"] (defScope s__law_cross) := ⟨rfl, rfl, rfl, by decide +kernel, rfl, by decide +kernel, by decide +kernel⟩
abbrev s__law_place : Stmt := topS 35
theorem sc__law_place : FnScope ["house", "number"] ["house", "number"] (defScope s__law_place) := ⟨rfl, rfl, rfl, by decide +kernel, rfl, by decide +kernel, by decide +kernel⟩
abbrev s__law_task : Stmt := topS 36
theorem sc__law_task : FnScope ["numbers", "at", "house", "many", "start", "end", "picks", "k", "place"] ["numbers", "at", "house", "many"] (defScope s__law_task) := ⟨rfl, rfl, rfl, by decide +kernel, rfl, by decide +kernel, by decide +kernel⟩
abbrev s__law_made : Stmt := topS 37
theorem sc__law_made : FnScope ["house", "task"] ["house", "task"] (defScope s__law_made) := ⟨rfl, rfl, rfl, by decide +kernel, rfl, by decide +kernel, by decide +kernel⟩
abbrev s__law_inside : Stmt := topS 38
theorem sc__law_inside : FnScope ["house", "task", "aisle", "stretch", "low", "high", "height"] ["house", "task", "aisle", "stretch"] (defScope s__law_inside) := ⟨rfl, rfl, rfl, by decide +kernel, rfl, by decide +kernel, by decide +kernel⟩
abbrev s__law_pieces : Stmt := topS 39
theorem sc__law_pieces : FnScope ["house", "task", "aisle", "stretch", "low", "high", "heights", "k"] ["house", "task", "aisle", "stretch"] (defScope s__law_pieces) := ⟨rfl, rfl, rfl, by decide +kernel, rfl, by decide +kernel, by decide +kernel⟩
abbrev s__law_free : Stmt := topS 40
theorem sc__law_free : FnScope ["house", "aisle", "piece", "height"] ["house", "aisle", "piece"] (defScope s__law_free) := ⟨rfl, rfl, rfl, by decide +kernel, rfl, by decide +kernel, by decide +kernel⟩
abbrev s__law_options : Stmt := topS 41
theorem sc__law_options : FnScope ["house", "task", "aisle", "stretch", "pieces", "whole", "shut", "found", "piece", "low", "high", "one"] ["house", "task", "aisle", "stretch"] (defScope s__law_options) := ⟨rfl, rfl, rfl, by decide +kernel, rfl, by decide +kernel, by decide +kernel⟩
abbrev s__law_best : Stmt := topS 42
theorem sc__law_best : FnScope ["options", "found", "option", "better", "ahead", "other"] ["options"] (defScope s__law_best) := ⟨rfl, rfl, rfl, by decide +kernel, rfl, by decide +kernel, by decide +kernel⟩
abbrev s__law_even : Stmt := topS 43
theorem sc__law_even : FnScope ["house", "aisle", "crosses", "rows", "height", "longer", "row", "menu", "number"] ["house", "aisle"] (defScope s__law_even) := ⟨rfl, rfl, rfl, by decide +kernel, rfl, by decide +kernel, by decide +kernel⟩
abbrev s__law_hangs : Stmt := topS 44
theorem sc__law_hangs : FnScope ["row", "inside", "low", "walked", "below", "above", "number", "k", "height"] ["row", "inside", "low"] (defScope s__law_hangs) := ⟨rfl, rfl, rfl, by decide +kernel, rfl, by decide +kernel, by decide +kernel⟩
abbrev s__law_bounded : Stmt := topS 45
theorem sc__law_bounded : FnScope ["house", "task", "options", "inside", "row", "good", "length", "low", "high", "joins", "left_out", "ends"] ["house", "task", "options"] (defScope s__law_bounded) := ⟨rfl, rfl, rfl, by decide +kernel, rfl, by decide +kernel, by decide +kernel⟩
abbrev s_law : Stmt := topS 46
theorem sc_law : FnScope ["script", "numbers", "house", "task", "warehouse", "errand", "aisle", "stretch", "due", "turn", "told", "size", "closed", "small", "picks", "made", "given", "height"] ["script"] (defScope s_law) := ⟨rfl, rfl, rfl, by decide +kernel, rfl, by decide +kernel, by decide +kernel⟩
theorem same_upd {H : Hp} {p : Addr} {o : HO} (h : H p = none) : Same H (upd H p o) := fun b x e => by
  rw [upd_ne (ne_of_none e h)]
  exact e
/-- a list of numbers below 1009 -/
def Small (ns : List Int) : Prop := ∀ n ∈ ns, 0 ≤ n ∧ n < 1009
theorem Small.nil : Small [] := fun _ h => nomatch h
theorem Small.snoc {ns : List Int} (h : Small ns) {n : Int} (h0 : 0 ≤ n) (h1 : n < 1009) : Small (ns ++ [n]) := fun k hk => by
  rcases List.mem_append.mp hk with z | z
  · exact h k z
  · rw [List.mem_singleton] at z
    subst z
    exact ⟨h0, h1⟩
theorem small1e7 {n : Nat} (h : n ≤ 100000) : n < sizeLine := Nat.lt_of_le_of_lt h (by decide)
section
local macro_rules | `(tactic| walk_at "rd1") => `(tactic| first
  | (refine Exists.intro _ (And.intro rfl ?_))
  | (refine ⟨_, _, rfl, rfl, ?_⟩)
  | (refine Or.inl (Exists.intro _ (And.intro rfl ?_)))
  | (refine ⟨_, _, _, rfl, rfl, by assumption, by assumption, ?_⟩)
  | (refine And.intro (Or.inl ⟨rfl, _, SqL.of (by assumption)⟩) ?_)
  | (refine And.intro (by (first | omega | (dsimp only; omega) | (constructor <;> omega) | (refine Or.inl ?_; constructor <;> omega) | (refine Or.inr ?_; constructor <;> omega) | exact ⟨by decide, by decide, by decide⟩)) ?_))
local macro_rules | `(tactic| walk_at "rd") => `(tactic| repeat walk_at "rd1")
variable {P : Program} {w : World} {K : PySem.W.Frag} {mg : Str → Option Value} {base : Heap}
/-- the names of built-ins that no def of the text hides -/
structure DrawTxt (mg : Str → Option Value) (fR : Addr) : Prop where
  abs : mg "abs" = none
  int : mg "int" = none
  range : mg "range" = none
  len : mg "len" = none
  max : mg "max" = none
  row : mg "_law_row" = some (.ref fR)
/-- a row of numbers: a new list of as many numbers as asked, each from 0 to 1008 -/
def spRow : Sp := fun vs H Q _ => ∃ (c : Int) (m : Nat), vs = [.int c, .int m] ∧ m ≤ 1000 ∧
  ∀ (H' : Hp) (p : Addr) (ns : List Int), Same H H' → H p = none → H' p = some (.lst (ns.map V.int)) → ns.length = m → Small ns → Q (.ref p) H'
theorem ok_row {f fR : Addr} {fd : FuncData} {k : Nat} (F : Fun K "_law_row" "_law_row" s__law_row f fd) (T : DrawTxt mg fR) : FnOk P w K mg base CX0 (k + 1) f fd ["cell", "many"] spRow := by
  refine F.ok sc__law_row (fun vs H Q E h => ?_) (fun cdv A outer s H vs Q E hr h => ?_)
  · obtain ⟨c, m, rfl, _⟩ := h
    rfl
  · obtain ⟨c, m, rfl, hm, q⟩ := h
    have nd := sc__law_row.nd
    refine ⟨_, pss_cons (ps_set (i := 2) nd rfl (.inl rfl) (pe_lst pa_nil))
      (pss_cons (ps_set (i := 3) nd rfl (.inl rfl) pe_int)
      (pss_cons (ps_if (pt_cmpR op_ge (pe_callB call_abs (by rfl) T.abs (by decide +kernel) (pa_cons (pv 0) pa_nil)) (pe_op op_pow pe_int pe_int) (nomark _))
          (pss_one (ps_set (i := 3) nd rfl (.inl rfl) (pe_callB call_abs (by rfl) T.abs (by decide +kernel) (pa_cons (pv 0) pa_nil)))) pss_nil)
      (pss_cons (ps_set (i := 4) nd rfl (.inl rfl) (pe_op op_mod (pe_callTy call_int1 (by rfl) T.int (by decide +kernel) (pa_cons (pe_callB call_abs (by rfl) T.abs (by decide +kernel) (pa_cons (pv 0) pa_nil)) pa_nil)) pe_int))
      (pss_cons (ps_for PassesOwn.never rfl (pi_range1 rfl T.range (pa_cons (pv 1) pa_nil)) (pg_name (i := 5) nd rfl (.inl rfl))
        (pss_cons (ps_set (i := 4) nd rfl (.inl rfl) (pe_op op_mod (pe_callTy call_int1 (by rfl) T.int (by decide +kernel)
            (pa_cons (pe_op op_add (pe_op op_mul (pe_op op_add (pv 4) pe_int) pe_int) (pe_op op_mul pe_int (pv 5))) pa_nil)) pe_int))
        (pss_one (ps_if (pt_cmpR op_gt (pv 3) pe_int (nomark _))
          (pss_cons (ps_expr (pe_bm PySem.F.plainAttrs_list PySem.F.slot_list_append PySem.F.type_list_append mt_append (pv 2)
              (pa_cons (pe_op op_mod (pe_callTy call_int1 (by rfl) T.int (by decide +kernel) (pa_cons (pv 3) pa_nil)) pe_int) pa_nil)))
            (pss_one (ps_set (i := 3) nd rfl (.inl rfl) (pe_op op_fdiv (pv 3) pe_int))))
          (pss_one (ps_expr (pe_bm PySem.F.plainAttrs_list PySem.F.slot_list_append PySem.F.type_list_append mt_append (pv 2)
              (pa_cons (pe_op op_mod (pe_callTy call_int1 (by rfl) T.int (by decide +kernel) (pa_cons (pe_op op_fdiv (pv 4) pe_int) pa_nil)) pe_int) pa_nil))))))))
      (pss_one (ps_ret (pv 2))))))), ?_⟩
    refine ⟨Nat.zero_le _, fun r nr => ?_⟩
    have s1 : Same H (upd H r (.lst [])) := same_upd nr
    walk_at "rd"
    refine ite2 (fun hc => ?_) (fun hc => ?_)
    all_goals
      walk_at "rd"
      refine for_range (lo := 0) (n := m) (fun i σ H' => ∃ (ns : List Int) (rst st : Int) (vk : Option V), σ = [some (.int c), some (.int m), some (.ref r), some (.int rst), some (.int st), vk] ∧ Same H H' ∧ H' r = some (.lst (ns.map V.int)) ∧ ns.length = i ∧ Small ns ∧ 0 ≤ st ∧ st < 2147483647)
        ⟨[], _, _, none, rfl, s1, upd_same, rfl, Small.nil, Int.emod_nonneg _ (by decide), Int.emod_lt_of_pos _ (by decide)⟩ ?_ ?_
      · rintro i σ H' hi ⟨ns, rst, st, vk, rfl, sm, hrow, hl, hs, h0, h1⟩
        have hlen : (ns.map V.int).length < sizeLine := by
          rw [List.length_map]
          exact small1e7 (by omega)
        walk_at "rd"
        refine ite2 (fun hc2 => ?_) (fun hc2 => ?_)
        · walk_at "rd"
          refine ⟨ns ++ [rst % 1009], _, _, _, rfl, fun b o e => ?_, ?_, ?_, hs.snoc (Int.emod_nonneg _ (by decide)) (Int.emod_lt_of_pos _ (by decide)), Int.emod_nonneg _ (by decide), Int.emod_lt_of_pos _ (by decide)⟩
          · rw [upd_ne (ne_of_none e nr)]
            exact sm b o e
          · rw [upd_same, List.map_append]
            rfl
          · rw [List.length_append, hl]
            rfl
        · walk_at "rd"
          refine ⟨ns ++ [((st + 1) * 48271 + 69621 * (0 + (i : Int))) % 2147483647 / 2048 % 1009], _, _, _, rfl, fun b o e => ?_, ?_, ?_, hs.snoc (Int.emod_nonneg _ (by decide)) (Int.emod_lt_of_pos _ (by decide)), Int.emod_nonneg _ (by decide), Int.emod_lt_of_pos _ (by decide)⟩
          · rw [upd_ne (ne_of_none e nr)]
            exact sm b o e
          · rw [upd_same, List.map_append]
            rfl
          · rw [List.length_append, hl]
            rfl
      · rintro σ H' ⟨ns, rst, st, vk, rfl, sm, hrow, hl, hs, h0, h1⟩
        exact ⟨_, rfl, q H' r ns sm nr hrow hl hs⟩
/-- as many numbers as asked, drawn from the script: a new list, each from 0 to 1008 -/
def spNumbers (K : PySem.W.Frag) : Sp := fun vs H Q _ => ∃ (a : Addr) (xs : List Int) (m : Nat), vs = [.ref a, .int m] ∧ SqL K H a (xs.map V.int) ∧ xs.length ≤ 63 ∧ m ≤ 200 ∧
  ∀ (H' : Hp) (p : Addr) (ns : List Int), Same H H' → H p = none → H' p = some (.lst (ns.map V.int)) → ns.length = m → Small ns → Q (.ref p) H'
theorem cut_all (xs : List V) (h : xs.length ≤ 63) : cutV xs none (some 63) = xs := by
  unfold cutV
  rw [show HT.sIx xs.length xs.length (some 63) = min 63 xs.length from HT.sIx_nat xs.length xs.length 63, HT.sIx_none, List.drop_zero, Nat.sub_zero, Nat.min_eq_right h, List.take_length]
theorem cut_to (xs : List V) (m : Nat) : cutV xs none (some (m : Int)) = xs.take m := by
  unfold cutV
  rw [HT.sIx_nat, HT.sIx_none, List.drop_zero, Nat.sub_zero]
  rcases Nat.le_total m xs.length with h | h
  · rw [Nat.min_eq_left h]
  · rw [Nat.min_eq_right h, List.take_length, List.take_of_length_le h]
def lenAt (H : Hp) (p : Addr) : Nat := match H p with
  | some (.lst xs) => xs.length
  | _ => 0
theorem lenAt_of {H : Hp} {p : Addr} {xs : List V} (h : H p = some (.lst xs)) : lenAt H p = xs.length := by
  unfold lenAt
  rw [h]
theorem each_nat (m n : Nat) (hm : m ≤ 200) : ∃ e : Nat, 1 + (m : Int).fdiv (if (n : Int) > 1 then (n : Int) else 1) = (e : Int) ∧ e ≤ 201 := by
  have hp : 0 < (if (n : Int) > 1 then (n : Int) else 1) := by split <;> omega
  have e1 : (m : Int).fdiv (if (n : Int) > 1 then (n : Int) else 1) = (m : Int) / (if (n : Int) > 1 then (n : Int) else 1) := Int.fdiv_eq_ediv_of_nonneg _ (Int.le_of_lt hp)
  have h0 : 0 ≤ (m : Int) / (if (n : Int) > 1 then (n : Int) else 1) := Int.ediv_nonneg (by omega) (Int.le_of_lt hp)
  have h1 : (m : Int) / (if (n : Int) > 1 then (n : Int) else 1) ≤ m := Int.ediv_le_self _ (by omega)
  rw [e1]
  exact ⟨(1 + (m : Int) / (if (n : Int) > 1 then (n : Int) else 1)).toNat, by omega, by omega⟩
theorem ok_numbers {f fR : Addr} {fd fdR : FuncData} (F : Fun K "_law_numbers" "_law_numbers" s__law_numbers f fd) (T : DrawTxt mg fR) (FR : Fun K "_law_row" "_law_row" s__law_row fR fdR) (bR : Binds K fdR ["cell", "many"] []) :
    FnOk P w K mg base CX0 2 f fd ["script", "many"] (spNumbers K) := by
  have GR : FnOk P w K mg base CX0 1 fR fdR ["cell", "many"] spRow := ok_row FR T
  refine F.ok sc__law_numbers (fun vs H Q E h => ?_) (fun cdv A outer s H vs Q E hr h => ?_)
  · obtain ⟨a, xs, m, rfl, _⟩ := h
    rfl
  · obtain ⟨a, xs, m, rfl, hS, hx, hm, q⟩ := h
    have nd := sc__law_numbers.nd
    refine ⟨_, pss_cons (ps_set (i := 2) nd rfl (.inl rfl) (pe_slice sl_list (pv 0) po_none (po_some pe_int)))
      (pss_cons (ps_set (i := 3) nd rfl (.inl rfl) (pe_op op_add pe_int (pe_op op_fdivN (pv 1) (pe_callB (call_max2 rfl) (by rfl) T.max (by decide +kernel)
          (pa_cons pe_int (pa_cons (pe_callB call_len (by rfl) T.len (by decide +kernel) (pa_cons (pv 2) pa_nil)) pa_nil))))))
      (pss_cons (ps_set (i := 4) nd rfl (.inl rfl) (pe_lst pa_nil))
      (pss_cons (ps_for PassesOwn.never rfl (pi_list (pv 2)) (pg_name (i := 5) nd rfl (.inl rfl))
        (pss_one (ps_for PassesOwn.never rfl (pi_list (pe_call GR hr (by rfl) T.row FR.kp bR .nil pass0 (pa_cons (pv 5) (pa_cons (pv 3) pa_nil)))) (pg_name (i := 6) nd rfl (.inl rfl))
          (pss_one (ps_expr (pe_bm PySem.F.plainAttrs_list PySem.F.slot_list_append PySem.F.type_list_append mt_append (pv 4) (pa_cons (pv 6) pa_nil)))))))
      (pss_cons (ps_while PassesOwn.never (pt_cmpR op_lt (pe_callB call_len (by rfl) T.len (by decide +kernel) (pa_cons (pv 4) pa_nil)) (pv 1) (nomark _))
        (pss_one (ps_expr (pe_bm PySem.F.plainAttrs_list PySem.F.slot_list_append PySem.F.type_list_append mt_append (pv 4) (pa_cons pe_int pa_nil)))))
      (pss_one (ps_ret (pe_slice sl_list (pv 4) po_none (po_some (pv 1))))))))), ?_⟩
    refine ⟨_, rfl, _, rfl, a, _, rfl, hS, fun c nc => ?_⟩
    rw [cut_all _ (by rw [List.length_map]; exact hx)]
    have s1 : Same H (upd H c (.lst (xs.map V.int))) := same_upd nc
    refine ⟨_, rfl, _, rfl, _, _, rfl, .inl ⟨_, SqL.of upd_same, rfl⟩, _, _, rfl, _, _, rfl, rfl, ?_, ?_⟩
    · constructor
      · rw [List.length_map]
        split <;> omega
      · rw [List.length_map]
        split <;> omega
    refine ⟨_, _, rfl, rfl, ?_⟩
    dsimp only
    obtain ⟨e, he, hle⟩ := each_nat m (List.map V.int xs).length hm
    rw [he]
    refine ⟨Nat.zero_le _, fun b nb => ?_⟩
    have s2 : Same (upd H c (.lst (xs.map V.int))) (upd (upd H c (.lst (xs.map V.int))) b (.lst [])) := same_upd nb
    have nbc : c ≠ b := ne_of_none upd_same nb
    have nb0 : H b = none := s1.free nb
    -- for cell in cells
    refine ⟨_, rfl, c, rfl, ⟨_, SqL.of (s2 _ _ upd_same)⟩, for_list (K := K) (a := c) (xs := xs.map V.int) (fun i σ H' => ∃ (ns : List Int) (v5 v6 : Option V), σ = [some (.ref a), some (.int m), some (.ref c), some (.int e), some (.ref b), v5, v6] ∧ Same H H' ∧ H' c = some (.lst (xs.map V.int)) ∧ H' b = some (.lst (ns.map V.int)) ∧ ns.length ≤ i * 201 ∧ Small ns)
      ⟨[], none, none, rfl, s1.trans s2, s2 _ _ upd_same, upd_same, Nat.zero_le _, Small.nil⟩ (fun i σ H' _ ⟨_, _, _, _, _, hc, _⟩ => SqL.of hc) ?_ ?_⟩
    · rintro i y σ H' hi ⟨ns, v5, v6, rfl, sm, hc, hb, hl, hs⟩
      obtain ⟨z, hz, rfl⟩ : ∃ z, xs[i]? = some z ∧ y = V.int z := by
        rw [List.getElem?_map] at hi
        cases e : xs[i]? with
        | none =>
          rw [e] at hi
          cases hi
        | some z =>
          rw [e] at hi
          exact ⟨z, rfl, (Option.some.inj hi).symm⟩
      have hil : i < xs.length := (List.getElem?_eq_some_iff.mp hz).1
      -- for number in _law_row(cell, each)
      refine ⟨_, rfl, _, rfl, z, e, rfl, by omega, fun H2 r rs s3 nr hr2 hrl hrs => ?_⟩
      refine ⟨r, rfl, ⟨_, SqL.of hr2⟩, for_list (K := K) (a := r) (xs := rs.map V.int) (fun j σ H3 => ∃ (ms : List Int) (v6 : Option V), σ = [some (.ref a), some (.int m), some (.ref c), some (.int e), some (.ref b), some (.int z), v6] ∧ Same H H3 ∧ H3 r = some (.lst (rs.map V.int)) ∧ H3 c = some (.lst (xs.map V.int)) ∧ H3 b = some (.lst (ms.map V.int)) ∧ ms.length = ns.length + j ∧ Small ms)
        ⟨ns, v6, rfl, sm.trans s3, hr2, s3 _ _ hc, s3 _ _ hb, rfl, hs⟩ (fun j σ H3 _ ⟨_, _, _, _, h, _⟩ => SqL.of h) ?_ ?_⟩
      · rintro j y σ H3 hj ⟨ms, v6, rfl, sm3, hr3, hc3, hb3, hl3, hs3⟩
        obtain ⟨n, hn, rfl⟩ : ∃ n, rs[j]? = some n ∧ y = V.int n := by
          rw [List.getElem?_map] at hj
          cases e : rs[j]? with
          | none =>
            rw [e] at hj
            cases hj
          | some z =>
            rw [e] at hj
            exact ⟨z, rfl, (Option.some.inj hj).symm⟩
        have hjl : j < rs.length := (List.getElem?_eq_some_iff.mp hn).1
        have hb3l : (ms.map V.int).length < sizeLine := by
          rw [List.length_map]
          exact small1e7 (by omega)
        have nrb : r ≠ b := fun z => by
          rw [z] at nr
          rw [nr] at hb
          cases hb
        obtain ⟨g0, g1⟩ := hrs n (List.mem_of_getElem? hn)
        walk_at "rd"
        refine ⟨ms ++ [n], _, rfl, fun d o e => ?_, by rw [upd_ne nrb]; exact hr3, by rw [upd_ne nbc]; exact hc3, ?_, ?_, hs3.snoc g0 g1⟩
        · rw [upd_ne (ne_of_none e nb0)]
          exact sm3 d o e
        · rw [upd_same, List.map_append]
          rfl
        · rw [List.length_append, hl3]
          rfl
      · rintro σ H3 ⟨ms, v6, rfl, sm3, hr3, hc3, hb3, hl3, hs3⟩
        rw [List.length_map] at hl3
        exact ⟨ms, _, _, rfl, sm3, hc3, hb3, by rw [Nat.succ_mul]; omega, hs3⟩
    · rintro σ H' ⟨ns, v5, v6, rfl, sm, hc, hb, hl, hs⟩
      rw [List.length_map] at hl
      -- while len(numbers) < many
      refine while_by (fun σ H' => ∃ ns : List Int, σ = [some (.ref a), some (.int m), some (.ref c), some (.int e), some (.ref b), v5, v6] ∧ Same H H' ∧ H' b = some (.lst (ns.map V.int)) ∧ Small ns) (fun _ H' => m - lenAt H' b)
        ⟨ns, rfl, sm, hb, hs⟩ ?_ ?_
      · rintro σ H' ⟨ns, rfl, sm, hb, hs⟩
        refine ⟨_, rfl, _, _, rfl, .inl ⟨_, SqL.of hb, rfl⟩, _, rfl, _, _, rfl, rfl, _, rfl, ?_⟩
        rw [List.length_map]
        refine ite2 (fun hlt => ?_) (fun hlt => ?_)
        · have hlt' : ns.length < m := by
            have := of_decide_eq_true hlt
            omega
          have hbl : (ns.map V.int).length < sizeLine := by
            rw [List.length_map]
            exact small1e7 (by omega)
          walk_at "rd"
          refine ⟨⟨ns ++ [0], rfl, fun d o e => ?_, ?_, hs.snoc (by decide) (by decide)⟩, ?_⟩
          · rw [upd_ne (ne_of_none e nb0)]
            exact sm d o e
          · rw [upd_same, List.map_append]
            rfl
          · rw [lenAt_of upd_same, lenAt_of hb, List.length_append, List.length_map]
            show m - (ns.length + 1) < m - ns.length
            omega
        · have hge : m ≤ ns.length := by
            have : ¬ ((ns.length : Int) < (m : Int)) := fun z => hlt (decide_eq_true z)
            omega
          refine ⟨_, rfl, _, rfl, _, rfl, b, _, rfl, SqL.of hb, fun p np => ?_⟩
          rw [cut_to, ← List.map_take]
          refine q _ p (ns.take m) (fun d o e => ?_) (sm.free np) upd_same (by rw [List.length_take]; omega) (fun n hn => hs n (List.mem_of_mem_take hn))
          rw [upd_ne (ne_of_none (sm d o e) np)]
          exact sm d o e
      · rintro σ H Q Q' h ⟨v, e1, x, n, e2, l, u, e3, i, j, ei, ej, k, ek, q⟩
        exact ⟨v, e1, x, n, e2, l, u, e3, i, j, ei, ej, k, ek, h _ _ q⟩
end
section
open GxR NdefX PySem.Spec PyProof.Rows
variable {P : Program} {w : World} {K : PySem.W.Frag} {mg : Str → Option Value} {base : Heap}
def longN (n : Int) : Bool := decide (1 ≤ n) && decide (n ≤ 40)
/-- what the top has left for them -/
structure HouseTop (mg : Str → Option Value) : Prop where
  all : mg "all" = none
  len : mg "len" = none
  sum : mg "sum" = none
  list : mg "list" = none
  sorted : mg "sorted" = none
  range : mg "range" = none
  longest : ∃ t, mg "LONGEST" = some (.int 40 t)
  stretches : ∃ t, mg "MOST_STRETCHES" = some (.int 2 t)
  mostGaps : ∃ t, mg "MOST_GAPS" = some (.int 11 t)
  mostClosed : ∃ t, mg "MOST_CLOSED" = some (.int 200 t)
def spLong (K : PySem.W.Frag) (T : Addr) : Sp := fun vs H Q _ => ∃ (l : Addr) (ns : List Int), vs = [.ref l] ∧ SqL K H l (ns.map V.int) ∧ TabG H T ∧
  ∀ H', Tabbed T H H' → Q (.bl (ns.all longN)) H'
theorem ok_long {f c T : Addr} {fd : FuncData} (F : FunC K "_are_long" "_are_long" s__are_long f c fd) (Z : HouseTop mg) (TB : TabB base mg c T) : FnOk P w K mg base CX0 3 f fd ["numbers"] (spLong K T) := by
  refine F.ok sc__are_long (fun vs H Q E h => ?_) (fun A outer s H vs Q E hr h => ?_)
  · obtain ⟨l, ns, rfl, _⟩ := h
    rfl
  · obtain ⟨l, ns, rfl, hl, ht, q⟩ := h
    obtain ⟨t, hlong⟩ := Z.longest
    refine ⟨_, pss_one (ps_ret (pe_allG (k := 1) (N := ["number"]) (fr := [none]) (g := gName 0) hr (by rfl) Z.all (by decide +kernel) TB rfl (gsc_by (outer := defScope s__are_long) rfl rfl (by decide +kernel)) (gfr_by (outer := defScope s__are_long) (XN := ["numbers", "number"]) rfl rfl (by decide +kernel)) (pi_list (pv 0))
      (fun B s0 H0 cd fp rB => ⟨pg_name (i := 0) (show (["number"] : List Str).Nodup by decide) rfl (.inl rfl), pe_chain op_le op_le pe_int (pv 0) (pe_glob (v := .int 40) rfl hlong ⟨_, rfl⟩)⟩) (fun _ => rfl))), ?_⟩
    refine ⟨_, rfl, l, rfl, ⟨_, hl⟩, ht, fun H2 t2 => ?_⟩
    have hl2 : SqL K H2 l (ns.map V.int) := (Tabbed.kp t2 ht).seq hl
    refine for_list (K := K) (a := l) (xs := ns.map V.int) (fun i σ H' => (∃ z, σ = [z]) ∧ H' = H2 ∧ (ns.take i).all longN = true) ?_ ?_ ?_ ?_
    · exact ⟨⟨none, rfl⟩, rfl, rfl⟩
    · rintro i σ H' _ ⟨_, rfl, _⟩
      exact hl2
    · rintro i x σ H' hx ⟨⟨z, rfl⟩, rfl, hp⟩
      rw [List.getElem?_map] at hx
      cases hn : ns[i]? with
      | none => rw [hn] at hx; cases hx
      | some n =>
        rw [hn] at hx
        cases hx
        have et : ns.take (i + 1) = ns.take i ++ [n] := by rw [List.take_add_one, hn]; rfl
        have fals : longN n = false → ns.all longN = false := fun e => by
          rw [Bool.eq_false_iff]
          intro z
          rw [List.all_eq_true] at z
          rw [z n (List.mem_of_getElem? hn)] at e
          cases e
        refine ⟨_, rfl, _, _, rfl, rfl, _, rfl, ?_⟩
        refine ite2 (fun h1 => ?_) (fun h1 => ?_)
        · refine ⟨_, _, rfl, rfl, _, rfl, ?_⟩
          refine ite2 (fun h2 => ?_) (fun h2 => ?_)
          · have e : longN n = false := by
              unfold longN
              rw [h2, Bool.and_false]
            have z := q H' t2
            rw [fals e] at z
            exact z
          · refine ⟨⟨_, rfl⟩, rfl, ?_⟩
            have e2 : decide (n ≤ 40) = true := by simpa using h2
            rw [et, List.all_append, hp]
            show (true && (longN n && true)) = true
            unfold longN
            rw [h1, e2]
            rfl
        · refine ⟨_, rfl, ?_⟩
          rw [if_pos rfl]
          have e : longN n = false := by
            unfold longN
            rw [show decide (1 ≤ n) = false by simpa using h1]
            rfl
          have z := q H' t2
          rw [fals e] at z
          exact z
    · rintro σ H' ⟨_, rfl, hp⟩
      rw [List.length_map, List.take_length] at hp
      have z := q H' t2
      rw [hp] at z
      exact z
end
section
open GxR NdefX PySem.Spec PyProof.Rows
variable {P : Program} {w : World} {K : PySem.W.Frag} {mg : Str → Option Value} {base : Heap}
def crossN (ns : List Int) : List Int := (List.range (ns.length + 1)).map fun k => (ns.take k).sum
theorem atI_last {α : Type} (xs : List α) (x : α) : atI (xs ++ [x]) (-1) = some x := by
  unfold atI ixN
  rw [if_neg (by decide), List.length_append]
  have h : (-(1 : Int) : Int) + ((xs.length + [x].length : Nat) : Int) = (xs.length : Int) := by
    show (-1 : Int) + ((xs.length + 1 : Nat) : Int) = _
    omega
  split
  · show (xs ++ [x])[(-1 + ((xs.length + [x].length : Nat) : Int)).toNat]? = some x
    rw [h]
    simp
  · rename_i z
    exact absurd (by show -((xs.length + 1 : Nat) : Int) ≤ -1; omega) z
def spCross (K : PySem.W.Frag) : Sp := fun vs H Q _ => ∃ (l : Addr) (ns : List Int), vs = [.ref l] ∧ SqL K H l (ns.map V.int) ∧ ns.length ≤ 1000 ∧
  ∀ (H' : Hp) (p : Addr), Same H H' → H p = none → H' p = some (.lst ((crossN ns).map V.int)) → Q (.ref p) H'
theorem ok_cross {f : Addr} {fd : FuncData} (F : Fun K "_cross_heights" "_cross_heights" s__cross_heights f fd) : FnOk P w K mg base CX0 2 f fd ["lengths"] (spCross K) := by
  refine F.ok sc__cross_heights (fun vs H Q E h => ?_) (fun cdv A outer s H vs Q E hr h => ?_)
  · obtain ⟨l, ns, rfl, _⟩ := h
    rfl
  · obtain ⟨l, ns, rfl, hl, hn, q⟩ := h
    have nd := sc__cross_heights.nd
    refine ⟨_, (pss_cons (ps_set (i := 1) nd rfl (.inl rfl) (pe_lst (pa_cons pe_int pa_nil)))
      (pss_cons (ps_for PassesOwn.never rfl (pi_list (pv 0)) (pg_name (i := 2) nd rfl (.inl rfl)) (pss_one (ps_expr (pe_bm PySem.F.plainAttrs_list PySem.F.slot_list_append PySem.F.type_list_append mt_append (pv 1) (pa_cons (pe_op op_add (pe_ix ix_list (pv 1) (pe_un un_neg pe_int) (fun _ _ => rfl)) (pv 2)) pa_nil)))))
      (pss_one (ps_ret (pv 1))))), ?_⟩
    refine ⟨by decide, fun r nr => ?_⟩
    have sR : ∀ o, Same H (upd H r o) := fun o => same_upd nr
    refine ⟨_, rfl, l, rfl, ⟨_, (sR _).seq hl⟩, ?_⟩
    refine for_list (K := K) (a := l) (xs := ns.map V.int) (fun i σ H' => (∃ z, σ = [some (.ref l), some (.ref r), z]) ∧ H' = upd H r (.lst (((List.range (i + 1)).map fun k => (ns.take k).sum).map V.int))) ?_ ?_ ?_ ?_
    · exact ⟨⟨none, rfl⟩, rfl⟩
    · rintro i σ H' _ ⟨_, rfl⟩
      exact (sR _).seq hl
    · rintro i x σ H' hx ⟨⟨z, rfl⟩, rfl⟩
      rw [List.getElem?_map] at hx
      cases hi : ns[i]? with
      | none => rw [hi] at hx; cases hx
      | some n =>
        rw [hi] at hx
        cases hx
        have lt := (List.getElem?_eq_some_iff.mp hi).1
        have et : ns.take (i + 1) = ns.take i ++ [n] := by rw [List.take_add_one, hi]; rfl
        have er : ((List.range (i + 1)).map fun k => (ns.take k).sum).map V.int = (((List.range i).map fun k => (ns.take k).sum).map V.int) ++ [V.int (ns.take i).sum] := by
          rw [List.range_succ, List.map_append, List.map_append]
          rfl
        refine ⟨_, rfl, ?_⟩
        refine And.intro (Or.inl ⟨rfl, _, SqL.of upd_same⟩) ?_
        refine ⟨_, rfl, _, rfl, r, _, -1, _, rfl, rfl, SqL.of upd_same, by rw [er]; exact atI_last _ _, _, rfl, _, _, rfl, rfl, ?_⟩
        refine ⟨r, _, _, rfl, rfl, upd_same, ?_, ⟨_, rfl⟩, ?_⟩
        · rw [List.length_map, List.length_map, List.length_range, sizeLine_eq]
          omega
        · rw [upd_upd, List.range_succ (n := i + 1), List.map_append, List.map_append]
          show upd H r (.lst (_ ++ [V.int ((ns.take i).sum + n)])) = upd H r (.lst (_ ++ [V.int (ns.take (i + 1)).sum]))
          rw [et, List.sum_append]
          simp
    · rintro σ H' ⟨⟨z, rfl⟩, rfl⟩
      refine ⟨_, rfl, ?_⟩
      rw [List.length_map]
      exact q _ r (sR _) nr upd_same
end
section
open GxR NdefX PySem.Spec PyProof.Rows
variable {P : Program} {w : World} {K : PySem.W.Frag} {mg : Str → Option Value} {base : Heap}
def hf (l g c t d : V) : List (Str × V) := putF "_closed" d (putF "_top" t (putF "_crosses" c (putF "_gaps" g (putF "_lengths" l []))))
theorem hk1 : ¬ (("_lengths" : Str) = "_gaps") := by decide +kernel
theorem hk2 : ¬ (("_lengths" : Str) = "_crosses") := by decide +kernel
theorem hk3 : ¬ (("_lengths" : Str) = "_top") := by decide +kernel
theorem hk4 : ¬ (("_lengths" : Str) = "_closed") := by decide +kernel
theorem hk5 : ¬ (("_gaps" : Str) = "_crosses") := by decide +kernel
theorem hk6 : ¬ (("_gaps" : Str) = "_top") := by decide +kernel
theorem hk7 : ¬ (("_gaps" : Str) = "_closed") := by decide +kernel
theorem hk8 : ¬ (("_crosses" : Str) = "_top") := by decide +kernel
theorem hk9 : ¬ (("_crosses" : Str) = "_closed") := by decide +kernel
theorem hk10 : ¬ (("_top" : Str) = "_closed") := by decide +kernel
section
variable (l g c t d : V)
theorem hf_lengths : (hf l g c t d).lookup ("_lengths" : Str) = some l := by
  unfold hf
  rw [lookup_putF, if_neg hk4, lookup_putF, if_neg hk3, lookup_putF, if_neg hk2, lookup_putF, if_neg hk1, lookup_putF, if_pos rfl]
theorem hf_gaps : (hf l g c t d).lookup ("_gaps" : Str) = some g := by
  unfold hf
  rw [lookup_putF, if_neg hk7, lookup_putF, if_neg hk6, lookup_putF, if_neg hk5, lookup_putF, if_pos rfl]
theorem hf_crosses : (hf l g c t d).lookup ("_crosses" : Str) = some c := by
  unfold hf
  rw [lookup_putF, if_neg hk9, lookup_putF, if_neg hk8, lookup_putF, if_pos rfl]
theorem hf_top : (hf l g c t d).lookup ("_top" : Str) = some t := by
  unfold hf
  rw [lookup_putF, if_neg hk10, lookup_putF, if_pos rfl]
theorem hf_closed : (hf l g c t d).lookup ("_closed" : Str) = some d := by
  unfold hf
  rw [lookup_putF, if_pos rfl]
theorem hf_no {m : Str} (h1 : ¬ m = "_lengths") (h2 : ¬ m = "_gaps") (h3 : ¬ m = "_crosses") (h4 : ¬ m = "_top") (h5 : ¬ m = "_closed") : (hf l g c t d).lookup m = none := by
  unfold hf
  rw [lookup_putF, if_neg h5, lookup_putF, if_neg h4, lookup_putF, if_neg h3, lookup_putF, if_neg h2, lookup_putF, if_neg h1]
  rfl
end
/-- a link's key -/
def lk (x : Str) (a h : Int) : Tk := [.inr x, .inl a, .inl h]
/-- it is one of the house -/
def isLk (ls gs : List Int) (x : Str) (a h : Int) : Bool :=
  if x = "up" then (decide (0 ≤ a) && decide (a ≤ gs.length)) && (decide (0 ≤ h) && decide (h < ls.sum))
  else decide (x = "over") && ((decide (0 ≤ a) && decide (a < gs.length)) && decide (h ∈ crossN ls))
/-- the fields that do not tell the closed links -/
def PartAt (C : Addr) (H : Hp) (p : Addr) (ls gs : List Int) : Prop := ∃ (dx l g c : Addr) (d : V), H p = some (.ins C dx (hf (.ref l) (.ref g) (.ref c) (.int ls.sum) d)) ∧
  H l = some (.lst (ls.map V.int)) ∧ H g = some (.lst (gs.map V.int)) ∧ H c = some (.lst ((crossN ls).map V.int))
theorem PartAt.kp {C : Addr} {H H' : Hp} {p : Addr} {ls gs : List Int} (h : PartAt C H p ls gs) (k : Kp H H') : PartAt C H' p ls gs := by
  obtain ⟨dx, l, g, c, d, h1, h2, h3, h4⟩ := h
  exact ⟨dx, l, g, c, d, k.ins h1, k.lst h2, k.lst h3, k.lst h4⟩
structure HouseTxt (K : PySem.W.Frag) (mg : Str → Option Value) (C : Addr) : Prop where
  cl : Cls K C
  nL : NoAttr K C "_lengths"
  nG : NoAttr K C "_gaps"
  nX : NoAttr K C "_crosses"
  nT : NoAttr K C "_top"
  nC : NoAttr K C "_closed"
theorem inV_ints (x : Int) (ns : List Int) : inV (.int x) (ns.map V.int) = decide (x ∈ ns) := by
  unfold inV
  induction ns with
  | nil => simp
  | cons n ns ih =>
    rw [List.map_cons, List.any_cons, ih]
    have e : eqV (.int n) (.int x) = decide (n = x) := by rfl
    rw [e]
    by_cases h : n = x
    · subst h; simp
    · have h2 : ¬ x = n := fun z => h z.symm
      simp [h, h2]
theorem flat_ints (ns : List Int) : (ns.map V.int).all flatV = true := by
  rw [List.all_eq_true]
  intro x hx
  obtain ⟨n, _, rfl⟩ := List.mem_map.mp hx
  rfl
/-- the reading of te hands out v and changes nothing -/
def Tells (te : TE) (σ : L2.St) (H : Hp) (v : V) : Prop := ∀ Q : VK, Q v H → te σ H Q
theorem tells_chain {tb tc : TE} {σ : L2.St} {H : Hp} {i0 j n : Int} {f : Int → Int → Bool} (hb : Tells tb σ H (.int j)) (hc : Tells tc σ H (.int n)) :
    Tells (tChain (rI0 fun i j => V.bl (decide (i ≤ j))) (rI0 fun i j => V.bl (f i j)) (tC (.int i0)) tb tc) σ H (.bl (decide (i0 ≤ j) && f j n)) := fun Q q => by
  refine hb _ ⟨_, _, rfl, rfl, _, rfl, ?_⟩
  refine ite2 (fun h => ?_) (fun h => ?_)
  · refine hc _ ⟨_, _, rfl, rfl, ?_⟩
    rw [h, Bool.true_and] at q
    exact q
  · rw [show decide (i0 ≤ j) = false by simpa using h, Bool.false_and] at q
    exact q
theorem tells_and {ta tb : TE} {σ : L2.St} {H : Hp} {a b : Bool} (ha : Tells ta σ H (.bl a)) (hb : Tells tb σ H (.bl b)) : Tells (tAndV ta tb) σ H (.bl (a && b)) := fun Q q => by
  refine ha _ ⟨_, rfl, ?_⟩
  cases a with
  | true => exact hb _ q
  | false => exact q
def spLink (C : Addr) : Sp := fun vs H Q _ => ∃ (p : Addr) (v : V) (ls gs : List Int) (x : Str) (a h : Int), vs = [.ref p, v] ∧ PartAt C H p ls gs ∧ Kr H v (lk x a h) ∧ Q (.bl (isLk ls gs x a h)) H
theorem ok_link {f C : Addr} {fd : FuncData} (F : Fun K "is_link" "House.is_link" s_House_is_link f fd) (Z : HouseTop mg) (T : HouseTxt K mg C) : FnOk P w K mg base CX0 1 f fd ["self", "link"] (spLink C) := by
  refine F.ok sc_House_is_link (fun vs H Q E h => ?_) (fun cdv A outer s H vs Q E hr h => ?_)
  · obtain ⟨p, v, ls, gs, x, a, h, rfl, _⟩ := h
    rfl
  · obtain ⟨p, v, ls, gs, x, a, h, rfl, ⟨dx, l, g, c, d, h1, h2, h3, h4⟩, ⟨t, rfl, ht⟩, q⟩ := h
    have nd := sc_House_is_link.nd
    refine ⟨_, (pss_cons (ps_asg (pv 1) (pg_tup rfl (pgs_cons (pg_name (i := 2) nd rfl (.inl rfl)) (pgs_cons (pg_name (i := 3) nd rfl (.inl rfl)) (pgs_cons (pg_name (i := 4) nd rfl (.inl rfl)) pgs_nil)))))
      (pss_cons (ps_if (pt_cmpR op_eq (pv 2) pe_str (nomark _)) (pss_one (ps_ret (pe_and (pe_chain op_le op_le pe_int (pv 3) (pe_callB call_len (by rfl) Z.len (by decide +kernel) (pa_cons (pe_fld (pv 0) rfl) pa_nil))) (pe_one (pe_chain op_le op_lt pe_int (pv 4) (pe_fld (pv 0) rfl)))))) pss_nil)
      (pss_one (ps_ret (pe_and (pe_cmpR op_eq (pv 2) pe_str (nomark _)) (pe_and (pe_chain op_le op_lt pe_int (pv 3) (pe_callB call_len (by rfl) Z.len (by decide +kernel) (pa_cons (pe_fld (pv 0) rfl) pa_nil))) (pe_one (pe_cmpR op_in_seq (pv 4) (pe_fld (pv 0) rfl) (by rfl))))))))), ?_⟩
    refine ⟨_, rfl, t, _, rfl, SqT.of ht, rfl, _, _, rfl, _, _, rfl, _, _, rfl, rfl, ?_⟩
    have var : ∀ {σ : L2.St} {i : Nat} {v : V}, σ[i]? = some (some v) → Tells (tVar i) σ H v := fun e Q q => ⟨_, e, q⟩
    have fld : ∀ {σ : L2.St} {f : Str} {v : V}, σ[0]? = some (some (V.ref p)) → NoAttr K C f → (hf (.ref l) (.ref g) (.ref c) (.int ls.sum) d).lookup f = some v → Tells (tFld K (tVar 0) f) σ H v := fun e n z Q q =>
      ⟨_, e, p, C, dx, _, _, rfl, h1, T.cl, n, z, q⟩
    have cnt : ∀ {σ : L2.St}, σ[0]? = some (some (V.ref p)) → Tells (tCB (fun xs H1 Q => ∃ x n, xs = [x] ∧ LenV K x H1 n ∧ Q (V.int (n : Nat)) H1) (tCons (tFld K (tVar 0) "_gaps") tNil)) σ H (.int gs.length) := fun e Q q =>
      fld e T.nG (hf_gaps _ _ _ _ _) _ ⟨_, _, rfl, .inl ⟨_, SqL.of h3, rfl⟩, by rw [List.length_map]; exact q⟩
    refine ⟨_, rfl, rfl, _, rfl, ?_⟩
    refine ite2 (fun hc => ?_) (fun hc => ?_)
    · have hx : x = "up" := V.str.inj (of_decide_eq_true hc)
      refine tells_and (tells_chain (f := fun i j => decide (i ≤ j)) (var rfl) (cnt rfl)) (tells_chain (f := fun i j => decide (i < j)) (var rfl) (fld rfl T.nT (hf_top _ _ _ _ _))) _ ?_
      unfold isLk at q
      rw [if_pos hx] at q
      exact q
    · have hx : ¬ x = "up" := fun z => by
        rw [z] at hc
        exact hc (decide_eq_true rfl)
      have eqq : Tells (tOp rEq (tVar 2) (tC (V.str "over"))) [some (.ref p), some (.ref t), some (.str x), some (.int a), some (.int h)] H (.bl (decide (x = "over"))) := fun Q q =>
        ⟨_, rfl, rfl, by rw [show decide (V.str x = V.str "over") = decide (x = "over") by simp]; exact q⟩
      have inn : Tells (tOp (rIn K false) (tVar 4) (tFld K (tVar 0) "_crosses")) [some (.ref p), some (.ref t), some (.str x), some (.int a), some (.int h)] H (.bl (decide (h ∈ crossN ls))) := fun Q q =>
        ⟨_, rfl, fld rfl T.nX (hf_crosses _ _ _ _ _) _ ⟨c, _, rfl, .inl (SqL.of h4), rfl, flat_ints _, by rw [inV_ints]; exact q⟩⟩
      refine tells_and eqq (tells_and (tells_chain (f := fun i j => decide (i < j)) (var rfl) (cnt rfl)) inn) _ ?_
      unfold isLk at q
      rw [if_neg hx] at q
      exact q
end
section
open GxR NdefX PySem.Spec PyProof.Rows
variable {P : Program} {w : World} {K : PySem.W.Frag} {mg : Str → Option Value} {base : Heap}
theorem Room.units0 {k : Nat} {A : Around} (r : Room k A) : A.units < cLine := by
  have := r.un
  omega
/-- all but what is at p is as it was, tables aside -/
structure KpB (p : Addr) (H H' : Hp) : Prop where
  at_ : ∀ b o, H b = some o → b ≠ p → (∀ ps, o ≠ .tbl ps) → H' b = some o
  tab : ∀ P, TabG H P → TabG H' P
section
variable {p : Addr} {H H1 H2 : Hp}
theorem KpB.refl : KpB p H H := ⟨fun _ _ e _ _ => e, fun _ t => t⟩
theorem KpB.kp (k : KpB p H H1) (m : Kp H1 H2) : KpB p H H2 := ⟨fun b o e n t => m.at_ b o (k.at_ b o e n t) t, fun P t => m.tab P (k.tab P t)⟩
theorem KpB.new {r : Addr} {o : HO} (k : KpB p H H1) (n : H1 r = none) : KpB p H (upd H1 r o) := k.kp (kpS (same_upd n))
theorem KpB.put {C dx : Addr} {fs gs : List (Str × V)} (k : KpB p H H1) (hp : H1 p = some (.ins C dx fs)) : KpB p H (upd H1 p (.ins C dx gs)) :=
  ⟨fun b o e n t => by rw [upd_ne n]; exact k.at_ b o e n t, fun P t => by
    obtain ⟨ps, e, t'⟩ := k.tab P t
    exact ⟨ps, by rw [upd_ne (ne_of hp e fun z => nomatch z).symm]; exact e, t'⟩⟩
end
/-- a new object is laid, then a field of p is set -/
theorem stepF {p r C dx : Addr} {fs gs : List (Str × V)} {H H2 : Hp} {o : HO} (kb : KpB p H H2) (hp : H2 p = some (.ins C dx fs)) (n : H2 r = none) :
    ∃ H3, upd (upd H2 r o) p (.ins C dx gs) = H3 ∧ KpB p H H3 ∧ H3 p = some (.ins C dx gs) ∧ H3 r = some o ∧ (∀ b u, H2 b = some u → b ≠ p → H3 b = some u) ∧ ∀ b, H3 b = none → H2 b = none := by
  have pr : p ≠ r := ne_of_none hp n
  refine ⟨_, rfl, (kb.new n).put (fs := fs) (by rw [upd_ne pr]; exact hp), upd_same, by rw [upd_ne pr.symm, upd_same], fun b u e h => ?_, fun b e => ?_⟩
  · rw [upd_ne h, upd_ne (ne_of_none e n)]
    exact e
  · cases q : H2 b with
    | none => rfl
    | some u =>
      by_cases z : b = p
      · rw [z, upd_same] at e
        cases e
      · rw [upd_ne z, upd_ne (ne_of_none q n), q] at e
        cases e
theorem stepP {p C dx : Addr} {fs gs : List (Str × V)} {H H2 : Hp} (kb : KpB p H H2) (hp : H2 p = some (.ins C dx fs)) :
    ∃ H3, upd H2 p (.ins C dx gs) = H3 ∧ KpB p H H3 ∧ H3 p = some (.ins C dx gs) ∧ (∀ b u, H2 b = some u → b ≠ p → H3 b = some u) ∧ ∀ b, H3 b = none → H2 b = none := by
  refine ⟨_, rfl, kb.put hp, upd_same, fun b u e h => by rw [upd_ne h]; exact e, fun b e => ?_⟩
  by_cases z : b = p
  · rw [z, upd_same] at e
    cases e
  · rw [upd_ne z] at e
    exact e
theorem lenF {f : Str} {v : V} {fs : List (Str × V)} {n : Nat} (h : fs.length < n) : (putF f v fs).length < n + 1 := by
  have q := length_putF f v fs
  omega
theorem seqP {K : PySem.W.Frag} {p C dx a : Addr} {fs : List (Str × V)} {H H2 : Hp} {xs : List V} (hp : H p = some (.ins C dx fs)) (k : ∀ b u, H b = some u → b ≠ p → H2 b = some u) (h : SqL K H a xs) : SqL K H2 a xs := by
  rcases h with (h | ⟨o, h⟩) | h
  · exact .inl (.inl (k _ _ h (ne_of hp h fun z => nomatch z).symm))
  · exact .inl (.inr ⟨o, k _ _ h (ne_of hp h fun z => nomatch z).symm⟩)
  · exact .inr h
theorem krsP {p C dx : Addr} {fs : List (Str × V)} {H H2 : Hp} {xs : List V} {ks : List Tk} (hp : H p = some (.ins C dx fs)) (k : ∀ b u, H b = some u → b ≠ p → H2 b = some u) (h : Krs H xs ks) : Krs H2 xs ks := by
  induction h with
  | nil => exact .nil
  | cons a _ ih =>
    obtain ⟨t, rfl, e⟩ := a
    exact .cons ⟨t, rfl, k _ _ e (ne_of hp e fun z => nomatch z).symm⟩ ih
/-- what the house's keys are -/
def kOf (cs : List (Str × Int × Int)) : List Tk := cs.map fun c => lk c.1 c.2.1 c.2.2
def Valid (ls gs : List Int) (cs : List (Str × Int × Int)) : Prop := ((1 ≤ ls.length ∧ ls.length ≤ 2) ∧ ls.all longN = true) ∧ (gs.length ≤ 11 ∧ gs.all longN = true) ∧ cs.length ≤ 200 ∧ (kOf cs).Nodup ∧ ∀ c ∈ cs, isLk ls gs c.1 c.2.1 c.2.2 = true
/-- a house stands at p -/
def HouseAt (C : Addr) (H : Hp) (p : Addr) (ls gs : List Int) (cs : List (Str × Int × Int)) : Prop := Valid ls gs cs ∧ ∃ dx l g c d : Addr, H p = some (.ins C dx (hf (.ref l) (.ref g) (.ref c) (.int ls.sum) (.ref d))) ∧
  H l = some (.lst (ls.map V.int)) ∧ H g = some (.lst (gs.map V.int)) ∧ H c = some (.lst ((crossN ls).map V.int)) ∧ H d = some (.dT ((kOf cs).map fun k => (k, V.bl true)))
structure ErrTxt (K : PySem.W.Frag) (mg : Str → Option Value) (CI : Addr) (x : Str) : Prop where
  gI : mg x = some (.ref CI)
  kI : PySem.W.keepIn K (.ref CI) = true
  xI : PySem.W.excIn K CI [.type "ValueError", .type "Exception", .type "BaseException", .type "object"] "ValueError.__new__" = true
  bI : PySem.W.subIn K (.ref CI) (.type "BaseException") = some true
  tI : PySem.W.typeIn K (.ref CI) = some (.type "type")
/-- no list stands there -/
def NoLst (H : Hp) (b : Addr) : Prop := ∀ zs, H b ≠ some (.lst zs)
theorem Kp.noLst {H H' : Hp} {b : Addr} (k : Kp H H') (n : H' b = none) : NoLst H b := fun zs e => by
  rcases k.free n with z | ⟨ps, z⟩
  · rw [z] at e
    cases e
  · rw [z] at e
    cases e
def spHouse (K : PySem.W.Frag) (C CI TL TI : Addr) : Sp := fun vs H Q E => ∃ (p dx l g c : Addr) (ls gs : List Int) (xs : List V) (cs : List (Str × Int × Int)), vs = [.ref p, .ref l, .ref g, .ref c] ∧ H p = some (.ins C dx []) ∧
  SqL K H l (ls.map V.int) ∧ SqL K H g (gs.map V.int) ∧ SqL K H c xs ∧ Krs H xs (kOf cs) ∧ ls.length ≤ 1000 ∧ gs.length ≤ 1000 ∧ cs.length ≤ 1000 ∧ TabG H TL ∧ TabG H TI ∧
  (Valid ls gs cs → ∀ H', HouseAt C H' p ls gs cs → KpB p H H' → (∀ (dx l g c : Addr) (t d : V), H' p = some (.ins C dx (hf (.ref l) (.ref g) (.ref c) t d)) → NoLst H l ∧ NoLst H g ∧ NoLst H c) → Q .non H') ∧
  (¬ Valid ls gs cs → ∀ H', KpB p H H' → E (.ref CI) none H')
theorem ok_house {f cI TI C CI fL fA cA TL fX : Addr} {fd fdL fdA fdX : FuncData} (F : FunC K "__init__" "House.__init__" s_House___init__ f cI fd) (TB : TabB base mg cI TI) (Z : HouseTop mg) (T : HouseTxt K mg C) (U : ErrTxt K mg CI "InvalidHouse")
    (FL : Fun K "is_link" "House.is_link" s_House_is_link fL fdL) (bL : Binds K fdL ["self", "link"] []) (mL : Meth K C "is_link" fL)
    (FA : FunC K "_are_long" "_are_long" s__are_long fA cA fdA) (TBA : TabB base mg cA TL) (bA : Binds K fdA ["numbers"] []) (gA : mg "_are_long" = some (.ref fA))
    (FX : Fun K "_cross_heights" "_cross_heights" s__cross_heights fX fdX) (bX : Binds K fdX ["lengths"] []) (gX : mg "_cross_heights" = some (.ref fX)) :
    FnOk P w K mg base (L2.CX P w) 5 f fd ["self", "lengths", "gaps", "closed"] (spHouse K C CI TL TI) := by
  have GL : FnOk P w K mg base CX0 1 fL fdL ["self", "link"] (spLink C) := ok_link FL Z T
  have GA : FnOk P w K mg base CX0 3 fA fdA ["numbers"] (spLong K TL) := ok_long FA Z TBA
  have GX : FnOk P w K mg base CX0 2 fX fdX ["lengths"] (spCross K) := ok_cross FX
  refine F.okX sc_House___init__ (fun vs H Q E h => ?_) (fun A outer s H vs Q E hr h => ?_)
  · obtain ⟨p, dx, l, g, c, ls, gs, xs, cs, rfl, _⟩ := h
    rfl
  · obtain ⟨p, dx, l, g, c, ls, gs, xs, cs, rfl, hp, hl, hg, hc, hx, bl, bg, bc, tL, tI, q, e⟩ := h
    obtain ⟨_, hStr⟩ := Z.stretches
    obtain ⟨_, hGap⟩ := Z.mostGaps
    obtain ⟨_, hClo⟩ := Z.mostClosed
    have nd := sc_House___init__.nd
    have hxl := hx.len
    refine ⟨_, (pss_cons (ps_if (PW.pt (pw_or (pt_not (pt_chain op_le op_le pe_int (pe_callB call_len (by rfl) Z.len (by decide +kernel) (pa_cons (pv 1) pa_nil)) (pe_glob (v := .int 2) rfl hStr ⟨_, rfl⟩))) (pw_or1 (pt_not (pt_val (pe_call GA (by exact hr.mono (by decide)) (by rfl) gA FA.kp bA .nil pass0 (pa_cons (pv 1) pa_nil))))))) (pss_one (ps_raise rfl (takes_of rfl rfl rfl rfl) (pmk_own PySem.F.excBase_ValueError U.xI U.gI U.kI (raises_own U.bI U.tI) rfl))) pss_nil)
      (pss_cons (ps_if (PW.pt (pw_or (pt_cmpR op_gt (pe_callB call_len (by rfl) Z.len (by decide +kernel) (pa_cons (pv 2) pa_nil)) (pe_glob (v := .int 11) rfl hGap ⟨_, rfl⟩) (nomark _)) (pw_or1 (pt_not (pt_val (pe_call GA (by exact hr.mono (by decide)) (by rfl) gA FA.kp bA .nil pass0 (pa_cons (pv 2) pa_nil))))))) (pss_one (ps_raise rfl (takes_of rfl rfl rfl rfl) (pmk_own PySem.F.excBase_ValueError U.xI U.gI U.kI (raises_own U.bI U.tI) rfl))) pss_nil)
      (pss_cons (ps_fld (pv 0) (pe_callTy call_list_of (by rfl) Z.list (by decide +kernel) (pa_cons (pv 1) pa_nil)) rfl)
      (pss_cons (ps_fld (pv 0) (pe_callTy call_list_of (by rfl) Z.list (by decide +kernel) (pa_cons (pv 2) pa_nil)) rfl)
      (pss_cons (ps_fld (pv 0) (pe_call GX (by exact hr.mono (by decide)) (by rfl) gX FX.kp bX .nil pass0 (pa_cons (pv 1) pa_nil)) rfl)
      (pss_cons (ps_fld (pv 0) (pe_callB (cr_sum rfl) (by rfl) Z.sum (by decide +kernel) (pa_cons (pv 1) pa_nil)) rfl)
      (pss_cons (ps_fld (pv 0) (pe_dcT (own := [("link", 4)]) (g := gName 4) rfl (by exact hr.units0) nd (pi_list (pv 3)) (blkOk_by (N := ["self", "lengths", "gaps", "closed", "link"]) (sc := defScope s_House___init__) (by decide +kernel)) (fun _ _ _ _ _ => ⟨pg_name (i := 4) nd rfl (.inl rfl), pv 4, pe_bl⟩)) rfl)
      (pss_cons (ps_if (PW.pt (pw_or (pt_cmpR op_gt (pe_callB call_len (by rfl) Z.len (by decide +kernel) (pa_cons (pv 3) pa_nil)) (pe_glob (v := .int 200) rfl hClo ⟨_, rfl⟩) (nomark _)) (pw_or1 (pt_cmpR op_lt (pe_callB call_len_dT (by rfl) Z.len (by decide +kernel) (pa_cons (pe_fld (pv 0) rfl) pa_nil)) (pe_callB call_len (by rfl) Z.len (by decide +kernel) (pa_cons (pv 3) pa_nil)) (nomark _))))) (pss_one (ps_raise rfl (takes_of rfl rfl rfl rfl) (pmk_own PySem.F.excBase_ValueError U.xI U.gI U.kI (raises_own U.bI U.tI) rfl))) pss_nil)
      (pss_one (ps_if (pt_not (pt_val (pe_allG (k := 3) (N := ["link", "self"]) (fr := [none, some 0]) (g := gName 0) (by exact hr) (by rfl) Z.all (by decide +kernel) TB rfl (gsc_by (outer := defScope s_House___init__) rfl rfl (by decide +kernel)) (gfr_by (outer := defScope s_House___init__) (XN := ["self", "lengths", "gaps", "closed", "link"]) rfl rfl (by decide +kernel)) (pi_list (pv 3)) (fun B s0 H0 cd fp rB => ⟨pg_name (i := 0) (show (["link", "self"] : List Str).Nodup by decide) rfl (.inl rfl), (pe_meth (pv 1) T.cl mL GL (by exact rB.mono (by decide)) bL .nil pass0 (pa_cons (pv 0) pa_nil))⟩) (fun _ => rfl)))) (pss_one (ps_raise rfl (takes_of rfl rfl rfl rfl) (pmk_own PySem.F.excBase_ValueError U.xI U.gI U.kI (raises_own U.bI U.tI) rfl))) pss_nil)))))))))), ?_⟩
    have bad : ∀ {H' : Hp}, ¬ Valid ls gs cs → KpB p H H' → E (.ref CI) none H' := fun {H'} n k => e n H' k
    refine (tells_chain (f := fun i j => decide (i ≤ j)) (j := (ls.length : Int)) (n := 2) (fun Q q => ⟨_, rfl, _, _, rfl, .inl ⟨_, hl, rfl⟩, by rw [List.length_map]; exact q⟩) (fun Q q => q)) _ ⟨_, rfl, ?_⟩
    refine ite2 (fun h1 => ?_) (fun h1 => ?_)
    · exact bad (fun v => by
        have v1 := v.1.1
        simp at h1
        omega) KpB.refl
    refine ⟨_, rfl, l, ls, rfl, hl, tL, fun H1 t1 => ⟨_, rfl, ?_⟩⟩
    have k1 : Kp H H1 := Tabbed.kp t1 tL
    refine ite2 (fun h2 => ?_) (fun h2 => ?_)
    · exact bad (fun v => by
        rw [v.1.2] at h2
        cases h2) (KpB.refl.kp k1)
    have v1 : (1 ≤ ls.length ∧ ls.length ≤ 2) ∧ ls.all longN = true := ⟨by simp at h1; omega, by simpa using h2⟩
    refine ⟨_, rfl, _, _, rfl, .inl ⟨_, k1.seq hg, rfl⟩, _, _, rfl, rfl, _, rfl, ?_⟩
    refine ite2 (fun h3 => ?_) (fun h3 => ?_)
    · exact bad (fun v => by
        have v2 := v.2.1.1
        simp at h3
        omega) (KpB.refl.kp k1)
    refine ⟨_, rfl, g, gs, rfl, k1.seq hg, k1.tab _ tL, fun H2 t2 => ⟨_, rfl, ?_⟩⟩
    have k2 : Kp H H2 := k1.trans (Tabbed.kp t2 (k1.tab _ tL))
    refine ite2 (fun h4 => ?_) (fun h4 => ?_)
    · exact bad (fun v => by
        rw [v.2.1.2] at h4
        cases h4) (KpB.refl.kp k2)
    have v2 : gs.length ≤ 11 ∧ gs.all longN = true := ⟨by simp at h3; omega, by simpa using h4⟩
    have kb2 : KpB p H H2 := KpB.refl.kp k2
    have hp2 := k2.ins hp
    -- self._lengths
    refine ⟨_, rfl, l, _, rfl, .inl (k2.seq hl), fun r1 n1 => ⟨_, rfl, p, C, dx, [], rfl, by rw [upd_ne (ne_of_none hp2 n1)]; exact hp2, T.cl, T.nL, by show 0 < 1000; decide, ?_⟩⟩
    obtain ⟨H3, e3, kb3, hp3, g3, s3, f3⟩ := stepF (o := .lst (ls.map V.int)) (gs := putF "_lengths" (.ref r1) []) kb2 hp2 n1
    rw [e3]
    have l3 := seqP hp2 s3 (k2.seq hl)
    have q3 := seqP hp2 s3 (k2.seq hg)
    have c3 := seqP hp2 s3 (k2.seq hc)
    have x3 := krsP hp2 s3 (hx.kp k2)
    -- self._gaps
    refine ⟨_, rfl, g, _, rfl, .inl q3, fun r2 n2 => ⟨_, rfl, p, C, dx, _, rfl, by rw [upd_ne (ne_of_none hp3 n2)]; exact hp3, T.cl, T.nG, by show 1 < 1000; decide, ?_⟩⟩
    obtain ⟨H4, e4, kb4, hp4, g4, s4, f4⟩ := stepF (o := .lst (gs.map V.int)) (gs := putF "_gaps" (.ref r2) (putF "_lengths" (.ref r1) [])) kb3 hp3 n2
    rw [e4]
    have l4 := seqP hp3 s4 l3
    have c4 := seqP hp3 s4 c3
    have x4 := krsP hp3 s4 x3
    have gL4 := s4 _ _ g3 (ne_of hp3 g3 fun z => nomatch z).symm
    have len0 : ([] : List (Str × V)).length < 1 := by decide
    -- self._crosses
    refine ⟨_, rfl, l, ls, rfl, l4, bl, fun H5 r3 sm5 n3 g5 => ⟨_, rfl, p, C, dx, _, rfl, sm5 _ _ hp4, T.cl, T.nX, Nat.lt_of_lt_of_le (lenF (lenF len0)) (by decide), ?_⟩⟩
    obtain ⟨H6, e6, kb6, hp6, s6, f6⟩ := stepP (gs := putF "_crosses" (.ref r3) (putF "_gaps" (.ref r2) (putF "_lengths" (.ref r1) []))) (kb4.kp (kpS sm5)) (sm5 _ _ hp4)
    rw [e6]
    have hp5 := sm5 _ _ hp4
    have l6 := seqP hp5 s6 (sm5.seq l4)
    have c6 := seqP hp5 s6 (sm5.seq c4)
    have x6 := krsP hp5 s6 (x4.same sm5)
    have gL6 := s6 _ _ (sm5 _ _ gL4) (ne_of hp5 (sm5 _ _ gL4) fun z => nomatch z).symm
    have gG6 := s6 _ _ (sm5 _ _ g4) (ne_of hp5 (sm5 _ _ g4) fun z => nomatch z).symm
    have gX6 := s6 _ _ g5 (ne_of hp5 g5 fun z => nomatch z).symm
    -- self._top
    refine ⟨_, rfl, l, ls, rfl, l6, _, rfl, p, C, dx, _, rfl, hp6, T.cl, T.nT, Nat.lt_of_lt_of_le (lenF (lenF (lenF len0))) (by decide), ?_⟩
    obtain ⟨H7, e7, kb7, hp7, s7, f7⟩ := stepP (gs := putF "_top" (.int ls.sum) (putF "_crosses" (.ref r3) (putF "_gaps" (.ref r2) (putF "_lengths" (.ref r1) [])))) kb6 hp6
    rw [e7]
    have c7 := seqP hp6 s7 c6
    have x7 := krsP hp6 s7 x6
    have gL7 := s7 _ _ gL6 (ne_of hp6 gL6 fun z => nomatch z).symm
    have gG7 := s7 _ _ gG6 (ne_of hp6 gG6 fun z => nomatch z).symm
    have gX7 := s7 _ _ gX6 (ne_of hp6 gX6 fun z => nomatch z).symm
    -- self._closed
    refine ⟨_, rfl, c, rfl, ⟨_, c7⟩, fun D nD => ?_⟩
    have sD : ∀ o, Same H7 (upd H7 D o) := fun o => same_upd nD
    refine dcT_list (K := K) (a := c) (xs := xs) (fun i H' => H' = upd H7 D (.dT (ded ((kOf cs).take i)))) rfl ?_ ?_ ?_
    · rintro i H' _ rfl
      exact (sD _).seq c7
    · rintro i x H' hi rfl
      obtain ⟨y, hy, t, rfl, ht⟩ := (x7.same (sD (.dT (ded ((kOf cs).take i))))).at hi
      refine ⟨rfl, _, rfl, t, _, y, rfl, ht, upd_same, ?_, ?_⟩
      · have z1 := ded_le ((kOf cs).take i)
        have z2 : ((kOf cs).take i).length ≤ (kOf cs).length := List.length_take_le' _ _
        have z3 : (kOf cs).length = cs.length := List.length_map _
        rw [sizeLine_eq]
        omega
      · rw [upd_upd, List.take_add_one, hy]
        show _ = upd H7 D (.dT (ded ((kOf cs).take i ++ [y])))
        rw [ded_snoc]
    · rintro H' rfl
      rw [hxl, List.take_length]
      refine ⟨_, rfl, p, C, dx, _, rfl, sD _ _ _ hp7, T.cl, T.nC, Nat.lt_of_lt_of_le (lenF (lenF (lenF (lenF len0)))) (by decide), ?_⟩
      obtain ⟨H8, e8, kb8, hp8, g8, s8, f8⟩ := stepF (o := .dT (ded (kOf cs))) (gs := hf (.ref r1) (.ref r2) (.ref r3) (.int ls.sum) (.ref D)) kb7 hp7 nD
      have e8' : upd (upd H7 D (.dT (ded (kOf cs)))) p (.ins C dx (putF "_closed" (.ref D) (putF "_top" (.int ls.sum) (putF "_crosses" (.ref r3) (putF "_gaps" (.ref r2) (putF "_lengths" (.ref r1) [])))))) = H8 := e8
      rw [e8']
      have c8 := seqP hp7 s8 c7
      have x8 := krsP hp7 s8 x7
      have gL8 := s8 _ _ gL7 (ne_of hp7 gL7 fun z => nomatch z).symm
      have gG8 := s8 _ _ gG7 (ne_of hp7 gG7 fun z => nomatch z).symm
      have gX8 := s8 _ _ gX7 (ne_of hp7 gX7 fun z => nomatch z).symm
      have kl : (kOf cs).length = cs.length := List.length_map _
      -- too many, or one twice
      refine ⟨_, rfl, _, _, rfl, .inl ⟨_, c8, rfl⟩, _, _, rfl, rfl, _, rfl, ?_⟩
      refine ite2 (fun h5 => ?_) (fun h5 => ?_)
      · exact bad (fun v => by
          have v3 := v.2.2.1
          simp at h5
          omega) kb8
      have v3 : cs.length ≤ 200 := by
        simp at h5
        omega
      refine ⟨_, rfl, p, C, dx, _, _, rfl, hp8, T.cl, T.nC, hf_closed _ _ _ _ _, D, _, rfl, g8, _, rfl, _, _, rfl, .inl ⟨_, c8, rfl⟩, _, _, rfl, rfl, _, rfl, ?_⟩
      refine ite2 (fun h6 => ?_) (fun h6 => ?_)
      · exact bad (fun v => by
          rw [(ded_eq (kOf cs)).1 v.2.2.2.1, List.length_map] at h6
          have z := of_decide_eq_true h6
          omega) kb8
      have v4 : (kOf cs).Nodup := Decidable.byContradiction fun n => h6 (decide_eq_true (by
        have z := (ded_eq (kOf cs)).2 n
        omega))
      -- each is a link
      have tab8 : TabG H8 TI := kb8.tab _ tI
      refine ⟨_, rfl, c, rfl, ⟨_, c8⟩, tab8, fun H9 t9 => ?_⟩
      have k9 : Kp H8 H9 := Tabbed.kp t9 tab8
      have kb9 : KpB p H H9 := kb8.kp k9
      have hp9 := k9.ins hp8
      have x9 := x8.kp k9
      have part : PartAt C H9 p ls gs := ⟨dx, r1, r2, r3, _, hp9, k9.lst gL8, k9.lst gG8, k9.lst gX8⟩
      refine for_list (K := K) (a := c) (xs := xs) (fun i σ H' => (∃ z, σ = [z, some (.ref p)]) ∧ H' = H9 ∧ ∀ c ∈ cs.take i, isLk ls gs c.1 c.2.1 c.2.2 = true) ?_ ?_ ?_ ?_
      · exact ⟨⟨none, rfl⟩, rfl, fun c z => by simp at z⟩
      · rintro i σ H' _ ⟨_, rfl, _⟩
        exact k9.seq c8
      · rintro i x H0 H' hi ⟨⟨z, rfl⟩, rfl, hall⟩
        obtain ⟨y, hy, hk⟩ := x9.at hi
        unfold kOf at hy
        rw [List.getElem?_map] at hy
        cases hci : cs[i]? with
        | none => rw [hci] at hy; cases hy
        | some ci =>
          rw [hci] at hy
          cases hy
          refine ⟨_, rfl, p, dx, _, rfl, hp9, hf_no _ _ _ _ _ (by decide +kernel) (by decide +kernel) (by decide +kernel) (by decide +kernel) (by decide +kernel), _, rfl, p, x, ls, gs, ci.1, ci.2.1, ci.2.2, rfl, part, hk, _, rfl, ?_⟩
          refine ite2 (fun h7 => ?_) (fun h7 => ?_)
          · refine ⟨_, rfl, ?_⟩
            exact bad (fun v => by
              rw [v.2.2.2.2 ci (List.mem_of_getElem? hci)] at h7
              cases h7) kb9
          · refine ⟨⟨_, rfl⟩, rfl, fun c' hc' => ?_⟩
            rw [List.take_add_one, hci] at hc'
            rcases List.mem_append.mp hc' with z1 | z1
            · exact hall c' z1
            · have z2 : c' = ci := by simpa using z1
              rw [z2]
              simpa using h7
      · rintro σ H' ⟨⟨z, rfl⟩, rfl, hall⟩
        rw [hxl, kl, List.take_length] at hall
        have va : Valid ls gs cs := ⟨v1, v2, v3, v4, hall⟩
        refine ⟨_, rfl, ?_⟩
        refine q va H' ⟨va, dx, r1, r2, r3, D, hp9, k9.lst gL8, k9.lst gG8, k9.lst gX8, ?_⟩ kb9 (fun dx' l' g' c' t' d' z => ?_)
        · rw [← (ded_eq (kOf cs)).1 v4]
          exact k9.dT g8
        · rw [hp9] at z
          have z2 := Option.some.inj z
          injection z2 with _ _ z3
          have e1 := hf_lengths (.ref r1) (.ref r2) (.ref r3) (.int ls.sum) (.ref D)
          have e2 := hf_gaps (.ref r1) (.ref r2) (.ref r3) (.int ls.sum) (.ref D)
          have e3' := hf_crosses (.ref r1) (.ref r2) (.ref r3) (.int ls.sum) (.ref D)
          rw [z3, hf_lengths] at e1
          rw [z3, hf_gaps] at e2
          rw [z3, hf_crosses] at e3'
          obtain rfl : l' = r1 := V.ref.inj (Option.some.inj e1)
          obtain rfl : g' = r2 := V.ref.inj (Option.some.inj e2)
          obtain rfl : c' = r3 := V.ref.inj (Option.some.inj e3')
          exact ⟨Kp.noLst k2 n1, Kp.noLst k2 (f3 _ n2), Kp.noLst k2 (f3 _ (f4 _ n3))⟩
end
section
open GxR NdefX PySem.Spec PyProof.Rows
variable {P : Program} {w : World} {K : PySem.W.Frag} {mg : Str → Option Value} {base : Heap}
theorem HouseAt.kp {C : Addr} {H H' : Hp} {p : Addr} {ls gs : List Int} {cs : List (Str × Int × Int)} (h : HouseAt C H p ls gs cs) (k : Kp H H') : HouseAt C H' p ls gs cs := by
  obtain ⟨v, dx, l, g, c, d, h1, h2, h3, h4, h5⟩ := h
  exact ⟨v, dx, l, g, c, d, k.ins h1, k.lst h2, k.lst h3, k.lst h4, k.dT h5⟩
theorem HouseAt.part {C : Addr} {H : Hp} {p : Addr} {ls gs : List Int} {cs : List (Str × Int × Int)} (h : HouseAt C H p ls gs cs) : PartAt C H p ls gs := by
  obtain ⟨v, dx, l, g, c, d, h1, h2, h3, h4, h5⟩ := h
  exact ⟨dx, l, g, c, _, h1, h2, h3, h4⟩
/-- a list of numbers of the house's own, handed out anew -/
def spNums (C : Addr) (f : List Int → List Int → List Int) : Sp := fun vs H Q _ => ∃ (p : Addr) (ls gs : List Int) (cs : List (Str × Int × Int)), vs = [.ref p] ∧ HouseAt C H p ls gs cs ∧
  ∀ r, H r = none → Q (.ref r) (upd H r (.lst ((f ls gs).map V.int)))
theorem ok_lengths {f C : Addr} {fd : FuncData} (F : Fun K "lengths" "House.lengths" s_House_lengths f fd) (Z : HouseTop mg) (T : HouseTxt K mg C) : FnOk P w K mg base CX0 1 f fd ["self"] (spNums C (fun ls _ => ls)) := by
  refine F.ok sc_House_lengths (fun vs H Q E h => ?_) (fun cdv A outer s H vs Q E hr h => ?_)
  · obtain ⟨p, ls, gs, cs, rfl, _⟩ := h
    rfl
  · obtain ⟨p, ls, gs, cs, rfl, ⟨_, dx, l, g, c, d, h1, h2, h3, h4, h5⟩, q⟩ := h
    exact ⟨_, (pss_one (ps_ret (pe_callTy call_list_of (by rfl) Z.list (by decide +kernel) (pa_cons (pe_fld (pv 0) rfl) pa_nil)))), _, rfl, p, C, dx, _, _, rfl, h1, T.cl, T.nL, hf_lengths _ _ _ _ _, l, _, rfl, .inl (SqL.of h2), q⟩
theorem ok_crosses {f C : Addr} {fd : FuncData} (F : Fun K "crosses" "House.crosses" s_House_crosses f fd) (Z : HouseTop mg) (T : HouseTxt K mg C) : FnOk P w K mg base CX0 1 f fd ["self"] (spNums C (fun ls _ => crossN ls)) := by
  refine F.ok sc_House_crosses (fun vs H Q E h => ?_) (fun cdv A outer s H vs Q E hr h => ?_)
  · obtain ⟨p, ls, gs, cs, rfl, _⟩ := h
    rfl
  · obtain ⟨p, ls, gs, cs, rfl, ⟨_, dx, l, g, c, d, h1, h2, h3, h4, h5⟩, q⟩ := h
    exact ⟨_, (pss_one (ps_ret (pe_callTy call_list_of (by rfl) Z.list (by decide +kernel) (pa_cons (pe_fld (pv 0) rfl) pa_nil)))), _, rfl, p, C, dx, _, _, rfl, h1, T.cl, T.nX, hf_crosses _ _ _ _ _, c, _, rfl, .inl (SqL.of h4), q⟩
end
section
open GxR NdefX PySem.Spec PyProof.Rows
variable {P : Program} {w : World} {K : PySem.W.Frag} {mg : Str → Option Value} {base : Heap}
theorem room65 {k : Nat} {A : Around} (r : Room k A) : A.units + 65 < cLine := by
  have := r.un
  omega
section
variable {σ : L2.St} {H : Hp} {ta tb : TE} {i j : Int}
theorem Tells.go {te : TE} {v : V} {Q : VK} (h : Tells te σ H v) (q : Q v H) : te σ H Q := h Q q
def nth (ns : List Int) (i : Int) : Int := (ns[i.toNat]?).getD 0
theorem nth_small {ns : List Int} (h : Small ns) (i : Int) : 0 ≤ nth ns i ∧ nth ns i < 1009 := by
  unfold nth
  cases e : ns[i.toNat]? with
  | none => decide
  | some n => exact h n (List.mem_of_getElem? e)
theorem atI_nth {ns : List Int} {i : Int} (h0 : 0 ≤ i) (h1 : i < ns.length) : atI (ns.map V.int) i = some (V.int (nth ns i)) := by
  have e : ((i.toNat : Nat) : Int) = i := Int.toNat_of_nonneg h0
  have lt : i.toNat < ns.length := by omega
  have z : atI (ns.map V.int) ((i.toNat : Nat) : Int) = some (V.int (nth ns i)) := by
    refine atI_nat ?_
    unfold nth
    rw [List.getElem?_map, List.getElem?_eq_getElem lt]
    rfl
  rw [e] at z
  exact z
end
theorem ok_lk {x : Str} (h : PyData.canLay0 (.str x) = true) (a b : Int) : okk (lk x a b) = true := by
  show (PyData.canLay0 (.str x) && (true && (true && true))) = true
  rw [h]
  rfl
/-- numbers from 1 to 40 -/
def Lens (ls : List Int) : Prop := ∀ x ∈ ls, 1 ≤ x ∧ x ≤ 40
theorem Lens.all {ls : List Int} (h : Lens ls) : ls.all longN = true := List.all_eq_true.mpr fun x hx => by
  have q := h x hx
  unfold longN
  rw [decide_eq_true q.1, decide_eq_true q.2]
  rfl
theorem Lens.snoc {ls : List Int} (h : Lens ls) {x : Int} (h1 : 1 ≤ x) (h2 : x ≤ 40) : Lens (ls ++ [x]) := fun y hy => by
  rcases List.mem_append.mp hy with z | z
  · exact h y z
  · rw [List.mem_singleton.mp z]
    exact ⟨h1, h2⟩
theorem Lens.pos {ls : List Int} (h : Lens ls) : ∀ k, 0 ≤ (ls.take k).sum := by
  intro k
  have all : ∀ xs : List Int, (∀ x ∈ xs, 1 ≤ x ∧ x ≤ 40) → 0 ≤ xs.sum := by
    intro xs
    induction xs with
    | nil => intro _; decide
    | cons x xs ih =>
      intro q
      have q1 := q x List.mem_cons_self
      have q2 := ih fun y hy => q y (List.mem_cons_of_mem _ hy)
      rw [List.sum_cons]
      omega
  exact all _ fun x hx => h x (List.mem_of_mem_take hx)
theorem Lens.pos1 {ls : List Int} (h : Lens ls) (hl : 1 ≤ ls.length) : 1 ≤ ls.sum := by
  cases ls with
  | nil => simp at hl
  | cons x ls =>
    have q1 := h x List.mem_cons_self
    have q2 := Lens.pos (ls := ls) (fun y hy => h y (List.mem_cons_of_mem _ hy)) ls.length
    rw [List.take_length] at q2
    rw [List.sum_cons]
    omega
theorem made {H : Hp} {a : Addr} {o : HO} (h : H a = none) : ∃ H', upd H a o = H' ∧ Same H H' ∧ H' a = some o := ⟨_, rfl, same_upd h, upd_same⟩
end
section
open GxR NdefX PySem.Spec PyProof.Rows
variable {P : Program} {w : World} {K : PySem.W.Frag} {mg : Str → Option Value} {base : Heap}
/-- behind a new object: all but it is as it was -/
theorem mkKp {H H' : Hp} {x dx : Addr} {o u : HO} (n : H x = none) (m : H dx = none) (k : KpB x (upd (upd H dx u) x o) H') : Kp H H' := by
  have step : ∀ b z, H b = some z → (upd (upd H dx u) x o) b = some z := fun b z e => by
    rw [upd_ne (ne_of_none e n), upd_ne (ne_of_none e m)]
    exact e
  exact ⟨fun b z e t => k.at_ b z (step b z e) (ne_of_none e n) t, fun P ⟨ps, e, t⟩ => k.tab P ⟨ps, step _ _ e, t⟩⟩
structure PropD (P : Program) (w : World) (K : PySem.W.Frag) (mg : Str → Option Value) (base : Heap) (C : Addr) (k : Nat) (x : Str) (sp : Sp) where
  f : Addr
  p : Addr
  fd : FuncData
  h : PropOf K C x p f
  G : FnOk P w K mg base CX0 k f fd ["self"] sp
  b : Binds K fd ["self"] []
structure MethD (P : Program) (w : World) (K : PySem.W.Frag) (mg : Str → Option Value) (base : Heap) (C : Addr) (k : Nat) (x : Str) (ps : List Str) (sp : Sp) where
  f : Addr
  fd : FuncData
  m : Meth K C x f
  G : FnOk P w K mg base CX0 k f fd ps sp
  b : Binds K fd ps []
structure TopD (P : Program) (w : World) (K : PySem.W.Frag) (mg : Str → Option Value) (base : Heap) (k : Nat) (x : Str) (ps : List Str) (sp : Sp) where
  f : Addr
  fd : FuncData
  G : FnOk P w K mg base CX0 k f fd ps sp
  b : Binds K fd ps []
  g : mg x = some (.ref f)
  kp : PySem.W.keepIn K (.ref f) = true
theorem Lens.pos2 {ls : List Int} (h : Lens ls) : 0 ≤ ls.sum := by
  have q := h.pos ls.length
  rw [List.take_length] at q
  exact q
theorem Lens.le {ls : List Int} (h : Lens ls) (k : Nat) : (ls.take k).sum ≤ ls.sum := by
  have e : ls.sum = (ls.take k).sum + (ls.drop k).sum := by
    rw [← List.sum_append, List.take_append_drop]
  have q : Lens (ls.drop k) := fun x hx => h x (List.mem_of_mem_drop hx)
  have z := q.pos2
  omega
theorem Lens.cross {ls : List Int} (h : Lens ls) {y : Int} (hy : y ∈ crossN ls) : 0 ≤ y ∧ y ≤ ls.sum := by
  unfold crossN at hy
  obtain ⟨k, _, rfl⟩ := List.mem_map.mp hy
  exact ⟨h.pos k, h.le k⟩
end
section
open GxR NdefX PySem.Spec PyProof.Rows
variable {P : Program} {w : World} {K : PySem.W.Frag} {mg : Str → Option Value} {base : Heap}
abbrev Goes (J : It) (H1 : Hp) (Qd : Hp → Prop) (B : V → Hp → (Hp → Prop) → Prop) : Prop := ∃ W : Nat → Nat → Hp → Prop, (∃ m, W 0 m H1) ∧ ∀ i m H, W i m H →
  (J.stop i H ∧ Qd H) ∨ (J.go i H ∧ ∃ Nx : Hp → Prop, (∀ H', Nx H' → ∃ m', m' < m ∧ W (i + 1) m' H') ∧ ∀ x H', J.yld i H x H' → B x H' Nx)
def lkC (c : Str × Int × Int) : Tk := lk c.1 c.2.1 c.2.2
theorem kOf_eq (cs : List (Str × Int × Int)) : kOf cs = cs.map lkC := rfl
theorem lkC_inj {c d : Str × Int × Int} (h : lkC c = lkC d) : c = d := by
  obtain ⟨x, a, b⟩ := c
  obtain ⟨y, a', b'⟩ := d
  have h' : lk x a b = lk y a' b' := h
  unfold lk at h'
  injection h' with e1 e2
  injection e2 with e3 e4
  injection e4 with e5 _
  rw [Sum.inr.inj e1, Sum.inl.inj e3, Sum.inl.inj e5]
theorem mem_kOf {c : Str × Int × Int} {cs : List (Str × Int × Int)} : lkC c ∈ kOf cs ↔ c ∈ cs := by
  rw [kOf_eq]
  refine ⟨fun h => ?_, fun h => List.mem_map_of_mem h⟩
  obtain ⟨d, hd, e⟩ := List.mem_map.mp h
  rw [← lkC_inj e]
  exact hd
theorem crossN_len (ls : List Int) : (crossN ls).length = ls.length + 1 := by
  unfold crossN
  rw [List.length_map, List.length_range]
theorem Room.units1 {k : Nat} {A : Around} (r : Room k A) : A.units + 1 < cLine := by
  have := r.un
  omega
theorem val_closed {ls gs : List Int} {cs : List (Str × Int × Int)} (v : Valid ls gs cs) (k : Tk) : (valV ((kOf cs).map fun k => (k, V.bl true)) k).isSome = decide (k ∈ kOf cs) := by
  rw [← (ded_eq (kOf cs)).1 v.2.2.2.1]
  exact ded_mem _ _
theorem Valid.lens {ls gs : List Int} {cs : List (Str × Int × Int)} (v : Valid ls gs cs) : Lens ls := fun x hx => by
  have z := List.all_eq_true.mp v.1.2 x hx
  unfold longN at z
  rw [Bool.and_eq_true, decide_eq_true_eq, decide_eq_true_eq] at z
  exact z
def isPl (ls gs : List Int) (p : Pl) : Bool := (decide (0 ≤ p.1) && decide (p.1 ≤ gs.length)) && (decide (0 ≤ p.2) && decide (p.2 ≤ ls.sum))
def isCr (ls gs : List Int) (p : Pl) : Bool := isPl ls gs p && decide (p.2 ∈ crossN ls)
def spPl (C : Addr) (f : List Int → List Int → Pl → Bool) : Sp := fun vs H Q _ => ∃ (p : Addr) (v : V) (ls gs : List Int) (cs : List (Str × Int × Int)) (pl : Pl), vs = [.ref p, v] ∧ HouseAt C H p ls gs cs ∧ Pr H v pl ∧ Q (.bl (f ls gs pl)) H
def spClosedQ (C : Addr) : Sp := fun vs H Q _ => ∃ (p : Addr) (v : V) (ls gs : List Int) (cs : List (Str × Int × Int)) (k : Tk), vs = [.ref p, v] ∧ HouseAt C H p ls gs cs ∧ Kr H v k ∧ Q (.bl (decide (k ∈ kOf cs))) H
theorem Pr.kr {H : Hp} {v : V} {p : Pl} (h : Pr H v p) : ∃ t, v = .ref t ∧ H t = some (.tup [.int p.1, .int p.2]) := h
theorem ok_is_place {f C : Addr} {fd : FuncData} (F : Fun K "is_place" "House.is_place" s_House_is_place f fd) (Z : HouseTop mg) (T : HouseTxt K mg C) : FnOk P w K mg base CX0 1 f fd ["self", "place"] (spPl C isPl) := by
  refine F.ok sc_House_is_place (fun vs H Q E h => ?_) (fun cdv A outer s H vs Q E hr h => ?_)
  · obtain ⟨p, v, ls, gs, cs, pl, rfl, _⟩ := h
    rfl
  · obtain ⟨p, v, ls, gs, cs, pl, rfl, ⟨_, dx, l, g, c, d, h1, h2, h3, h4, h5⟩, ⟨t, rfl, ht⟩, q⟩ := h
    have nd := sc_House_is_place.nd
    refine ⟨_, (pss_cons (ps_asg (pv 1) (pg_tup rfl (pgs_cons (pg_name (i := 2) nd rfl (.inl rfl)) (pgs_cons (pg_name (i := 3) nd rfl (.inl rfl)) pgs_nil))))
      (pss_one (ps_ret (pe_and (pe_chain op_le op_le pe_int (pv 2) (pe_callB call_len (by rfl) Z.len (by decide +kernel) (pa_cons (pe_fld (pv 0) rfl) pa_nil))) (pe_one (pe_chain op_le op_le pe_int (pv 3) (pe_fld (pv 0) rfl))))))), ?_⟩
    refine ⟨_, rfl, t, _, rfl, SqT.of ht, rfl, _, _, rfl, _, _, rfl, rfl, ?_⟩
    have var : ∀ {σ : L2.St} {i : Nat} {v : V}, σ[i]? = some (some v) → Tells (tVar i) σ H v := fun e Q q => ⟨_, e, q⟩
    have fld : ∀ {σ : L2.St} {f : Str} {v : V}, σ[0]? = some (some (V.ref p)) → NoAttr K C f → (hf (.ref l) (.ref g) (.ref c) (.int ls.sum) (.ref d)).lookup f = some v → Tells (tFld K (tVar 0) f) σ H v := fun e n z Q q =>
      ⟨_, e, p, C, dx, _, _, rfl, h1, T.cl, n, z, q⟩
    have cnt : ∀ {σ : L2.St}, σ[0]? = some (some (V.ref p)) → Tells (tCB (fun xs H1 Q => ∃ x n, xs = [x] ∧ LenV K x H1 n ∧ Q (V.int (n : Nat)) H1) (tCons (tFld K (tVar 0) "_gaps") tNil)) σ H (.int gs.length) := fun e Q q =>
      fld e T.nG (hf_gaps _ _ _ _ _) _ ⟨_, _, rfl, .inl ⟨_, SqL.of h3, rfl⟩, by rw [List.length_map]; exact q⟩
    refine tells_and (tells_chain (f := fun i j => decide (i ≤ j)) (var rfl) (cnt rfl)) (tells_chain (f := fun i j => decide (i ≤ j)) (var rfl) (fld rfl T.nT (hf_top _ _ _ _ _))) _ ?_
    exact q
theorem ok_is_closed {f C : Addr} {fd : FuncData} (F : Fun K "is_closed" "House.is_closed" s_House_is_closed f fd) (T : HouseTxt K mg C) : FnOk P w K mg base CX0 1 f fd ["self", "link"] (spClosedQ C) := by
  refine F.ok sc_House_is_closed (fun vs H Q E h => ?_) (fun cdv A outer s H vs Q E hr h => ?_)
  · obtain ⟨p, v, ls, gs, cs, k, rfl, _⟩ := h
    rfl
  · obtain ⟨p, v, ls, gs, cs, k, rfl, hH, ⟨t, rfl, ht⟩, q⟩ := h
    obtain ⟨va, dx, l, g, c, d, h1, h2, h3, h4, h5⟩ := id hH
    refine ⟨_, (pss_one (ps_ret (pe_cmp (pc_din (by exact Room.units1 hr) (pv 1) (pe_fld (pv 0) rfl))))), ?_⟩
    refine ⟨_, rfl, _, rfl, p, C, dx, _, _, rfl, h1, T.cl, T.nC, hf_closed _ _ _ _ _, d, _, rfl, DGet.t h5 ht, ?_⟩
    rw [val_closed va]
    exact q
end
theorem ks1 : ¬ (("start" : Str) = "end") := by decide +kernel
theorem ks2 : ¬ (("start" : Str) = "_picks") := by decide +kernel
theorem ks3 : ¬ (("end" : Str) = "_picks") := by decide +kernel
def tf (a b : V) (l : Addr) : List (Str × V) := putF "_picks" (.ref l) (putF "end" b (putF "start" a []))
theorem tf_len2 (a b : V) : (putF "end" b (putF "start" a ([] : List (Str × V)))).length = 2 := by
  show (if ("start" : Str) = "end" then [(("start" : Str), b)] else (("start" : Str), a) :: putF "end" b []).length = 2
  rw [if_neg ks1]
  rfl
theorem tf_start (a b : V) (l : Addr) : (tf a b l).lookup ("start" : Str) = some a := by
  unfold tf
  rw [lookup_putF, if_neg ks2, lookup_putF, if_neg ks1, lookup_putF, if_pos rfl]
theorem tf_end (a b : V) (l : Addr) : (tf a b l).lookup ("end" : Str) = some b := by
  unfold tf
  rw [lookup_putF, if_neg ks3, lookup_putF, if_pos rfl]
theorem tf_picks (a b : V) (l : Addr) : (tf a b l).lookup ("_picks" : Str) = some (.ref l) := by
  unfold tf
  rw [lookup_putF, if_pos rfl]
/-- a task stands at p: its start, its end, its picks in order -/
def TaskAt (C : Addr) (H : Hp) (p : Addr) (st en : Pl) (ps : List Pl) : Prop := ∃ (dx l : Addr) (a b : V) (xs : List V),
  H p = some (.ins C dx (tf a b l)) ∧ Pr H a st ∧ Pr H b en ∧ H l = some (.lst xs) ∧ Prs H xs ps ∧ ps.Pairwise lp ∧ ps.Nodup ∧ ps.length ≤ 60
theorem TaskAt.same {C : Addr} {H H' : Hp} {p : Addr} {st en : Pl} {ps : List Pl} (h : TaskAt C H p st en ps) (k : Same H H') : TaskAt C H' p st en ps := by
  obtain ⟨dx, l, a, b, xs, h1, h2, h3, h4, h5, h6⟩ := h
  exact ⟨dx, l, a, b, xs, k _ _ h1, h2.same k, h3.same k, k _ _ h4, h5.same k, h6⟩
theorem TaskAt.over {C : Addr} {H : Hp} {p m : Addr} {st en : Pl} {ps : List Pl} {zs ws : List V} (h : TaskAt C H p st en ps) (hm : H m = some (.lst zs)) (hn : ∀ dx a b r, H p = some (.ins C dx (tf a b r)) → r ≠ m) : TaskAt C (upd H m (.lst ws)) p st en ps := by
  obtain ⟨dx, l, a, b, xs, h1, h2, h3, h4, h5, h6⟩ := h
  exact ⟨dx, l, a, b, xs, by rw [upd_ne (ne_of h1 hm (by intro z; cases z))]; exact h1, h2.over hm, h3.over hm, by rw [upd_ne (hn _ _ _ _ h1)]; exact h4, h5.over hm, h6⟩
/-- what the top has left of the class of tasks and of its errors -/
structure TaskTxt (K : PySem.W.Frag) (mg : Str → Option Value) (C CI : Addr) : Prop where
  cl : Cls K C
  nS : NoAttr K C "start"
  nE : NoAttr K C "end"
  nP : NoAttr K C "_picks"
  mgC : mg "Task" = some (.ref C)
  len : mg "len" = none
  set : mg "set" = none
  sorted : mg "sorted" = none
  list : mg "list" = none
  most : ∃ t, mg "MOST_PICKS" = some (.int 60 t)
  gI : mg "InvalidTask" = some (.ref CI)
  kI : PySem.W.keepIn K (.ref CI) = true
  xI : PySem.W.excIn K CI [.type "ValueError", .type "Exception", .type "BaseException", .type "object"] "ValueError.__new__" = true
  bI : PySem.W.subIn K (.ref CI) (.type "BaseException") = some true
  tI : PySem.W.typeIn K (.ref CI) = some (.type "type")
section
variable {P : Program} {w : World} {K : PySem.W.Frag} {mg : Str → Option Value} {base : Heap}
/-- all but what is at p is as it was -/
def But (p : Addr) (H H' : Hp) : Prop := ∀ b o, H b = some o → b ≠ p → H' b = some o
def spTask (K : PySem.W.Frag) (C CI : Addr) : Sp := fun vs H Q E => ∃ (p dx l : Addr) (a b : V) (st en : Pl) (xs : List V) (ps : List Pl), vs = [.ref p, a, b, .ref l] ∧ H p = some (.ins C dx []) ∧ Pr H a st ∧ Pr H b en ∧
  SqL K H l xs ∧ Prs H xs ps ∧ ps.length ≤ 1000 ∧
  (ps.length ≤ 60 → ps.Nodup → ∀ H', TaskAt C H' p st en (sortP ps) → But p H H' → (∀ dx a b r, H' p = some (.ins C dx (tf a b r)) → H r = none) → Q .non H') ∧
  (¬ (ps.length ≤ 60 ∧ ps.Nodup) → ∀ H', Same H H' → E (.ref CI) none H')
theorem ok_task {f C CI : Addr} {fd : FuncData} (F : Fun K "__init__" "Task.__init__" s_Task___init__ f fd) (T : TaskTxt K mg C CI) : FnOk P w K mg base (L2.CX P w) 2 f fd ["self", "start", "end", "picks"] (spTask K C CI) := by
  refine F.okX sc_Task___init__ (fun vs H Q E h => ?_) (fun cdv A outer s H vs Q E hr h => ?_)
  · obtain ⟨p, dx, l, a, b, st, en, xs, ps, rfl, _⟩ := h
    rfl
  · obtain ⟨p, dx, l, a, b, st, en, xs, ps, rfl, hp, ha, hb, hl, hx, hn, q, e⟩ := h
    obtain ⟨t, hmost⟩ := T.most
    have hxl := hx.len
    refine ⟨_, (pss_cons (ps_if (pt_cmpR op_gt (pe_callB call_len (by rfl) T.len (by decide +kernel) (pa_cons (pv 3) pa_nil)) (pe_glob (v := .int 60) rfl hmost ⟨_, rfl⟩) (nomark _)) (pss_one (ps_raise rfl (takes_of rfl rfl rfl rfl) (pmk_own PySem.F.excBase_ValueError T.xI T.gI T.kI (raises_own T.bI T.tI) rfl))) pss_nil)
      (pss_cons (ps_if (pt_cmpR op_lt (pe_callB call_lenP (by rfl) T.len (by decide +kernel) (pa_cons (pe_callTy (cr_setP rfl hr.units) (by rfl) T.set (by decide +kernel) (pa_cons (pv 3) pa_nil)) pa_nil)) (pe_callB call_len (by rfl) T.len (by decide +kernel) (pa_cons (pv 3) pa_nil)) (nomark _)) (pss_one (ps_raise rfl (takes_of rfl rfl rfl rfl) (pmk_own PySem.F.excBase_ValueError T.xI T.gI T.kI (raises_own T.bI T.tI) rfl))) pss_nil)
      (pss_cons (ps_fld (pv 0) (pv 1) rfl)
      (pss_cons (ps_fld (pv 0) (pv 2) rfl)
      (pss_one (ps_fld (pv 0) (pe_callB call_sortP (by rfl) T.sorted (by decide +kernel) (pa_cons (pv 3) pa_nil)) rfl)))))), ?_⟩
    -- len(picks) > MOST_PICKS
    refine ⟨_, rfl, _, _, rfl, .inl ⟨_, hl, rfl⟩, _, _, rfl, rfl, _, rfl, ?_⟩
    refine ite2 (fun hc => ?_) (fun hc => ?_)
    · have hc' := of_decide_eq_true hc
      exact e (fun z => by omega) H (Same.refl _)
    · have hc' : ps.length ≤ 60 := by
        have : ¬ ((60 : Int) < (xs.length : Int)) := fun z => hc (decide_eq_true z)
        omega
      -- len(set(picks)) < len(picks)
      refine ⟨_, rfl, l, xs, ps, rfl, hl, hx, by omega, fun H1 s0 ns0 k1 hs0 => ⟨s0, ps, rfl, hs0, _, rfl, _, _, rfl, .inl ⟨_, k1.seq hl, rfl⟩, _, _, rfl, rfl, _, rfl, ?_⟩⟩
      refine ite2 (fun hd => ?_) (fun hd => ?_)
      · have hd' := of_decide_eq_true hd
        exact e (fun z => (nub_lt ps).mp (by omega) z.2) H1 k1
      · have hnd : ps.Nodup := by
          have z : ¬ (((nub ps).length : Int) < (xs.length : Int)) := fun z => hd (decide_eq_true z)
          exact Decidable.byContradiction fun y => z (by have := (nub_lt ps).mpr y; omega)
        -- self.start, self.end, self._picks
        have hp1 := k1 _ _ hp
        refine ⟨_, rfl, _, rfl, p, C, dx, [], rfl, hp1, T.cl, T.nS, (by show 0 < 1000; decide), ?_⟩
        refine ⟨_, rfl, _, rfl, p, C, dx, _, rfl, upd_same, T.cl, T.nE, (by show 1 < 1000; decide), ?_⟩
        have hl' : SqL K (upd (upd H1 p (.ins C dx (putF "start" a []))) p (.ins C dx (putF "end" b (putF "start" a [])))) l xs := by
          rcases k1.seq hl with (h | ⟨o, h⟩) | h
          · exact .inl (.inl (by rw [upd_ne (ne_of hp1 h (by intro z; cases z)).symm, upd_ne (ne_of hp1 h (by intro z; cases z)).symm]; exact h))
          · exact .inl (.inr ⟨o, by rw [upd_ne (ne_of hp1 h (by intro z; cases z)).symm, upd_ne (ne_of hp1 h (by intro z; cases z)).symm]; exact h⟩)
          · exact .inr h
        have keep : ∀ c o, H1 c = some o → c ≠ p → (upd (upd H1 p (.ins C dx (putF "start" a []))) p (.ins C dx (putF "end" b (putF "start" a [])))) c = some o := fun c o h n => by
          rw [upd_ne n, upd_ne n]
          exact h
        have tupne : ∀ {v : V} {z : Pl}, Pr H1 v z → Pr (upd (upd H1 p (.ins C dx (putF "start" a []))) p (.ins C dx (putF "end" b (putF "start" a [])))) v z := fun {v z} h => by
          obtain ⟨t, rfl, h⟩ := h
          exact ⟨t, rfl, keep _ _ h (ne_of hp1 h (by intro z; cases z)).symm⟩
        have prsne : ∀ {vs : List V} {zs : List Pl}, Prs H1 vs zs → Prs (upd (upd H1 p (.ins C dx (putF "start" a []))) p (.ins C dx (putF "end" b (putF "start" a [])))) vs zs := fun h => by
          induction h with
          | nil => exact .nil
          | cons x _ ih => exact .cons (tupne x) ih
        refine ⟨_, rfl, l, xs, ps, rfl, hl', prsne (hx.same k1), fun r ys nr hys => ⟨_, rfl, p, C, dx, putF "end" b (putF "start" a []), rfl, ?_, T.cl, T.nP, ?_, ?_⟩⟩
        · rw [upd_ne (ne_of_none upd_same nr)]
          exact upd_same
        · rw [tf_len2]
          decide
        · have npr : p ≠ r := ne_of_none upd_same nr
          have sm : But p H1 (upd (upd (upd (upd H1 p (.ins C dx (putF "start" a []))) p (.ins C dx (putF "end" b (putF "start" a [])))) r (.lst ys)) p (.ins C dx (tf a b r))) := fun c o h n => by
            rw [upd_ne n, upd_ne (ne_of_none (keep c o h n) nr)]
            exact keep c o h n
          have back : ∀ {c : Addr} {xs : List V}, (upd (upd (upd H1 p (.ins C dx (putF "start" a []))) p (.ins C dx (putF "end" b (putF "start" a [])))) r (.lst ys)) c = some (.tup xs) →
              (upd (upd (upd (upd H1 p (.ins C dx (putF "start" a []))) p (.ins C dx (putF "end" b (putF "start" a [])))) r (.lst ys)) p (.ins C dx (tf a b r))) c = some (.tup xs) := fun {c xs} h => by
            rw [upd_ne (show c ≠ p from fun z => by rw [z, upd_ne npr, upd_same] at h; cases h)]
            exact h
          have pr1 : ∀ {v : V} {z : Pl}, Pr (upd (upd H1 p (.ins C dx (putF "start" a []))) p (.ins C dx (putF "end" b (putF "start" a [])))) v z → Pr (upd (upd (upd (upd H1 p (.ins C dx (putF "start" a []))) p (.ins C dx (putF "end" b (putF "start" a [])))) r (.lst ys)) p (.ins C dx (tf a b r))) v z := fun {v z} h => by
            obtain ⟨t, rfl, h⟩ := h
            exact ⟨t, rfl, back (by rw [upd_ne (ne_of_none h nr)]; exact h)⟩
          have pr2 : ∀ {vs : List V} {zs : List Pl}, Prs (upd (upd H1 p (.ins C dx (putF "start" a []))) p (.ins C dx (putF "end" b (putF "start" a [])))) vs zs → Prs (upd (upd (upd (upd H1 p (.ins C dx (putF "start" a []))) p (.ins C dx (putF "end" b (putF "start" a [])))) r (.lst ys)) p (.ins C dx (tf a b r))) vs zs := fun h => by
            induction h with
            | nil => exact .nil
            | cons x _ ih => exact .cons (pr1 x) ih
          refine q hc' hnd _ ⟨dx, r, a, b, ys, upd_same, pr1 (tupne (ha.same k1)), pr1 (tupne (hb.same k1)), ?_, pr2 hys, sortP_pw ps, sortP_nd.mpr hnd, by rw [sortP_len]; exact hc'⟩ (fun c o h n => sm c o (k1 _ _ h) n) fun dx' a' b' r' z => ?_
          · rw [upd_ne npr.symm]
            exact upd_same
          · rw [upd_same] at z
            have z2 := Option.some.inj z
            injection z2 with _ _ z3
            have z4 := tf_picks a b r
            have z6 : tf a b r = tf a' b' r' := z3
            rw [z6, tf_picks] at z4
            have z5 : r' = r := V.ref.inj (Option.some.inj z4)
            subst z5
            rw [upd_ne npr.symm, upd_ne npr.symm] at nr
            exact k1.free nr
def spPicks (C : Addr) : Sp := fun vs H Q _ => ∃ (p : Addr) (st en : Pl) (ps : List Pl), vs = [.ref p] ∧ TaskAt C H p st en ps ∧
  ∀ (r : Addr) (xs : List V), H r = none → Prs H xs ps → Q (.ref r) (upd H r (.lst xs))
theorem ok_picks {f C CI : Addr} {fd : FuncData} (F : Fun K "picks" "Task.picks" s_Task_picks f fd) (T : TaskTxt K mg C CI) : FnOk P w K mg base CX0 1 f fd ["self"] (spPicks C) := by
  refine F.ok sc_Task_picks (fun vs H Q E h => ?_) (fun cdv A outer s H vs Q E hr h => ?_)
  · obtain ⟨p, st, en, ps, rfl, _⟩ := h
    rfl
  · obtain ⟨p, st, en, ps, rfl, ⟨dx, l, a, b, xs, h1, h2, h3, h4, h5, _⟩, q⟩ := h
    exact ⟨_, (pss_one (ps_ret (pe_callTy call_list_of (by rfl) T.list (by decide +kernel) (pa_cons (pe_fld (pv 0) rfl) pa_nil)))), _, rfl, p, C, dx, _, _, rfl, h1, T.cl, T.nP, tf_picks _ _ _, l, xs, rfl, .inl (SqL.of h4), fun r nr => q r xs nr h5⟩
/-- an object of the class made: the heap as it is handed to __init__ -/
theorem mkSame {H : Hp} {x dx : Addr} {o u : HO} (n : H x = none) (m : H dx = none) : Same H (upd (upd H dx u) x o) := fun b o e => by
  rw [upd_ne (ne_of_none e n), upd_ne (ne_of_none e m)]
  exact e
theorem mkBut {H H' : Hp} {x dx : Addr} {o u : HO} (n : H x = none) (m : H dx = none) (k : But x (upd (upd H dx u) x o) H') : Same H H' := fun b o e => k b o (mkSame n m b o e) (ne_of_none e n)
/-- behind raise X(v), X a class with one attribute f -/
theorem raised {H : Hp} {a d C : Addr} {f : Str} {v : V} (ha : H a = none) (hd : (upd H a (exo a C none)) d = none) (hne : d ≠ a) :
    (upd (upd (upd H a (exo a C none)) d (exd d [(f, v)])) a (exo a C (some d))) a = some (exo a C (some d)) ∧ (upd (upd (upd H a (exo a C none)) d (exd d [(f, v)])) a (exo a C (some d))) d = some (exd d [(f, v)]) ∧ H d = none ∧
    Same H (upd (del (upd (upd (upd H a (exo a C none)) d (exd d [(f, v)])) a (exo a C (some d))) a) d (.xd [(f, v)])) := by
  have hdn : H d = none := by
    rw [upd_ne hne] at hd
    exact hd
  refine ⟨upd_same, by rw [upd_ne hne, upd_same], hdn, fun b o e => ?_⟩
  have h1 : b ≠ a := ne_of_none e ha
  have h2 : b ≠ d := ne_of_none e hdn
  rw [upd_ne h2, del_ne h1, upd_ne h1, upd_ne h2, upd_ne h1]
  exact e
end
section
open GxR NdefX PySem.Spec PyProof.Rows
variable {P : Program} {w : World} {K : PySem.W.Frag} {mg : Str → Option Value} {base : Heap}
/-- the error of places that are none -/
structure PlcTxt (K : PySem.W.Frag) (mg : Str → Option Value) (CP fP : Addr) : Prop where
  g : mg "InvalidPlace" = some (.ref CP)
  o : OexC K CP
  n : PySem.W.findIn K (.ref CP) "place" = some none
  i : PySem.W.findIn K (.ref CP) "__init__" = some (some (.ref fP))
  y : PySem.W.typeIn K (.ref fP) = some (.type "function")
theorem ok_plcinit {f C : Addr} {fd : FuncData} (F : Fun K "__init__" "InvalidPlace.__init__" s_InvalidPlace___init__ f fd) : FnOk P w K mg base CX0 1 f fd ["self", "place"] (spXI K C "place") := by
  refine F.ok sc_InvalidPlace___init__ (fun vs H Q E h => ?_) (fun cdv A outer s H vs Q E hr h => ?_)
  · obtain ⟨a, v, rfl, _⟩ := h
    rfl
  · obtain ⟨a, v, rfl, T, hno, ha, q⟩ := h
    exact ⟨_, pss_one (ps_ost (pv 0) (pv 1)), v, rfl, _, rfl, a, C, rfl, T, hno, .inl ⟨ha, q⟩⟩
theorem ok_is_cross {f fI C : Addr} {fd fdI : FuncData} (F : Fun K "is_cross" "House.is_cross" s_House_is_cross f fd) (T : HouseTxt K mg C) (GI : FnOk P w K mg base CX0 1 fI fdI ["self", "place"] (spPl C isPl)) (bI : Binds K fdI ["self", "place"] []) (mI : Meth K C "is_place" fI) : FnOk P w K mg base CX0 2 f fd ["self", "place"] (spPl C isCr) := by
  refine F.ok sc_House_is_cross (fun vs H Q E h => ?_) (fun cdv A outer s H vs Q E hr h => ?_)
  · obtain ⟨p, v, ls, gs, cs, pl, rfl, _⟩ := h
    rfl
  · obtain ⟨p, v, ls, gs, cs, pl, rfl, hH, ⟨t, rfl, ht⟩, q⟩ := h
    obtain ⟨_, dx, l, g, c, d, h1, h2, h3, h4, h5⟩ := id hH
    refine ⟨_, (pss_one (ps_ret (pe_and (pe_meth (pv 0) T.cl mI GI hr bI .nil pass0 (pa_cons (pv 1) pa_nil)) (pe_one (pe_cmpR op_in_seq (pe_ix ix_tup (pv 1) pe_int (fun _ _ => rfl)) (pe_fld (pv 0) rfl) (by rfl)))))), ?_⟩
    refine ⟨_, rfl, p, dx, _, rfl, h1, hf_no _ _ _ _ _ (by decide +kernel) (by decide +kernel) (by decide +kernel) (by decide +kernel) (by decide +kernel), _, rfl, p, .ref t, ls, gs, cs, pl, rfl, hH, ⟨t, rfl, ht⟩, _, rfl, ?_⟩
    unfold isCr at q
    cases hp : isPl ls gs pl with
    | false =>
      rw [hp] at q
      exact q
    | true =>
      rw [hp, Bool.true_and] at q
      exact ⟨_, rfl, t, _, _, _, rfl, rfl, SqT.of ht, rfl, _, rfl, p, C, dx, _, _, rfl, h1, T.cl, T.nX, hf_crosses _ _ _ _ _, c, _, rfl, .inl (SqL.of h4), rfl, flat_ints _, by rw [inV_ints]; exact q⟩
/-- the first place that is wrong -/
def wrongP (ls gs : List Int) (st en : Pl) (ps : List Pl) : Option Pl := ([st, en].find? fun p => !isCr ls gs p).or (ps.find? fun p => !isPl ls gs p)
def spCheck (CT C CP : Addr) : Sp := fun vs H Q E => ∃ (p t : Addr) (ls gs : List Int) (cs : List (Str × Int × Int)) (st en : Pl) (ps : List Pl), vs = [.ref p, .ref t] ∧ HouseAt C H p ls gs cs ∧ TaskAt CT H t st en ps ∧
  (wrongP ls gs st en ps = none → ∀ H', Same H H' → Q .non H') ∧
  (∀ a, wrongP ls gs st en ps = some a → ∀ (H' : Hp) (d : Addr) (v : V), Same H H' → Pr H' v a → H' d = some (.xd [("place", v)]) → E (.ref CP) (some d) H')
theorem find_snoc {α : Type} {f : α → Bool} {xs : List α} {i : Nat} {x : α} (h0 : (xs.take i).find? f = none) (hx : xs[i]? = some x) : (f x = true → xs.find? f = some x) ∧ (f x = false → (xs.take (i + 1)).find? f = none) := by
  have e : xs.take (i + 1) = xs.take i ++ [x] := by
    rw [List.take_add_one, hx]
    rfl
  refine ⟨fun z => ?_, fun z => ?_⟩
  · have q := List.take_append_drop (i + 1) xs
    rw [← q, List.find?_append, e, List.find?_append, h0]
    simp [z]
  · rw [e, List.find?_append, h0]
    simp [z]
theorem ok_check {f fX fL fI fP pp C CT CI CP : Addr} {fd fdX fdL fdI fdP : FuncData} (F : Fun K "check_task" "check_task" s_check_task f fd) (T : HouseTxt K mg C) (TT : TaskTxt K mg CT CI) (U : PlcTxt K mg CP fI) (GI : FnOk P w K mg base CX0 1 fI fdI ["self", "place"] (spXI K CP "place")) (bI : Binds K fdI ["self", "place"] [])
    (GL : FnOk P w K mg base CX0 1 fL fdL ["self", "place"] (spPl C isPl)) (bL : Binds K fdL ["self", "place"] []) (mL : Meth K C "is_place" fL) (GX : FnOk P w K mg base CX0 2 fX fdX ["self", "place"] (spPl C isCr)) (bX : Binds K fdX ["self", "place"] []) (mX : Meth K C "is_cross" fX)
    (GP : FnOk P w K mg base CX0 1 fP fdP ["self"] (spPicks CT)) (bP : Binds K fdP ["self"] []) (hP : PropOf K CT "picks" pp fP) : FnOk P w K mg base (L2.CX P w) 4 f fd ["house", "task"] (spCheck CT C CP) := by
  refine F.okX sc_check_task (fun vs H Q E h => ?_) (fun cdv A outer s H vs Q E hr h => ?_)
  · obtain ⟨p, t, ls, gs, cs, st, en, ps, rfl, _⟩ := h
    rfl
  · obtain ⟨p, t, ls, gs, cs, st, en, ps, rfl, hH, hT, q, e⟩ := h
    obtain ⟨va, dx, l, g, c, d, h1, _⟩ := id hH
    obtain ⟨dt, r, a, b, xs, t1, ha, hb, ht4, hxs, tw, tn, tl⟩ := id hT
    have nd := sc_check_task.nd
    refine ⟨_, (pss_cons (ps_for (passes_of rfl) rfl (pi_list (pe_lst (pa_cons (pe_fld (pv 1) rfl) (pa_cons (pe_fld (pv 1) rfl) pa_nil)))) (pg_name (i := 2) nd rfl (.inl rfl)) (pss_one (ps_if (pt_not (pt_val (pe_meth (pv 0) T.cl mX GX (by exact hr.mono (by decide)) bX .nil pass0 (pa_cons (pv 2) pa_nil)))) (pss_one (ps_raise rfl (takes_of rfl rfl rfl rfl) (pmk_oex U.o U.i U.y GI (by exact hr.mono (by decide)) bI .nil pass0 (by rfl) U.g (pa_cons (pv 2) pa_nil)))) pss_nil)))
      (pss_one (ps_for (passes_of rfl) rfl (pi_list (pe_prop (pv 1) TT.cl hP GP (by exact hr.mono (by decide)) bP .nil pass0 rfl)) (pg_name (i := 2) nd rfl (.inl rfl)) (pss_one (ps_if (pt_not (pt_val (pe_meth (pv 0) T.cl mL GL (by exact hr.mono (by decide)) bL .nil pass0 (pa_cons (pv 2) pa_nil)))) (pss_one (ps_raise rfl (takes_of rfl rfl rfl rfl) (pmk_oex U.o U.i U.y GI (by exact hr.mono (by decide)) bI .nil pass0 (by rfl) U.g (pa_cons (pv 2) pa_nil)))) pss_nil))))), ?_⟩
    refine ⟨_, rfl, t, CT, dt, _, _, rfl, t1, TT.cl, TT.nS, tf_start _ _ _, _, rfl, t, CT, dt, _, _, rfl, t1, TT.cl, TT.nE, tf_end _ _ _, (by show 2 ≤ sizeLine; decide), fun m nm => ?_⟩
    obtain ⟨H1, e1, k1, g1⟩ := made (o := .lst [a, b]) nm
    rw [e1]
    have hab : Prs H1 [a, b] [st, en] := .cons (ha.same k1) (.cons (hb.same k1) .nil)
    refine ⟨m, rfl, ⟨_, SqL.of g1⟩, ?_⟩
    refine for_list (K := K) (a := m) (xs := [a, b]) (fun i σ H' => (∃ v2 : Option V, σ = [some (.ref p), some (.ref t), v2]) ∧ Same H1 H' ∧ ([st, en].take i).find? (fun p => !isCr ls gs p) = none) ?_ ?_ ?_ ?_
    · exact ⟨⟨_, rfl⟩, Same.refl _, rfl⟩
    · rintro i σ H' _ ⟨_, kt, _⟩
      exact SqL.of (kt _ _ g1)
    · rintro i x σ H' hx ⟨⟨v2, rfl⟩, kt, hno⟩
      obtain ⟨z, hz, hxz⟩ := (hab.same kt).at hx
      obtain ⟨f1, f2⟩ := find_snoc hno hz
      have k1t := k1.trans kt
      refine ⟨_, rfl, p, dx, _, rfl, k1t _ _ h1, hf_no _ _ _ _ _ (by decide +kernel) (by decide +kernel) (by decide +kernel) (by decide +kernel) (by decide +kernel), _, rfl, p, x, ls, gs, cs, z, rfl, hH.kp (kpS k1t), hxz, _, rfl, ?_⟩
      cases hi : isCr ls gs z with
      | false =>
        refine iteT ?_
        have hw : wrongP ls gs st en ps = some z := by
          unfold wrongP
          rw [f1 (by rw [hi]; rfl)]
          rfl
        refine ⟨_, rfl, by show 1 ≤ 1000; decide, fun y ny => ⟨y, x, rfl, U.o, U.n, upd_same, fun dd hd hne => ⟨rfl, dd, [("place", x)], ?_⟩⟩⟩
        obtain ⟨g1, g2, g3, g4⟩ := raised (f := "place") (v := x) ny hd hne
        exact ⟨g1, g2, g3, e z hw _ dd x (k1t.trans g4) (hxz.same g4) upd_same⟩
      | true =>
        refine iteF ?_
        exact ⟨⟨_, rfl⟩, kt, f2 (by rw [hi]; rfl)⟩
    rintro σ H2 ⟨⟨v2, rfl⟩, k2, hno⟩
    have k12 := k1.trans k2
    have hT2 := hT.same k12
    refine ⟨_, rfl, t, dt, _, rfl, k12 _ _ t1, t, st, en, ps, rfl, hT2, fun m2 ys nm2 hys => ?_⟩
    obtain ⟨H3, e3, k3, g3⟩ := made (o := .lst ys) nm2
    rw [e3]
    have hys3 := hys.same k3
    refine ⟨m2, rfl, ⟨_, SqL.of g3⟩, ?_⟩
    refine for_list (K := K) (a := m2) (xs := ys) (fun i σ H' => (∃ v2 : Option V, σ = [some (.ref p), some (.ref t), v2]) ∧ Same H3 H' ∧ (ps.take i).find? (fun p => !isPl ls gs p) = none) ?_ ?_ ?_ ?_
    · exact ⟨⟨_, rfl⟩, Same.refl _, rfl⟩
    · rintro i σ H' _ ⟨_, kt, _⟩
      exact SqL.of (kt _ _ g3)
    · rintro i x σ H' hx ⟨⟨v2, rfl⟩, kt, hno2⟩
      obtain ⟨z, hz, hxz⟩ := (hys3.same kt).at hx
      obtain ⟨f1, f2⟩ := find_snoc hno2 hz
      have k0t := (k12.trans k3).trans kt
      refine ⟨_, rfl, p, dx, _, rfl, k0t _ _ h1, hf_no _ _ _ _ _ (by decide +kernel) (by decide +kernel) (by decide +kernel) (by decide +kernel) (by decide +kernel), _, rfl, p, x, ls, gs, cs, z, rfl, hH.kp (kpS k0t), hxz, _, rfl, ?_⟩
      cases hi : isPl ls gs z with
      | false =>
        refine iteT ?_
        have hw : wrongP ls gs st en ps = some z := by
          unfold wrongP
          have hno' : [st, en].find? (fun p => !isCr ls gs p) = none := hno
          rw [hno', f1 (by rw [hi]; rfl)]
          rfl
        refine ⟨_, rfl, by show 1 ≤ 1000; decide, fun y ny => ⟨y, x, rfl, U.o, U.n, upd_same, fun dd hd hne => ⟨rfl, dd, [("place", x)], ?_⟩⟩⟩
        obtain ⟨g1, g2, g3, g4⟩ := raised (f := "place") (v := x) ny hd hne
        exact ⟨g1, g2, g3, e z hw _ dd x (k0t.trans g4) (hxz.same g4) upd_same⟩
      | true =>
        refine iteF ?_
        exact ⟨⟨_, rfl⟩, kt, f2 (by rw [hi]; rfl)⟩
    rintro σ H4 ⟨⟨v2', rfl⟩, k4, hno2⟩
    rw [hys.len, List.take_length] at hno2
    refine q ?_ H4 ((k12.trans k3).trans k4)
    unfold wrongP
    have hno' : [st, en].find? (fun p => !isCr ls gs p) = none := hno
    rw [hno', hno2]
    rfl
end
section
open GxR NdefX PySem.Spec PyProof.Rows
variable {P : Program} {w : World} {K : PySem.W.Frag} {mg : Str → Option Value} {base : Heap}
theorem ok_lcr {f : Addr} {fd : FuncData} (F : Fun K "_law_crosses" "_law_crosses" s__law_crosses f fd) : FnOk P w K mg base CX0 2 f fd ["lengths"] (spCross K) := by
  refine F.ok sc__law_crosses (fun vs H Q E h => ?_) (fun cdv A outer s H vs Q E hr h => ?_)
  · obtain ⟨l, ns, rfl, _⟩ := h
    rfl
  · obtain ⟨l, ns, rfl, hl, hn, q⟩ := h
    have nd := sc__law_crosses.nd
    refine ⟨_, (pss_cons (ps_set (i := 1) nd rfl (.inl rfl) (pe_lst (pa_cons pe_int pa_nil)))
      (pss_cons (ps_for PassesOwn.never rfl (pi_list (pv 0)) (pg_name (i := 2) nd rfl (.inl rfl)) (pss_one (ps_expr (pe_bm PySem.F.plainAttrs_list PySem.F.slot_list_append PySem.F.type_list_append mt_append (pv 1) (pa_cons (pe_op op_add (pe_ix ix_list (pv 1) (pe_un un_neg pe_int) (fun _ _ => rfl)) (pv 2)) pa_nil)))))
      (pss_one (ps_ret (pv 1))))), ?_⟩
    refine ⟨by decide, fun r nr => ?_⟩
    have sR : ∀ o, Same H (upd H r o) := fun o => same_upd nr
    refine ⟨_, rfl, l, rfl, ⟨_, (sR _).seq hl⟩, ?_⟩
    refine for_list (K := K) (a := l) (xs := ns.map V.int) (fun i σ H' => (∃ z, σ = [some (.ref l), some (.ref r), z]) ∧ H' = upd H r (.lst (((List.range (i + 1)).map fun k => (ns.take k).sum).map V.int))) ?_ ?_ ?_ ?_
    · exact ⟨⟨none, rfl⟩, rfl⟩
    · rintro i σ H' _ ⟨_, rfl⟩
      exact (sR _).seq hl
    · rintro i x σ H' hx ⟨⟨z, rfl⟩, rfl⟩
      rw [List.getElem?_map] at hx
      cases hi : ns[i]? with
      | none => rw [hi] at hx; cases hx
      | some n =>
        rw [hi] at hx
        cases hx
        have lt := (List.getElem?_eq_some_iff.mp hi).1
        have et : ns.take (i + 1) = ns.take i ++ [n] := by rw [List.take_add_one, hi]; rfl
        have er : ((List.range (i + 1)).map fun k => (ns.take k).sum).map V.int = (((List.range i).map fun k => (ns.take k).sum).map V.int) ++ [V.int (ns.take i).sum] := by
          rw [List.range_succ, List.map_append, List.map_append]
          rfl
        refine ⟨_, rfl, ?_⟩
        refine And.intro (Or.inl ⟨rfl, _, SqL.of upd_same⟩) ?_
        refine ⟨_, rfl, _, rfl, r, _, -1, _, rfl, rfl, SqL.of upd_same, by rw [er]; exact atI_last _ _, _, rfl, _, _, rfl, rfl, ?_⟩
        refine ⟨r, _, _, rfl, rfl, upd_same, ?_, ⟨_, rfl⟩, ?_⟩
        · rw [List.length_map, List.length_map, List.length_range, sizeLine_eq]
          omega
        · rw [upd_upd, List.range_succ (n := i + 1), List.map_append, List.map_append]
          show upd H r (.lst (_ ++ [V.int ((ns.take i).sum + n)])) = upd H r (.lst (_ ++ [V.int (ns.take (i + 1)).sum]))
          rw [et, List.sum_append]
          simp
    · rintro σ H' ⟨⟨z, rfl⟩, rfl⟩
      refine ⟨_, rfl, ?_⟩
      rw [List.length_map]
      exact q _ r (sR _) nr upd_same
theorem isLk_u {ls gs : List Int} {a h : Int} (a0 : 0 ≤ a) (a1 : a ≤ gs.length) (h0 : 0 ≤ h) (h1 : h < ls.sum) : isLk ls gs "up" a h = true := by
  unfold isLk
  rw [if_pos rfl]
  simp [a0, a1, h0, h1]
theorem isLk_o {ls gs : List Int} {a h : Int} (a0 : 0 ≤ a) (a1 : a < gs.length) (hh : h ∈ crossN ls) : isLk ls gs "over" a h = true := by
  unfold isLk
  rw [if_neg (by decide +kernel)]
  simp [a0, a1, hh]
theorem at_cross {ls : List Int} {z : Int} (h0 : 0 ≤ z) (h1 : z < (ls.length : Int) + 1) : ∃ h, h ∈ crossN ls ∧ atI ((crossN ls).map V.int) z = some (.int h) := by
  obtain ⟨j, rfl⟩ : ∃ j : Nat, z = (j : Int) := ⟨z.toNat, by omega⟩
  have hj : j < (crossN ls).length := by
    rw [crossN_len]
    omega
  exact ⟨(crossN ls)[j], List.getElem_mem hj, atI_nat (by rw [List.getElem?_map, List.getElem?_eq_getElem hj]; rfl)⟩
def spLk : Sp := fun vs H Q _ => ∃ (l g : Addr) (ls gs : List Int) (i j : Int), vs = [.ref l, .ref g, .int i, .int j] ∧ H l = some (.lst (ls.map V.int)) ∧ H g = some (.lst (gs.map V.int)) ∧ Lens ls ∧ 1 ≤ ls.length ∧ ls.length ≤ 2 ∧ gs.length ≤ 11 ∧
  ∀ (H' : Hp) (t : Addr) (c : Str × Int × Int), Same H H' → H' t = some (.tup [.str c.1, .int c.2.1, .int c.2.2]) → (c.1 = "up" ∨ c.1 = "over") → isLk ls gs c.1 c.2.1 c.2.2 = true → Q (.ref t) H'
theorem ok_lwlink {f : Addr} {fd : FuncData} (F : Fun K "_law_link" "_law_link" s__law_link f fd) (hint : mg "int" = none) (hlen : mg "len" = none) (hsum : mg "sum" = none) (Cr : TopD P w K mg base 2 "_law_crosses" ["lengths"] (spCross K)) : FnOk P w K mg base CX0 3 f fd ["lengths", "gaps", "first", "second"] spLk := by
  refine F.ok sc__law_link (fun vs H Q E h => ?_) (fun cdv A outer s H vs Q E hr h => ?_)
  · obtain ⟨l, g, ls, gs, i, j, rfl, _⟩ := h
    rfl
  · obtain ⟨l, g, ls, gs, i, j, rfl, hl, hg, hL, hl1, hl2, hg11, q⟩ := h
    have nd := sc__law_link.nd
    have top1 := hL.pos1 hl1
    refine ⟨_, (pss_cons (ps_if (PW.pt (pw_and (pt_cmpR op_eq (pe_op op_mod (pe_callTy call_int1 (by rfl) hint (by decide +kernel) (pa_cons (pv 2) pa_nil)) pe_int) pe_int (nomark _)) (pw_and1 (pt_cmpR op_gt (pe_callB call_len (by rfl) hlen (by decide +kernel) (pa_cons (pv 1) pa_nil)) pe_int (nomark _))))) (pss_one (ps_ret (pe_tup (pa_cons pe_str (pa_cons (pe_op op_mod (pe_callTy call_int1 (by rfl) hint (by decide +kernel) (pa_cons (pv 3) pa_nil)) (pe_callB call_len (by rfl) hlen (by decide +kernel) (pa_cons (pv 1) pa_nil))) (pa_cons (pe_ix ix_list (pe_call Cr.G (by exact hr.mono (by decide)) (by rfl) Cr.g Cr.kp Cr.b .nil pass0 (pa_cons (pv 0) pa_nil)) (pe_op op_mod (pe_callTy call_int1 (by rfl) hint (by decide +kernel) (pa_cons (pe_op op_fdiv (pv 3) pe_int) pa_nil)) (pe_op op_add (pe_callB call_len (by rfl) hlen (by decide +kernel) (pa_cons (pv 0) pa_nil)) pe_int)) (fun _ _ => rfl)) pa_nil)))))) pss_nil)
      (pss_one (ps_ret (pe_tup (pa_cons pe_str (pa_cons (pe_op op_mod (pe_callTy call_int1 (by rfl) hint (by decide +kernel) (pa_cons (pv 3) pa_nil)) (pe_op op_add (pe_callB call_len (by rfl) hlen (by decide +kernel) (pa_cons (pv 1) pa_nil)) pe_int)) (pa_cons (pe_op op_mod (pe_callTy call_int1 (by rfl) hint (by decide +kernel) (pa_cons (pe_op op_fdiv (pv 3) pe_int) pa_nil)) (pe_callB (cr_sum rfl) (by rfl) hsum (by decide +kernel) (pa_cons (pv 0) pa_nil))) pa_nil))))))), ?_⟩
    have up : ∀ (H' : Hp) (t : Addr), Same H H' → H' t = some (.tup [.str "up", .int (j % ((gs.length : Int) + 1)), .int (j / 12 % ls.sum)]) → Q (.ref t) H' := fun H' t k ht => by
      have a0 := Int.emod_nonneg j (show ((gs.length : Int) + 1) ≠ 0 by omega)
      have a1 := Int.emod_lt_of_pos j (show (0 : Int) < (gs.length : Int) + 1 by omega)
      have b0 := Int.emod_nonneg (j / 12) (show ls.sum ≠ 0 by omega)
      have b1 := Int.emod_lt_of_pos (j / 12) (show (0 : Int) < ls.sum by omega)
      have a2 : j % ((gs.length : Int) + 1) ≤ (gs.length : Int) := by omega
      exact q H' t ("up", j % ((gs.length : Int) + 1), j / 12 % ls.sum) k ht (.inl rfl) (isLk_u a0 a2 b0 b1)
    refine ⟨_, rfl, .inl ⟨_, rfl, _, _, rfl, rfl, (by show (0 : Int) < 3; decide), rfl, _, rfl, ?_⟩⟩
    refine ite2 (fun hc => ?_) (fun hc => ?_)
    · refine ⟨_, rfl, _, _, rfl, .inl ⟨_, SqL.of hg, rfl⟩, _, _, rfl, rfl, _, rfl, ?_⟩
      rw [List.length_map]
      refine ite2 (fun hc2 => ?_) (fun hc2 => ?_)
      · have gp : 0 < (gs.length : Int) := of_decide_eq_true hc2
        refine ⟨_, rfl, .inl ⟨_, rfl, _, rfl, _, _, rfl, .inl ⟨_, SqL.of hg, rfl⟩, _, _, rfl, rfl, (by rw [List.length_map]; exact gp), ?_⟩⟩
        rw [List.length_map]
        refine ⟨_, rfl, l, ls, rfl, SqL.of hl, by omega, fun H1 r k1 nr gr => ?_⟩
        have b0 := Int.emod_nonneg (j / 12) (show ((ls.length : Int) + 1) ≠ 0 by omega)
        have b1 := Int.emod_lt_of_pos (j / 12) (show (0 : Int) < (ls.length : Int) + 1 by omega)
        obtain ⟨h, hh, hat⟩ := at_cross b0 b1
        refine ⟨_, rfl, _, _, rfl, rfl, ⟨by decide, by decide⟩, .inl ⟨_, rfl, _, rfl, _, _, rfl, .inl ⟨_, SqL.of (k1 _ _ hl), rfl⟩, _, _, rfl, rfl, _, _, rfl, rfl, (by rw [List.length_map]; show (0 : Int) < _; omega), r, _, _, _, rfl, rfl, SqL.of gr, (by rw [List.length_map]; exact hat), (by show 3 ≤ sizeLine; decide), fun t nt => ?_⟩⟩
        obtain ⟨H2, e2, k2, g2⟩ := made (o := .tup [V.str "over", .int (j % (gs.length : Int)), .int h]) nt
        rw [e2]
        exact q H2 t ("over", _, _) (k1.trans k2) g2 (.inr rfl) (isLk_o (Int.emod_nonneg _ (by omega)) (Int.emod_lt_of_pos _ gp) hh)
      · refine ⟨_, rfl, .inl ⟨_, rfl, _, rfl, _, _, rfl, .inl ⟨_, SqL.of hg, rfl⟩, _, _, rfl, rfl, _, _, rfl, rfl, (by rw [List.length_map]; show (0 : Int) < _; omega), _, rfl, _, _, rfl, rfl, ⟨by decide, by decide⟩, .inl ⟨_, rfl, _, rfl, l, ls, rfl, SqL.of hl, _, _, rfl, rfl, (by show (0 : Int) < _; omega), (by show 3 ≤ sizeLine; decide), fun t nt => ?_⟩⟩⟩
        rw [List.length_map]
        obtain ⟨H2, e2, k2, g2⟩ := made (o := .tup [V.str "up", .int (j % ((gs.length : Int) + 1)), .int (j / 12 % ls.sum)]) nt
        rw [e2]
        exact up H2 t k2 g2
    · refine ⟨_, rfl, .inl ⟨_, rfl, _, rfl, _, _, rfl, .inl ⟨_, SqL.of hg, rfl⟩, _, _, rfl, rfl, _, _, rfl, rfl, (by rw [List.length_map]; show (0 : Int) < _; omega), _, rfl, _, _, rfl, rfl, ⟨by decide, by decide⟩, .inl ⟨_, rfl, _, rfl, l, ls, rfl, SqL.of hl, _, _, rfl, rfl, (by show (0 : Int) < _; omega), (by show 3 ≤ sizeLine; decide), fun t nt => ?_⟩⟩⟩
      rw [List.length_map]
      obtain ⟨H2, e2, k2, g2⟩ := made (o := .tup [V.str "up", .int (j % ((gs.length : Int) + 1)), .int (j / 12 % ls.sum)]) nt
      rw [e2]
      exact up H2 t k2 g2
end
section
open GxR NdefX PySem.Spec PyProof.Rows
variable {P : Program} {w : World} {K : PySem.W.Frag} {mg : Str → Option Value} {base : Heap}
/-- the three lists of parts stand at a tuple -/
def PartsAt (H : Hp) (p : Addr) (ls gs : List Int) (cs : List (Str × Int × Int)) : Prop := ∃ (l g c : Addr) (xs : List V), H p = some (.tup [.ref l, .ref g, .ref c]) ∧ H l = some (.lst (ls.map V.int)) ∧ H g = some (.lst (gs.map V.int)) ∧ H c = some (.lst xs) ∧ Krs H xs (kOf cs)
theorem PartsAt.kp {H H' : Hp} {p : Addr} {ls gs : List Int} {cs : List (Str × Int × Int)} (h : PartsAt H p ls gs cs) (k : Kp H H') : PartsAt H' p ls gs cs := by
  obtain ⟨l, g, c, xs, h1, h2, h3, h4, h5⟩ := h
  exact ⟨l, g, c, xs, k.tup h1, k.lst h2, k.lst h3, k.lst h4, h5.kp k⟩
theorem PartsAt.same {H H' : Hp} {p : Addr} {ls gs : List Int} {cs : List (Str × Int × Int)} (h : PartsAt H p ls gs cs) (k : Same H H') : PartsAt H' p ls gs cs := h.kp (kpS k)
abbrev NH : List Str := ["numbers", "at", "many", "most", "lengths", "gaps", "closed", "k", "link"]
theorem pick5 {z : Int} (h0 : 0 ≤ z) (h5 : z < 5) : ∃ mo : Int, atI [V.int 0, .int 0, .int 1, .int 2, .int 4] z = some (.int mo) ∧ 0 ≤ mo ∧ mo ≤ 4 := by
  have e5 : z = 0 ∨ z = 1 ∨ z = 2 ∨ z = 3 ∨ z = 4 := by omega
  rcases e5 with e | e | e | e | e <;> rw [e]
  · exact ⟨0, rfl, by decide, by decide⟩
  · exact ⟨0, rfl, by decide, by decide⟩
  · exact ⟨1, rfl, by decide, by decide⟩
  · exact ⟨2, rfl, by decide, by decide⟩
  · exact ⟨4, rfl, by decide, by decide⟩
theorem Lens.snoc1 {ls : List Int} {x : Int} (h : Lens ls) (h1 : 1 ≤ x) (h2 : x ≤ 40) : Lens (ls ++ [x]) := fun y hy => by
  rcases List.mem_append.mp hy with z | z
  · exact h y z
  · rw [List.mem_singleton.mp z]
    exact ⟨h1, h2⟩
theorem kOf_app1 (cs : List (Str × Int × Int)) (c : Str × Int × Int) : kOf (cs ++ [c]) = kOf cs ++ [lk c.1 c.2.1 c.2.2] := by
  unfold kOf
  rw [List.map_append]
  rfl
theorem okk_word {x : Str} (h : x = "up" ∨ x = "over") (a b : Int) : okk (lk x a b) = true := by
  refine ok_lk ?_ _ _
  rcases h with rfl | rfl <;> decide +kernel
theorem lens_all {gs : List Int} (h : Lens gs) : gs.all longN = true := List.all_eq_true.mpr fun x hx => by
  unfold longN
  rw [decide_eq_true (h x hx).1, decide_eq_true (h x hx).2]
  rfl
def spHs (K : PySem.W.Frag) : Sp := fun vs H Q _ => ∃ (n : Addr) (ns : List Int) (a many most : Nat), vs = [.ref n, .int (a : Int), .int (many : Int), .int (most : Int)] ∧ SqL K H n (ns.map V.int) ∧ Small ns ∧ a + 24 ≤ ns.length ∧ 1 ≤ many ∧ many ≤ 12 ∧ 1 ≤ most ∧ most ≤ 40 ∧
  ∀ (H' : Hp) (p : Addr) (ls gs : List Int) (cs : List (Str × Int × Int)), Same H H' → PartsAt H' p ls gs cs → Valid ls gs cs → cs.length ≤ 4 → gs.length < many → (∀ c ∈ cs, c.1 = "up" ∨ c.1 = "over") → Q (.ref p) H'
theorem ok_lwhouse {f : Addr} {fd : FuncData} (F : Fun K "_law_house" "_law_house" s__law_house f fd) (hint : mg "int" = none) (hrange : mg "range" = none) (Lk : TopD P w K mg base 3 "_law_link" ["lengths", "gaps", "first", "second"] spLk) : FnOk P w K mg base CX0 4 f fd ["numbers", "at", "many", "most"] (spHs K) := by
  refine F.ok sc__law_house (fun vs H Q E h => ?_) (fun cdv A outer s H vs Q E hr h => ?_)
  · obtain ⟨n, ns, a, many, most, rfl, _⟩ := h
    rfl
  · obtain ⟨n, ns, a, many, most, rfl, hn, hs, ha, m1, m12, o1, o40, q⟩ := h
    have nd : NH.Nodup := sc__law_house.nd
    have hline : 1000000 < sizeLine := by decide
    have sm := nth_small hs
    have a0 : (0 : Int) ≤ (a : Int) := Int.natCast_nonneg a
    have at_ : ∀ {i : Int}, 0 ≤ i → i < ns.length → atI (ns.map V.int) i = some (V.int (nth ns i)) := fun h0 h1 => atI_nth h0 h1
    refine ⟨_, (pss_cons (ps_setLc (i := 4) (own := [("k", 7)]) (g := gName 7) (tt := tYes) rfl nd rfl rfl rfl (pi_range1 rfl hrange (pa_cons (pe_op op_add pe_int (pe_op op_mod (pe_callTy call_int1 (by rfl) hint (by decide +kernel) (pa_cons (pe_ix ix_list (pv 0) (pv 1) (fun _ _ => rfl)) pa_nil)) pe_int)) pa_nil)) (blkOk_by (N := NH) (sc := defScope s__law_house) (by decide +kernel)) (fun _ _ _ _ _ => pg_name (i := 7) nd rfl (Or.inl rfl)) (fun _ _ _ _ _ => pts_nil) (fun _ _ _ _ _ => (pe_op op_add pe_int (pe_op op_mod (pe_callTy call_int1 (by rfl) hint (by decide +kernel) (pa_cons (pe_ix (r := rIxL K) ix_list (pv 0) (pe_op op_add (pe_op op_add (pv 1) pe_int) (pv 7)) (fun _ _ => rfl)) pa_nil)) (pv 3)))))
      (pss_cons (ps_setLc (i := 5) (own := [("k", 7)]) (g := gName 7) (tt := tYes) rfl nd rfl rfl rfl (pi_range1 rfl hrange (pa_cons (pe_op op_mod (pe_callTy call_int1 (by rfl) hint (by decide +kernel) (pa_cons (pe_op op_fdiv (pe_ix ix_list (pv 0) (pv 1) (fun _ _ => rfl)) pe_int) pa_nil)) (pv 2)) pa_nil)) (blkOk_by (N := NH) (sc := defScope s__law_house) (by decide +kernel)) (fun _ _ _ _ _ => pg_name (i := 7) nd rfl (Or.inl rfl)) (fun _ _ _ _ _ => pts_nil) (fun _ _ _ _ _ => (pe_op op_add pe_int (pe_op op_mod (pe_callTy call_int1 (by rfl) hint (by decide +kernel) (pa_cons (pe_ix (r := rIxL K) ix_list (pv 0) (pe_op op_add (pe_op op_add (pv 1) pe_int) (pv 7)) (fun _ _ => rfl)) pa_nil)) (pe_op op_add pe_int (pe_op op_fdiv (pv 3) pe_int))))))
      (pss_cons (ps_set (i := 6) nd rfl (.inl rfl) (pe_lst pa_nil))
      (pss_cons (ps_for PassesOwn.never rfl (pi_range1 rfl hrange (pa_cons (pe_ix ix_tup (pe_tup (pa_cons pe_int (pa_cons pe_int (pa_cons pe_int (pa_cons pe_int (pa_cons pe_int pa_nil)))))) (pe_op op_mod (pe_callTy call_int1 (by rfl) hint (by decide +kernel) (pa_cons (pe_op op_fdiv (pe_ix ix_list (pv 0) (pv 1) (fun _ _ => rfl)) pe_int) pa_nil)) pe_int) (fun _ _ => rfl)) pa_nil)) (pg_name (i := 7) nd rfl (.inl rfl)) (pss_cons (ps_set (i := 8) nd rfl (.inl rfl) (pe_call Lk.G (by exact hr.mono (by decide)) (by rfl) Lk.g Lk.kp Lk.b .nil pass0 (pa_cons (pv 4) (pa_cons (pv 5) (pa_cons (pe_ix ix_list (pv 0) (pe_op op_add (pe_op op_add (pv 1) pe_int) (pe_op op_mul pe_int (pv 7))) (fun _ _ => rfl)) (pa_cons (pe_ix ix_list (pv 0) (pe_op op_add (pe_op op_add (pv 1) pe_int) (pe_op op_mul pe_int (pv 7))) (fun _ _ => rfl)) pa_nil))))))
      (pss_one (ps_if (pt_cmpR (op_notInD (room65 hr)) (pv 8) (pv 6) (by rfl)) (pss_one (ps_expr (pe_bm PySem.F.plainAttrs_list PySem.F.slot_list_append PySem.F.type_list_append mt_append (pv 6) (pa_cons (pv 8) pa_nil)))) pss_nil))))
      (pss_one (ps_ret (pe_tup (pa_cons (pv 4) (pa_cons (pv 5) (pa_cons (pv 6) pa_nil)))))))))), ?_⟩
    -- lengths
    refine ⟨_, rfl, _, rfl, n, _, _, _, rfl, rfl, hn, at_ a0 (by omega), .inl ⟨_, rfl, _, _, rfl, rfl, (by show (0 : Int) < 2; decide), _, _, rfl, rfl, _, rfl, by omega, by omega, fun D nD => ?_⟩⟩
    have c0 := Int.emod_nonneg (nth ns a) (show (2 : Int) ≠ 0 by decide)
    have c1 := Int.emod_lt_of_pos (nth ns a) (show (0 : Int) < 2 by decide)
    refine lc_range (lo := 0) (n := (1 + nth ns a % 2).toNat) (fun i H' => ∃ ls : List Int, H' = upd H D (.lst (ls.map V.int)) ∧ ls.length = i ∧ Lens ls) ?_ ?_ ?_
    · exact ⟨[], rfl, rfl, fun x z => nomatch z⟩
    · rintro i H' hi ⟨ls, rfl, hll, hL⟩
      have e0 := Int.emod_nonneg (nth ns ((a : Int) + 1 + (0 + (i : Int)))) (show (most : Int) ≠ 0 by omega)
      have e1 := Int.emod_lt_of_pos (nth ns ((a : Int) + 1 + (0 + (i : Int)))) (show (0 : Int) < (most : Int) by omega)
      refine ⟨rfl, _, rfl, _, rfl, _, _, rfl, rfl, _, rfl, _, _, rfl, rfl, n, _, _, _, rfl, rfl, (same_upd nD).seq hn, at_ (by omega) (by omega), .inl ⟨_, rfl, _, rfl, _, _, rfl, rfl, (by show (0 : Int) < _; omega), _, _, rfl, rfl, _, upd_same, ?_, ls ++ [1 + nth ns ((a : Int) + 1 + (0 + (i : Int))) % (most : Int)], ?_, ?_, hL.snoc1 (by omega) (by omega)⟩⟩
      · rw [List.length_map]
        omega
      · rw [upd_upd, List.map_append]
        rfl
      · rw [List.length_append, hll]
        rfl
    rintro H' ⟨ls, rfl, hll, hL⟩
    obtain ⟨H1, e1, k1, gl1⟩ := made (o := .lst (ls.map V.int)) nD
    rw [e1]
    have hl1 : 1 ≤ ls.length := by omega
    have hl2 : ls.length ≤ 2 := by omega
    -- gaps
    have d0 := Int.emod_nonneg (nth ns a / 2) (show (many : Int) ≠ 0 by omega)
    have d1 := Int.emod_lt_of_pos (nth ns a / 2) (show (0 : Int) < (many : Int) by omega)
    refine ⟨_, rfl, _, rfl, n, _, _, _, rfl, rfl, k1.seq hn, at_ a0 (by omega), _, _, rfl, rfl, ⟨by decide, by decide⟩, .inl ⟨_, rfl, _, rfl, _, _, rfl, rfl, (by show (0 : Int) < _; omega), _, rfl, by omega, by omega, fun G nG => ?_⟩⟩
    refine lc_range (lo := 0) (n := (nth ns a / 2 % (many : Int)).toNat) (fun i H' => ∃ gs : List Int, H' = upd H1 G (.lst (gs.map V.int)) ∧ gs.length = i ∧ Lens gs) ?_ ?_ ?_
    · exact ⟨[], rfl, rfl, fun x z => nomatch z⟩
    · rintro i H' hi ⟨gs, rfl, hgl, hG⟩
      have e0 := Int.emod_nonneg (nth ns ((a : Int) + 3 + (0 + (i : Int)))) (show (1 + (most : Int) / 2) ≠ 0 by omega)
      have e1 := Int.emod_lt_of_pos (nth ns ((a : Int) + 3 + (0 + (i : Int)))) (show (0 : Int) < 1 + (most : Int) / 2 by omega)
      refine ⟨rfl, _, rfl, _, rfl, _, _, rfl, rfl, _, rfl, _, _, rfl, rfl, n, _, _, _, rfl, rfl, (k1.trans (same_upd nG)).seq hn, at_ (by omega) (by omega), .inl ⟨_, rfl, _, rfl, _, _, rfl, rfl, ⟨by decide, by decide⟩, _, _, rfl, rfl, _, _, rfl, rfl, (by show (0 : Int) < _; omega), _, _, rfl, rfl, _, upd_same, ?_, gs ++ [1 + nth ns ((a : Int) + 3 + (0 + (i : Int))) % (1 + (most : Int) / 2)], ?_, ?_, hG.snoc1 (by omega) (by omega)⟩⟩
      · rw [List.length_map]
        omega
      · rw [upd_upd, List.map_append]
        rfl
      · rw [List.length_append, hgl]
        rfl
    rintro H' ⟨gs, rfl, hgl, hG⟩
    obtain ⟨H2, e2, k2, gg2⟩ := made (o := .lst (gs.map V.int)) nG
    rw [e2]
    have k12 := k1.trans k2
    have gl2 := k2 _ _ gl1
    have hg11 : gs.length ≤ 11 := by omega
    -- closed
    refine ⟨Nat.zero_le _, fun c nc => ?_⟩
    have kc : Same H2 (upd H2 c (.lst [])) := same_upd nc
    refine ⟨(by show 5 ≤ sizeLine; decide), fun m nm => ?_⟩
    have k7 : Same (upd H2 c (.lst [])) (upd (upd H2 c (.lst [])) m (.tup [V.int 0, .int 0, .int 1, .int 2, .int 4])) := same_upd nm
    obtain ⟨mo, hmo, mo0, mo4⟩ := pick5 (z := nth ns a / 24 % 5) (Int.emod_nonneg _ (by decide)) (Int.emod_lt_of_pos _ (by decide))
    refine ⟨_, rfl, _, rfl, n, _, _, _, rfl, rfl, ((k12.trans kc).trans k7).seq hn, at_ a0 (by omega), _, _, rfl, rfl, ⟨by decide, by decide⟩, .inl ⟨_, rfl, _, _, rfl, rfl, (by show (0 : Int) < 5; decide), m, _, _, _, rfl, rfl, SqT.of upd_same, hmo, mo, rfl, by omega, by omega, ?_⟩⟩
    refine for_range (lo := 0) (n := mo.toNat) (fun i σ H' => ∃ (v7 v8 : Option V) (ys : List V) (cs : List (Str × Int × Int)), σ = [some (.ref n), some (.int (a : Int)), some (.int (many : Int)), some (.int (most : Int)), some (.ref D), some (.ref G), some (.ref c), v7, v8] ∧ Same H2 H' ∧ H' c = some (.lst ys) ∧ Krs H' ys (kOf cs) ∧ (kOf cs).Nodup ∧
        (∀ d ∈ cs, isLk ls gs d.1 d.2.1 d.2.2 = true) ∧ (∀ d ∈ cs, d.1 = "up" ∨ d.1 = "over") ∧ cs.length ≤ i) ?_ ?_ ?_
    · exact ⟨none, none, [], [], rfl, kc.trans k7, k7 _ _ upd_same, .nil, .nil, (fun d z => nomatch z), (fun d z => nomatch z), Nat.zero_le _⟩
    · rintro i σ H' hi ⟨v7, v8, ys, cs, rfl, k', hc, hx, hnd, hlk, hw, hle⟩
      have kk := k12.trans k'
      refine ⟨_, rfl, _, rfl, _, rfl, _, rfl, _, _, rfl, rfl, _, rfl, _, _, rfl, rfl, .inl ⟨by decide, by decide⟩, _, _, rfl, rfl, n, _, _, _, rfl, rfl, kk.seq hn, at_ (by omega) (by omega), ?_⟩
      refine ⟨_, rfl, _, rfl, _, _, rfl, rfl, _, rfl, _, _, rfl, rfl, .inl ⟨by decide, by decide⟩, _, _, rfl, rfl, n, _, _, _, rfl, rfl, kk.seq hn, at_ (by omega) (by omega), ?_⟩
      refine ⟨D, G, ls, gs, _, _, rfl, k' _ _ gl2, k' _ _ gg2, hL, hl1, hl2, hg11, fun H3 t d k3 ht hwd hl => ?_⟩
      have hc3 := k3 _ _ hc
      have hx3 := hx.same k3
      have hkr : Kr H3 (.ref t) (lk d.1 d.2.1 d.2.2) := ⟨t, rfl, ht⟩
      refine ⟨_, rfl, _, rfl, dK (lk d.1 d.2.1 d.2.2), (kOf cs).map dK, hkr.dp, hx3.dl (SqL.of hc3), sh_dK (okk_word hwd _ _), sh_dKs (fun k hk => ?_), _, rfl, ?_⟩
      · obtain ⟨d2, hd, rfl⟩ := List.mem_map.mp hk
        exact okk_word (hw d2 hd) _ _
      rw [any_dK]
      refine ite2 (fun hin => ?_) (fun hin => ?_)
      · have hni : lk d.1 d.2.1 d.2.2 ∉ kOf cs := fun z => by
          rw [decide_eq_true z] at hin
          cases hin
        have hyl : ys.length = cs.length := hx.len.trans (List.length_map _)
        refine ⟨_, rfl, .inl ⟨rfl, _, SqL.of hc3⟩, _, rfl, c, ys, _, rfl, rfl, hc3, by omega, ?_⟩
        refine ⟨_, _, ys ++ [.ref t], cs ++ [d], rfl, Same.over (k'.trans k3) nc, upd_same, ?_, ?_, fun x hx => ?_, fun x hx => ?_, by rw [List.length_append]; show cs.length + 1 ≤ i + 1; omega⟩
        · rw [kOf_app1]
          exact (hx3.over hc3).snoc (hkr.over hc3)
        · rw [kOf_app1]
          exact List.nodup_append.mpr ⟨hnd, by simp, fun y hy y' hy' e => hni (by rw [List.mem_singleton.mp hy'] at e; rw [← e]; exact hy)⟩
        · rcases List.mem_append.mp hx with z | z
          · exact hlk x z
          · rw [List.mem_singleton.mp z]
            exact hl
        · rcases List.mem_append.mp hx with z | z
          · exact hw x z
          · rw [List.mem_singleton.mp z]
            exact hwd
      · exact ⟨_, _, ys, cs, rfl, k'.trans k3, hc3, hx3, hnd, hlk, hw, by omega⟩
    · rintro σ H' ⟨v7, v8, ys, cs, rfl, k', hc, hx, hnd, hlk, hw, hle⟩
      refine ⟨_, rfl, _, rfl, _, rfl, (by show 3 ≤ sizeLine; decide), fun p np => ?_⟩
      obtain ⟨H3, e3, k3, g3⟩ := made (o := .tup [V.ref D, .ref G, .ref c]) np
      rw [e3]
      have va : Valid ls gs cs := ⟨⟨⟨hl1, hl2⟩, lens_all hL⟩, ⟨hg11, lens_all hG⟩, by omega, hnd, hlk⟩
      exact q H3 p ls gs cs ((k12.trans k').trans k3) ⟨D, G, c, ys, g3, k3 _ _ (k' _ _ gl2), k3 _ _ (k' _ _ gg2), k3 _ _ hc, hx.same k3⟩ va (by omega) (by omega) hw
end
section
open GxR NdefX PySem.Spec PyProof.Rows
variable {P : Program} {w : World} {K : PySem.W.Frag} {mg : Str → Option Value} {base : Heap}
theorem cross_isCr {ls gs : List Int} (hL : Lens ls) {a h : Int} (a0 : 0 ≤ a) (a1 : a ≤ gs.length) (hh : h ∈ crossN ls) : isCr ls gs (a, h) = true := by
  have c := hL.cross hh
  unfold isCr
  rw [decide_eq_true hh, Bool.and_true]
  unfold isPl
  simp [a0, a1, c.1, c.2]
theorem isPl_mk {ls gs : List Int} {a h : Int} (a0 : 0 ≤ a) (a1 : a ≤ gs.length) (h0 : 0 ≤ h) (h1 : h ≤ ls.sum) : isPl ls gs (a, h) = true := by
  unfold isPl
  simp [a0, a1, h0, h1]
def spDraw (f : List Int → List Int → Pl → Bool) : Sp := fun vs H Q _ => ∃ (p : Addr) (ls gs : List Int) (cs : List (Str × Int × Int)) (i : Int), vs = [.ref p, .int i] ∧ PartsAt H p ls gs cs ∧ Valid ls gs cs ∧
  ∀ (H' : Hp) (t : Addr) (z : Pl), Same H H' → H' t = some (.tup [.int z.1, .int z.2]) → f ls gs z = true → Q (.ref t) H'
theorem ok_lc {f : Addr} {fd : FuncData} (F : Fun K "_law_cross" "_law_cross" s__law_cross f fd) (hint : mg "int" = none) (hlen : mg "len" = none) (Cr : TopD P w K mg base 2 "_law_crosses" ["lengths"] (spCross K)) : FnOk P w K mg base CX0 3 f fd ["house", "number"] (spDraw isCr) := by
  refine F.ok sc__law_cross (fun vs H Q E h => ?_) (fun cdv A outer s H vs Q E hr h => ?_)
  · obtain ⟨p, ls, gs, cs, i, rfl, _⟩ := h
    rfl
  · obtain ⟨p, ls, gs, cs, i, rfl, ⟨l, g, c, xs, hp, hl, hg, hc, hx⟩, va, q⟩ := h
    have nd := sc__law_cross.nd
    have hL := va.lens
    have l2 := va.1.1.2
    refine ⟨_, (pss_cons (ps_set (i := 2) nd rfl (.inl rfl) (pe_call Cr.G (by exact hr.mono (by decide)) (by rfl) Cr.g Cr.kp Cr.b .nil pass0 (pa_cons (pe_ix ix_tup (pv 0) pe_int (fun _ _ => rfl)) pa_nil)))
      (pss_one (ps_ret (pe_tup (pa_cons (pe_op op_mod (pe_callTy call_int1 (by rfl) hint (by decide +kernel) (pa_cons (pv 1) pa_nil)) (pe_op op_add (pe_callB call_len (by rfl) hlen (by decide +kernel) (pa_cons (pe_ix ix_tup (pv 0) pe_int (fun _ _ => rfl)) pa_nil)) pe_int)) (pa_cons (pe_ix ix_list (pv 2) (pe_op op_mod (pe_callTy call_int1 (by rfl) hint (by decide +kernel) (pa_cons (pe_op op_fdiv (pv 1) pe_int) pa_nil)) (pe_callB call_len (by rfl) hlen (by decide +kernel) (pa_cons (pv 2) pa_nil))) (fun _ _ => rfl)) pa_nil)))))), ?_⟩
    refine ⟨_, rfl, p, _, _, _, rfl, rfl, SqT.of hp, rfl, l, ls, rfl, SqL.of hl, by omega, fun H1 r k1 nr gr => ?_⟩
    have a0 := Int.emod_nonneg i (show ((gs.length : Int) + 1) ≠ 0 by omega)
    have a1 := Int.emod_lt_of_pos i (show (0 : Int) < (gs.length : Int) + 1 by omega)
    have b0 := Int.emod_nonneg (i / 12) (show ((ls.length : Int) + 1) ≠ 0 by omega)
    have b1 := Int.emod_lt_of_pos (i / 12) (show (0 : Int) < (ls.length : Int) + 1 by omega)
    obtain ⟨h, hh, hat⟩ := at_cross b0 b1
    refine ⟨_, rfl, .inl ⟨_, rfl, _, rfl, p, _, _, _, rfl, rfl, SqT.of (k1 _ _ hp), rfl, _, _, rfl, .inl ⟨_, SqL.of (k1 _ _ hg), rfl⟩, _, _, rfl, rfl, _, _, rfl, rfl, (by rw [List.length_map]; show (0 : Int) < _; omega), ?_⟩⟩
    rw [List.length_map]
    refine ⟨_, rfl, _, rfl, _, _, rfl, rfl, ⟨by decide, by decide⟩, .inl ⟨_, rfl, _, rfl, _, _, rfl, .inl ⟨_, SqL.of gr, rfl⟩, _, _, rfl, rfl, (by rw [List.length_map, crossN_len]; show (0 : Int) < _; omega), r, _, _, _, rfl, rfl, SqL.of gr, (by rw [List.length_map, crossN_len]; exact hat), (by show 2 ≤ sizeLine; decide), fun t nt => ?_⟩⟩
    obtain ⟨H2, e2, k2, g2⟩ := made (o := .tup [V.int (i % ((gs.length : Int) + 1)), .int h]) nt
    rw [e2]
    have a2 : i % ((gs.length : Int) + 1) ≤ (gs.length : Int) := by omega
    exact q H2 t (i % ((gs.length : Int) + 1), h) (k1.trans k2) g2 (cross_isCr hL a0 a2 hh)
theorem ok_lp {f : Addr} {fd : FuncData} (F : Fun K "_law_place" "_law_place" s__law_place f fd) (hint : mg "int" = none) (hlen : mg "len" = none) (hsum : mg "sum" = none) : FnOk P w K mg base CX0 1 f fd ["house", "number"] (spDraw isPl) := by
  refine F.ok sc__law_place (fun vs H Q E h => ?_) (fun cdv A outer s H vs Q E hr h => ?_)
  · obtain ⟨p, ls, gs, cs, i, rfl, _⟩ := h
    rfl
  · obtain ⟨p, ls, gs, cs, i, rfl, ⟨l, g, c, xs, hp, hl, hg, hc, hx⟩, va, q⟩ := h
    have nd := sc__law_place.nd
    have hL := va.lens
    have top0 := hL.pos2
    refine ⟨_, (pss_one (ps_ret (pe_tup (pa_cons (pe_op op_mod (pe_callTy call_int1 (by rfl) hint (by decide +kernel) (pa_cons (pv 1) pa_nil)) (pe_op op_add (pe_callB call_len (by rfl) hlen (by decide +kernel) (pa_cons (pe_ix ix_tup (pv 0) pe_int (fun _ _ => rfl)) pa_nil)) pe_int)) (pa_cons (pe_op op_mod (pe_callTy call_int1 (by rfl) hint (by decide +kernel) (pa_cons (pe_op op_fdiv (pv 1) pe_int) pa_nil)) (pe_op op_add (pe_callB (cr_sum rfl) (by rfl) hsum (by decide +kernel) (pa_cons (pe_ix ix_tup (pv 0) pe_int (fun _ _ => rfl)) pa_nil)) pe_int)) pa_nil))))), ?_⟩
    have a0 := Int.emod_nonneg i (show ((gs.length : Int) + 1) ≠ 0 by omega)
    have a1 := Int.emod_lt_of_pos i (show (0 : Int) < (gs.length : Int) + 1 by omega)
    have b0 := Int.emod_nonneg (i / 12) (show (ls.sum + 1) ≠ 0 by omega)
    have b1 := Int.emod_lt_of_pos (i / 12) (show (0 : Int) < ls.sum + 1 by omega)
    refine ⟨_, rfl, .inl ⟨_, rfl, _, rfl, p, _, _, _, rfl, rfl, SqT.of hp, rfl, _, _, rfl, .inl ⟨_, SqL.of hg, rfl⟩, _, _, rfl, rfl, _, _, rfl, rfl, (by rw [List.length_map]; show (0 : Int) < _; omega), ?_⟩⟩
    rw [List.length_map]
    refine ⟨_, rfl, _, _, rfl, rfl, ⟨by decide, by decide⟩, .inl ⟨_, rfl, _, rfl, p, _, _, _, rfl, rfl, SqT.of hp, rfl, l, ls, rfl, SqL.of hl, _, _, rfl, rfl, _, _, rfl, rfl, (by show (0 : Int) < _; omega), (by show 2 ≤ sizeLine; decide), fun t nt => ?_⟩⟩
    obtain ⟨H2, e2, k2, g2⟩ := made (o := .tup [V.int (i % ((gs.length : Int) + 1)), .int (i / 12 % (ls.sum + 1))]) nt
    rw [e2]
    have a2 : i % ((gs.length : Int) + 1) ≤ (gs.length : Int) := by omega
    have b2 : i / 12 % (ls.sum + 1) ≤ ls.sum := by omega
    exact q H2 t (i % ((gs.length : Int) + 1), i / 12 % (ls.sum + 1)) k2 g2 (isPl_mk a0 a2 b0 b2)
def spTk (K : PySem.W.Frag) : Sp := fun vs H Q _ => ∃ (n : Addr) (ns : List Int) (a : Nat) (pa : Addr) (ls gs : List Int) (cs : List (Str × Int × Int)) (many : Nat), vs = [.ref n, .int (a : Int), .ref pa, .int (many : Int)] ∧ SqL K H n (ns.map V.int) ∧ Small ns ∧ a + 4 + many ≤ ns.length ∧ many ≤ 50 ∧ PartsAt H pa ls gs cs ∧ Valid ls gs cs ∧
  ∀ (H' : Hp) (t : Addr) (va vb : V) (l : Addr) (xs : List V) (st en : Pl) (ps : List Pl), Same H H' → H' t = some (.tup [va, vb, .ref l]) → Pr H' va st → Pr H' vb en → isCr ls gs st = true → isCr ls gs en = true → H l = none → H' l = some (.lst xs) → Prs H' xs ps → ps.Nodup → ps.length ≤ many → (∀ x ∈ ps, isPl ls gs x = true) → Q (.ref t) H'
theorem ok_tk {f : Addr} {fd : FuncData} (F : Fun K "_law_task" "_law_task" s__law_task f fd) (hint : mg "int" = none) (hrange : mg "range" = none) (Lc : TopD P w K mg base 3 "_law_cross" ["house", "number"] (spDraw isCr)) (Lp : TopD P w K mg base 1 "_law_place" ["house", "number"] (spDraw isPl)) : FnOk P w K mg base CX0 4 f fd ["numbers", "at", "house", "many"] (spTk K) := by
  refine F.ok sc__law_task (fun vs H Q E h => ?_) (fun cdv A outer s H vs Q E hr h => ?_)
  · obtain ⟨n, ns, a, pa, ls, gs, cs, many, rfl, _⟩ := h
    rfl
  · obtain ⟨n, ns, a, pa, ls, gs, cs, many, rfl, hn, hs, ha, hm, hP, va, q⟩ := h
    have nd := sc__law_task.nd
    have hline : 1000000 < sizeLine := by decide
    have sm := nth_small hs
    have a0 : (0 : Int) ≤ (a : Int) := Int.natCast_nonneg a
    have at_ : ∀ {i : Int}, 0 ≤ i → i < ns.length → atI (ns.map V.int) i = some (V.int (nth ns i)) := fun h0 h1 => atI_nth h0 h1
    refine ⟨_, (pss_cons (ps_set (i := 4) nd rfl (.inl rfl) (pe_call Lc.G (by exact hr.mono (by decide)) (by rfl) Lc.g Lc.kp Lc.b .nil pass0 (pa_cons (pv 2) (pa_cons (pe_ix ix_list (pv 0) (pv 1) (fun _ _ => rfl)) pa_nil))))
      (pss_cons (ps_set (i := 5) nd rfl (.inl rfl) (pv 4))
      (C8.pss_cut (ps_if (pt_cmpR op_eq (pe_op op_mod (pe_callTy call_int1 (by rfl) hint (by decide +kernel) (pa_cons (pe_ix ix_list (pv 0) (pe_op op_add (pv 1) pe_int) (fun _ _ => rfl)) pa_nil)) pe_int) pe_int (nomark _)) (pss_one (ps_set (i := 5) nd rfl (.inl rfl) (pe_call Lc.G (by exact hr.mono (by decide)) (by rfl) Lc.g Lc.kp Lc.b .nil pass0 (pa_cons (pv 2) (pa_cons (pe_ix ix_list (pv 0) (pe_op op_add (pv 1) pe_int) (fun _ _ => rfl)) pa_nil))))) pss_nil)
      (pss_cons (ps_set (i := 6) nd rfl (.inl rfl) (pe_lst pa_nil))
      (pss_cons (ps_for PassesOwn.never rfl (pi_range1 rfl hrange (pa_cons (pe_op op_mod (pe_callTy call_int1 (by rfl) hint (by decide +kernel) (pa_cons (pe_ix ix_list (pv 0) (pe_op op_add (pv 1) pe_int) (fun _ _ => rfl)) pa_nil)) (pe_op op_add (pv 3) pe_int)) pa_nil)) (pg_name (i := 7) nd rfl (.inl rfl)) (pss_cons (ps_set (i := 8) nd rfl (.inl rfl) (pe_call Lp.G (by exact hr.mono (by decide)) (by rfl) Lp.g Lp.kp Lp.b .nil pass0 (pa_cons (pv 2) (pa_cons (pe_ix ix_list (pv 0) (pe_op op_add (pe_op op_add (pv 1) pe_int) (pv 7)) (fun _ _ => rfl)) pa_nil))))
      (pss_one (ps_if (pt_cmpR (op_notInD (room65 hr)) (pv 8) (pv 6) (by rfl)) (pss_one (ps_expr (pe_bm PySem.F.plainAttrs_list PySem.F.slot_list_append PySem.F.type_list_append mt_append (pv 6) (pa_cons (pv 8) pa_nil)))) pss_nil))))
      (pss_one (ps_ret (pe_tup (pa_cons (pv 4) (pa_cons (pv 5) (pa_cons (pv 6) pa_nil))))))))))), ?_⟩
    refine ⟨_, rfl, _, rfl, _, rfl, n, _, _, _, rfl, rfl, hn, at_ a0 (by omega), pa, ls, gs, cs, _, rfl, hP, va, fun H1 ts st k1 hts cst => ?_⟩
    refine ⟨_, rfl, ?_⟩
    refine ⟨fun σ H' => ∃ (te : Addr) (en : Pl), σ = [some (.ref n), some (.int (a : Int)), some (.ref pa), some (.int (many : Int)), some (.ref ts), some (.ref te), none, none, none] ∧ Same H1 H' ∧ H' te = some (.tup [.int en.1, .int en.2]) ∧ isCr ls gs en = true, ?_, ?_⟩
    · refine ⟨_, rfl, _, rfl, _, _, rfl, rfl, n, _, _, _, rfl, rfl, k1.seq hn, at_ (by omega) (by omega), .inl ⟨_, rfl, _, _, rfl, rfl, (by show (0 : Int) < 2; decide), rfl, _, rfl, ?_⟩⟩
      refine ite2 (fun hc => ?_) (fun hc => ?_)
      · refine ⟨_, rfl, _, rfl, _, rfl, _, _, rfl, rfl, n, _, _, _, rfl, rfl, k1.seq hn, at_ (by omega) (by omega), pa, ls, gs, cs, _, rfl, hP.same k1, va, fun H2 te en k2 hte cen => ?_⟩
        exact ⟨te, en, rfl, k2, hte, cen⟩
      · exact ⟨ts, st, rfl, Same.refl _, hts, cst⟩
    rintro σ H2 ⟨te, en, rfl, k2, hte, cen⟩
    have k12 := k1.trans k2
    refine ⟨Nat.zero_le _, fun l nl => ?_⟩
    have kl : Same H2 (upd H2 l (.lst [])) := same_upd nl
    have kl2 := k12.trans kl
    have e0 := Int.emod_nonneg (nth ns ((a : Int) + 2)) (show ((many : Int) + 1) ≠ 0 by omega)
    have e1 := Int.emod_lt_of_pos (nth ns ((a : Int) + 2)) (show (0 : Int) < (many : Int) + 1 by omega)
    refine ⟨_, rfl, _, rfl, _, _, rfl, rfl, n, _, _, _, rfl, rfl, kl2.seq hn, at_ (by omega) (by omega), .inl ⟨_, rfl, _, rfl, _, _, rfl, rfl, _, _, rfl, rfl, (by show (0 : Int) < _; omega), _, rfl, by omega, by omega, ?_⟩⟩
    refine for_range (lo := 0) (n := (nth ns ((a : Int) + 2) % ((many : Int) + 1)).toNat) (fun i σ H' => ∃ (v7 v8 : Option V) (xs : List V) (ps : List Pl), σ = [some (.ref n), some (.int (a : Int)), some (.ref pa), some (.int (many : Int)), some (.ref ts), some (.ref te), some (.ref l), v7, v8] ∧ Same H2 H' ∧ H' l = some (.lst xs) ∧ Prs H' xs ps ∧ ps.Nodup ∧ ps.length ≤ i ∧ ∀ x ∈ ps, isPl ls gs x = true) ?_ ?_ ?_
    · exact ⟨none, none, [], [], rfl, kl, upd_same, .nil, .nil, Nat.le_refl _, fun _ z => nomatch z⟩
    · rintro i σ H3 hi ⟨v7, v8, xs, ps, rfl, k3, gl, px, pn, pl, po⟩
      have k03 := k12.trans k3
      refine ⟨_, rfl, _, rfl, _, rfl, _, _, rfl, rfl, _, rfl, _, _, rfl, rfl, n, _, _, _, rfl, rfl, k03.seq hn, at_ (by omega) (by omega), pa, ls, gs, cs, _, rfl, hP.same k03, va, fun H4 t z k4 ht hz => ?_⟩
      have gl4 := k4 _ _ gl
      have px4 := px.same k4
      have pz : Pr H4 (.ref t) z := ⟨t, rfl, ht⟩
      have hxl := px.len
      refine ⟨_, rfl, _, rfl, dP z, ps.map dP, pz.dp, px4.dl (SqL.of gl4), sh_dP z, sh_dL ps, _, rfl, ?_⟩
      rw [any_dP]
      refine ite2 (fun hc => ?_) (fun hc => ?_)
      · have hzn : z ∉ ps := fun m => by
          rw [decide_eq_true m] at hc
          cases hc
        refine ⟨_, rfl, Or.inl ⟨rfl, _, SqL.of gl4⟩, _, rfl, l, xs, _, rfl, rfl, gl4, (by omega), ?_⟩
        exact ⟨_, _, xs ++ [.ref t], ps ++ [z], rfl, Same.over (k3.trans k4) nl, upd_same, (px4.snoc pz).over gl4,
          List.nodup_append.mpr ⟨pn, List.nodup_cons.mpr ⟨by simp, .nil⟩, fun y hy y' hy' e => hzn (by rw [List.mem_singleton.mp hy'] at e; rw [← e]; exact hy)⟩, by rw [List.length_append]; show ps.length + 1 ≤ i + 1; omega, fun x hx => by
            rcases List.mem_append.mp hx with hx | hx
            · exact po x hx
            · rw [List.mem_singleton.mp hx]
              exact hz⟩
      · exact ⟨_, _, xs, ps, rfl, k3.trans k4, gl4, px4, pn, by omega, po⟩
    · rintro σ H3 ⟨v7, v8, xs, ps, rfl, k3, gl, px, pn, pl, po⟩
      refine ⟨_, rfl, _, rfl, _, rfl, (by show 3 ≤ sizeLine; decide), fun t nt => ?_⟩
      obtain ⟨H4, e4, k4, g4⟩ := made (o := .tup [V.ref ts, .ref te, .ref l]) nt
      rw [e4]
      have k24 := k3.trans k4
      exact q H4 t (.ref ts) (.ref te) l xs st en ps (k12.trans k24) g4 ⟨ts, rfl, k24 _ _ (k2 _ _ hts)⟩ ⟨te, rfl, k24 _ _ hte⟩ cst cen (k12.free nl) (k4 _ _ gl) (px.same k4) pn (by omega) po
/-- what is needed to make houses -/
structure MakeH (P : Program) (w : World) (K : PySem.W.Frag) (mg : Str → Option Value) (base : Heap) where
  C : Addr
  CI : Addr
  TL : Addr
  TI : Addr
  fI : Addr
  fdI : FuncData
  M : Mk K C fI
  GI : FnOk P w K mg base (L2.CX P w) 5 fI fdI ["self", "lengths", "gaps", "closed"] (spHouse K C CI TL TI)
  bI : Binds K fdI ["self", "lengths", "gaps", "closed"] []
  mgC : mg "House" = some (.ref C)
def spMd (C CT TL TI : Addr) : Sp := fun vs H Q _ => ∃ (p t : Addr) (ls gs : List Int) (cs : List (Str × Int × Int)) (va vb : V) (l : Addr) (xs : List V) (st en : Pl) (ps : List Pl), vs = [.ref p, .ref t] ∧ PartsAt H p ls gs cs ∧ Valid ls gs cs ∧ H t = some (.tup [va, vb, .ref l]) ∧ Pr H va st ∧ Pr H vb en ∧ H l = some (.lst xs) ∧ Prs H xs ps ∧ ps.Nodup ∧ ps.length ≤ 60 ∧ TabG H TL ∧ TabG H TI ∧
  ∀ (H' : Hp) (r h e : Addr), Kp H H' → H' r = some (.tup [.ref h, .ref e]) → HouseAt C H' h ls gs cs → TaskAt CT H' e st en (sortP ps) → Q (.ref r) H'
theorem ok_md {f fT CT CIT : Addr} {fd fdT : FuncData} (F : Fun K "_law_made" "_law_made" s__law_made f fd) (Z : MakeH P w K mg base) (MT : Mk K CT fT) (GT : FnOk P w K mg base (L2.CX P w) 2 fT fdT ["self", "start", "end", "picks"] (spTask K CT CIT)) (bT : Binds K fdT ["self", "start", "end", "picks"] []) (mgT : mg "Task" = some (.ref CT)) : FnOk P w K mg base CX0 7 f fd ["house", "task"] (spMd Z.C CT Z.TL Z.TI) := by
  refine F.ok sc__law_made (fun vs H Q E h => ?_) (fun cdv A outer s H vs Q E hr h => ?_)
  · obtain ⟨p, t, ls, gs, cs, va, vb, l, xs, st, en, ps, rfl, _⟩ := h
    rfl
  · obtain ⟨p, t, ls, gs, cs, va, vb, l, xs, st, en, ps, rfl, ⟨hl, hg, hc, ks, hp, gl, gg, gc, hk⟩, vv, ht, pa, pb, gl2, px, pn, p60, tL, tI, q⟩ := h
    have nd := sc__law_made.nd
    have w1 := vv.1.1.2
    have w2 := vv.2.1.1
    have w3 := vv.2.2.1
    refine ⟨_, (pss_one (ps_ret (pe_tup (pa_cons (pe_make Z.M Z.GI (by exact hr.mono (by decide)) (by rfl) Z.mgC Z.bI .nil (passes_call takes0 fun _ _ _ _ h => h) (pa_cons (pe_ix ix_tup (pv 0) pe_int (fun _ _ => rfl)) (pa_cons (pe_ix ix_tup (pv 0) pe_int (fun _ _ => rfl)) (pa_cons (pe_ix ix_tup (pv 0) pe_int (fun _ _ => rfl)) pa_nil)))) (pa_cons (pe_make MT GT (by exact hr.mono (by decide)) (by rfl) mgT bT .nil (passes_call takes0 fun _ _ _ _ h => h) (pa_cons (pe_ix ix_tup (pv 1) pe_int (fun _ _ => rfl)) (pa_cons (pe_ix ix_tup (pv 1) pe_int (fun _ _ => rfl)) (pa_cons (pe_ix ix_tup (pv 1) pe_int (fun _ _ => rfl)) pa_nil)))) pa_nil))))), ?_⟩
    refine ⟨_, rfl, p, _, _, _, rfl, rfl, SqT.of hp, rfl, _, rfl, p, _, _, _, rfl, rfl, SqT.of hp, rfl, _, rfl, p, _, _, _, rfl, rfl, SqT.of hp, rfl, fun x dx nx ndx ne => ?_⟩
    have kM : Same H (upd (upd H dx (.own x)) x (.ins Z.C dx [])) := fun b z e => by
      rw [upd_ne (ne_of_none e nx), upd_ne (ne_of_none e ndx)]
      exact e
    refine ⟨x, dx, hl, hg, hc, ls, gs, ks, cs, rfl, upd_same, SqL.of (kM _ _ gl), SqL.of (kM _ _ gg), SqL.of (kM _ _ gc), hk.same kM, by omega, by omega, by omega, (kpS kM).tab _ tL, (kpS kM).tab _ tI, fun _ C1 hH kb _ => ⟨rfl, ?_⟩, fun nv => absurd vv nv⟩
    have c1 : Kp H C1 := mkKp nx ndx kb
    have ht1 := c1.tup ht
    refine ⟨_, rfl, t, _, _, _, rfl, rfl, SqT.of ht1, rfl, _, rfl, t, _, _, _, rfl, rfl, SqT.of ht1, rfl, _, rfl, t, _, _, _, rfl, rfl, SqT.of ht1, rfl, fun y dy ny ndy ney => ?_⟩
    have k5 := mkSame (o := .ins CT dy []) (u := .own y) ny ndy
    refine ⟨y, dy, l, va, vb, st, en, xs, ps, rfl, upd_same, (pa.kp c1).same k5, (pb.kp c1).same k5, SqL.of (k5 _ _ (c1.lst gl2)), (px.kp c1).same k5, by omega, fun _ _ H6 hT6 hb6 _ => ⟨rfl, ?_⟩, fun hbad => (hbad ⟨p60, pn⟩).elim⟩
    have c6 := mkBut ny ndy hb6
    refine ⟨(by show 2 ≤ sizeLine; decide), fun r nr => ?_⟩
    obtain ⟨H7, e7, k7, g7⟩ := made (o := .tup [V.ref x, .ref y]) nr
    rw [e7]
    exact q H7 r x y ((c1.trans (kpS c6)).trans (kpS k7)) g7 (hH.kp (kpS (c6.trans k7))) (hT6.same k7)
end
section
open GxR NdefX PySem.Spec PyProof.Rows
variable {P : Program} {w : World} {K : PySem.W.Frag} {mg : Str → Option Value} {base : Heap}
structure HD where
  ls : List Int
  gs : List Int
  cs : List (Str × Int × Int)
structure TD where
  st : Pl
  en : Pl
  ps : List Pl
theorem TaskAt.kp {C : Addr} {H H' : Hp} {p : Addr} {st en : Pl} {ps : List Pl} (h : TaskAt C H p st en ps) (k : Kp H H') : TaskAt C H' p st en ps := by
  obtain ⟨dx, l, a, b, xs, h1, h2, h3, h4, h5, h6⟩ := h
  exact ⟨dx, l, a, b, xs, k.ins h1, h2.kp k, h3.kp k, k.lst h4, h5.kp k, h6⟩
def RHouse (C : Addr) (h : HD) : Rel := ⟨fun H v => ∃ p, v = .ref p ∧ HouseAt C H p h.ls h.gs h.cs, fun k ⟨p, e, q⟩ => ⟨p, e, q.kp k⟩⟩
def RTask (C : Addr) (t : TD) : Rel := ⟨fun H v => ∃ p, v = .ref p ∧ TaskAt C H p t.st t.en t.ps, fun k ⟨p, e, q⟩ => ⟨p, e, q.kp k⟩⟩
theorem hi_house {C : Addr} {h : HD} {m : Str} (n1 : ¬ m = "_lengths") (n2 : ¬ m = "_gaps") (n3 : ¬ m = "_crosses") (n4 : ¬ m = "_top") (n5 : ¬ m = "_closed") (H : Hp) (v : V) (r : (RHouse C h).p H v) : ∃ a dx fs, v = .ref a ∧ H a = some (.ins C dx fs) ∧ fs.lookup m = none := by
  obtain ⟨p, rfl, hv, dx, l, g, c, d, h1, _⟩ := r
  exact ⟨p, dx, _, rfl, h1, hf_no _ _ _ _ _ n1 n2 n3 n4 n5⟩
theorem ins_task {C : Addr} {t : TD} (H : Hp) (v : V) (r : (RTask C t).p H v) : ∃ a dx fs, v = .ref a ∧ H a = some (.ins C dx fs) := by
  obtain ⟨p, rfl, dx, l, a, b, xs, h1, _⟩ := r
  exact ⟨p, dx, _, rfl, h1⟩
theorem Dt.pr {H : Hp} {v : V} {p : Pl} (h : Dt H v (dP p)) : Pr H v p := by
  cases h with
  | tup e a =>
    cases a with
    | cons a1 a =>
      cases a with
      | cons a2 a =>
        cases a
        cases a1
        cases a2
        exact ⟨_, rfl, e⟩
theorem Pr.dt {H : Hp} {v : V} {p : Pl} (h : Pr H v p) : Dt H v (dP p) := by
  obtain ⟨t, rfl, e⟩ := h
  exact .tup e (.cons (.int _) (.cons (.int _) .nil))
theorem Prs.dt {H : Hp} {vs : List V} {ps : List Pl} (h : Prs H vs ps) : DtAll H vs (ps.map dP) := by
  induction h with
  | nil => exact .nil
  | cons a _ ih => exact .cons a.dt ih
theorem DtAll.prs {H : Hp} : ∀ {vs : List V} {ps : List Pl}, DtAll H vs (ps.map dP) → Prs H vs ps
  | [], [], _ => .nil
  | [], _ :: _, h => by cases h
  | _ :: _, [], h => by cases h
  | _ :: _, _ :: _, .cons a b => .cons a.pr b.prs
theorem Dt.kr {H : Hp} {v : V} {c : Str × Int × Int} (h : Dt H v (dLk c)) : Kr H v (lkC c) := by
  cases h with
  | tup e a =>
    cases a with
    | cons a1 a =>
      cases a with
      | cons a2 a =>
        cases a with
        | cons a3 a =>
          cases a
          cases a1
          cases a2
          cases a3
          exact ⟨_, rfl, e⟩
theorem Kr.dt {H : Hp} {v : V} {c : Str × Int × Int} (h : Kr H v (lkC c)) : Dt H v (dLk c) := by
  obtain ⟨t, rfl, e⟩ := h
  exact .tup e (.cons (.str _) (.cons (.int _) (.cons (.int _) .nil)))
theorem Krs.dt {H : Hp} : ∀ {vs : List V} {cs : List (Str × Int × Int)}, Krs H vs (kOf cs) → DtAll H vs (cs.map dLk)
  | [], [], _ => .nil
  | [], _ :: _, h => by cases h
  | _ :: _, [], h => by cases h
  | _ :: _, _ :: _, .cons a b => .cons (Kr.dt a) (Krs.dt b)
theorem DtAll.krs {H : Hp} : ∀ {vs : List V} {cs : List (Str × Int × Int)}, DtAll H vs (cs.map dLk) → Krs H vs (kOf cs)
  | [], [], _ => .nil
  | [], _ :: _, h => by cases h
  | _ :: _, [], h => by cases h
  | _ :: _, _ :: _, .cons a b => .cons a.kr b.krs
theorem flats_map {α : Type} {f : α → PyData} (h : ∀ a, flat (f a) = true) : ∀ xs : List α, flats (xs.map f) = true
  | [] => rfl
  | x :: xs => by
    show (flat (f x) && flats (xs.map f)) = true
    rw [h x, flats_map h xs]
    rfl
theorem sok_nums {C : Addr} {h : HD} (f : List Int → List Int → List Int) : Sok (spNums C f) [RHouse C h] (fun _ => True) (RD (.list ((f h.ls h.gs).map PyData.int))) := fun H om vs ho hr _ Q E q => by
  obtain ⟨v, r, rfl, ⟨p, rfl, hH⟩, rfl⟩ := hr
  refine ⟨p, h.ls, h.gs, h.cs, rfl, hH.kp kp_less, fun r n => q _ _ (kp_new n) ?_⟩
  rw [new_at ho n]
  exact .lst upd_same (DtAll.ofInts _)
theorem sok_closedQ {C : Addr} {h : HD} {c : Str × Int × Int} : Sok (spClosedQ C) [RHouse C h, RD (dLk c)] (fun _ => True) (RD (.bool (decide (lkC c ∈ kOf h.cs)))) := fun H om vs ho hr _ Q E q => by
  obtain ⟨v, r, rfl, ⟨p, rfl, hH⟩, u, r', rfl, h2, rfl⟩ := hr
  exact ⟨p, u, h.ls, h.gs, h.cs, lkC c, rfl, hH.kp kp_less, (Dt.kr h2).kp kp_less, q _ _ (Kp.refl _) (.bl _)⟩
theorem sok_picks {C : Addr} {t : TD} : Sok (spPicks C) [RTask C t] (fun _ => True) (RD (.list (t.ps.map dP))) := fun H om vs ho hr _ Q E q => by
  obtain ⟨v, r, rfl, ⟨p, rfl, hT⟩, rfl⟩ := hr
  refine ⟨p, t.st, t.en, t.ps, rfl, hT.kp kp_less, fun r xs n hx => q _ _ (kp_new n) ?_⟩
  rw [new_at ho n]
  exact .lst upd_same ((DtAll.less ho hx.dt (flats_map (fun _ => rfl) _)).kp (kp_new (less_none n)))
theorem sok_check {C CT CP : Addr} {h : HD} {t : TD} : Sok (spCheck CT C CP) [RHouse C h, RTask CT t] (fun _ => wrongP h.ls h.gs t.st t.en t.ps = none) (RD .none) := fun H om vs ho hr hw Q E q => by
  obtain ⟨v, r, rfl, ⟨p, rfl, hH⟩, u, r', rfl, ⟨p', rfl, hT⟩, rfl⟩ := hr
  exact ⟨p, p', h.ls, h.gs, h.cs, t.st, t.en, t.ps, rfl, hH.kp kp_less, hT.kp kp_less, fun _ H' k => q H' _ (kpS k) .non, fun a z => by rw [hw] at z; cases z⟩
end
section
open GxR NdefX PySem.Spec PyProof.Rows
variable {P : Program} {w : World} {K : PySem.W.Frag} {mg : Str → Option Value} {base : Heap}
abbrev dHT (ls gs : List Int) (cs : List (Str × Int × Int)) : PyData := eT3 (eL PyData.int) (eL PyData.int) (eL dLk) (ls, gs, cs)
theorem PartsAt.dt {H : Hp} {p : Addr} {ls gs : List Int} {cs : List (Str × Int × Int)} (h : PartsAt H p ls gs cs) : Dt H (.ref p) (dHT ls gs cs) := by
  obtain ⟨l, g, c, xs, h1, h2, h3, h4, h5⟩ := h
  exact .tup h1 (.cons (.lst h2 (DtAll.ofInts _)) (.cons (.lst h3 (DtAll.ofInts _)) (.cons (.lst h4 h5.dt) .nil)))
theorem ints_of {H : Hp} : ∀ {vs : List V} {ns : List Int}, DtAll H vs (ns.map PyData.int) → vs = ns.map V.int
  | [], [], _ => rfl
  | [], _ :: _, h => by cases h
  | _ :: _, [], h => by cases h
  | _ :: _, _ :: _, .cons a b => by
    cases a
    rw [ints_of b]
    rfl
theorem Dt.parts {H : Hp} {v : V} {ls gs : List Int} {cs : List (Str × Int × Int)} (h : Dt H v (dHT ls gs cs)) : ∃ p, v = .ref p ∧ PartsAt H p ls gs cs := by
  cases h with
  | tup e a =>
    cases a with
    | cons a1 a =>
      cases a with
      | cons a2 a =>
        cases a with
        | cons a3 a =>
          cases a
          cases a1 with
          | lst e1 b1 =>
            cases a2 with
            | lst e2 b2 =>
              cases a3 with
              | lst e3 b3 =>
                have z1 := ints_of b1
                have z2 := ints_of b2
                subst z1
                subst z2
                exact ⟨_, rfl, _, _, _, _, e, e1, e2, e3, b3.krs⟩
theorem Dt.nums {H : Hp} {v : V} {ns : List Int} (h : Dt H v (.list (ns.map PyData.int))) : ∃ p, v = .ref p ∧ H p = some (.lst (ns.map V.int)) := by
  cases h with
  | lst e a =>
    have z := ints_of a
    subst z
    exact ⟨_, rfl, e⟩
theorem skx_numbers {ns0 : List Int} {m : Nat} : Skx0 (spNumbers K) [RScr K ns0, RD (.int (m : Int))] (fun _ => ns0.length ≤ 63 ∧ m ≤ 200) (fun ns : List Int => RD (.list (ns.map PyData.int))) (fun ns => ns.length = m ∧ Small ns) := fun H vs hr hp Q E q => by
  obtain ⟨v, r, rfl, ⟨a, rfl, h1⟩, u, r', rfl, h2, rfl⟩ := hr
  cases h2
  exact ⟨a, ns0, m, rfl, h1, hp.1, hp.2, fun H' p ns k n e el sm => q H' _ ns (kpS k) ⟨el, sm⟩ (.lst e (DtAll.ofInts _))⟩
/-- the words of links, the numbers of a drawn house -/
structure Drawn (most : Nat) (x : List Int × List Int × List (Str × Int × Int)) : Prop where
  v : Valid x.1 x.2.1 x.2.2
  c4 : x.2.2.length ≤ 4
  gl : x.2.1.length < most
  wd : ∀ c ∈ x.2.2, c.1 = "up" ∨ c.1 = "over"
theorem skx_house {ns : List Int} {a many most : Nat} : Skx0 (spHs K) [RD (.list (ns.map PyData.int)), RD (.int (a : Int)), RD (.int (many : Int)), RD (.int (most : Int))] (fun _ => Small ns ∧ a + 24 ≤ ns.length ∧ 1 ≤ many ∧ many ≤ 12 ∧ 1 ≤ most ∧ most ≤ 40)
    (fun x : List Int × List Int × List (Str × Int × Int) => RD (dHT x.1 x.2.1 x.2.2)) (Drawn many) := fun H vs hr hp Q E q => by
  obtain ⟨v, r, rfl, h1, u, r', rfl, h2, u3, r3, rfl, h3, u4, r4, rfl, h4, rfl⟩ := hr
  obtain ⟨p, rfl, j1⟩ := Dt.nums h1
  cases h2
  cases h3
  cases h4
  obtain ⟨b1, b2, b3, b4, b5, b6⟩ := hp
  exact ⟨p, ns, a, many, most, rfl, SqL.of j1, b1, b2, b3, b4, b5, b6, fun H' t ls gs cs k pa va c4 gl cw => q H' _ (ls, gs, cs) (kpS k) ⟨va, c4, gl, cw⟩ pa.dt⟩
/-- what is drawn for a task -/
structure DTask (ls gs : List Int) (many : Nat) (st en : Pl) (ps : List Pl) : Prop where
  cs : isCr ls gs st = true
  ce : isCr ls gs en = true
  nd : ps.Nodup
  le : ps.length ≤ many
  pl : ∀ x ∈ ps, isPl ls gs x = true
theorem task_call {hs h0 : Hp} {g : List Slot} {ta : TA} {E' : XK} {ns : List Int} {a many : Nat} {ls gs : List Int} {cs : List (Str × Int × Int)} (ha : EA true ⟨hs, h0, fun _ => False, g⟩ ta [RD (.list (ns.map PyData.int)), RD (.int (a : Int)), RD (dHT ls gs cs), RD (.int (many : Int))])
    (hp : Small ns ∧ a + 4 + many ≤ ns.length ∧ many ≤ 50 ∧ Valid ls gs cs) (no : noOwn g = true := by rfl) :
    ∀ σ H, Sta ⟨hs, h0, fun _ => False, g⟩ σ H → ∀ Q : VK, (∀ H1 H' t va vb l xs st en ps, Kp H H1 → Kp H1 H' → H' t = some (.tup [va, vb, .ref l]) → Pr H' va st → Pr H' vb en → H1 l = none → H' l = some (.lst xs) → Prs H' xs ps → DTask ls gs many st en ps → Q (.ref t) H') → tCall (spTk K) [] E' ta σ H Q := fun σ H s Q q => ha σ H s _ fun H1 vs k1 r1 => by
  rw [List.append_nil]
  rw [hb_t, bas_all no] at r1
  obtain ⟨v, r, rfl, h1, u, r', rfl, h2, u3, r3, rfl, h3, u4, r4, rfl, h4, rfl⟩ := r1
  obtain ⟨p, rfl, j1⟩ := Dt.nums h1
  obtain ⟨ph, rfl, j3⟩ := Dt.parts h3
  cases h2
  cases h4
  exact ⟨p, ns, a, ph, ls, gs, cs, many, rfl, SqL.of j1, hp.1, hp.2.1, hp.2.2.1, j3, hp.2.2.2, fun H' t va vb l xs st en ps k et pa pb c1 c2 nl el px nd le po => q H1 H' t va vb l xs st en ps k1 (kpS k) et pa pb nl el px ⟨c1, c2, nd, le, po⟩⟩
theorem skx_made {C CT TL TI : Addr} {ls gs : List Int} {cs : List (Str × Int × Int)} {st en : Pl} {ps : List Pl} : Skx0 (spMd C CT TL TI) [RD (dHT ls gs cs), RD (eT3 dP dP (eL dP) (st, en, ps))] (fun H => Valid ls gs cs ∧ ps.Nodup ∧ ps.length ≤ 60 ∧ TabG H TL ∧ TabG H TI)
    (fun _ : Unit => RT2 (RHouse C ⟨ls, gs, cs⟩) (RTask CT ⟨st, en, sortP ps⟩)) (fun _ => True) := fun H vs hr hp Q E q => by
  obtain ⟨v, r, rfl, h1, u, r', rfl, h2, rfl⟩ := hr
  obtain ⟨p, rfl, j1⟩ := Dt.parts h1
  cases h2 with
  | tup e a =>
    cases a with
    | cons a1 a =>
      cases a with
      | cons a2 a =>
        cases a with
        | cons a3 a =>
          cases a
          cases a3 with
          | lst e3 b3 =>
            exact ⟨p, _, ls, gs, cs, _, _, _, _, st, en, ps, rfl, j1, hp.1, e, a1.pr, a2.pr, e3, b3.prs, hp.2.1, hp.2.2.1, hp.2.2.2.1, hp.2.2.2.2, fun H' r h e k er hh ht => q H' _ () k trivial ⟨r, _, _, rfl, er, ⟨h, rfl, hh⟩, e, rfl, ht⟩⟩
theorem wrong_none {ls gs : List Int} {st en : Pl} {ps : List Pl} (h1 : isCr ls gs st = true) (h2 : isCr ls gs en = true) (po : ∀ y ∈ ps, isPl ls gs y = true) : wrongP ls gs st en (sortP ps) = none := by
  unfold wrongP
  have e1 : ([st, en].find? fun p => !isCr ls gs p) = none := by simp [h1, h2]
  rw [e1, Option.none_or, List.find?_eq_none]
  intro x hx
  rw [po x (sortP_mem.mp hx)]
  simp
end
section
open GxR NdefX PySem.Spec PyProof.Rows
variable {P : Program} {w : World} {K : PySem.W.Frag}
/-- x in a tuple of things -/
def rInTD (K : PySem.W.Frag) : R2 := fun x y H Q => ∃ d ds, Dp K H x d ∧ Dp K H y (.tuple ds) ∧ SeqAt.shaped d = true ∧ SeqAt.shaped (.tuple ds) = true ∧ Q (.bl (ds.any fun z => PyData.eqv z d)) H
theorem op_inTD {X : Cx} (hu : X.A.units + 65 < cLine) : OpR X (compareOp .In) (rInTD X.K) := by
  intro pins s σ H x y v u Q I rx ry h
  obtain ⟨d, ds, hd, he, sd, se, q⟩ := h
  obtain ⟨as, r1⟩ := Dp.reads I d x v hd rx
  obtain ⟨bs, r2⟩ := Dp.reads I (.tuple ds) y u he ry
  exact SeqAt.in_tuple_reads r2 r1 (SeqAt.canLay_of_shaped se) (SeqAt.canLay_of_shaped sd) (room_in_shaped sd hu) ⟨.bl _, H, I, rfl, q⟩
theorem o_inTE {α : Type} [DecidableEq α] {f : α → PyData} {n : Nat} {Po : α → Prop} (h : Enc f n Po) (hn : n ≤ 63) {a : α} {xs : List α} {hd : Decidable (a ∈ xs)} (qa : Po a) (qb : ∀ x ∈ xs, Po x) : O2 (rInTD K) (RD (f a)) (RD (.tuple (xs.map f))) (RD (.bool (@decide (a ∈ xs) hd))) := fun H M x y _ r1 r2 Q q => by
  have hl := enc_tupl h
  refine ⟨f a, xs.map f, (Dt.kp kp_less r1).dp (h.nod a), (Dt.kp kp_less r2).dp (hl.nod xs), h.shaped (by omega) qa, hl.shaped (by omega) qb, q H _ (Kp.refl _) ?_⟩
  rw [any_enc h]
  exact dec_bl _ _ id
end
section
open GxR NdefX PySem.Spec PyProof.Rows
variable {P : Program} {w : World} {K : PySem.W.Frag} {b : Bool} {c : Ct} {D : Ends} {ta tb ty tv te td : TE} {i : Nat}
section
variable {α β : Type} [DecidableEq α] {key : α → NestedKey} {KAt : Hp → Addr → α → Prop} {enc : β → PyData} {M : List (α × β)} {e : α} {x : β}
def getB (M : List (α × β)) (e : α) : Option β := (M.find? fun x => decide (x.1 = e)).map (·.2)
def putB (M : List (α × β)) (e : α) (v : β) : List (α × β) := if (getB M e).isSome = true then M.map (fun x => if x.1 = e then (x.1, v) else x) else M ++ [(e, v)]
/-- what stands there is what is told -/
abbrev VsN (enc : β → PyData) (B : Hp) : α × V → α × β → Prop := fun n m => n.1 = m.1 ∧ Dt B n.2 (enc m.2)
theorem vsN_get {B : Hp} {N : MapN α} {M : List (α × β)} (h : Paired (VsN enc B) N M) (e : α) : match getB M e with
    | none => getN N e = none
    | some x => ∃ v, getN N e = some v ∧ Dt B v (enc x) := by
  induction h with
  | nil => exact rfl
  | @cons n m N M q _ ih =>
    unfold getB getN at ih ⊢
    rw [List.find?_cons, List.find?_cons]
    by_cases c : m.1 = e
    · rw [decide_eq_true c, decide_eq_true (show n.1 = e by rw [q.1, c])]
      exact ⟨_, rfl, q.2⟩
    · rw [decide_eq_false c, decide_eq_false (show ¬ n.1 = e from fun z => c (q.1.symm.trans z))]
      exact ih
theorem vsN_some {B : Hp} {N : MapN α} {M : List (α × β)} (h : Paired (VsN enc B) N M) (e : α) : (getN N e).isSome = (getB M e).isSome := by
  have z := vsN_get h e
  cases g : getB M e with
  | none =>
    rw [g] at z
    rw [show getN N e = none from z]
    rfl
  | some x =>
    rw [g] at z
    obtain ⟨v, hv, _⟩ := z
    rw [hv]
    rfl
theorem vsN_put {B : Hp} {N : MapN α} {M : List (α × β)} {v : V} {x : β} (h : Paired (VsN enc B) N M) (e : α) (r : Dt B v (enc x)) : Paired (VsN enc B) (putN N e v) (putB M e x) := by
  unfold putN putB
  rw [vsN_some h e]
  by_cases c : (getB M e).isSome = true
  · rw [if_pos c, if_pos c]
    clear c
    induction h with
    | nil => exact .nil
    | @cons n m N M q _ ih =>
      refine .cons ?_ ih
      show VsN enc B (if n.1 = e then (n.1, v) else n) (if m.1 = e then (m.1, x) else m)
      by_cases d : m.1 = e
      · rw [if_pos d, if_pos (show n.1 = e by rw [q.1, d])]
        exact ⟨q.1, r⟩
      · rw [if_neg d, if_neg (show ¬ n.1 = e from fun z => d (q.1.symm.trans z))]
        exact q
  · rw [if_neg c, if_neg c]
    exact Paired.snoc h ⟨rfl, r⟩
theorem rowN_kp (T : KeyT key KAt) {H H' : Hp} {N : MapN α} {xs : List (NestedKey × Addr × Value)} (h : Paired (RowN key KAt H) N xs) (k : Kp H H') : Paired (RowN key KAt H') N xs := Paired.mapP h fun _ _ z => ⟨z.1, T.mono (fun _ _ e => k.tup e) z.2.1, z.2.2⟩
def OND (T : KeyT key KAt) (P : Program) (w : World) (enc : β → PyData) (M : List (α × β)) : Own := ⟨fun B o => ∃ a' xs N, o = .ext (PDAt P w a' xs) ∧ Paired (RowN key KAt B) N xs ∧ (N.map fun x : α × V => x.1).Nodup ∧ N.length ≤ sizeLine ∧ Paired (VsN enc B) N M,
  fun k ⟨a', xs, N, h1, h2, h3, h4, h5⟩ => ⟨a', xs, N, h1, rowN_kp T h2 k, h3, h4, Paired.mapP h5 fun _ _ z => ⟨z.1, z.2.kp k⟩⟩, fun ⟨_, _, _, h, _⟩ => by subst h; exact trivial⟩
theorem n_nnew (T : KeyT key KAt) : EN c (tPNew P w) (OND T P w enc []) := fun σ H s Q q p n => q H p _ (Kp.refl _) n ⟨p, [], [], rfl, .nil, .nil, Nat.zero_le _, .nil⟩
/-- a key's picture leads to the key -/
def KeyD (KAt : Hp → Addr → α → Prop) (encK : α → PyData) : Prop := ∀ {H : Hp} {W : Addr → Prop} {v : V} {e : α}, Dt (less H W) v (encK e) → ∃ t, v = .ref t ∧ KAt H t e
theorem OND.of (T : KeyT key KAt) {H : Hp} {σ : L2.St} {p : Addr} {o : HO} (e2 : H p = some o) (h : (OND T P w enc M).p (bas c σ H) o) : ∃ N, NDOf key KAt P w H p N ∧ Paired (VsN enc (bas c σ H)) N M := by
  obtain ⟨a', xs, N, rfl, h2, h3, h4, h5⟩ := h
  exact ⟨N, ⟨a', xs, e2, rowN_kp T h2 kp_less, h3, h4⟩, h5⟩
theorem e_ngetO (T : KeyT key KAt) {encK : α → PyData} (KD : KeyD KAt encK) (es : c.g[i]? = some (.own (OND T P w enc M))) (g : getB M e = some x) (hy : E true c ty (RD (encK e))) : E b c (tNGet key KAt P w (tVar i) ty) (RD (enc x)) := E.low fun σ H s Q q => by
  obtain ⟨a, o, e1, _⟩ := s.own i _ es
  refine ⟨.ref a, e1, hy σ H s _ fun H1 y k1 r1 => ?_⟩
  obtain ⟨a2, o2, e1', e2, h2, _⟩ := (s.kp k1).own i _ es
  cases e1.symm.trans e1'
  rw [hb_t] at r1
  obtain ⟨t, rfl, ht⟩ := KD (show Dt (bas c σ H1) y (encK e) from r1)
  obtain ⟨N, dn, vs⟩ := OND.of T e2 h2
  have z := vsN_get vs e
  rw [g] at z
  obtain ⟨v, hv, rv⟩ := z
  exact ⟨a, t, N, e, v, rfl, rfl, dn, ht, hv, q H1 _ k1 (by rw [hb_t]; exact rv)⟩
theorem e_ninO (T : KeyT key KAt) {encK : α → PyData} (KD : KeyD KAt encK) (f : Bool → Bool) (es : c.g[i]? = some (.own (OND T P w enc M))) (hy : E true c ty (RD (encK e))) : E b c (tOp (rNIn key KAt P w f) ty (tVar i)) (RD (.bool (f (getB M e).isSome))) := E.low fun σ H s Q q =>
  hy σ H s _ fun H1 y k1 r1 => by
    obtain ⟨a, o, e1, e2, h2, _⟩ := (s.kp k1).own i _ es
    rw [hb_t] at r1
    obtain ⟨t, rfl, ht⟩ := KD (show Dt (bas c σ H1) y (encK e) from r1)
    obtain ⟨N, dn, vs⟩ := OND.of T e2 h2
    refine ⟨.ref a, e1, a, t, N, e, rfl, rfl, dn, ht, q H1 _ k1 ?_⟩
    rw [vsN_some vs]
    exact .bl _
theorem tup_lessN {H : Hp} {W : Addr → Prop} (hd : Hd H W) {t : Addr} {xs : List V} (h : H t = some (.tup xs)) : less H W t = some (.tup xs) := by
  by_cases m : W t
  · obtain ⟨o, e, mu⟩ := hd t m
    rw [h] at e
    cases e
    exact mu.elim
  · rw [less_out m]
    exact h
theorem s_nputO (T : KeyT key KAt) {encK : α → PyData} (KD : KeyD KAt encK) (es : c.g[i]? = some (.own (OND T P w enc M))) (hv : E true c tv (RD (enc x))) (hy : E true c ty (RD (encK e))) (l : M.length < 16777216) (q : WC (c.set i (.own (OND T P w enc (putB M e x)))) D.nx) :
    WC c (sNPut key KAt P w (tVar i) ty tv D) := fun σ H s => hv σ H s _ fun H1 v k1 r1 => by
  have s1 := s.kp k1
  obtain ⟨a, o, e1, _⟩ := s1.own i _ es
  refine ⟨.ref a, e1, hy σ H1 s1 _ fun H2 y k2 r2 => ?_⟩
  have s2 := s1.kp k2
  obtain ⟨a', o, e1', e2, h2, _⟩ := s2.own i _ es
  cases e1.symm.trans e1'
  rw [hb_t] at r1 r2
  obtain ⟨t, rfl, ht⟩ := KD (show Dt (bas c σ H2) y (encK e) from r2)
  obtain ⟨N, dn, vs⟩ := OND.of T e2 h2
  have r1' : Dt (bas c σ H2) v (enc x) := Dt.kp (s1.kb k2) r1
  have ln : N.length = M.length := Paired.length vs
  refine ⟨a, t, N, e, rfl, rfl, dn, ht, by rw [sizeLine_eq, ln]; exact l, fun xs d => ?_⟩
  obtain ⟨a'', ys, z1, z2, z3, z4⟩ := d
  rw [upd_same] at z1
  have z1 := Option.some.inj z1
  have nt : ∀ (t : Addr) (us : List V), upd H2 a (.ext (PDAt P w a xs)) t = some (.tup us) → bas c σ H2 t = some (.tup us) := fun t us h => by
    refine tup_lessN (W := fun x => isOwn c.g σ x ∨ c.om x) (fun x m => s2.hides (b := true) x ⟨rfl, m⟩) ?_
    by_cases y : t = a
    · subst y
      rw [upd_same] at h
      cases h
    · rw [upd_ne y] at h
      exact h
  have back : Paired (RowN key KAt (bas c σ H2)) (putN N e v) ys := Paired.mapP z2 fun _ _ z => ⟨z.1, T.mono nt z.2.1, z.2.2⟩
  exact q σ _ (s2.mut (C' := OND T P w enc (putB M e x)) (o := .ext (PDAt P w a xs)) es e1 ⟨a'', ys, putN N e v, z1, back, z3, z4, vsN_put vs e r1'⟩).1
end
abbrev dSG : SG → PyData := fun e => .tuple [.int e.1, .int e.2.1, .bool e.2.2]
theorem keyD_SG : KeyD SGAt dSG := fun {H W v e} r => by
  have r : Dt (less H W) v (.tuple [.int e.1, .int e.2.1, .bool e.2.2]) := r
  cases r with
  | tup h a =>
    cases a with
    | cons a1 a =>
      cases a with
      | cons a2 a =>
        cases a with
        | cons a3 a =>
          cases a
          cases a1
          cases a2
          cases a3
          exact ⟨_, rfl, (less_some h).2⟩
end
section
open GxR NdefX PySem.Spec PyProof.Rows
variable {P : Program} {w : World} {K : PySem.W.Frag} {mg : Str → Option Value} {base : Heap}
/-- where a stretch ends -/
def cA (ls : List Int) (s : Nat) : Int := (ls.take s).sum
theorem crossN_len2 (ls : List Int) : ((crossN ls).length : Int) = ls.length + 1 := by
  unfold crossN
  rw [List.length_map, List.length_range]
  omega
theorem ix_cross {ls : List Int} {s : Nat} (h : s ≤ ls.length) : ix (crossN ls) (s : Int) = cA ls s := by
  refine ix_nat ?_
  unfold crossN
  rw [List.getElem?_map, List.getElem?_range (by omega)]
  rfl
def Rs_ends_of_stretch (C : Addr) : HD × Nat → List Rel := fun x => [(RHouse C x.1), (RD (.int (x.2 : Int)))]
def P_ends_of_stretch (C : Addr) : HD × Nat → Hp → Prop := fun x H => x.2 < x.1.ls.length
def R_ends_of_stretch (C : Addr) : HD × Nat → Rel := fun x => (RD (dP (cA x.1.ls x.2, cA x.1.ls (x.2 + 1))))
theorem ok_ends_of_stretch (C : Addr) {f : Addr} {fd : FuncData} (F : Fun K "ends_of_stretch" "ends_of_stretch" s_ends_of_stretch f fd) (T : HouseTxt K mg C) (m_crosses : MethD P w K mg base C 1 "crosses" ["self"] (spNums C fun ls _ => crossN ls)) : FnOk P w K mg base CX0 3 f fd ["house", "stretch"] (Sps (Rs_ends_of_stretch C) (P_ends_of_stretch C) (R_ends_of_stretch C)) := by
  refine fn_ok F sc_ends_of_stretch (fun _ => rfl) fun cdv A outer s H E0 hr => ?_
  have nd := sc_ends_of_stretch.nd
  refine ⟨_, (pss_cons (ps_set (i := 2) nd rfl (.inl rfl) (pe_meth0 (pv 0) T.cl m_crosses.m m_crosses.G (by exact hr.mono (by decide)) m_crosses.b .nil pass0))
      (pss_one (ps_ret (pe_tup (pa_cons (pe_ix (r := rIxL K) ix_list (pv 2) (pv 1) (fun _ _ => rfl)) (pa_cons (pe_ix (r := rIxL K) ix_list (pv 2) (pe_op op_add (pv 1) pe_int) (fun _ _ => rfl)) pa_nil)))))), ?_⟩
  rintro ⟨h, s⟩ hs om Q hp q
  show WC ⟨hs, (less hs om), om, [.fz (RHouse C h), .fz (RD (.int (s : Int))), .any]⟩ _
  replace hp : s < h.ls.length := hp
  replace q : ∀ H' v, Kp hs H' → (RD (dP (cA h.ls s, cA h.ls (s + 1)))).p (less H' om) v → Q v H' := q
  have hl := crossN_len2 h.ls
  refine s_seq ?_
  refine s_set (c_meth (hi_house (by decide +kernel) (by decide +kernel) (by decide +kernel) (by decide +kernel) (by decide +kernel)) (sok_nums _) (e_var rfl) a_nil (fun _ _ => trivial)) ?_
  show WC ⟨hs, (less hs om), om, [.fz (RHouse C h), .fz (RD (.int (s : Int))), .fz (RD (.list ((crossN h.ls).map PyData.int)))]⟩ _
  refine s_ret (E.eq (e_tup (m_cons (e_op (o_ixL (ix_at (xs := (crossN h.ls)) (i := (s : Int)) (by omega))) (e_var rfl) (e_var rfl)) (m_cons (e_op (o_ixL (ix_at (xs := (crossN h.ls)) (i := ((s : Int) + 1)) (by omega))) (e_var rfl) (e_op o_add (e_var rfl) e_int)) m_nil))) (e := dP (cA h.ls s, cA h.ls (s + 1))) ?_) q
  rw [ix_cross (by omega), show (s : Int) + 1 = ((s + 1 : Nat) : Int) by omega, ix_cross (by omega)]; rfl
structure TopN (P : Program) (w : World) (K : PySem.W.Frag) (mg : Str → Option Value) (base : Heap) (CX : CXT) (k : Nat) (x : Str) (ps : List Str) (sp : Sp) where
  f : Addr
  fd : FuncData
  G : FnOk P w K mg base CX k f fd ps sp
  b : Binds K fd ps []
  g : mg x = some (.ref f)
  kp : PySem.W.keepIn K (.ref f) = true
/-- heights of picks inside -/
def insideL (ps : List Pl) (a lo hi : Int) : List Int := (ps.filter fun p => (decide (p.1 = a) && (decide (lo < p.2) && decide (p.2 < hi)))).map fun p => p.2
def Rs_marks_inside (C CT CP CIT : Addr) : HD × TD × Int × Nat → List Rel := fun x => [(RHouse C x.1), (RTask CT x.2.1), (RD (.int x.2.2.1)), (RD (.int (x.2.2.2 : Int)))]
def P_marks_inside (C CT CP CIT : Addr) : HD × TD × Int × Nat → Hp → Prop := fun x H => x.2.2.2 < x.1.ls.length ∧ wrongP x.1.ls x.1.gs x.2.1.st x.2.1.en x.2.1.ps = none ∧ x.2.1.ps.length ≤ 60
def R_marks_inside (C CT CP CIT : Addr) : HD × TD × Int × Nat → Own := fun x => OL ((insideL x.2.1.ps x.2.2.1 (cA x.1.ls x.2.2.2) (cA x.1.ls (x.2.2.2 + 1))).map PyData.int)
theorem ok_marks_inside (C CT CP CIT : Addr) {f : Addr} {fd : FuncData} (F : Fun K "marks_inside" "marks_inside" s_marks_inside f fd) (t_check_task : TopN P w K mg base (L2.CX P w) 4 "check_task" ["house", "task"] (spCheck CT C CP)) (t_ends_of_stretch : TopD P w K mg base 3 "ends_of_stretch" ["house", "stretch"] (Sps (Rs_ends_of_stretch C) (P_ends_of_stretch C) (R_ends_of_stretch C))) (TT : TaskTxt K mg CT CIT) (p_picks : PropD P w K mg base CT 1 "picks" (spPicks CT)) : FnOk P w K mg base CX0 5 f fd ["house", "task", "aisle", "stretch"] (SpN (Rs_marks_inside C CT CP CIT) (P_marks_inside C CT CP CIT) (R_marks_inside C CT CP CIT)) := by
  refine fn_okN F sc_marks_inside (fun _ => rfl) fun cdv A outer s H E0 hr => ?_
  have nd := sc_marks_inside.nd
  refine ⟨_, (pss_cons (ps_expr (pe_call t_check_task.G (by exact hr.mono (by decide)) (by rfl) t_check_task.g t_check_task.kp t_check_task.b .nil (passes_call takes0 fun _ _ _ _ h => h) (pa_cons (pv 0) (pa_cons (pv 1) pa_nil))))
      (pss_cons (ps_asg (pe_call t_ends_of_stretch.G (by exact hr.mono (by decide)) (by rfl) t_ends_of_stretch.g t_ends_of_stretch.kp t_ends_of_stretch.b .nil pass0 (pa_cons (pv 0) (pa_cons (pv 3) pa_nil))) (pg_tup rfl (pgs_cons (pg_name (i := 4) nd rfl (.inr rfl)) (pgs_cons (pg_name (i := 5) nd rfl (.inr rfl)) pgs_nil))))
      (pss_one (ps_ret (pe_lc (own := [("number", 6), ("height", 7)]) (g := (gTup K 2 (gCons (gName 6) (gCons (gName 7) gNil)))) rfl nd (pi_list (pe_prop (pv 1) TT.cl p_picks.h p_picks.G (by exact hr.mono (by decide)) p_picks.b .nil pass0 rfl)) (blkOk_by (N := ["house", "task", "aisle", "stretch", "low", "high", "number", "height"]) (sc := defScope s_marks_inside) (by decide +kernel)) (fun _ _ _ _ _ => (show PG _ _ (gTup K 2 (gCons (gName 6) (gCons (gName 7) gNil))) from pg_tup rfl (pgs_cons (pg_name (i := 6) nd rfl (.inl rfl)) (pgs_cons (pg_name (i := 7) nd rfl (.inl rfl)) pgs_nil)))) (fun _ _ _ _ _ => pts_one (PW.pt (pw_and (pt_cmpR (r := rEq) op_eq (pv 6) (pv 2) (nomark _)) (pw_and1 (pt_chain (r := rI0 fun i j => .bl (decide (i < j))) (r' := rI0 fun i j => .bl (decide (i < j))) op_lt op_lt (pv 4) (pv 7) (pv 5)))))) (fun _ _ _ _ _ => (pv 7))))))), ?_⟩
  rintro ⟨h, t, a, s⟩ hs om Q hp q
  show WC ⟨hs, (less hs om), om, [.fz (RHouse C h), .fz (RTask CT t), .fz (RD (.int a)), .fz (RD (.int (s : Int))), .any, .any, .any, .any]⟩ _
  replace hp : s < h.ls.length ∧ wrongP h.ls h.gs t.st t.en t.ps = none ∧ t.ps.length ≤ 60 := hp
  replace q : ∀ H' p o, Kp hs H' → H' p = none → (OL ((insideL t.ps a (cA h.ls s) (cA h.ls (s + 1))).map PyData.int)).p (less H' om) o → Q (.ref p) (upd H' p o) := q
  obtain ⟨hp, hw, h60⟩ := hp
  refine s_seq ?_
  refine s_expr (c_call sok_check (a_cons (e_var rfl) (a_cons (e_var rfl) a_nil)) (fun _ _ => hw)) ?_
  refine s_seq ?_
  refine s_asg (show E _ _ _ (RD (dP (cA h.ls s, cA h.ls (s + 1)))) from c_call (sok_sps (Rs := Rs_ends_of_stretch C) (P := P_ends_of_stretch C) (R := R_ends_of_stretch C) (h, s)) (a_cons (e_var rfl) (a_cons (e_var rfl) a_nil)) (fun H kp => by show s < h.ls.length; exact hp)) (g_tup (gs_cons g_name (gs_cons g_name gs_nil))) ?_
  show WC ⟨hs, (less hs om), om, [.fz (RHouse C h), .fz (RTask CT t), .fz (RD (.int a)), .fz (RD (.int (s : Int))), .fz (RD (.int (cA h.ls s))), .fz (RD (.int (cA h.ls (s + 1)))), .any, .any]⟩ _
  refine s_retNew (EN.eqL (n_lcM (xs := t.ps) (enc := dP) (h := fun x => x.2) (p := fun x => ((decide (x.1 = a)) && ((decide ((cA h.ls s) < x.2)) && (decide (x.2 < (cA h.ls (s + 1))))))) (encB := PyData.int) (i_of (c_prop ins_task sok_picks (e_var rfl) (fun _ _ => trivial))) rfl (by decide) (fun _ x hxx => (g_tup (gs_cons g_name (gs_cons g_name gs_nil)))) (fun _ x hxx => by exact (t_and (t_T (e_op o_eqI (e_var rfl) (e_var rfl))) (fun hbo => (t_T (e_chain o_cmpI0 o_cmpI0 (e_var rfl) (e_var rfl) (fun _ => (e_var rfl))))))) (fun _ x hxx hyx => by exact (e_var rfl)) (by omega)) (congrArg (List.map PyData.int) (show ((t.ps.filter fun x => ((decide (x.1 = a)) && ((decide ((cA h.ls s) < x.2)) && (decide (x.2 < (cA h.ls (s + 1))))))).map fun x => x.2) = (insideL t.ps a (cA h.ls s) (cA h.ls (s + 1))) from ?_))) q
  rfl
def piecesL (ls : List Int) (s : Nat) (ins : List Int) : List Pl := ([cA ls s] ++ ins).zip (ins ++ [cA ls (s + 1)])
def Rs__pieces_between (C : Addr) : HD × Nat × (List Int) → List Rel := fun x => [(RHouse C x.1), (RD (.int (x.2.1 : Int))), (RD (.list (x.2.2.map PyData.int)))]
def P__pieces_between (C : Addr) : HD × Nat × (List Int) → Hp → Prop := fun x H => x.2.1 < x.1.ls.length ∧ x.2.2.length ≤ 1000
def R__pieces_between (C : Addr) : HD × Nat × (List Int) → Own := fun x => OL ((piecesL x.1.ls x.2.1 x.2.2).map dP)
theorem ok__pieces_between (C : Addr) {f : Addr} {fd : FuncData} (F : Fun K "_pieces_between" "_pieces_between" s__pieces_between f fd) (t_ends_of_stretch : TopD P w K mg base 3 "ends_of_stretch" ["house", "stretch"] (Sps (Rs_ends_of_stretch C) (P_ends_of_stretch C) (R_ends_of_stretch C))) (z_list : mg "list" = none) (z_zip : mg "zip" = none) : FnOk P w K mg base CX0 4 f fd ["house", "stretch", "inside"] (SpN (Rs__pieces_between C) (P__pieces_between C) (R__pieces_between C)) := by
  refine fn_okN F sc__pieces_between (fun _ => rfl) fun cdv A outer s H E0 hr => ?_
  have nd := sc__pieces_between.nd
  refine ⟨_, (pss_cons (ps_asg (pe_call t_ends_of_stretch.G (by exact hr.mono (by decide)) (by rfl) t_ends_of_stretch.g t_ends_of_stretch.kp t_ends_of_stretch.b .nil pass0 (pa_cons (pv 0) (pa_cons (pv 1) pa_nil))) (pg_tup rfl (pgs_cons (pg_name (i := 3) nd rfl (.inl rfl)) (pgs_cons (pg_name (i := 4) nd rfl (.inl rfl)) pgs_nil))))
      (pss_one (ps_ret (pe_listZip rfl (by rfl) z_list (by rfl) z_zip (pa_cons (pe_op op_cat (pe_lst (pa_cons (pv 3) pa_nil)) (pv 2)) (pa_cons (pe_op op_cat (pv 2) (pe_lst (pa_cons (pv 4) pa_nil))) pa_nil)))))), ?_⟩
  rintro ⟨h, s, ins⟩ hs om Q hp q
  show WC ⟨hs, (less hs om), om, [.fz (RHouse C h), .fz (RD (.int (s : Int))), .fz (RD (.list (ins.map PyData.int))), .any, .any]⟩ _
  replace hp : s < h.ls.length ∧ ins.length ≤ 1000 := hp
  replace q : ∀ H' p o, Kp hs H' → H' p = none → (OL ((piecesL h.ls s ins).map dP)).p (less H' om) o → Q (.ref p) (upd H' p o) := q
  obtain ⟨hp, hi⟩ := hp
  refine s_seq ?_
  refine s_asg (show E _ _ _ (RD (dP (cA h.ls s, cA h.ls (s + 1)))) from c_call (sok_sps (Rs := Rs_ends_of_stretch C) (P := P_ends_of_stretch C) (R := R_ends_of_stretch C) (h, s)) (a_cons (e_var rfl) (a_cons (e_var rfl) a_nil)) (fun H kp => by show s < h.ls.length; exact hp)) (g_tup (gs_cons g_name (gs_cons g_name gs_nil))) ?_
  show WC ⟨hs, (less hs om), om, [.fz (RHouse C h), .fz (RD (.int (s : Int))), .fz (RD (.list (ins.map PyData.int))), .fz (RD (.int (cA h.ls s))), .fz (RD (.int (cA h.ls (s + 1))))]⟩ _
  refine s_retNew (EN.eqL (n_zipM (xs := ([(cA h.ls s)] ++ ins)) (ys := (ins ++ [(cA h.ls (s + 1))])) (i_n (n_catM (xs := [(cA h.ls s)]) (ys := ins) (i_n (n_lstM (xs := [(cA h.ls s)]) (enc := PyData.int) (m_cons (e_var rfl) m_nil))) (i_of (e_var rfl)) (by show 1 + _ ≤ 16777216; omega))) (i_n (n_catM (xs := ins) (ys := [(cA h.ls (s + 1))]) (i_of (e_var rfl)) (i_n (n_lstM (xs := [(cA h.ls (s + 1))]) (enc := PyData.int) (m_cons (e_var rfl) m_nil))) (by show _ + 1 ≤ 16777216; omega))) (by simp [Nat.add_comm])) (congrArg (List.map dP) (show (([(cA h.ls s)] ++ ins).zip (ins ++ [(cA h.ls (s + 1))])) = (piecesL h.ls s ins) from ?_))) q
  rfl
/-- no closed link on the piece -/
def freeQ (cs : List (Str × Int × Int)) (a lo hi : Int) : Bool := !((rgI lo (hi - lo).toNat).any fun k => decide (lkC ("up", a, k) ∈ kOf cs))
def Rs_is_free (C TF : Addr) : HD × Int × Pl → List Rel := fun x => [(RHouse C x.1), (RD (.int x.2.1)), (RD (dP x.2.2))]
def P_is_free (C TF : Addr) : HD × Int × Pl → Hp → Prop := fun x H => (0 ≤ x.2.2.1 ∧ x.2.2.1 ≤ 1000 ∧ 0 ≤ x.2.2.2 ∧ x.2.2.2 ≤ 1000) ∧ TabG H TF
def R_is_free (C TF : Addr) : HD × Int × Pl → Rel := fun x => (RD (.bool (freeQ x.1.cs x.2.1 x.2.2.1 x.2.2.2)))
theorem ok_is_free (C TF : Addr) {f : Addr} {fd : FuncData} {c : Addr} (F : FunC K "is_free" "is_free" s_is_free f c fd) (TB : TabB base mg c TF) (z_any : mg "any" = none) (z_range : mg "range" = none) (T : HouseTxt K mg C) (m_is_closed : MethD P w K mg base C 1 "is_closed" ["self", "link"] (spClosedQ C)) : FnOk P w K mg base CX0 5 f fd ["house", "aisle", "piece"] (Sps (Rs_is_free C TF) (P_is_free C TF) (R_is_free C TF)) := by
  refine fn_okC F sc_is_free (fun _ => rfl) fun A outer s H E0 hr => ?_
  have nd := sc_is_free.nd
  refine ⟨_, (pss_cons (ps_asg (pv 2) (pg_tup rfl (pgs_cons (pg_name (i := 3) nd rfl (.inl rfl)) (pgs_cons (pg_name (i := 4) nd rfl (.inl rfl)) pgs_nil))))
      (pss_one (ps_ret (pe_not (pe_anyG (k := 3) (N := ["height", "house", "aisle"]) (fr := [none, some 0, some 1]) (g := (gName 0)) (by exact hr) (by rfl) z_any (by decide +kernel) TB rfl (gsc_by (outer := defScope s_is_free) rfl rfl (by decide +kernel)) (gfr_by (outer := defScope s_is_free) (XN := ["house", "aisle", "piece", "low", "high", "height"]) rfl rfl (by decide +kernel)) (pi_range2 rfl z_range (pa_cons (pv 3) (pa_cons (pv 4) pa_nil))) (fun B s0 H0 cd fp rB => ⟨(pg_name (i := 0) (show (["height", "house", "aisle"] : List Str).Nodup by decide) rfl (.inl rfl)), (pe_meth (pv 1) T.cl m_is_closed.m m_is_closed.G (by exact rB.mono (by decide)) m_is_closed.b .nil pass0 (pa_cons (pe_tup (pa_cons pe_str (pa_cons (pv 2) (pa_cons (pv 0) pa_nil)))) pa_nil))⟩) (fun _ => rfl)))))), ?_⟩
  rintro ⟨h, a, p⟩ hs om Q hp q
  show WC ⟨hs, (less hs om), om, [.fz (RHouse C h), .fz (RD (.int a)), .fz (RD (dP p)), .any, .any, .any]⟩ _
  replace hp : (0 ≤ p.1 ∧ p.1 ≤ 1000 ∧ 0 ≤ p.2 ∧ p.2 ≤ 1000) ∧ TabG (less hs om) TF := hp
  replace q : ∀ H' v, Kp hs H' → (RD (.bool (freeQ h.cs a p.1 p.2))).p (less H' om) v → Q v H' := q
  obtain ⟨hp, tabG⟩ := hp
  refine s_seq ?_
  refine s_asg (e_var rfl) (g_tup (gs_cons g_name (gs_cons g_name gs_nil))) ?_
  show WC ⟨hs, (less hs om), om, [.fz (RHouse C h), .fz (RD (.int a)), .fz (RD (dP p)), .fz (RD (.int p.1)), .fz (RD (.int p.2)), .any]⟩ _
  refine s_ret (E.eq (e_not (e_genR (lo := p.1) (n := (p.2 - p.1 : Int).toNat) (p := fun k => (decide (lkC (("up" : Str), a, k) ∈ kOf h.cs))) (g0 := [.any, .fz (RHouse C h), .fz (RD (.int a))]) true (w_rng2 (i := p.1) (j := p.2) (e_var rfl) (e_var rfl) (by omega)) rfl (fun H kp => kp.tab _ tabG) (fun _ k hxk => g_name) (fun _ => rfl) (fun _ k hxk => by exact (c_meth (hi_house (by decide +kernel) (by decide +kernel) (by decide +kernel) (by decide +kernel) (by decide +kernel)) sok_closedQ (e_var rfl) (a_cons (e_tup (m_cons e_str (m_cons (e_var rfl) (m_cons (e_var rfl) m_nil)))) a_nil) (fun _ _ => trivial))))) (e := PyData.bool (freeQ h.cs a p.1 p.2)) ?_) q
  rfl
end
section
open GxR NdefX PySem.Spec PyProof.Rows
variable {P : Program} {w : World} {K : PySem.W.Frag} {mg : Str → Option Value} {base : Heap}
theorem crossN_take {ls : List Int} {i : Nat} {x : Int} (h : ls[i]? = some x) : crossN (ls.take i) ++ [ix (crossN (ls.take i)) (-1) + x] = crossN (ls.take (i + 1)) := by
  have il := (List.getElem?_eq_some_iff.mp h).1
  have e : ls[i] = x := (List.getElem?_eq_some_iff.mp h).2
  have tl : (ls.take i).length = i := by rw [List.length_take]; omega
  have tl1 : (ls.take (i + 1)).length = i + 1 := by rw [List.length_take]; omega
  have last : ix (crossN (ls.take i)) (-1) = (ls.take i).sum := by
    have : crossN (ls.take i) = (List.range i).map (fun k => ((ls.take i).take k).sum) ++ [(ls.take i).sum] := by
      unfold crossN
      rw [tl, List.range_succ, List.map_append]
      simp [List.take_of_length_le (show (ls.take i).length ≤ i by omega)]
    rw [this, ix_last]
  rw [last]
  unfold crossN
  rw [tl, tl1, List.range_succ (n := i + 1), List.map_append]
  congr 1
  · refine List.map_congr_left fun k hk => ?_
    have := List.mem_range.mp hk
    rw [List.take_take, List.take_take, Nat.min_eq_left (by omega), Nat.min_eq_left (by omega)]
  · rw [List.map_singleton, List.take_of_length_le (show (ls.take (i + 1)).length ≤ i + 1 by omega), List.take_succ_eq_append_getElem il, e]
    simp
def Rs__law_crosses  : (List Int) → List Rel := fun x => [(RD (.list (x.map PyData.int)))]
def P__law_crosses  : (List Int) → Hp → Prop := fun x H => x.length ≤ 2
def R__law_crosses  : (List Int) → Own := fun x => OL ((crossN x).map PyData.int)
theorem ok__law_crosses {f : Addr} {fd : FuncData} (F : Fun K "_law_crosses" "_law_crosses" s__law_crosses f fd) : FnOk P w K mg base CX0 2 f fd ["lengths"] (SpN (Rs__law_crosses ) (P__law_crosses ) (R__law_crosses )) := by
  refine fn_okN F sc__law_crosses (fun _ => rfl) fun cdv A outer s H E0 hr => ?_
  have nd := sc__law_crosses.nd
  refine ⟨_, (pss_cons (ps_set (i := 1) nd rfl (.inl rfl) (pe_lst (pa_cons pe_int pa_nil)))
      (pss_cons (ps_for PassesOwn.never rfl (pi_list (pv 0)) (pg_name (i := 2) nd rfl (.inl rfl)) (pss_one (ps_expr (pe_bm PySem.F.plainAttrs_list PySem.F.slot_list_append PySem.F.type_list_append mt_append (pv 1) (pa_cons (pe_op op_add (pe_ix (r := rIxL K) ix_list (pv 1) (pe_un un_neg pe_int) (fun _ _ => rfl)) (pv 2)) pa_nil)))))
      (pss_one (ps_ret (pv 1))))), ?_⟩
  intro ls hs om Q hp q
  show WC ⟨hs, (less hs om), om, [.fz (RD (.list (ls.map PyData.int))), .any, .any]⟩ _
  replace hp : ls.length ≤ 2 := hp
  replace q : ∀ H' p o, Kp hs H' → H' p = none → (OL ((crossN ls).map PyData.int)).p (less H' om) o → Q (.ref p) (upd H' p o) := q
  refine s_seq ?_
  refine s_new (n_lstM (xs := [0]) (enc := PyData.int) (m_cons e_int m_nil)) ?_
  show WC ⟨hs, (less hs om), om, [.fz (RD (.list (ls.map PyData.int))), .own (OL ([0].map PyData.int)), .any]⟩ _
  refine s_seq ?_
  refine s_for (xs := ls) (enc := PyData.int) (fun (i : Nat) γ => ∃ (hh : List (Int)), γ = [.fz (RD (.list (ls.map PyData.int))), .own (OL (hh.map PyData.int)), .any] ∧ (hh = crossN (ls.take i) ∧ hh.length = i + 1)) (e_var rfl) ⟨[0], rfl, ⟨by simp [crossN], rfl⟩⟩ ?_ ?_
  · rintro h1_1 i x γ kp hx ⟨hh, rfl, ⟨hh1, hh2⟩⟩
    have il := (List.getElem?_eq_some_iff.mp hx).1
    refine ⟨_, _, g_name, ?_⟩
    show WC ⟨hs, h1_1, om, [.fz (RD (.list (ls.map PyData.int))), .own (OL (hh.map PyData.int)), .fz (RD (.int x))]⟩ _
    refine s_appM (xs := hh) (a := ((ix hh (-1)) + x)) rfl (e_op o_add (e_ixO (i_own rfl) (e_un o_neg e_int) (ix_at (xs := hh) (i := (-1)) (by omega))) (e_var rfl)) (by omega) ?_
    show WC ⟨hs, h1_1, om, [.fz (RD (.list (ls.map PyData.int))), .own (OL ((hh ++ [((ix hh (-1)) + x)]).map PyData.int)), .fz (RD (.int x))]⟩ _
    refine s_drop 2 ?_
    show WC ⟨hs, h1_1, om, [.fz (RD (.list (ls.map PyData.int))), .own (OL ((hh ++ [((ix hh (-1)) + x)]).map PyData.int)), .any]⟩ _
    exact s_of ⟨(hh ++ [((ix hh (-1)) + x)]), rfl, ⟨by rw [hh1, crossN_take hx], by rw [List.length_append, hh2]; rfl⟩⟩
  · rintro γ ⟨hh, rfl, ⟨hh1, hh2⟩⟩
    show WC ⟨hs, (less hs om), om, [.fz (RD (.list (ls.map PyData.int))), .own (OL (hh.map PyData.int)), .any]⟩ _
    refine s_retOwn (C := OL ((crossN ls).map PyData.int)) (congrArg (fun z => some (Slot.own (OL (List.map PyData.int z)))) (show hh = (crossN ls) from ?_)) q
    rw [hh1, List.take_length]
theorem cut2 {ls : List Int} {s : Nat} (h : s < ls.length) : cutL (crossN ls) (some (s : Int)) (some ((s : Int) + 2)) = [cA ls s, cA ls (s + 1)] := by
  have e : cutL (crossN ls) (some (s : Int)) (some ((s : Int) + 2)) = ((crossN ls).drop s).take 2 := by
    unfold cutL
    have hl : (crossN ls).length = ls.length + 1 := by
      unfold crossN
      rw [List.length_map, List.length_range]
    rw [show (s : Int) + 2 = ((s + 2 : Nat) : Int) by omega, HT.sIx_nat, HT.sIx_nat, hl]
    rw [Nat.min_eq_left (by omega), Nat.min_eq_left (by omega)]
    congr 1
    omega
  rw [e]
  unfold crossN
  rw [← List.map_drop, ← List.map_take]
  have : ((List.range (ls.length + 1)).drop s).take 2 = [s, s + 1] := by
    refine List.ext_getElem? fun j => ?_
    rcases j with _ | _ | j
    · rw [List.getElem?_take_of_lt (by omega), List.getElem?_drop, List.getElem?_range (by omega)]
      rfl
    · rw [List.getElem?_take_of_lt (by omega), List.getElem?_drop, List.getElem?_range (by omega)]
      rfl
    · rw [List.getElem?_eq_none (by rw [List.length_take]; omega)]
      rfl
  rw [this]
  rfl
/-- heights between, by looking at each -/
def betweenL (ps : List Pl) (a lo hi : Int) : List Int := (rgI (lo + 1) (hi - (lo + 1)).toNat).filter fun k => decide ((a, k) ∈ ps)
theorem cA_pos {ls : List Int} (h : Lens ls) (h2 : ls.length ≤ 2) (s : Nat) : 0 ≤ cA ls s ∧ cA ls s ≤ 80 := by
  unfold cA
  match ls, h2 with
  | [], _ => simp
  | [x], _ =>
    have := h x (by simp)
    rcases s with _ | s <;> simp <;> omega
  | [x, y], _ =>
    have := h x (by simp)
    have := h y (by simp)
    rcases s with _ | _ | s <;> simp <;> omega
def Rs__law_inside  : (List Int) × (List Int) × (List (Str × Int × Int)) × Pl × Pl × (List Pl) × Int × Nat → List Rel := fun x => [(RD ((eT3 (eL PyData.int) (eL PyData.int) (eL dLk)) (x.1, x.2.1, x.2.2.1))), (RD ((eT3 dP dP (eL dP)) (x.2.2.2.1, x.2.2.2.2.1, x.2.2.2.2.2.1))), (RD (.int x.2.2.2.2.2.2.1)), (RD (.int (x.2.2.2.2.2.2.2 : Int)))]
def P__law_inside  : (List Int) × (List Int) × (List (Str × Int × Int)) × Pl × Pl × (List Pl) × Int × Nat → Hp → Prop := fun x H => x.2.2.2.2.2.2.2 < x.1.length ∧ x.1.length ≤ 2 ∧ Lens x.1
def R__law_inside  : (List Int) × (List Int) × (List (Str × Int × Int)) × Pl × Pl × (List Pl) × Int × Nat → Own := fun x => OL ((betweenL x.2.2.2.2.2.1 x.2.2.2.2.2.2.1 (cA x.1 x.2.2.2.2.2.2.2) (cA x.1 (x.2.2.2.2.2.2.2 + 1))).map PyData.int)
theorem ok__law_inside {f : Addr} {fd : FuncData} (F : Fun K "_law_inside" "_law_inside" s__law_inside f fd) (t__law_crosses : TopD P w K mg base 2 "_law_crosses" ["lengths"] (SpN (Rs__law_crosses ) (P__law_crosses ) (R__law_crosses ))) (z_range : mg "range" = none) : FnOk P w K mg base CX0 3 f fd ["house", "task", "aisle", "stretch"] (SpN (Rs__law_inside ) (P__law_inside ) (R__law_inside )) := by
  refine fn_okN F sc__law_inside (fun _ => rfl) fun cdv A outer s H E0 hr => ?_
  have nd := sc__law_inside.nd
  refine ⟨_, (pss_cons (ps_asg (pe_slice sl_list (pe_call t__law_crosses.G (by exact hr.mono (by decide)) (by rfl) t__law_crosses.g t__law_crosses.kp t__law_crosses.b .nil pass0 (pa_cons (pe_ix (r := rIxT K) ix_tup (pv 0) pe_int (fun _ _ => rfl)) pa_nil)) (po_some (pv 3)) (po_some (pe_op op_add (pv 3) pe_int))) (pg_lst rfl (pgs_cons (pg_name (i := 4) nd rfl (.inl rfl)) (pgs_cons (pg_name (i := 5) nd rfl (.inl rfl)) pgs_nil))))
      (pss_one (ps_ret (pe_lc (own := [("height", 6)]) (g := (gName 6)) rfl nd (pi_range2 rfl z_range (pa_cons (pe_op op_add (pv 4) pe_int) (pa_cons (pv 5) pa_nil))) (blkOk_by (N := ["house", "task", "aisle", "stretch", "low", "high", "height"]) (sc := defScope s__law_inside) (by decide +kernel)) (fun _ _ _ _ _ => (pg_name (i := 6) nd rfl (.inl rfl))) (fun _ _ _ _ _ => pts_one (pt_cmpR (r := rInD K) (op_inD (room65 hr)) (pe_tup (pa_cons (pv 2) (pa_cons (pv 6) pa_nil))) (pe_ix (r := rIxT K) ix_tup (pv 1) pe_int (fun _ _ => rfl)) (by rfl))) (fun _ _ _ _ _ => (pv 6)))))), ?_⟩
  rintro ⟨ls, gs, cs, st, en, ps, a, s⟩ hs om Q hp q
  show WC ⟨hs, (less hs om), om, [.fz (RD ((eT3 (eL PyData.int) (eL PyData.int) (eL dLk)) (ls, gs, cs))), .fz (RD ((eT3 dP dP (eL dP)) (st, en, ps))), .fz (RD (.int a)), .fz (RD (.int (s : Int))), .any, .any, .any]⟩ _
  replace hp : s < ls.length ∧ ls.length ≤ 2 ∧ Lens ls := hp
  replace q : ∀ H' p o, Kp hs H' → H' p = none → (OL ((betweenL ps a (cA ls s) (cA ls (s + 1))).map PyData.int)).p (less H' om) o → Q (.ref p) (upd H' p o) := q
  have b0 := cA_pos hp.2.2 hp.2.1 s
  have b1 := cA_pos hp.2.2 hp.2.1 (s + 1)
  refine s_seq ?_
  refine s_asg (R := RD (.list [.int (cA ls s), .int (cA ls (s + 1))])) (n_e (EN.eqL (n_slM (i_n (show EN _ _ (OL ((crossN ls).map PyData.int)) from n_call (skn_spn (Rs := Rs__law_crosses ) (P := P__law_crosses ) (C := R__law_crosses ) (ls)) (a_cons (e_op (o_ixT rfl) (e_var rfl) e_int) a_nil) (fun H kp => by show ls.length ≤ 2; exact hp.2.1))) (p_some (e_var rfl)) (p_some (e_op o_add (e_var rfl) e_int))) (by rw [cut2 hp.1]; rfl))) (g_lst (gs_cons g_name (gs_cons g_name gs_nil))) ?_
  show WC ⟨hs, (less hs om), om, [.fz (RD ((eT3 (eL PyData.int) (eL PyData.int) (eL dLk)) (ls, gs, cs))), .fz (RD ((eT3 dP dP (eL dP)) (st, en, ps))), .fz (RD (.int a)), .fz (RD (.int (s : Int))), .fz (RD (.int (cA ls s))), .fz (RD (.int (cA ls (s + 1)))), .any]⟩ _
  refine s_retNew (EN.eqL (n_lcRM (lo := ((cA ls s) + 1)) (n := ((cA ls (s + 1)) - ((cA ls s) + 1) : Int).toNat) (h := fun k => k) (p := fun k => (decide ((a, k) ∈ ps))) (encB := PyData.int) (w_rng2 (i := ((cA ls s) + 1)) (j := (cA ls (s + 1))) (e_op o_add (e_var rfl) e_int) (e_var rfl) (by omega)) rfl (by decide) (fun _ k hxk => g_name) (fun _ k hxk => by exact (t_T (e_op (o_inE (f := dP) (a := (a, k)) (xs := ps) (hd := inferInstance) (by exact enc_P) (by decide) (by exact ⟨trivial, trivial⟩) (by exact (fun _ _ => ⟨trivial, trivial⟩))) (e_tup (m_cons (e_var rfl) (m_cons (e_var rfl) m_nil))) (e_op (o_ixT rfl) (e_var rfl) e_int)))) (fun _ k hxk hyk => by exact (e_var rfl)) (by omega)) (congrArg (List.map PyData.int) (show (((rgI ((cA ls s) + 1) ((cA ls (s + 1)) - ((cA ls s) + 1) : Int).toNat).filter fun k => (decide ((a, k) ∈ ps))).map fun k => k) = (betweenL ps a (cA ls s) (cA ls (s + 1))) from ?_))) q
  unfold betweenL; simp
theorem pairs_zip (lo hi : Int) (ins : List Int) : ((rgI 0 ((([lo] ++ ins ++ [hi]).length : Int) - 1).toNat).map fun k => (ix ([lo] ++ ins ++ [hi]) k, ix ([lo] ++ ins ++ [hi]) (k + 1))) = ([lo] ++ ins).zip (ins ++ [hi]) := by
  have hl : ((([lo] ++ ins ++ [hi]).length : Int) - 1).toNat = ins.length + 1 := by
    simp
  rw [hl]
  refine List.ext_getElem? fun j => ?_
  unfold rgI
  rw [List.getElem?_map, List.getElem?_map]
  by_cases h : j < ins.length + 1
  · have e1 : j < ([lo] ++ ins).length := by simp; omega
    have e2 : j < (ins ++ [hi]).length := by simp; omega
    rw [List.getElem?_range h, Option.map_some, Option.map_some, List.getElem?_eq_getElem (by rw [List.length_zip]; omega), List.getElem_zip]
    congr 2
    · rw [show (0 : Int) + (j : Int) = ((j : Nat) : Int) by omega]
      refine ix_nat ?_
      rw [List.getElem?_append_left e1, List.getElem?_eq_getElem e1]
    · have : (0 : Int) + (j : Int) + 1 = ((j + 1 : Nat) : Int) := by omega
      rw [this]
      refine ix_nat ?_
      rw [List.append_assoc, List.singleton_append, List.getElem?_cons_succ, List.getElem?_eq_getElem e2]
  · rw [List.getElem?_eq_none (by rw [List.length_range]; omega), List.getElem?_eq_none (by rw [List.length_zip]; simp; omega)]
    rfl
theorem betweenL_len (ps : List Pl) (a lo hi : Int) : (betweenL ps a lo hi).length ≤ (hi - (lo + 1)).toNat := by
  unfold betweenL
  refine Nat.le_trans (List.length_filter_le _ _) ?_
  unfold rgI
  simp
def Rs__law_pieces  : (List Int) × (List Int) × (List (Str × Int × Int)) × Pl × Pl × (List Pl) × Int × Nat → List Rel := fun x => [(RD ((eT3 (eL PyData.int) (eL PyData.int) (eL dLk)) (x.1, x.2.1, x.2.2.1))), (RD ((eT3 dP dP (eL dP)) (x.2.2.2.1, x.2.2.2.2.1, x.2.2.2.2.2.1))), (RD (.int x.2.2.2.2.2.2.1)), (RD (.int (x.2.2.2.2.2.2.2 : Int)))]
def P__law_pieces  : (List Int) × (List Int) × (List (Str × Int × Int)) × Pl × Pl × (List Pl) × Int × Nat → Hp → Prop := fun x H => x.2.2.2.2.2.2.2 < x.1.length ∧ x.1.length ≤ 2 ∧ Lens x.1
def R__law_pieces  : (List Int) × (List Int) × (List (Str × Int × Int)) × Pl × Pl × (List Pl) × Int × Nat → Own := fun x => OL ((piecesL x.1 x.2.2.2.2.2.2.2 (betweenL x.2.2.2.2.2.1 x.2.2.2.2.2.2.1 (cA x.1 x.2.2.2.2.2.2.2) (cA x.1 (x.2.2.2.2.2.2.2 + 1)))).map dP)
theorem ok__law_pieces {f : Addr} {fd : FuncData} (F : Fun K "_law_pieces" "_law_pieces" s__law_pieces f fd) (t__law_crosses : TopD P w K mg base 2 "_law_crosses" ["lengths"] (SpN (Rs__law_crosses ) (P__law_crosses ) (R__law_crosses ))) (t__law_inside : TopD P w K mg base 3 "_law_inside" ["house", "task", "aisle", "stretch"] (SpN (Rs__law_inside ) (P__law_inside ) (R__law_inside ))) (z_range : mg "range" = none) (z_len : mg "len" = none) : FnOk P w K mg base CX0 4 f fd ["house", "task", "aisle", "stretch"] (SpN (Rs__law_pieces ) (P__law_pieces ) (R__law_pieces )) := by
  refine fn_okN F sc__law_pieces (fun _ => rfl) fun cdv A outer s H E0 hr => ?_
  have nd := sc__law_pieces.nd
  refine ⟨_, (pss_cons (ps_asg (pe_slice sl_list (pe_call t__law_crosses.G (by exact hr.mono (by decide)) (by rfl) t__law_crosses.g t__law_crosses.kp t__law_crosses.b .nil pass0 (pa_cons (pe_ix (r := rIxT K) ix_tup (pv 0) pe_int (fun _ _ => rfl)) pa_nil)) (po_some (pv 3)) (po_some (pe_op op_add (pv 3) pe_int))) (pg_lst rfl (pgs_cons (pg_name (i := 4) nd rfl (.inl rfl)) (pgs_cons (pg_name (i := 5) nd rfl (.inl rfl)) pgs_nil))))
      (pss_cons (ps_set (i := 6) nd rfl (.inr rfl) (pe_op op_cat (pe_op op_cat (pe_lst (pa_cons (pv 4) pa_nil)) (pe_call t__law_inside.G (by exact hr.mono (by decide)) (by rfl) t__law_inside.g t__law_inside.kp t__law_inside.b .nil pass0 (pa_cons (pv 0) (pa_cons (pv 1) (pa_cons (pv 2) (pa_cons (pv 3) pa_nil)))))) (pe_lst (pa_cons (pv 5) pa_nil))))
      (pss_one (ps_ret (pe_lc (own := [("k", 7)]) (g := (gName 7)) (tt := tYes) rfl nd (pi_range1 rfl z_range (pa_cons (pe_op op_sub (pe_callB call_len (by rfl) z_len (by decide +kernel) (pa_cons (pv 6) pa_nil)) pe_int) pa_nil)) (blkOk_by (N := ["house", "task", "aisle", "stretch", "low", "high", "heights", "k"]) (sc := defScope s__law_pieces) (by decide +kernel)) (fun _ _ _ _ _ => (pg_name (i := 7) nd rfl (.inl rfl))) (fun _ _ _ _ _ => pts_nil) (fun _ _ _ _ _ => (pe_tup (pa_cons (pe_ix (r := rIxL K) ix_list (pv 6) (pv 7) (fun _ _ => rfl)) (pa_cons (pe_ix (r := rIxL K) ix_list (pv 6) (pe_op (r := rI0 fun i j => .int (i + j)) op_add (pv 7) pe_int) (fun _ _ => rfl)) pa_nil))))))))), ?_⟩
  rintro ⟨ls, gs, cs, st, en, ps, a, s⟩ hs om Q hp q
  show WC ⟨hs, (less hs om), om, [.fz (RD ((eT3 (eL PyData.int) (eL PyData.int) (eL dLk)) (ls, gs, cs))), .fz (RD ((eT3 dP dP (eL dP)) (st, en, ps))), .fz (RD (.int a)), .fz (RD (.int (s : Int))), .any, .any, .any, .any]⟩ _
  replace hp : s < ls.length ∧ ls.length ≤ 2 ∧ Lens ls := hp
  replace q : ∀ H' p o, Kp hs H' → H' p = none → (OL ((piecesL ls s (betweenL ps a (cA ls s) (cA ls (s + 1)))).map dP)).p (less H' om) o → Q (.ref p) (upd H' p o) := q
  have b0 := cA_pos hp.2.2 hp.2.1 s
  have b1 := cA_pos hp.2.2 hp.2.1 (s + 1)
  have bl := betweenL_len ps a (cA ls s) (cA ls (s + 1))
  have hl : ([cA ls s] ++ betweenL ps a (cA ls s) (cA ls (s + 1)) ++ [cA ls (s + 1)]).length = (betweenL ps a (cA ls s) (cA ls (s + 1))).length + 2 := by simp
  refine s_seq ?_
  refine s_asg (R := RD (.list [.int (cA ls s), .int (cA ls (s + 1))])) (n_e (EN.eqL (n_slM (i_n (show EN _ _ (OL ((crossN ls).map PyData.int)) from n_call (skn_spn (Rs := Rs__law_crosses ) (P := P__law_crosses ) (C := R__law_crosses ) (ls)) (a_cons (e_op (o_ixT rfl) (e_var rfl) e_int) a_nil) (fun H kp => by show ls.length ≤ 2; exact hp.2.1))) (p_some (e_var rfl)) (p_some (e_op o_add (e_var rfl) e_int))) (by rw [cut2 hp.1]; rfl))) (g_lst (gs_cons g_name (gs_cons g_name gs_nil))) ?_
  show WC ⟨hs, (less hs om), om, [.fz (RD ((eT3 (eL PyData.int) (eL PyData.int) (eL dLk)) (ls, gs, cs))), .fz (RD ((eT3 dP dP (eL dP)) (st, en, ps))), .fz (RD (.int a)), .fz (RD (.int (s : Int))), .fz (RD (.int (cA ls s))), .fz (RD (.int (cA ls (s + 1)))), .any, .any]⟩ _
  refine s_seq ?_
  refine s_set (n_e (n_catM (xs := ([(cA ls s)] ++ (betweenL ps a (cA ls s) (cA ls (s + 1))))) (ys := [(cA ls (s + 1))]) (i_n (n_catM (xs := [(cA ls s)]) (ys := (betweenL ps a (cA ls s) (cA ls (s + 1)))) (i_n (n_lstM (xs := [(cA ls s)]) (enc := PyData.int) (m_cons (e_var rfl) m_nil))) (i_n (show EN _ _ (OL ((betweenL ps a (cA ls s) (cA ls (s + 1))).map PyData.int)) from n_call (skn_spn (Rs := Rs__law_inside ) (P := P__law_inside ) (C := R__law_inside ) (ls, gs, cs, st, en, ps, a, s)) (a_cons (e_var rfl) (a_cons (e_var rfl) (a_cons (e_var rfl) (a_cons (e_var rfl) a_nil)))) (fun H kp => by show s < ls.length ∧ ls.length ≤ 2 ∧ Lens ls; exact hp))) (by simp; omega))) (i_n (n_lstM (xs := [(cA ls (s + 1))]) (enc := PyData.int) (m_cons (e_var rfl) m_nil))) (by simp; omega))) ?_
  show WC ⟨hs, (less hs om), om, [.fz (RD ((eT3 (eL PyData.int) (eL PyData.int) (eL dLk)) (ls, gs, cs))), .fz (RD ((eT3 dP dP (eL dP)) (st, en, ps))), .fz (RD (.int a)), .fz (RD (.int (s : Int))), .fz (RD (.int (cA ls s))), .fz (RD (.int (cA ls (s + 1)))), .fz (RD (.list ((([(cA ls s)] ++ (betweenL ps a (cA ls s) (cA ls (s + 1)))) ++ [(cA ls (s + 1))]).map PyData.int))), .any]⟩ _
  refine s_retNew (EN.eqL (n_lcRM1 (lo := 0) (n := ((((([(cA ls s)] ++ (betweenL ps a (cA ls s) (cA ls (s + 1)))) ++ [(cA ls (s + 1))]).length : Int) - 1) : Int).toNat) (h := fun k => ((ix (([(cA ls s)] ++ (betweenL ps a (cA ls s) (cA ls (s + 1)))) ++ [(cA ls (s + 1))]) k), (ix (([(cA ls s)] ++ (betweenL ps a (cA ls s) (cA ls (s + 1)))) ++ [(cA ls (s + 1))]) (k + 1)))) (encB := dP) (w_rng1 (j := (((([(cA ls s)] ++ (betweenL ps a (cA ls s) (cA ls (s + 1)))) ++ [(cA ls (s + 1))]).length : Int) - 1)) (e_op o_sub (e_cb o_lenM (a_cons (e_var rfl) a_nil)) e_int) (by omega)) rfl (by decide) (fun _ k hxk => g_name) (fun _ k hxk hyk => by exact (e_tup (m_cons (e_op (o_ixL (ix_at (xs := (([(cA ls s)] ++ (betweenL ps a (cA ls s) (cA ls (s + 1)))) ++ [(cA ls (s + 1))])) (i := k) (by omega))) (e_var rfl) (e_var rfl)) (m_cons (e_op (o_ixL (ix_at (xs := (([(cA ls s)] ++ (betweenL ps a (cA ls s) (cA ls (s + 1)))) ++ [(cA ls (s + 1))])) (i := (k + 1)) (by omega))) (e_var rfl) (e_op o_add (e_var rfl) e_int)) m_nil)))) (by omega)) (congrArg (List.map dP) (show ((rgI 0 ((((([(cA ls s)] ++ (betweenL ps a (cA ls s) (cA ls (s + 1)))) ++ [(cA ls (s + 1))]).length : Int) - 1) : Int).toNat).map fun k => ((ix (([(cA ls s)] ++ (betweenL ps a (cA ls s) (cA ls (s + 1)))) ++ [(cA ls (s + 1))]) k), (ix (([(cA ls s)] ++ (betweenL ps a (cA ls s) (cA ls (s + 1)))) ++ [(cA ls (s + 1))]) (k + 1)))) = (piecesL ls s (betweenL ps a (cA ls s) (cA ls (s + 1)))) from ?_))) q
  exact pairs_zip _ _ _
theorem free_law (cs : List (Str × Int × Int)) (a lo hi : Int) : ((rgI lo (hi - lo).toNat).map fun k => !decide ((("up" : Str), a, k) ∈ cs)).all id = freeQ cs a lo hi := by
  unfold freeQ
  rw [List.all_map, List.all_eq_not_any_not]
  congr 2
  funext k
  show (!!decide ((("up" : Str), a, k) ∈ cs)) = decide (lkC ("up", a, k) ∈ kOf cs)
  rw [Bool.not_not]
  exact decide_eq_decide.mpr mem_kOf.symm
def Rs__law_free  : (List Int) × (List Int) × (List (Str × Int × Int)) × Int × Pl → List Rel := fun x => [(RD ((eT3 (eL PyData.int) (eL PyData.int) (eL dLk)) (x.1, x.2.1, x.2.2.1))), (RD (.int x.2.2.2.1)), (RD (dP x.2.2.2.2))]
def P__law_free  : (List Int) × (List Int) × (List (Str × Int × Int)) × Int × Pl → Hp → Prop := fun x H => (0 ≤ x.2.2.2.2.1 ∧ x.2.2.2.2.1 ≤ 1000 ∧ 0 ≤ x.2.2.2.2.2 ∧ x.2.2.2.2.2 ≤ 1000) ∧ ∀ c ∈ x.2.2.1, PyData.strOk c.1 = true
def R__law_free  : (List Int) × (List Int) × (List (Str × Int × Int)) × Int × Pl → Rel := fun x => (RD (.bool (freeQ x.2.2.1 x.2.2.2.1 x.2.2.2.2.1 x.2.2.2.2.2)))
theorem ok__law_free {f : Addr} {fd : FuncData} (F : Fun K "_law_free" "_law_free" s__law_free f fd) (z_range : mg "range" = none) (z_all : mg "all" = none) : FnOk P w K mg base CX0 1 f fd ["house", "aisle", "piece"] (Sps (Rs__law_free ) (P__law_free ) (R__law_free )) := by
  refine fn_ok F sc__law_free (fun _ => rfl) fun cdv A outer s H E0 hr => ?_
  have nd := sc__law_free.nd
  refine ⟨_, (pss_one (ps_ret (pe_callB (cr_all rfl) (by rfl) z_all (by decide +kernel) (pa_cons (pe_lc (own := [("height", 3)]) (g := (gName 3)) (tt := tYes) rfl nd (pi_range2 rfl z_range (pa_cons (pe_ix (r := rIxT K) ix_tup (pv 2) pe_int (fun _ _ => rfl)) (pa_cons (pe_ix (r := rIxT K) ix_tup (pv 2) pe_int (fun _ _ => rfl)) pa_nil))) (blkOk_by (N := ["house", "aisle", "piece", "height"]) (sc := defScope s__law_free) (by decide +kernel)) (fun _ _ _ _ _ => (pg_name (i := 3) nd rfl (.inl rfl))) (fun _ _ _ _ _ => pts_nil) (fun _ _ _ _ _ => (pe_cmpR (r := rNotInD K) (op_notInD (room65 hr)) (pe_tup (pa_cons pe_str (pa_cons (pv 1) (pa_cons (pv 3) pa_nil)))) (pe_ix (r := rIxT K) ix_tup (pv 0) pe_int (fun _ _ => rfl)) (by rfl)))) pa_nil)))), ?_⟩
  rintro ⟨ls, gs, cs, a, p⟩ hs om Q hp q
  show WC ⟨hs, (less hs om), om, [.fz (RD ((eT3 (eL PyData.int) (eL PyData.int) (eL dLk)) (ls, gs, cs))), .fz (RD (.int a)), .fz (RD (dP p)), .any]⟩ _
  replace hp : (0 ≤ p.1 ∧ p.1 ≤ 1000 ∧ 0 ≤ p.2 ∧ p.2 ≤ 1000) ∧ ∀ c ∈ cs, PyData.strOk c.1 = true := hp
  replace q : ∀ H' v, Kp hs H' → (RD (.bool (freeQ cs a p.1 p.2))).p (less H' om) v → Q v H' := q
  refine s_ret (E.eq (e_cb o_all (a_cons (n_e (n_lcRM1 (lo := p.1) (n := (p.2 - p.1 : Int).toNat) (h := fun k => (!decide ((("up" : Str), a, k) ∈ cs))) (encB := PyData.bool) (w_rng2 (i := p.1) (j := p.2) (e_op (o_ixT rfl) (e_var rfl) e_int) (e_op (o_ixT rfl) (e_var rfl) e_int) (by omega)) rfl (by decide) (fun _ k hxk => g_name) (fun _ k hxk hyk => by exact (e_op (o_niE (f := dLk) (a := (("up" : Str), a, k)) (xs := cs) (hd := inferInstance) (by exact enc_Lk) (by decide) (by exact ⟨(by decide +kernel : PyData.strOk ("up" : Str) = true), trivial, trivial⟩) (by exact fun c m => ⟨hp.2 c m, trivial, trivial⟩)) (e_tup (m_cons e_str (m_cons (e_var rfl) (m_cons (e_var rfl) m_nil)))) (e_op (o_ixT rfl) (e_var rfl) e_int))) (by omega))) a_nil)) (e := PyData.bool (freeQ cs a p.1 p.2)) ?_) q
  exact congrArg PyData.bool (free_law cs a p.1 p.2)
end
section
open GxR NdefX PySem.Spec PyProof.Rows
variable {P : Program} {w : World} {K : PySem.W.Frag} {mg : Str → Option Value} {base : Heap}
/-- (length, number at the low end, number at the high end, joins, the piece that is left out) -/
abbrev Op := Int × Int × Int × Bool × Option Pl
instance : DecidableEq Op := @instDecidableEqProd Int _ inferInstance (@instDecidableEqProd Int _ inferInstance (@instDecidableEqProd Int _ inferInstance (@instDecidableEqProd Bool _ inferInstance (inferInstanceAs (DecidableEq (Option (Int × Int)))))))
abbrev dOp : Op → PyData := fun o => .tuple [.int o.1, .int o.2.1, .int o.2.2.1, .bool o.2.2.2.1, eO dP o.2.2.2.2]
def sgO (o : Op) : SG := (o.2.1, o.2.2.1, o.2.2.2.1)
def optW (lo hi : Int) (p : Pl) : Op := (2 * (hi - lo - (p.2 - p.1)), if decide (p.1 = lo) = true then 0 else 2, if decide (p.2 = hi) = true then 0 else 2, false, some p)
abbrev spOw : Sp := Sps (fun a : Int × Int × Pl => [RD (.int a.1), RD (.int a.2.1), RD (dP a.2.2)]) (fun _ _ => True) fun a => RD (dOp (optW a.1 a.2.1 a.2.2))
theorem ok_optwo {f : Addr} {fd : FuncData} (F : Fun K "_option_without" "_option_without" s__option_without f fd) : FnOk P w K mg base CX0 1 f fd ["low", "high", "piece"] spOw := by
  refine fn_ok F sc__option_without (fun _ => rfl) fun cdv A outer s H E0 hr => ?_
  have nd := sc__option_without.nd
  refine ⟨_, (pss_cons (ps_asg (pv 2) (pg_tup rfl (pgs_cons (pg_name (i := 3) nd rfl (.inl rfl)) (pgs_cons (pg_name (i := 4) nd rfl (.inl rfl)) pgs_nil))))
      (pss_cons (ps_set (i := 5) nd rfl (.inl rfl) (pe_op (r := rI CMul fun i j => .int (i * j)) op_mul pe_int (pe_op (r := rI0 fun i j => .int (i - j)) op_sub (pe_op (r := rI0 fun i j => .int (i - j)) op_sub (pv 1) (pv 0)) (pe_op (r := rI0 fun i j => .int (i - j)) op_sub (pv 4) (pv 3)))))
      (pss_one (ps_ret (pe_tup (pa_cons (pv 5) (pa_cons (pe_ifExp (pt_cmpR (r := rEq) op_eq (pv 3) (pv 0) (nomark _)) pe_int pe_int) (pa_cons (pe_ifExp (pt_cmpR (r := rEq) op_eq (pv 4) (pv 1) (nomark _)) pe_int pe_int) (pa_cons pe_bl (pa_cons (pv 2) pa_nil)))))))))), ?_⟩
  rintro ⟨lo, hi, p⟩ hs om Q _ q
  show WC ⟨hs, less hs om, om, [.fz (RD (.int lo)), .fz (RD (.int hi)), .fz (RD (dP p)), .any, .any, .any]⟩ _
  refine s_seq ?_
  refine s_asg (R := RD (dP p)) (e_var rfl) (g_tup (gs_cons g_name (gs_cons g_name gs_nil))) ?_
  show WC ⟨hs, less hs om, om, [.fz (RD (.int lo)), .fz (RD (.int hi)), .fz (RD (dP p)), .fz (RD (.int p.1)), .fz (RD (.int p.2)), .any]⟩ _
  dsimp only
  refine s_seq ?_
  refine s_set (R := RD (.int (2 * (hi - lo - (p.2 - p.1))))) (e_op (o_mul (mulL (by omega) (by omega))) e_int (e_op o_sub (e_op o_sub (e_var rfl) (e_var rfl)) (e_op o_sub (e_var rfl) (e_var rfl)))) ?_
  show WC ⟨hs, less hs om, om, [.fz (RD (.int lo)), .fz (RD (.int hi)), .fz (RD (dP p)), .fz (RD (.int p.1)), .fz (RD (.int p.2)), .fz (RD (.int (2 * (hi - lo - (p.2 - p.1)))))]⟩ _
  exact s_ret (show Pk.E true _ _ (RD (dOp (optW lo hi p))) from e_tup (m_cons (e_var rfl) (m_cons (e_ite (enc := PyData.int) (t_T (e_op (o_eqI (i := p.1) (j := lo)) (e_var rfl) (e_var rfl))) (fun _ => e_int) (fun _ => e_int)) (m_cons (e_ite (enc := PyData.int) (t_T (e_op (o_eqI (i := p.2) (j := hi)) (e_var rfl) (e_var rfl))) (fun _ => e_int) (fun _ => e_int)) (m_cons e_bl (m_cons (show Pk.E true _ _ (RD (dP p)) from e_var rfl) m_nil)))))) q
end
section
open GxR NdefX PySem.Spec PyProof.Rows
variable {P : Program} {w : World} {K : PySem.W.Frag} {mg : Str → Option Value} {base : Heap}
theorem s_eqO {c : Ct} {k : L2.St → Hp → Prop} (i : Nat) {C C' : Own} (e : c.g[i]? = some (.own C)) (h : C = C') (q : WC (c.set i (.own C')) k) : WC c k := by
  subst h
  have z : c.set i (.own C) = c := by
    obtain ⟨hs, h0, om, g⟩ := c
    show Ct.mk hs h0 om (g.set i _) = _
    congr 1
    apply List.ext_getElem?
    intro j
    rw [List.getElem?_set]
    replace e : g[i]? = some (.own C) := e
    split
    · rename_i ij
      subst ij
      rw [e]
      split
      · rfl
      · rename_i n
        exact absurd (List.getElem?_eq_some_iff.mp e).1 n
    · rfl
  rw [z] at q
  exact q
def shutL (cs : List (Str × Int × Int)) (a : Int) (ps : List Pl) : List Pl := ps.filter fun p => !freeQ cs a p.1 p.2
def opt0 (lo hi : Int) (shut : List Pl) : List Op := if (!(!shut.isEmpty)) = true then [(hi - lo, 1, 1, true, none), (2 * (hi - lo), 2, 2, true, none)] else []
def optS (lo hi : Int) (shut : List Pl) (os : List Op) (p : Pl) : List Op := if decide (shut ∈ [[], [p]]) = true then os ++ [optW lo hi p] else os
def optL (lo hi : Int) (cs : List (Str × Int × Int)) (a : Int) (ps : List Pl) : List Op := ps.foldl (optS lo hi (shutL cs a ps)) (opt0 lo hi (shutL cs a ps))
theorem optS_len (lo hi : Int) (shut : List Pl) : ∀ (l : List Pl) (os : List Op), (l.foldl (optS lo hi shut) os).length ≤ os.length + l.length
  | [], os => Nat.le_refl _
  | p :: l, os => by
    have a := optS_len lo hi shut l (optS lo hi shut os p)
    have b : (optS lo hi shut os p).length ≤ os.length + 1 := by
      unfold optS
      split
      · rw [List.length_append]; exact Nat.le_refl _
      · omega
    rw [List.foldl_cons, List.length_cons]
    omega
def insOk (ls : List Int) (s : Nat) (ins : List Int) : Prop := s < ls.length ∧ ins.length ≤ 1000 ∧ ∀ p ∈ piecesL ls s ins, 0 ≤ p.1 ∧ p.1 ≤ 1000 ∧ 0 ≤ p.2 ∧ p.2 ≤ 1000
abbrev spOb (C TF : Addr) : Sp := SpN (fun a : HD × Int × Nat × List Int => [RHouse C a.1, RD (.int a.2.1), RD (.int (a.2.2.1 : Int)), RD (.list (a.2.2.2.map PyData.int))]) (fun a H => insOk a.1.ls a.2.2.1 a.2.2.2 ∧ TabG H TF) fun a => OL ((optL (cA a.1.ls a.2.2.1) (cA a.1.ls (a.2.2.1 + 1)) a.1.cs a.2.1 (piecesL a.1.ls a.2.2.1 a.2.2.2)).map dOp)
theorem ok_optbetween {C TF f fP fI fE fW : Addr} {fd fdP fdI fdE fdW : FuncData} (F : Fun K "options_between" "options_between" s_options_between f fd)
    (GP : FnOk P w K mg base CX0 4 fP fdP ["house", "stretch", "inside"] (SpN (Rs__pieces_between C) (P__pieces_between C) (R__pieces_between C))) (bP : Binds K fdP ["house", "stretch", "inside"] []) (gP : mg "_pieces_between" = some (.ref fP)) (kP : PySem.W.keepIn K (.ref fP) = true)
    (GI : FnOk P w K mg base CX0 5 fI fdI ["house", "aisle", "piece"] (Sps (Rs_is_free C TF) (P_is_free C TF) (R_is_free C TF))) (bI : Binds K fdI ["house", "aisle", "piece"] []) (gI : mg "is_free" = some (.ref fI)) (kI : PySem.W.keepIn K (.ref fI) = true)
    (GE : FnOk P w K mg base CX0 3 fE fdE ["house", "stretch"] (Sps (Rs_ends_of_stretch C) (P_ends_of_stretch C) (R_ends_of_stretch C))) (bE : Binds K fdE ["house", "stretch"] []) (gE : mg "ends_of_stretch" = some (.ref fE)) (kE : PySem.W.keepIn K (.ref fE) = true)
    (GW : FnOk P w K mg base CX0 1 fW fdW ["low", "high", "piece"] spOw) (bW : Binds K fdW ["low", "high", "piece"] []) (gW : mg "_option_without" = some (.ref fW)) (kW : PySem.W.keepIn K (.ref fW) = true) :
    FnOk P w K mg base CX0 6 f fd ["house", "aisle", "stretch", "inside"] (spOb C TF) := by
  refine fn_okN F sc_options_between (fun _ => rfl) fun cdv A outer s H E0 hr => ?_
  have nd := sc_options_between.nd
  refine ⟨_, (pss_cons (ps_set (i := 4) nd rfl (.inl rfl) (pe_call GP (by exact hr.mono (by decide)) (by rfl) gP kP bP .nil pass0 (pa_cons (pv 0) (pa_cons (pv 2) (pa_cons (pv 3) pa_nil)))))
      (pss_cons (ps_setLc (i := 5) (own := [("piece", 9)]) (g := gName 9) rfl nd rfl rfl rfl (pi_list (pv 4)) (blkOk_by (N := ["house", "aisle", "stretch", "inside", "pieces", "closed", "low", "high", "options", "piece"]) (sc := defScope s_options_between) (by decide +kernel)) (fun _ _ _ _ _ => pg_name (i := 9) nd rfl (.inl rfl))
          (fun _ _ _ _ _ => pts_one (pt_not (pt_val (pe_call GI (by exact hr.mono (by decide)) (by rfl) gI kI bI .nil pass0 (pa_cons (pv 0) (pa_cons (pv 1) (pa_cons (pv 9) pa_nil))))))) (fun _ _ _ _ _ => pv 9))
      (pss_cons (ps_asg (pe_call GE (by exact hr.mono (by decide)) (by rfl) gE kE bE .nil pass0 (pa_cons (pv 0) (pa_cons (pv 2) pa_nil))) (pg_tup rfl (pgs_cons (pg_name (i := 6) nd rfl (.inl rfl)) (pgs_cons (pg_name (i := 7) nd rfl (.inl rfl)) pgs_nil))))
      (pss_cons (ps_set (i := 8) nd rfl (.inl rfl) (pe_lst pa_nil))
      (pss_cons (ps_if (pt_not (pt_truth (pv 5) (by intro _; rfl))) (pss_one (ps_set (i := 8) nd rfl (.inl rfl) (pe_lst (pa_cons (pe_tup (pa_cons (pe_op (r := rI0 fun i j => .int (i - j)) op_sub (pv 7) (pv 6)) (pa_cons pe_int (pa_cons pe_int (pa_cons pe_bl (pa_cons pe_non pa_nil)))))) (pa_cons (pe_tup (pa_cons (pe_op (r := rI CMul fun i j => .int (i * j)) op_mul pe_int (pe_op (r := rI0 fun i j => .int (i - j)) op_sub (pv 7) (pv 6))) (pa_cons pe_int (pa_cons pe_int (pa_cons pe_bl (pa_cons pe_non pa_nil)))))) pa_nil))))) pss_nil)
      (pss_cons (ps_for PassesOwn.never rfl (pi_list (pv 4)) (pg_name (i := 9) nd rfl (.inl rfl)) (pss_one (ps_if (pt_cmpR (r := rInTD K) (op_inTD (room65 hr)) (pv 5) (pe_tup (pa_cons (pe_lst pa_nil) (pa_cons (pe_lst (pa_cons (pv 9) pa_nil)) pa_nil))) (by rfl))
          (pss_one (ps_expr (pe_bm PySem.F.plainAttrs_list PySem.F.slot_list_append PySem.F.type_list_append mt_append (pv 8) (pa_cons (pe_call GW (by exact hr.mono (by decide)) (by rfl) gW kW bW .nil pass0 (pa_cons (pv 6) (pa_cons (pv 7) (pa_cons (pv 9) pa_nil)))) pa_nil)))) pss_nil)))
      (pss_one (ps_ret (pv 8))))))))), ?_⟩
  rintro ⟨h, a, s, ins⟩ hs om Q ⟨⟨hs1, hi1, hp1⟩, tF⟩ q
  show WC ⟨hs, less hs om, om, [.fz (RHouse C h), .fz (RD (.int a)), .fz (RD (.int (s : Int))), .fz (RD (.list (ins.map PyData.int))), .any, .any, .any, .any, .any, .any]⟩ _
  replace hs1 : s < h.ls.length := hs1
  replace hi1 : ins.length ≤ 1000 := hi1
  replace tF : TabG (less hs om) TF := tF
  obtain ⟨ps, eps⟩ : ∃ ps, piecesL h.ls s ins = ps := ⟨_, rfl⟩
  have pl : ps.length ≤ 1001 := by
    rw [← eps]
    unfold piecesL
    rw [List.length_zip, List.length_append, List.length_append]
    show min (1 + _) _ ≤ _
    omega
  replace hp1 : ∀ p ∈ ps, 0 ≤ p.1 ∧ p.1 ≤ 1000 ∧ 0 ≤ p.2 ∧ p.2 ≤ 1000 := by rw [← eps]; exact hp1
  obtain ⟨lo, elo⟩ : ∃ lo, cA h.ls s = lo := ⟨_, rfl⟩
  obtain ⟨hi, ehi⟩ : ∃ hi, cA h.ls (s + 1) = hi := ⟨_, rfl⟩
  replace q : ∀ H' p o, Kp hs H' → H' p = none → (OL ((optL lo hi h.cs a ps).map dOp)).p (less H' om) o → Q (.ref p) (upd H' p o) := by
    rw [← elo, ← ehi, ← eps]
    exact q
  refine s_seq ?_
  refine s_set (R := RD (.list (ps.map dP))) (n_e (EN.eqL (n_call (skn_spn (Rs := Rs__pieces_between C) (P := P__pieces_between C) (C := R__pieces_between C) (h, s, ins)) (a_cons (e_var rfl) (a_cons (e_var rfl) (a_cons (e_var rfl) a_nil))) (fun _ _ => ⟨hs1, hi1⟩)) (by rw [← eps]))) ?_
  show WC ⟨hs, less hs om, om, [.fz (RHouse C h), .fz (RD (.int a)), .fz (RD (.int (s : Int))), .fz (RD (.list (ins.map PyData.int))), .fz (RD (.list (ps.map dP))), .any, .any, .any, .any, .any]⟩ _
  dsimp only
  refine s_seq ?_
  refine s_set (R := RD (.list ((shutL h.cs a ps).map dP))) (n_e (EN.eqL (n_lcM (xs := ps) (enc := dP) (p := fun p => !freeQ h.cs a p.1 p.2) (h := fun p => p) (encB := dP) (is := [9]) (G := fun p => [.fz (RHouse C h), .fz (RD (.int a)), .fz (RD (.int (s : Int))), .fz (RD (.list (ins.map PyData.int))), .fz (RD (.list (ps.map dP))), .any, .any, .any, .any, .fz (RD (dP p))]) (i_of (e_var rfl)) rfl (by decide) (fun _ p hp => g_name)
    (fun _ p hp => t_not (t_B (show Pk.E _ _ _ (RD (.bool (freeQ h.cs a p.1 p.2))) from c_call (sok_sps (Rs := Rs_is_free C TF) (P := P_is_free C TF) (R := R_is_free C TF) (h, a, p)) (a_cons (e_var rfl) (a_cons (e_var rfl) (a_cons (e_var rfl) a_nil))) (fun H kp => ⟨hp1 p hp, kp.tab _ tF⟩)))) (fun _ p hp _ => e_var rfl) (by omega)) (by rw [List.map_id']; rfl))) ?_
  obtain ⟨sh, esh⟩ : ∃ sh, shutL h.cs a ps = sh := ⟨_, rfl⟩
  rw [esh]
  show WC ⟨hs, less hs om, om, [.fz (RHouse C h), .fz (RD (.int a)), .fz (RD (.int (s : Int))), .fz (RD (.list (ins.map PyData.int))), .fz (RD (.list (ps.map dP))), .fz (RD (.list (sh.map dP))), .any, .any, .any, .any]⟩ _
  dsimp only
  refine s_seq ?_
  refine s_asg (R := RD (dP (lo, hi))) (show Pk.E true _ _ (RD (dP (lo, hi))) from by rw [← elo, ← ehi]; exact c_call (sok_sps (Rs := Rs_ends_of_stretch C) (P := P_ends_of_stretch C) (R := R_ends_of_stretch C) (h, s)) (a_cons (e_var rfl) (a_cons (e_var rfl) a_nil)) (fun _ _ => hs1)) (g_tup (gs_cons g_name (gs_cons g_name gs_nil))) ?_
  dsimp only
  refine s_seq ?_
  refine s_new (C := OL (([] : List Op).map dOp)) (n_lst m_nil) ?_
  show WC ⟨hs, less hs om, om, [.fz (RHouse C h), .fz (RD (.int a)), .fz (RD (.int (s : Int))), .fz (RD (.list (ins.map PyData.int))), .fz (RD (.list (ps.map dP))), .fz (RD (.list (sh.map dP))), .fz (RD (.int lo)), .fz (RD (.int hi)), .own (OL (([] : List Op).map dOp)), .any]⟩ _
  dsimp only
  refine s_seq ?_
  refine (fun (rest : WC ⟨hs, less hs om, om, [.fz (RHouse C h), .fz (RD (.int a)), .fz (RD (.int (s : Int))), .fz (RD (.list (ins.map PyData.int))), .fz (RD (.list (ps.map dP))), .fz (RD (.list (sh.map dP))), .fz (RD (.int lo)), .fz (RD (.int hi)), .own (OL ((opt0 lo hi sh).map dOp)), .any]⟩ _) =>
    s_if (t_not (t_truL (xs := sh) (enc := dP) (i_of (e_var rfl)))) (fun z => s_new (C := OL ((opt0 lo hi sh).map dOp)) (EN.eqL (n_lstM (xs := ([(hi - lo, 1, 1, true, none), (2 * (hi - lo), 2, 2, true, none)] : List Op)) (enc := dOp) (m_cons (e_tup (m_cons (e_op o_sub (e_var rfl) (e_var rfl)) (m_cons e_int (m_cons e_int (m_cons e_bl (m_cons e_non m_nil)))))) (m_cons (e_tup (m_cons (e_op (o_mul (mulL (by omega) (by omega))) e_int (e_op o_sub (e_var rfl) (e_var rfl))) (m_cons e_int (m_cons e_int (m_cons e_bl (m_cons e_non m_nil)))))) m_nil))) (by unfold opt0; rw [if_pos z])) rest)
      (fun z => s_pass (s_eqO 8 (C' := OL ((opt0 lo hi sh).map dOp)) rfl (by unfold opt0; rw [if_neg (by rw [z]; exact Bool.false_ne_true)]) rest))) ?_
  dsimp only
  refine s_seq ?_
  have l0 : (opt0 lo hi sh).length ≤ 2 := by
    unfold opt0
    split
    · show (2 : Nat) ≤ 2
      exact Nat.le_refl _
    · exact Nat.zero_le _
  have el : Enc (eL dP) 2 (fun xs => ∀ a ∈ xs, True ∧ True) := enc_list enc_P
  refine s_forG (xs := ps) (fun i γ => γ = [.fz (RHouse C h), .fz (RD (.int a)), .fz (RD (.int (s : Int))), .fz (RD (.list (ins.map PyData.int))), .fz (RD (.list (ps.map dP))), .fz (RD (.list (sh.map dP))), .fz (RD (.int lo)), .fz (RD (.int hi)), .own (OL (((ps.take i).foldl (optS lo hi sh) (opt0 lo hi sh)).map dOp)), .any]) (w_list (e_var rfl)) rfl ?_ ?_
  · rintro h1 i p γ kp hx rfl
    refine ⟨_, _, g_name, ?_⟩
    obtain ⟨os, eos⟩ : ∃ os, (ps.take i).foldl (optS lo hi sh) (opt0 lo hi sh) = os := ⟨_, rfl⟩
    have nx : (ps.take (i + 1)).foldl (optS lo hi sh) (opt0 lo hi sh) = optS lo hi sh os p := by
      rw [List.take_add_one, hx, List.foldl_append, eos]
      rfl
    have ol := optS_len lo hi sh (ps.take i) (opt0 lo hi sh)
    rw [eos, List.length_take] at ol
    rw [eos, nx]
    show WC ⟨hs, h1, om, [.fz (RHouse C h), .fz (RD (.int a)), .fz (RD (.int (s : Int))), .fz (RD (.list (ins.map PyData.int))), .fz (RD (.list (ps.map dP))), .fz (RD (.list (sh.map dP))), .fz (RD (.int lo)), .fz (RD (.int hi)), .own (OL (os.map dOp)), .fz (RD (dP p))]⟩ _
    dsimp only
    refine s_if (t_T (e_op (o_inTE (f := eL dP) (a := sh) (xs := [[], [p]]) (hd := inferInstance) el (by decide) (fun _ _ => ⟨trivial, trivial⟩) (fun _ _ _ _ => ⟨trivial, trivial⟩)) (e_var rfl) (e_tup (m_cons (e_lst m_nil) (m_cons (e_lst (m_cons (e_var rfl) m_nil)) m_nil))))) (fun z => ?_) (fun z => ?_)
    · refine s_appM (xs := os) (a := optW lo hi p) rfl (show Pk.E true _ _ (RD (dOp (optW lo hi p))) from c_call (sok_sps (Rs := fun a : Int × Int × Pl => [RD (.int a.1), RD (.int a.2.1), RD (dP a.2.2)]) (P := fun _ _ => True) (R := fun a => RD (dOp (optW a.1 a.2.1 a.2.2))) (lo, hi, p)) (a_cons (e_var rfl) (a_cons (e_var rfl) (a_cons (e_var rfl) a_nil))) (fun _ _ => trivial)) (by omega) ?_
      refine s_drop 9 ?_
      refine s_of ?_
      unfold optS
      rw [if_pos z]
      rfl
    · refine s_pass ?_
      refine s_drop 9 ?_
      refine s_of ?_
      unfold optS
      rw [if_neg (by rw [z]; exact Bool.false_ne_true)]
      rfl
  · rintro γ rfl
    rw [List.take_length]
    have ef : ps.foldl (optS lo hi sh) (opt0 lo hi sh) = optL lo hi h.cs a ps := by unfold optL; rw [esh]
    rw [ef]
    exact s_retOwn rfl q
end
section
open GxR NdefX PySem.Spec PyProof.Rows
variable {P : Program} {w : World} {K : PySem.W.Frag} {mg : Str → Option Value} {base : Heap}
/-- one option taken in: the first of the shortest for each pair of ends -/
def bestS (B : List (SG × Op)) (o : Op) : List (SG × Op) := if (!(getB B (sgO o)).isSome || decide (o.1 < ((getB B (sgO o)).getD o).1)) = true then putB B (sgO o) o else B
def bestB (os : List Op) : List (SG × Op) := os.foldl bestS []
def bestL (os : List Op) : List Op := os.filter fun o => decide (o = (getB (bestB os) (sgO o)).getD o)
theorem getB_put {α β : Type} [DecidableEq α] {M : List (α × β)} {e f : α} {v : β} : getB (putB M e v) f = if f = e then some v else getB M f := by
  unfold putB
  by_cases c : (getB M e).isSome = true
  · rw [if_pos c]
    have key : ∀ M : List (α × β), getB (M.map fun x => if x.1 = e then (x.1, v) else x) f = if f = e then (getB M e).map fun _ => v else getB M f := fun M => by
      induction M with
      | nil => by_cases d : f = e <;> simp [getB, d]
      | cons m M ih =>
        obtain ⟨a, x⟩ := m
        unfold getB at ih ⊢
        by_cases g : f = e
        · subst g
          rw [if_pos rfl] at ih
          by_cases d : a = f
          · simp [d]
          · simp only [List.map_cons, List.find?_cons, d, decide_false, if_false, if_true]
            exact ih
        · rw [if_neg g] at ih
          by_cases d : a = e
          · subst d
            have n2 : ¬ a = f := fun z => g z.symm
            simp only [List.map_cons, List.find?_cons, n2, decide_false, if_true, if_neg g]
            exact ih
          · by_cases k : a = f
            · subst k
              simp [d]
            · simp only [List.map_cons, List.find?_cons, d, k, decide_false, if_false, if_neg g]
              exact ih
    rw [key]
    by_cases d : f = e
    · rw [if_pos d, if_pos d]
      obtain ⟨x, hx⟩ := Option.isSome_iff_exists.mp c
      rw [hx]
      rfl
    · rw [if_neg d, if_neg d]
  · rw [if_neg c]
    have c' : getB M e = none := by simpa using c
    unfold getB at c' ⊢
    rw [List.find?_append]
    by_cases d : f = e
    · subst d
      rw [if_pos rfl]
      rw [Option.map_eq_none_iff] at c'
      rw [c', Option.none_or, List.find?_cons, decide_eq_true rfl]
      rfl
    · rw [if_neg d, List.find?_cons, decide_eq_false (show ¬ ((e, v) : α × β).1 = f from fun z => d z.symm), List.find?_nil, Option.or_none]
theorem bestS_some {B : List (SG × Op)} {o : Op} {f : SG} (h : (getB B f).isSome = true ∨ f = sgO o) : (getB (bestS B o) f).isSome = true := by
  unfold bestS
  split
  · rw [getB_put]
    by_cases d : f = sgO o
    · rw [if_pos d]; rfl
    · rw [if_neg d]; exact h.elim id fun z => absurd z d
  · rename_i c
    rcases h with h | h
    · exact h
    · rw [h]
      cases g : (getB B (sgO o)).isSome with
      | true => rfl
      | false => rw [g] at c; exact absurd rfl c
theorem bestB_some {os : List Op} : ∀ o ∈ os, (getB (bestB os) (sgO o)).isSome = true := by
  have : ∀ (os : List Op) (B : List (SG × Op)) (f : SG), ((getB B f).isSome = true ∨ ∃ o ∈ os, f = sgO o) → (getB (os.foldl bestS B) f).isSome = true := fun os => by
    induction os with
    | nil => exact fun B f h => h.elim id fun ⟨_, z, _⟩ => nomatch z
    | cons o os ih =>
      intro B f h
      refine ih (bestS B o) f ?_
      rcases h with h | ⟨x, hx, e⟩
      · exact .inl (bestS_some (.inl h))
      · rcases List.mem_cons.mp hx with z | z
        · exact .inl (bestS_some (.inr (by rw [e, z])))
        · exact .inr ⟨x, z, e⟩
  exact fun o ho => this os [] _ (.inr ⟨o, ho, rfl⟩)
theorem bestS_len (B : List (SG × Op)) (o : Op) : (bestS B o).length ≤ B.length + 1 := by
  unfold bestS putB
  split
  · split
    · rw [List.length_map]; exact Nat.le_succ _
    · rw [List.length_append]; exact Nat.le_refl _
  · exact Nat.le_succ _
theorem bestB_len : ∀ (os : List Op) (B : List (SG × Op)), (os.foldl bestS B).length ≤ B.length + os.length
  | [], B => Nat.le_refl _
  | o :: os, B => by
    have a := bestB_len os (bestS B o)
    have b := bestS_len B o
    rw [List.foldl_cons, List.length_cons]
    omega
end
section
open GxR NdefX PySem.Spec PyProof.Rows
variable {P : Program} {w : World} {K : PySem.W.Frag} {mg : Str → Option Value} {base : Heap}
theorem enc_OP : Enc (eO dP) 1 (fun _ : Option Pl => True) := by
  have h := enc_opt enc_P fun a => ⟨rfl, rfl⟩
  exact ⟨h.eqv, fun o _ => h.lay o fun _ _ => ⟨trivial, trivial⟩, h.dep, h.nod⟩
theorem enc_Op : Enc dOp 2 (fun _ : Op => True) := by
  refine ⟨fun a b => ?_, fun a _ => ?_, fun a => ?_, fun a => ?_⟩
  · show (PyData.eqv (.int a.1) (.int b.1) && (PyData.eqv (.int a.2.1) (.int b.2.1) && (PyData.eqv (.int a.2.2.1) (.int b.2.2.1) && (PyData.eqv (.bool a.2.2.2.1) (.bool b.2.2.2.1) && (PyData.eqv (eO dP a.2.2.2.2) (eO dP b.2.2.2.2) && true))))) = _
    rw [enc_int.eqv, enc_int.eqv, enc_int.eqv, enc_bool.eqv, enc_OP.eqv, Bool.and_true, Bool.eq_iff_iff]
    simp [Prod.ext_iff]
  · show (true && (true && (true && (true && (PyData.canLay0 (eO dP a.2.2.2.2) && true))))) = true
    rw [enc_OP.lay _ trivial]
    rfl
  · show max 0 (max 0 (max 0 (max 0 (max (PyData.depth (eO dP a.2.2.2.2)) 0)))) + 1 ≤ 2
    have := enc_OP.dep a.2.2.2.2
    omega
  · show (true && (true && (true && (true && (Pk.nod (eO dP a.2.2.2.2) && true))))) = true
    rw [enc_OP.nod]
    rfl
abbrev spBb (C TF : Addr) : Sp := SpN (fun a : HD × Int × Nat × List Int => [RHouse C a.1, RD (.int a.2.1), RD (.int (a.2.2.1 : Int)), RD (.list (a.2.2.2.map PyData.int))]) (fun a H => insOk a.1.ls a.2.2.1 a.2.2.2 ∧ TabG H TF) fun a => OL ((bestL (optL (cA a.1.ls a.2.2.1) (cA a.1.ls (a.2.2.1 + 1)) a.1.cs a.2.1 (piecesL a.1.ls a.2.2.1 a.2.2.2))).map dOp)
theorem optL_len {lo hi a : Int} {cs : List (Str × Int × Int)} {ps : List Pl} : (optL lo hi cs a ps).length ≤ ps.length + 2 := by
  unfold optL
  have l := optS_len lo hi (shutL cs a ps) ps (opt0 lo hi (shutL cs a ps))
  have l0 : (opt0 lo hi (shutL cs a ps)).length ≤ 2 := by
    unfold opt0
    split
    · show (2 : Nat) ≤ 2
      exact Nat.le_refl _
    · exact Nat.zero_le _
  omega
theorem ok_bestbetween {C TF f fO : Addr} {fd fdO : FuncData} (F : Fun K "best_between" "best_between" s_best_between f fd)
    (GO : FnOk P w K mg base CX0 6 fO fdO ["house", "aisle", "stretch", "inside"] (spOb C TF)) (bO : Binds K fdO ["house", "aisle", "stretch", "inside"] []) (gO : mg "options_between" = some (.ref fO)) (kO : PySem.W.keepIn K (.ref fO) = true) :
    FnOk P w K mg base CX0 7 f fd ["house", "aisle", "stretch", "inside"] (spBb C TF) := by
  refine fn_okN F sc_best_between (fun _ => rfl) fun cdv A outer s H E0 hr => ?_
  have nd := sc_best_between.nd
  refine ⟨_, (pss_cons (ps_set (i := 4) nd rfl (.inl rfl) (pe_call GO (by exact hr.mono (by decide)) (by rfl) gO kO bO .nil pass0 (pa_cons (pv 0) (pa_cons (pv 1) (pa_cons (pv 2) (pa_cons (pv 3) pa_nil))))))
      (pss_cons (ps_set (i := 5) nd rfl (.inr rfl) pe_pnew)
      (pss_cons (ps_for PassesOwn.never rfl (pi_list (pv 4)) (pg_name (i := 6) nd rfl (.inl rfl)) (pss_cons (ps_set (i := 7) nd rfl (.inl rfl) (pe_slice (show SlR _ (rSlA K) from sl_tupA) (pv 6) (po_some pe_int) (po_some pe_int)))
          (pss_one (ps_if (PW.pt (pw_or (pt_cmpR (r := rNIn keySG SGAt P w not) (op_notInN keyT_SG (by exact hr.units)) (pv 7) (pv 5) (by rfl)) (pw_or1 (pt_cmpR (r := rI0 fun i j => .bl (decide (i < j))) op_lt (pe_ix (r := rIxT K) ix_tup (pv 6) pe_int (fun _ _ => rfl)) (pe_ix (r := rIxT K) ix_tup (show PE _ _ (tNGet keySG SGAt P w (tVar 5) (tVar 7)) from pe_nget keyT_SG (by exact hr.units) (pv 5) (pv 7) (fun _ _ => rfl)) pe_int (fun _ _ => rfl)) (nomark _)))))
            (pss_one (show PS _ _ (sNPut keySG SGAt P w (tVar 5) (tVar 7) (tVar 6)) from ps_nput keyT_SG (by exact hr.units) (pv 5) (pv 7) (pv 6) rfl)) pss_nil))))
      (pss_one (ps_ret (pe_lc (own := [("option", 6)]) (g := gName 6) rfl nd (pi_list (pv 4)) (blkOk_by (N := ["house", "aisle", "stretch", "inside", "options", "best", "option", "signs"]) (sc := defScope s_best_between) (by decide +kernel)) (fun _ _ _ _ _ => pg_name (i := 6) nd rfl (.inl rfl))
          (fun _ _ _ _ _ => pts_one (pt_cmpR (r := rEqD K) (op_eqD hr.units) (pv 6) (show PE _ _ (tNGet keySG SGAt P w (tVar 5) (tSl (rSlA K) (tVar 6) (tPart (tC (.int 1))) (tPart (tC (.int 4))))) from pe_nget keyT_SG (by exact hr.units) (pv 5) (pe_slice (show SlR _ (rSlA K) from sl_tupA) (pv 6) (po_some pe_int) (po_some pe_int)) (fun _ _ => rfl)) (nomark _))) (fun _ _ _ _ _ => pv 6))))))), ?_⟩
  rintro ⟨h, a, s, ins⟩ hs om Q ⟨⟨hs1, hi1, hp1⟩, tF⟩ q
  show WC ⟨hs, less hs om, om, [.fz (RHouse C h), .fz (RD (.int a)), .fz (RD (.int (s : Int))), .fz (RD (.list (ins.map PyData.int))), .any, .any, .any, .any]⟩ _
  replace tF : TabG (less hs om) TF := tF
  obtain ⟨os, eos⟩ : ∃ os, optL (cA h.ls s) (cA h.ls (s + 1)) h.cs a (piecesL h.ls s ins) = os := ⟨_, rfl⟩
  have ol : os.length ≤ 1003 := by
    rw [← eos]
    refine Nat.le_trans optL_len ?_
    unfold piecesL
    rw [List.length_zip, List.length_append, List.length_append]
    replace hi1 : ins.length ≤ 1000 := hi1
    show min (1 + _) _ + 2 ≤ _
    omega
  replace q : ∀ H' p o, Kp hs H' → H' p = none → (OL ((bestL os).map dOp)).p (less H' om) o → Q (.ref p) (upd H' p o) := by
    rw [← eos]
    exact q
  refine s_seq ?_
  refine s_set (R := RD (.list (os.map dOp))) (n_e (EN.eqL (n_call (skn_spn (Rs := fun a : HD × Int × Nat × List Int => [RHouse C a.1, RD (.int a.2.1), RD (.int (a.2.2.1 : Int)), RD (.list (a.2.2.2.map PyData.int))]) (P := fun a H => insOk a.1.ls a.2.2.1 a.2.2.2 ∧ TabG H TF) (C := fun a => OL ((optL (cA a.1.ls a.2.2.1) (cA a.1.ls (a.2.2.1 + 1)) a.1.cs a.2.1 (piecesL a.1.ls a.2.2.1 a.2.2.2)).map dOp)) (h, a, s, ins)) (a_cons (e_var rfl) (a_cons (e_var rfl) (a_cons (e_var rfl) (a_cons (e_var rfl) a_nil)))) (fun H kp => ⟨⟨hs1, hi1, hp1⟩, kp.tab _ tF⟩)) (by rw [← eos]))) ?_
  dsimp only
  refine s_seq ?_
  refine s_new (C := OND keyT_SG P w dOp ([] : List (SG × Op))) (n_nnew keyT_SG) ?_
  show WC ⟨hs, less hs om, om, [.fz (RHouse C h), .fz (RD (.int a)), .fz (RD (.int (s : Int))), .fz (RD (.list (ins.map PyData.int))), .fz (RD (.list (os.map dOp))), .own (OND keyT_SG P w dOp ([] : List (SG × Op))), .any, .any]⟩ _
  dsimp only
  refine s_seq ?_
  refine s_forG (xs := os) (fun i γ => γ = [.fz (RHouse C h), .fz (RD (.int a)), .fz (RD (.int (s : Int))), .fz (RD (.list (ins.map PyData.int))), .fz (RD (.list (os.map dOp))), .own (OND keyT_SG P w dOp ((os.take i).foldl bestS [])), .any, .any]) (w_list (e_var rfl)) rfl ?_ ?_
  · rintro h1 i o γ kp hx rfl
    refine ⟨_, _, g_name, ?_⟩
    obtain ⟨B, eB⟩ : ∃ B, (os.take i).foldl bestS [] = B := ⟨_, rfl⟩
    have nx : (os.take (i + 1)).foldl bestS [] = bestS B o := by
      rw [List.take_add_one, hx, List.foldl_append, eB]
      rfl
    have bl := bestB_len (os.take i) []
    rw [eB, List.length_take] at bl
    replace bl : B.length ≤ 0 + min i os.length := bl
    rw [eB, nx]
    show WC ⟨hs, h1, om, [.fz (RHouse C h), .fz (RD (.int a)), .fz (RD (.int (s : Int))), .fz (RD (.list (ins.map PyData.int))), .fz (RD (.list (os.map dOp))), .own (OND keyT_SG P w dOp B), .fz (RD (dOp o)), .any]⟩ _
    dsimp only
    refine s_seq ?_
    refine s_set (R := RD (dSG (sgO o))) (Pk.E.eq (e_slT (xs := [PyData.int o.1, .int o.2.1, .int o.2.2.1, .bool o.2.2.2.1, eO dP o.2.2.2.2]) (enc := fun d => d) (lo := some 1) (hi := some 4) (e_var rfl) (p_some e_int) (p_some e_int)) rfl) ?_
    show WC ⟨hs, h1, om, [.fz (RHouse C h), .fz (RD (.int a)), .fz (RD (.int (s : Int))), .fz (RD (.list (ins.map PyData.int))), .fz (RD (.list (os.map dOp))), .own (OND keyT_SG P w dOp B), .fz (RD (dOp o)), .fz (RD (dSG (sgO o)))]⟩ _
    dsimp only
    refine s_if (x := !(getB B (sgO o)).isSome || decide (o.1 < ((getB B (sgO o)).getD o).1)) (t_or (t_T (e_ninO keyT_SG keyD_SG not rfl (e_var rfl))) (fun hx => by
      obtain ⟨x, ex⟩ := Option.isSome_iff_exists.mp (show (getB B (sgO o)).isSome = true by simpa using hx)
      rw [ex]
      exact t_T (e_op (o_cmpI0 (g := fun i j => decide (i < j)) (i := o.1) (j := x.1)) (e_op (o_ixT rfl) (e_var rfl) e_int) (e_op (o_ixT (ds := [.int x.1, .int x.2.1, .int x.2.2.1, .bool x.2.2.2.1, eO dP x.2.2.2.2]) rfl) (e_ngetO (enc := dOp) keyT_SG keyD_SG rfl ex (e_var rfl)) e_int)))) (fun z => ?_) (fun z => ?_)
    · refine s_nputO (enc := dOp) (x := o) (e := sgO o) keyT_SG keyD_SG rfl (e_var rfl) (e_var rfl) (by omega) ?_
      refine s_drop 6 ?_
      refine s_drop 7 ?_
      refine s_of ?_
      unfold bestS
      rw [if_pos z]
      rfl
    · refine s_pass ?_
      refine s_drop 6 ?_
      refine s_drop 7 ?_
      refine s_of ?_
      unfold bestS
      rw [if_neg (by rw [z]; exact Bool.false_ne_true)]
      rfl
  · rintro γ rfl
    rw [List.take_length]
    exact s_retNew (EN.eqL (n_lcM (xs := os) (enc := dOp) (p := fun o => decide (o = (getB (bestB os) (sgO o)).getD o)) (h := fun o => o) (encB := dOp) (is := [6]) (G := fun o => [.fz (RHouse C h), .fz (RD (.int a)), .fz (RD (.int (s : Int))), .fz (RD (.list (ins.map PyData.int))), .fz (RD (.list (os.map dOp))), .own (OND keyT_SG P w dOp (bestB os)), .fz (RD (dOp o)), .any]) (i_of (e_var rfl)) rfl (by decide) (fun _ o ho => g_name)
      (fun _ o ho => by
        obtain ⟨x, ex⟩ := Option.isSome_iff_exists.mp (bestB_some o ho)
        rw [ex]
        exact t_T (e_op (o_eqE (f := dOp) (a := o) (b := x) (hd := inferInstance) enc_Op (by decide) trivial trivial) (e_var rfl) (e_ngetO (enc := dOp) keyT_SG keyD_SG rfl ex (Pk.E.eq (e_slT (xs := [PyData.int o.1, .int o.2.1, .int o.2.2.1, .bool o.2.2.2.1, eO dP o.2.2.2.2]) (enc := fun d => d) (lo := some 1) (hi := some 4) (e_var rfl) (p_some e_int) (p_some e_int)) rfl)))) (fun _ o ho _ => e_var rfl) (by omega)) (by rw [List.map_id']; rfl)) q
end
section
open GxR NdefX PySem.Spec PyProof.Rows
variable {P : Program} {w : World} {K : PySem.W.Frag} {mg : Str → Option Value} {base : Heap}
abbrev insA (x : HD × TD × Int × Nat) : List Int := insideL x.2.1.ps x.2.2.1 (cA x.1.ls x.2.2.2) (cA x.1.ls (x.2.2.2 + 1))
abbrev optA (x : HD × TD × Int × Nat) : List Op := optL (cA x.1.ls x.2.2.2) (cA x.1.ls (x.2.2.2 + 1)) x.1.cs x.2.2.1 (piecesL x.1.ls x.2.2.2 (insA x))
abbrev spOo (C CT CP CIT TF : Addr) : Sp := SpN (Rs_marks_inside C CT CP CIT) (fun x H => P_marks_inside C CT CP CIT x H ∧ insOk x.1.ls x.2.2.2 (insA x) ∧ TabG H TF) fun x => OL ((optA x).map dOp)
theorem ok_options_of {C CT CP CIT TF f fM fO : Addr} {fd fdM fdO : FuncData} (F : Fun K "options_of" "options_of" s_options_of f fd)
    (GM : FnOk P w K mg base CX0 5 fM fdM ["house", "task", "aisle", "stretch"] (SpN (Rs_marks_inside C CT CP CIT) (P_marks_inside C CT CP CIT) (R_marks_inside C CT CP CIT))) (bM : Binds K fdM ["house", "task", "aisle", "stretch"] []) (gM : mg "marks_inside" = some (.ref fM)) (kM : PySem.W.keepIn K (.ref fM) = true)
    (GO : FnOk P w K mg base CX0 6 fO fdO ["house", "aisle", "stretch", "inside"] (spOb C TF)) (bO : Binds K fdO ["house", "aisle", "stretch", "inside"] []) (gO : mg "options_between" = some (.ref fO)) (kO : PySem.W.keepIn K (.ref fO) = true) :
    FnOk P w K mg base CX0 7 f fd ["house", "task", "aisle", "stretch"] (spOo C CT CP CIT TF) := by
  refine fn_okN F sc_options_of (fun _ => rfl) fun cdv A outer s H E0 hr => ?_
  have nd := sc_options_of.nd
  refine ⟨_, (pss_one (ps_ret (pe_call GO (by exact hr.mono (by decide)) (by rfl) gO kO bO .nil pass0 (pa_cons (pv 0) (pa_cons (pv 2) (pa_cons (pv 3) (pa_cons (pe_call GM (by exact hr.mono (by decide)) (by rfl) gM kM bM .nil pass0 (pa_cons (pv 0) (pa_cons (pv 1) (pa_cons (pv 2) (pa_cons (pv 3) pa_nil))))) pa_nil))))))), ?_⟩
  rintro ⟨h, t, a, s⟩ hs om Q ⟨hM, hI, tF⟩ q
  show WC ⟨hs, less hs om, om, [.fz (RHouse C h), .fz (RTask CT t), .fz (RD (.int a)), .fz (RD (.int (s : Int)))]⟩ _
  exact s_retNew (n_call (skn_spn (Rs := fun a : HD × Int × Nat × List Int => [RHouse C a.1, RD (.int a.2.1), RD (.int (a.2.2.1 : Int)), RD (.list (a.2.2.2.map PyData.int))]) (P := fun a H => insOk a.1.ls a.2.2.1 a.2.2.2 ∧ TabG H TF) (C := fun a => OL ((optL (cA a.1.ls a.2.2.1) (cA a.1.ls (a.2.2.1 + 1)) a.1.cs a.2.1 (piecesL a.1.ls a.2.2.1 a.2.2.2)).map dOp)) (h, a, s, insA (h, t, a, s)))
    (a_cons (e_var rfl) (a_cons (e_var rfl) (a_cons (e_var rfl) (a_cons (n_e (show EN _ _ (OL ((insA (h, t, a, s)).map PyData.int)) from n_call (skn_spn (Rs := Rs_marks_inside C CT CP CIT) (P := P_marks_inside C CT CP CIT) (C := R_marks_inside C CT CP CIT) (h, t, a, s)) (a_cons (e_var rfl) (a_cons (e_var rfl) (a_cons (e_var rfl) (a_cons (e_var rfl) a_nil)))) (fun _ _ => hM))) a_nil)))) (fun H kp => ⟨hI, kp.tab _ tF⟩)) q
abbrev spBo (C CT CP CIT TF : Addr) : Sp := SpN (Rs_marks_inside C CT CP CIT) (fun x H => P_marks_inside C CT CP CIT x H ∧ insOk x.1.ls x.2.2.2 (insA x) ∧ TabG H TF) fun x => OL ((bestL (optA x)).map dOp)
theorem ok_best_options {C CT CP CIT TF f fM fO : Addr} {fd fdM fdO : FuncData} (F : Fun K "best_options" "best_options" s_best_options f fd)
    (GM : FnOk P w K mg base CX0 5 fM fdM ["house", "task", "aisle", "stretch"] (SpN (Rs_marks_inside C CT CP CIT) (P_marks_inside C CT CP CIT) (R_marks_inside C CT CP CIT))) (bM : Binds K fdM ["house", "task", "aisle", "stretch"] []) (gM : mg "marks_inside" = some (.ref fM)) (kM : PySem.W.keepIn K (.ref fM) = true)
    (GO : FnOk P w K mg base CX0 7 fO fdO ["house", "aisle", "stretch", "inside"] (spBb C TF)) (bO : Binds K fdO ["house", "aisle", "stretch", "inside"] []) (gO : mg "best_between" = some (.ref fO)) (kO : PySem.W.keepIn K (.ref fO) = true) :
    FnOk P w K mg base CX0 8 f fd ["house", "task", "aisle", "stretch"] (spBo C CT CP CIT TF) := by
  refine fn_okN F sc_best_options (fun _ => rfl) fun cdv A outer s H E0 hr => ?_
  have nd := sc_best_options.nd
  refine ⟨_, (pss_one (ps_ret (pe_call GO (by exact hr.mono (by decide)) (by rfl) gO kO bO .nil pass0 (pa_cons (pv 0) (pa_cons (pv 2) (pa_cons (pv 3) (pa_cons (pe_call GM (by exact hr.mono (by decide)) (by rfl) gM kM bM .nil pass0 (pa_cons (pv 0) (pa_cons (pv 1) (pa_cons (pv 2) (pa_cons (pv 3) pa_nil))))) pa_nil))))))), ?_⟩
  rintro ⟨h, t, a, s⟩ hs om Q ⟨hM, hI, tF⟩ q
  show WC ⟨hs, less hs om, om, [.fz (RHouse C h), .fz (RTask CT t), .fz (RD (.int a)), .fz (RD (.int (s : Int)))]⟩ _
  exact s_retNew (n_call (skn_spn (Rs := fun a : HD × Int × Nat × List Int => [RHouse C a.1, RD (.int a.2.1), RD (.int (a.2.2.1 : Int)), RD (.list (a.2.2.2.map PyData.int))]) (P := fun a H => insOk a.1.ls a.2.2.1 a.2.2.2 ∧ TabG H TF) (C := fun a => OL ((bestL (optL (cA a.1.ls a.2.2.1) (cA a.1.ls (a.2.2.1 + 1)) a.1.cs a.2.1 (piecesL a.1.ls a.2.2.1 a.2.2.2))).map dOp)) (h, a, s, insA (h, t, a, s)))
    (a_cons (e_var rfl) (a_cons (e_var rfl) (a_cons (e_var rfl) (a_cons (n_e (show EN _ _ (OL ((insA (h, t, a, s)).map PyData.int)) from n_call (skn_spn (Rs := Rs_marks_inside C CT CP CIT) (P := P_marks_inside C CT CP CIT) (C := R_marks_inside C CT CP CIT) (h, t, a, s)) (a_cons (e_var rfl) (a_cons (e_var rfl) (a_cons (e_var rfl) (a_cons (e_var rfl) a_nil)))) (fun _ _ => hM))) a_nil)))) (fun H kp => ⟨hI, kp.tab _ tF⟩)) q
end
section
open GxR NdefX PySem.Spec PyProof.Rows
/-- the pieces of a stretch: from each height to the next -/
def zpL (lo : Int) (ins : List Int) (hi : Int) : List Pl := (lo :: ins).zip (ins ++ [hi])
theorem zpL_cons (lo i : Int) (r : List Int) (hi : Int) : zpL lo (i :: r) hi = (lo, i) :: zpL i r hi := rfl
/-- lo < each < next < hi -/
def Rising (lo : Int) (ins : List Int) (hi : Int) : Prop := (lo :: (ins ++ [hi])).Pairwise (· < ·)
theorem Rising.tail {lo i hi : Int} {r : List Int} (h : Rising lo (i :: r) hi) : Rising i r hi ∧ lo < i ∧ lo < hi := by
  have h1 := List.pairwise_cons.mp h
  exact ⟨h1.2, h1.1 i (by simp), h1.1 hi (by simp)⟩
theorem Rising.lt {lo hi : Int} {r : List Int} (h : Rising lo r hi) : lo < hi := (List.pairwise_cons.mp h).1 hi (by simp)
theorem zpL_mem {hi : Int} {p : Pl} : ∀ {ins : List Int} {lo : Int}, Rising lo ins hi → p ∈ zpL lo ins hi → lo ≤ p.1 ∧ p.1 < p.2 ∧ p.2 ≤ hi := fun {ins} => by
  induction ins with
  | nil =>
    intro lo h m
    have e : p = (lo, hi) := List.mem_singleton.mp m
    subst e
    exact ⟨Int.le_refl _, h.lt, Int.le_refl _⟩
  | cons i r ih =>
    intro lo h m
    rw [zpL_cons] at m
    have ht := h.tail
    rcases List.mem_cons.mp m with z | z
    · subst z
      have := ht.1.lt
      exact ⟨Int.le_refl _, ht.2.1, by show i ≤ hi; omega⟩
    · have := ih ht.1 z
      omega
theorem zpL_sum {hi : Int} : ∀ {ins : List Int} {lo : Int}, ((zpL lo ins hi).map fun p => p.2 - p.1).sum = hi - lo := fun {ins} => by
  induction ins with
  | nil => intro lo; simp [zpL]
  | cons i r ih =>
    intro lo
    rw [zpL_cons, List.map_cons, List.sum_cons, ih]
    show i - lo + (hi - i) = _
    omega
theorem zpL_nd {hi : Int} : ∀ {ins : List Int} {lo : Int}, Rising lo ins hi → (zpL lo ins hi).Nodup := fun {ins} => by
  induction ins with
  | nil => intro lo _; simp [zpL]
  | cons i r ih =>
    intro lo h
    rw [zpL_cons]
    have ht := h.tail
    refine List.nodup_cons.mpr ⟨fun m => ?_, ih ht.1⟩
    have := (zpL_mem ht.1 m).1
    have := ht.2.1
    replace this : lo < i := this
    have t2 : i ≤ lo := (zpL_mem ht.1 m).1
    omega
theorem zpL_first {hi lo : Int} {ins : List Int} {p : Pl} (h : Rising lo ins hi) (m : p ∈ zpL lo ins hi) : (p = ix (zpL lo ins hi) 0) ↔ p.1 = lo := by
  cases ins with
  | nil =>
    have e : p = (lo, hi) := List.mem_singleton.mp m
    subst e
    exact ⟨fun _ => rfl, fun _ => rfl⟩
  | cons i r =>
    rw [zpL_cons] at m ⊢
    have ht := h.tail
    have e0 : ix ((lo, i) :: zpL i r hi) 0 = (lo, i) := ix_nat (xs := (lo, i) :: zpL i r hi) (j := 0) rfl
    rw [e0]
    rcases List.mem_cons.mp m with z | z
    · exact ⟨fun e => by rw [e], fun _ => z⟩
    · refine ⟨fun e => by rw [e], fun e => ?_⟩
      have t2 := (zpL_mem ht.1 z).1
      have t3 := ht.2.1
      omega
theorem zpL_end {hi : Int} : ∀ {ins : List Int} {lo : Int}, Rising lo ins hi → ∃ l y, zpL lo ins hi = l ++ [(y, hi)] ∧ ∀ q ∈ l, q.2 < hi := fun {ins} => by
  induction ins with
  | nil => exact fun {lo} _ => ⟨[], lo, rfl, fun _ z => nomatch z⟩
  | cons i r ih =>
    intro lo h
    have ht := h.tail
    obtain ⟨l, y, e, q⟩ := ih ht.1
    refine ⟨(lo, i) :: l, y, by rw [zpL_cons, e]; rfl, fun p hp => ?_⟩
    rcases List.mem_cons.mp hp with z | z
    · subst z; exact ht.1.lt
    · exact q p z
theorem zpL_last {hi lo : Int} {ins : List Int} {p : Pl} (h : Rising lo ins hi) (m : p ∈ zpL lo ins hi) : (p = ix (zpL lo ins hi) (-1)) ↔ p.2 = hi := by
  obtain ⟨l, y, e, q⟩ := zpL_end h
  rw [e] at m ⊢
  rw [ix_last]
  rcases List.mem_append.mp m with z | z
  · have := q p z
    exact ⟨fun e => by rw [e], fun e => by omega⟩
  · have z := List.mem_singleton.mp z
    exact ⟨fun e => by rw [e], fun _ => z⟩
theorem filt_ne {α : Type} [DecidableEq α] {sh : List α} {p : α} (nd : sh.Nodup) : (((sh.filter fun o => !decide (o = p)).length : Int) = 0) ↔ sh ∈ [[], [p]] := by
  have key : (sh.filter fun o => !decide (o = p)).length = 0 ↔ ∀ o ∈ sh, o = p := by
    rw [List.length_eq_zero_iff, List.filter_eq_nil_iff]
    exact ⟨fun h o ho => by simpa using h o ho, fun h o ho => by simpa using h o ho⟩
  have k2 : (((sh.filter fun o => !decide (o = p)).length : Int) = 0) ↔ (sh.filter fun o => !decide (o = p)).length = 0 := by omega
  rw [k2, key]
  constructor
  · intro h
    match sh, nd, h with
    | [], _, _ => simp
    | [a], _, h => rw [h a (by simp)]; simp
    | a :: b :: l, nd, h =>
      have e1 := h a (by simp)
      have e2 := h b (by simp)
      have n1 := (List.nodup_cons.mp nd).1
      exact absurd (show a ∈ b :: l by rw [e1, e2]; simp) n1
  · intro h o ho
    rcases List.mem_cons.mp h with z | z
    · rw [z] at ho; exact nomatch ho
    · rw [List.mem_singleton.mp z] at ho
      exact List.mem_singleton.mp ho
/-- the law's step is the program's -/
theorem optW_law0 {lo hi : Int} {ins : List Int} {p : Pl} (h : Rising lo ins hi) (m : p ∈ zpL lo ins hi) :
    ((2 * (hi - lo - p.2 + p.1), 2 * (if (!decide (p = ix (zpL lo ins hi) 0)) = true then 1 else 0), 2 * (if (!decide (p = ix (zpL lo ins hi) (-1))) = true then 1 else 0), false, some p) : Op) = optW lo hi p := by
  have f := zpL_first h m
  have l := zpL_last h m
  unfold optW
  have e1 : 2 * (hi - lo - p.2 + p.1) = 2 * (hi - lo - (p.2 - p.1)) := by omega
  rw [e1]
  congr 1
  congr 1
  · by_cases c : p.1 = lo
    · rw [decide_eq_true (f.mpr c), decide_eq_true c]; rfl
    · rw [decide_eq_false (fun z => c (f.mp z)), decide_eq_false c]; rfl
  · congr 1
    by_cases c : p.2 = hi
    · rw [decide_eq_true (l.mpr c), decide_eq_true c]; rfl
    · rw [decide_eq_false (fun z => c (l.mp z)), decide_eq_false c]; rfl
theorem optS_mem {lo hi : Int} {shut : List Pl} {x : Op} : ∀ {l : List Pl} {os : List Op}, x ∈ l.foldl (optS lo hi shut) os → x ∈ os ∨ ∃ p ∈ l, x = optW lo hi p := fun {l} => by
  induction l with
  | nil => exact fun h => .inl h
  | cons p l ih =>
    intro os h
    rcases ih (os := optS lo hi shut os p) h with z | ⟨q, hq, e⟩
    · unfold optS at z
      split at z
      · rcases List.mem_append.mp z with y | y
        · exact .inl y
        · exact .inr ⟨p, by simp, List.mem_singleton.mp y⟩
      · exact .inl z
    · exact .inr ⟨q, List.mem_cons_of_mem _ hq, e⟩
theorem opt0_mem {lo hi : Int} {shut : List Pl} {x : Op} (h : x ∈ opt0 lo hi shut) : x = (hi - lo, 1, 1, true, none) ∨ x = (2 * (hi - lo), 2, 2, true, none) := by
  unfold opt0 at h
  split at h
  · rcases List.mem_cons.mp h with z | z
    · exact .inl z
    · exact .inr (List.mem_singleton.mp z)
  · exact nomatch h
theorem optL_nd {lo hi a : Int} {cs : List (Str × Int × Int)} {ps : List Pl} (nd : ps.Nodup) : (optL lo hi cs a ps).Nodup := by
  have key : ∀ (l : List Pl) (os : List Op), l.Nodup → os.Nodup → (∀ p ∈ l, optW lo hi p ∉ os) → (l.foldl (optS lo hi (shutL cs a ps)) os).Nodup := fun l => by
    induction l with
    | nil => exact fun _ _ h _ => h
    | cons p l ih =>
      intro os hl ho hn
      have hp := List.nodup_cons.mp hl
      refine ih _ hp.2 ?_ fun q hq m => ?_
      · unfold optS
        split
        · exact List.nodup_append.mpr ⟨ho, by simp, fun x hx y hy e => by
            rw [List.mem_singleton.mp hy] at e
            exact hn p (by simp) (e ▸ hx)⟩
        · exact ho
      · unfold optS at m
        split at m
        · rcases List.mem_append.mp m with z | z
          · exact hn q (List.mem_cons_of_mem _ hq) z
          · have e := congrArg (fun o : Op => o.2.2.2.2) (List.mem_singleton.mp z)
            have e : some q = some p := e
            injection e with e
            exact hp.1 (e ▸ hq)
        · exact hn q (List.mem_cons_of_mem _ hq) m
  refine key ps _ nd ?_ fun p hp m => ?_
  · unfold opt0
    split
    · refine List.nodup_cons.mpr ⟨fun z => ?_, by simp⟩
      have e := congrArg (fun o : Op => o.2.1) (List.mem_singleton.mp z)
      have e : (1 : Int) = 2 := e
      omega
    · exact .nil
  · rcases opt0_mem m with z | z
    · exact nomatch congrArg (fun o : Op => o.2.2.2.2) z
    · exact nomatch congrArg (fun o : Op => o.2.2.2.2) z
def pmin (os : List Op) (o : Op) : Bool := os.all fun y => !decide (sgO y = sgO o) || decide (o.1 ≤ y.1)
theorem pmin_iff {os : List Op} {o : Op} : pmin os o = true ↔ ∀ y ∈ os, sgO y = sgO o → o.1 ≤ y.1 := by
  unfold pmin
  rw [List.all_eq_true]
  refine forall_congr' fun y => imp_congr_right fun _ => ?_
  by_cases c : sgO y = sgO o <;> simp [c]
theorem bestB_snoc (l : List Op) (z : Op) : bestB (l ++ [z]) = bestS (bestB l) z := by unfold bestB; rw [List.foldl_append]; rfl
theorem bestS_get (B : List (SG × Op)) (z : Op) (g : SG) : getB (bestS B z) g = if g = sgO z ∧ ((getB B g).all fun x => decide (z.1 < x.1)) = true then some z else getB B g := by
  by_cases e : g = sgO z
  · subst e
    unfold bestS
    cases h : getB B (sgO z) with
    | none =>
      rw [if_pos (c := (!Option.isSome none || decide (z.1 < ((none : Option Op).getD z).1)) = true) rfl, getB_put]
      simp
    | some x =>
      by_cases c : z.1 < x.1
      · rw [if_pos (c := (!(some x).isSome || decide (z.1 < ((some x : Option Op).getD z).1)) = true) (by simp [c]), getB_put]
        simp [c]
      · rw [if_neg (c := (!(some x).isSome || decide (z.1 < ((some x : Option Op).getD z).1)) = true) (by simp [c]), h]
        simp [c]
  · rw [if_neg (fun c => e c.1)]
    unfold bestS
    by_cases c : (!(getB B (sgO z)).isSome || decide (z.1 < ((getB B (sgO z)).getD z).1)) = true
    · rw [if_pos c, getB_put, if_neg e]
    · rw [if_neg c]
theorem bestB_find : ∀ (n : Nat) (os : List Op), os.length = n → ∀ g, getB (bestB os) g = os.find? fun o => decide (sgO o = g) && pmin os o := fun n => by
  induction n with
  | zero =>
    intro os h g
    rw [List.length_eq_zero_iff.mp h]
    rfl
  | succ n ih =>
    intro os h g
    obtain ⟨l, z, rfl⟩ : ∃ l z, os = l ++ [z] := ⟨os.dropLast, os.getLast (by intro e; rw [e] at h; exact nomatch h), (List.dropLast_concat_getLast _).symm⟩
    have hl : l.length = n := by rw [List.length_append, List.length_singleton] at h; omega
    have I := ih l hl g
    rw [bestB_snoc, bestS_get, List.find?_append]
    by_cases e : g = sgO z
    · subst e
      cases x : getB (bestB l) (sgO z) with
      | none =>
        have no : ∀ o ∈ l, sgO o ≠ sgO z := fun o ho c => by
          have s := bestB_some o ho
          rw [c, x] at s
          exact nomatch s
        have f0 : (l.find? fun o => decide (sgO o = sgO z) && pmin (l ++ [z]) o) = none := List.find?_eq_none.mpr fun o ho => by simp [no o ho]
        rw [if_pos ⟨rfl, rfl⟩, f0, Option.none_or, List.find?_cons]
        have : pmin (l ++ [z]) z = true := pmin_iff.mpr fun y hy c => by
          rcases List.mem_append.mp hy with m | m
          · exact absurd c (no y m)
          · rw [List.mem_singleton.mp m]; exact Int.le_refl _
        rw [this, decide_eq_true rfl]
        rfl
      | some b =>
        rw [x] at I
        have fb := List.find?_some I.symm
        have mb := List.mem_of_find?_eq_some I.symm
        simp only [Bool.and_eq_true, decide_eq_true_eq] at fb
        have pb := pmin_iff.mp fb.2
        by_cases c : z.1 < b.1
        · rw [if_pos ⟨rfl, by simp [c]⟩]
          have f0 : (l.find? fun o => decide (sgO o = sgO z) && pmin (l ++ [z]) o) = none := List.find?_eq_none.mpr fun o ho k => by
            simp only [Bool.and_eq_true, decide_eq_true_eq] at k
            have k1 := pmin_iff.mp k.2 z (by simp) k.1.symm
            have k2 := pb o ho (k.1.trans fb.1.symm)
            omega
          rw [f0, Option.none_or, List.find?_cons]
          have : pmin (l ++ [z]) z = true := pmin_iff.mpr fun y hy e => by
            rcases List.mem_append.mp hy with m | m
            · have := pb y m (e.trans fb.1.symm)
              omega
            · rw [List.mem_singleton.mp m]; exact Int.le_refl _
          rw [this, decide_eq_true rfl]
          rfl
        · rw [if_neg (fun k => c (by simpa using k.2)), I]
          have same : (fun o : Op => decide (sgO o = sgO z) && pmin (l ++ [z]) o) = fun o => decide (sgO o = sgO z) && pmin l o := by
            funext o
            by_cases d : sgO o = sgO z
            · rw [decide_eq_true d, Bool.true_and, Bool.true_and, Bool.eq_iff_iff, pmin_iff, pmin_iff]
              constructor
              · exact fun k y hy => k y (List.mem_append_left _ hy)
              · intro k y hy e
                rcases List.mem_append.mp hy with m | m
                · exact k y m e
                · rw [List.mem_singleton.mp m]
                  have := k b mb (fb.1.trans d.symm)
                  omega
            · rw [decide_eq_false d]; rfl
          rw [same, ← I, Option.some_or]
    · rw [if_neg (fun c => e c.1), I]
      have same : (fun o : Op => decide (sgO o = g) && pmin (l ++ [z]) o) = fun o => decide (sgO o = g) && pmin l o := by
        funext o
        by_cases d : sgO o = g
        · rw [decide_eq_true d, Bool.true_and, Bool.true_and, Bool.eq_iff_iff, pmin_iff, pmin_iff]
          constructor
          · exact fun k y hy => k y (List.mem_append_left _ hy)
          · intro k y hy c
            rcases List.mem_append.mp hy with m | m
            · exact k y m c
            · rw [List.mem_singleton.mp m] at c
              exact absurd (d.symm.trans c.symm) e
        · rw [decide_eq_false d]; rfl
      rw [same, List.find?_cons]
      rw [decide_eq_false (show ¬ sgO z = g from fun c => e c.symm), Bool.false_and, List.find?_nil, Option.or_none]
def goodB (os : List Op) (o : Op) : Bool := decide (o = (getB (bestB os) (sgO o)).getD o)
/-- the law's way to take one in -/
theorem best_step {os l r : List Op} {o : Op} (e : os = l ++ o :: r) (nd : os.Nodup) :
    (pmin os o && decide ((((l.filter (goodB os)).filter fun x => decide (sgO x = sgO o)).length : Int) = 0)) = goodB os o := by
  have hm : o ∈ os := by rw [e]; simp
  have f := bestB_find os.length os rfl (sgO o)
  have s := bestB_some o hm
  have nl : o ∉ l := fun z => by
    rw [e] at nd
    exact (List.nodup_append.mp nd).2.2 o z o (by simp) rfl
  have gd : goodB os o = true ↔ getB (bestB os) (sgO o) = some o := by
    unfold goodB
    obtain ⟨x, hx⟩ := Option.isSome_iff_exists.mp s
    rw [hx]
    show decide (o = x) = true ↔ some x = some o
    rw [decide_eq_true_eq]
    exact ⟨fun h => by rw [h], fun h => by injection h with h; exact h.symm⟩
  cases pm : pmin os o with
  | false =>
    rw [Bool.false_and]
    cases g : goodB os o with
    | false => rfl
    | true =>
      rw [f] at gd
      have k := List.find?_some (gd.mp g)
      rw [pm, Bool.and_false] at k
      exact nomatch k
  | true =>
    rw [Bool.true_and, Bool.eq_iff_iff, gd, decide_eq_true_eq]
    have fo : os.find? (fun x => decide (sgO x = sgO o) && pmin os x) = (l.find? fun x => decide (sgO x = sgO o) && pmin os x).or (some o) := by
      conv => lhs; arg 2; rw [e]
      rw [List.find?_append, List.find?_cons, decide_eq_true rfl, pm]
      rfl
    have k2 : ((((l.filter (goodB os)).filter fun x => decide (sgO x = sgO o)).length : Int) = 0) ↔ ((l.filter (goodB os)).filter fun x => decide (sgO x = sgO o)).length = 0 := by omega
    rw [k2, List.length_eq_zero_iff, List.filter_eq_nil_iff, f, fo]
    cases h : l.find? (fun x => decide (sgO x = sgO o) && pmin os x) with
    | none =>
      rw [Option.none_or]
      refine ⟨fun _ => rfl, fun _ y hy c => ?_⟩
      have my := List.mem_filter.mp hy
      have c : sgO y = sgO o := by simpa using c
      have mo : y ∈ os := by rw [e]; exact List.mem_append_left _ my.1
      have fy := bestB_find os.length os rfl (sgO y)
      obtain ⟨x, hx⟩ := Option.isSome_iff_exists.mp (bestB_some y mo)
      have gy := my.2
      unfold goodB at gy
      rw [hx] at gy
      have gy : y = x := by simpa using gy
      subst gy
      rw [hx] at fy
      have k := List.find?_some fy.symm
      simp only [Bool.and_eq_true, decide_eq_true_eq] at k
      have := List.find?_eq_none.mp h y my.1
      simp [c, k.2] at this
    | some y =>
      rw [Option.some_or]
      have my := List.mem_of_find?_eq_some h
      have ky := List.find?_some h
      simp only [Bool.and_eq_true, decide_eq_true_eq] at ky
      refine ⟨fun z => ?_, fun z => ?_⟩
      · have gy : goodB os y = true := by
          unfold goodB
          rw [ky.1, f, fo, h, Option.some_or]
          exact decide_eq_true rfl
        have := z y (List.mem_filter.mpr ⟨my, gy⟩)
        simp [ky.1] at this
      · injection z with z
        exact absurd (z ▸ my) nl
theorem pmin_law (os : List Op) (o : Op) : decide ((((os.filter fun y => (decide (sgO y = sgO o) && decide (y.1 < o.1))).length : Int)) = 0) = pmin os o := by
  rw [Bool.eq_iff_iff, pmin_iff, decide_eq_true_eq]
  have k2 : (((os.filter fun y => (decide (sgO y = sgO o) && decide (y.1 < o.1))).length : Int) = 0) ↔ (os.filter fun y => (decide (sgO y = sgO o) && decide (y.1 < o.1))).length = 0 := by omega
  rw [k2, List.length_eq_zero_iff, List.filter_eq_nil_iff]
  refine forall_congr' fun y => imp_congr_right fun _ => ?_
  by_cases c : sgO y = sgO o
  · simp only [c, decide_true, Bool.true_and, decide_eq_true_eq, true_implies]
    omega
  · simp [c]
end
section
open GxR NdefX PySem.Spec PyProof.Rows
def menuE (b : Bool) (row : List Int) : List Int := (if b = true then [0] else [0, 1, 2]).filter fun k => row.isEmpty || decide ((k + ix row (-1)) % 2 = 0)
def evS (rows : List (List Int)) (b : Bool) : List (List Int) := rows.flatMap fun row => (menuE b row).map fun k => row ++ [k]
def evenL (bs : List Bool) : List (List Int) := bs.foldl evS [[]]
def belowF (row : List Int) : Int := if false ∈ row.map (fun k => decide (0 < k)) then (((row.map fun k => decide (0 < k)).idxOf false : Nat) : Int) else (row.length : Int)
def aboveF (row : List Int) : Int := if false ∈ row.map (fun k => decide (0 < k)) then (row.length : Int) - (((row.map fun k => decide (0 < k)).reverse.idxOf false : Nat) : Int) else 0
def hangF (row : List Int) (ins : List Int) (low : Int) : Bool :=
  if ((rgI 0 row.length).any fun k => (ix (row.map fun k => decide (0 < k)) k && (decide (belowF row ≤ k) && decide (k < aboveF row)))) = true then false
  else ins.all fun h => (decide (h - low ≤ belowF row) || decide (aboveF row ≤ h - low))
def endsF (row : List Int) (o : Op) : Bool := (decide (o.2.1 ≤ ix row 0) && (decide (o.2.2.1 ≤ ix row (-1)) && (decide ((ix row 0 - o.2.1) % 2 = 0) && decide ((ix row (-1) - o.2.2.1) % 2 = 0))))
def goodF (row : List Int) (o : Op) : Bool := (endsF row o && (decide (o.1 ≤ row.sum) && (o.2.2.2.1 || decide (0 ∈ row))))
def boundF (bs : List Bool) (ins : List Int) (os : List Op) : Bool := (evenL bs).all fun row => !hangF row ins 0 || decide (true ∈ os.map (goodF row))
/-- which links are free, by a list -/
def freeB (bs : List Bool) (p : Pl) : Bool := (rgI p.1 (p.2 - p.1).toNat).all fun k => !(bs.getD k.toNat false)
def optB (n : Int) (bs : List Bool) (ps : List Pl) : List Op := ps.foldl (optS 0 n (ps.filter fun p => !freeB bs p)) (opt0 0 n (ps.filter fun p => !freeB bs p))
def insB (js : List Bool) (m : Nat) : List Int := (rgI 1 m).filter fun k => js.getD (k - 1).toNat false
def chkB (m : Nat) (bs js : List Bool) : Bool := boundF bs (insB js m) (bestL (optB ((m : Int) + 1) bs (zpL 0 (insB js m) ((m : Int) + 1))))
def allB : Nat → List (List Bool)
  | 0 => [[]]
  | n + 1 => (allB n).flatMap fun l => [false :: l, true :: l]
theorem mem_allB : ∀ {n : Nat} {l : List Bool}, l.length = n → l ∈ allB n
  | 0, l, h => by rw [List.length_eq_zero_iff.mp h]; exact List.mem_singleton.mpr rfl
  | n + 1, [], h => nomatch h
  | n + 1, b :: l, h => List.mem_flatMap.mpr ⟨l, mem_allB (by simpa using h), by cases b <;> simp⟩
theorem small_all : ((List.range 5).all fun m => (allB (m + 1)).all fun bs => (allB m).all fun js => chkB m bs js) = true := by decide +kernel
theorem small_ok {m : Nat} {bs js : List Bool} (hm : m < 5) (h1 : bs.length = m + 1) (h2 : js.length = m) : chkB m bs js = true :=
  List.all_eq_true.mp (List.all_eq_true.mp (List.all_eq_true.mp small_all m (List.mem_range.mpr hm)) bs (mem_allB h1)) js (mem_allB h2)
end
section
open GxR NdefX PySem.Spec PyProof.Rows
variable {P : Program} {w : World} {K : PySem.W.Frag} {mg : Str → Option Value} {base : Heap}
theorem rise_between (ps : List Pl) (a : Int) {lo hi : Int} (h : lo < hi) : Rising lo (betweenL ps a lo hi) hi := by
  have m : ∀ k ∈ betweenL ps a lo hi, lo < k ∧ k < hi := fun k hk => by
    unfold betweenL at hk
    have := rgI_mem.mp (List.mem_filter.mp hk).1
    omega
  have pw : (betweenL ps a lo hi).Pairwise (· < ·) := by
    unfold betweenL rgI
    refine List.Pairwise.filter _ ?_
    rw [List.pairwise_map]
    refine List.pairwise_lt_range.imp fun {x y} h => ?_
    show lo + 1 + (x : Int) < lo + 1 + (y : Int)
    omega
  refine List.pairwise_cons.mpr ⟨fun k hk => ?_, List.pairwise_append.mpr ⟨pw, List.pairwise_singleton _ _, fun x hx y hy => ?_⟩⟩
  · rcases List.mem_append.mp hk with z | z
    · exact (m k z).1
    · rw [List.mem_singleton.mp z]; exact h
  · rw [List.mem_singleton.mp hy]; exact (m x hx).2
theorem cA_lt {ls : List Int} {s : Nat} (h : Lens ls) (hs : s < ls.length) : cA ls s < cA ls (s + 1) := by
  unfold cA
  rw [List.take_succ_eq_append_getElem hs, List.sum_append]
  have := h _ (List.getElem_mem hs)
  simp
  omega
theorem zpL_len (lo : Int) (ins : List Int) (hi : Int) : (zpL lo ins hi).length ≤ ins.length + 1 := by
  unfold zpL
  rw [List.length_zip]
  simp
theorem opt0_T {lo hi : Int} {shut : List Pl} (h : (shut.length : Int) = 0) : opt0 lo hi shut = [(hi - lo, 1, 1, true, none), (2 * (hi - lo), 2, 2, true, none)] := by
  have : shut = [] := List.length_eq_zero_iff.mp (by omega)
  subst this
  rfl
theorem opt0_F {lo hi : Int} {shut : List Pl} (h : ¬ (shut.length : Int) = 0) : opt0 lo hi shut = [] := by
  cases shut with
  | nil => exact absurd rfl h
  | cons p l => rfl
theorem opt_len {lo hi : Int} {shut pcs : List Pl} {fs : List Op} {i : Nat} (h : fs = (pcs.take i).foldl (optS lo hi shut) (opt0 lo hi shut)) : fs.length ≤ 2 + pcs.length := by
  rw [h]
  have a := optS_len lo hi shut (pcs.take i) (opt0 lo hi shut)
  have l0 : (opt0 lo hi shut).length ≤ 2 := by
    unfold opt0
    split
    · exact Nat.le_refl _
    · exact Nat.zero_le _
  rw [List.length_take] at a
  omega
theorem opt_take {lo hi : Int} {shut pcs : List Pl} {os0 : List Op} {i : Nat} {p : Pl} (hx : pcs[i]? = some p) : (pcs.take (i + 1)).foldl (optS lo hi shut) os0 = optS lo hi shut ((pcs.take i).foldl (optS lo hi shut) os0) p := by
  rw [List.take_add_one, hx, List.foldl_append]
  rfl
theorem opt_stepT {lo hi : Int} {shut pcs : List Pl} {fs os0 : List Op} {i : Nat} {p : Pl} (h : fs = (pcs.take i).foldl (optS lo hi shut) os0) (hx : pcs[i]? = some p) (nd : shut.Nodup)
    (c : decide ((((shut.filter fun o => (!decide (o = p))).map fun o => o).length : Int) = 0) = true) : fs ++ [optW lo hi p] = (pcs.take (i + 1)).foldl (optS lo hi shut) os0 := by
  rw [opt_take hx, ← h]
  rw [List.map_id'] at c
  unfold optS
  rw [if_pos (decide_eq_true ((filt_ne nd).mp (of_decide_eq_true c)))]
theorem opt_stepF {lo hi : Int} {shut pcs : List Pl} {fs os0 : List Op} {i : Nat} {p : Pl} (h : fs = (pcs.take i).foldl (optS lo hi shut) os0) (hx : pcs[i]? = some p) (nd : shut.Nodup)
    (c : decide ((((shut.filter fun o => (!decide (o = p))).map fun o => o).length : Int) = 0) = false) : fs = (pcs.take (i + 1)).foldl (optS lo hi shut) os0 := by
  rw [opt_take hx, ← h]
  rw [List.map_id'] at c
  unfold optS
  rw [if_neg (fun z => of_decide_eq_false c ((filt_ne nd).mpr (of_decide_eq_true z)))]
theorem optW_law {lo hi : Int} {ins : List Int} {pcs : List Pl} {p : Pl} (h : Rising lo ins hi) (e : zpL lo ins hi = pcs) (m : p ∈ pcs) :
    ((2 * (hi - lo - p.2 + p.1), 2 * (if (!decide (p = ix pcs 0)) = true then 1 else 0), 2 * (if (!decide (p = ix pcs (-1))) = true then 1 else 0), false, some p) : Op) = optW lo hi p := by
  rw [← e] at m ⊢
  exact optW_law0 h m
def Rs__law_options  : (List Int) × (List Int) × (List (Str × Int × Int)) × Pl × Pl × (List Pl) × Int × Nat → List Rel := fun x => [(RD ((eT3 (eL PyData.int) (eL PyData.int) (eL dLk)) (x.1, x.2.1, x.2.2.1))), (RD ((eT3 dP dP (eL dP)) (x.2.2.2.1, x.2.2.2.2.1, x.2.2.2.2.2.1))), (RD (.int x.2.2.2.2.2.2.1)), (RD (.int (x.2.2.2.2.2.2.2 : Int)))]
def P__law_options  : (List Int) × (List Int) × (List (Str × Int × Int)) × Pl × Pl × (List Pl) × Int × Nat → Hp → Prop := fun x H => (x.2.2.2.2.2.2.2 < x.1.length ∧ x.1.length ≤ 2 ∧ Lens x.1) ∧ ∀ c ∈ x.2.2.1, PyData.strOk c.1 = true
def R__law_options  : (List Int) × (List Int) × (List (Str × Int × Int)) × Pl × Pl × (List Pl) × Int × Nat → Own := fun x => OL ((optL (cA x.1 x.2.2.2.2.2.2.2) (cA x.1 (x.2.2.2.2.2.2.2 + 1)) x.2.2.1 x.2.2.2.2.2.2.1 (piecesL x.1 x.2.2.2.2.2.2.2 (betweenL x.2.2.2.2.2.1 x.2.2.2.2.2.2.1 (cA x.1 x.2.2.2.2.2.2.2) (cA x.1 (x.2.2.2.2.2.2.2 + 1))))).map dOp)
theorem ok__law_options {f : Addr} {fd : FuncData} (F : Fun K "_law_options" "_law_options" s__law_options f fd) (t__law_pieces : TopD P w K mg base 4 "_law_pieces" ["house", "task", "aisle", "stretch"] (SpN (Rs__law_pieces ) (P__law_pieces ) (R__law_pieces ))) (z_sum : mg "sum" = none) (t__law_free : TopD P w K mg base 1 "_law_free" ["house", "aisle", "piece"] (Sps (Rs__law_free ) (P__law_free ) (R__law_free ))) (z_len : mg "len" = none) (z_int : mg "int" = none) : FnOk P w K mg base CX0 5 f fd ["house", "task", "aisle", "stretch"] (SpN (Rs__law_options ) (P__law_options ) (R__law_options )) := by
  refine fn_okN F sc__law_options (fun _ => rfl) fun cdv A outer s H E0 hr => ?_
  have nd := sc__law_options.nd
  refine ⟨_, (pss_cons (ps_set (i := 4) nd rfl (.inl rfl) (pe_call t__law_pieces.G (by exact hr.mono (by decide)) (by rfl) t__law_pieces.g t__law_pieces.kp t__law_pieces.b .nil pass0 (pa_cons (pv 0) (pa_cons (pv 1) (pa_cons (pv 2) (pa_cons (pv 3) pa_nil))))))
      (pss_cons (ps_set (i := 5) nd rfl (.inl rfl) (pe_callB (cr_sum rfl) (by rfl) z_sum (by decide +kernel) (pa_cons (pe_lc (own := [("low", 9), ("high", 10)]) (g := (gTup K 2 (gCons (gName 9) (gCons (gName 10) gNil)))) (tt := tYes) rfl nd (pi_list (pv 4)) (blkOk_by (N := ["house", "task", "aisle", "stretch", "pieces", "whole", "shut", "found", "piece", "low", "high", "one"]) (sc := defScope s__law_options) (by decide +kernel)) (fun _ _ _ _ _ => (show PG _ _ (gTup K 2 (gCons (gName 9) (gCons (gName 10) gNil))) from pg_tup rfl (pgs_cons (pg_name (i := 9) nd rfl (.inl rfl)) (pgs_cons (pg_name (i := 10) nd rfl (.inl rfl)) pgs_nil)))) (fun _ _ _ _ _ => pts_nil) (fun _ _ _ _ _ => (pe_op (r := rI0 fun i j => .int (i - j)) op_sub (pv 10) (pv 9)))) pa_nil)))
      (pss_cons (ps_setLc (i := 6) (own := [("piece", 8)]) (g := (gName 8)) rfl nd rfl rfl rfl (pi_list (pv 4)) (blkOk_by (N := ["house", "task", "aisle", "stretch", "pieces", "whole", "shut", "found", "piece", "low", "high", "one"]) (sc := defScope s__law_options) (by decide +kernel)) (fun _ _ _ _ _ => (pg_name (i := 8) nd rfl (.inl rfl))) (fun _ _ _ _ _ => pts_one (pt_not (pt_val (pe_call t__law_free.G (by exact hr.mono (by decide)) (by rfl) t__law_free.g t__law_free.kp t__law_free.b .nil pass0 (pa_cons (pv 0) (pa_cons (pv 2) (pa_cons (pv 8) pa_nil))))))) (fun _ _ _ _ _ => (pv 8)))
      (pss_cons (ps_set (i := 7) nd rfl (.inl rfl) (pe_lst pa_nil))
      (pss_cons (ps_if (pt_cmpR (r := rEq) op_eq (pe_callB call_len (by rfl) z_len (by decide +kernel) (pa_cons (pv 6) pa_nil)) pe_int (nomark _)) (pss_one (ps_set (i := 7) nd rfl (.inl rfl) (pe_lst (pa_cons (pe_tup (pa_cons (pv 5) (pa_cons pe_int (pa_cons pe_int (pa_cons pe_bl (pa_cons pe_non pa_nil)))))) (pa_cons (pe_tup (pa_cons (pe_op op_mul pe_int (pv 5)) (pa_cons pe_int (pa_cons pe_int (pa_cons pe_bl (pa_cons pe_non pa_nil)))))) pa_nil))))) pss_nil)
      (pss_cons (ps_for PassesOwn.never rfl (pi_list (pv 4)) (pg_name (i := 8) nd rfl (.inr rfl)) (pss_one (ps_if (pt_cmpR (r := rEq) op_eq (pe_callB call_len (by rfl) z_len (by decide +kernel) (pa_cons (pe_lc (own := [("one", 11)]) (g := (gName 11)) rfl nd (pi_list (pv 6)) (blkOk_by (N := ["house", "task", "aisle", "stretch", "pieces", "whole", "shut", "found", "piece", "low", "high", "one"]) (sc := defScope s__law_options) (by decide +kernel)) (fun _ _ _ _ _ => (pg_name (i := 11) nd rfl (.inl rfl))) (fun _ _ _ _ _ => pts_one (pt_cmpR (r := rNeD K) (op_neD hr.units) (pv 11) (pv 8) (nomark _))) (fun _ _ _ _ _ => (pv 11))) pa_nil)) pe_int (nomark _)) (pss_cons (ps_set (i := 9) nd rfl (.inl rfl) (pe_op op_mul pe_int (pe_callTy call_int1 (by rfl) z_int (by decide +kernel) (pa_cons (pe_cmpR (r := rNeD K) (op_neD hr.units) (pv 8) (pe_ix (r := rIxL K) ix_list (pv 4) pe_int (fun _ _ => rfl)) (nomark _)) pa_nil))))
      (pss_cons (ps_set (i := 10) nd rfl (.inl rfl) (pe_op op_mul pe_int (pe_callTy call_int1 (by rfl) z_int (by decide +kernel) (pa_cons (pe_cmpR (r := rNeD K) (op_neD hr.units) (pv 8) (pe_ix (r := rIxL K) ix_list (pv 4) (pe_un un_neg pe_int) (fun _ _ => rfl)) (nomark _)) pa_nil))))
      (pss_one (ps_expr (pe_bm PySem.F.plainAttrs_list PySem.F.slot_list_append PySem.F.type_list_append mt_append (pv 7) (pa_cons (pe_tup (pa_cons (pe_op op_mul pe_int (pe_op op_add (pe_op op_sub (pv 5) (pe_ix (r := rIxT K) ix_tup (pv 8) pe_int (fun _ _ => rfl))) (pe_ix (r := rIxT K) ix_tup (pv 8) pe_int (fun _ _ => rfl)))) (pa_cons (pv 9) (pa_cons (pv 10) (pa_cons pe_bl (pa_cons (pv 8) pa_nil)))))) pa_nil)))))) pss_nil)))
      (pss_one (ps_ret (pv 7))))))))), ?_⟩
  rintro ⟨ls, gs, cs, st, en, ps, a, s⟩ hs om Q hp q
  show WC ⟨hs, (less hs om), om, [.fz (RD ((eT3 (eL PyData.int) (eL PyData.int) (eL dLk)) (ls, gs, cs))), .fz (RD ((eT3 dP dP (eL dP)) (st, en, ps))), .fz (RD (.int a)), .fz (RD (.int (s : Int))), .any, .any, .any, .any, .any, .any, .any, .any]⟩ _
  replace hp : (s < ls.length ∧ ls.length ≤ 2 ∧ Lens ls) ∧ ∀ c ∈ cs, PyData.strOk c.1 = true := hp
  replace q : ∀ H' p o, Kp hs H' → H' p = none → (OL ((optL (cA ls s) (cA ls (s + 1)) cs a (piecesL ls s (betweenL ps a (cA ls s) (cA ls (s + 1))))).map dOp)).p (less H' om) o → Q (.ref p) (upd H' p o) := q
  have b0 := cA_pos hp.1.2.2 hp.1.2.1 s
  have b1 := cA_pos hp.1.2.2 hp.1.2.1 (s + 1)
  have rise := rise_between ps a (cA_lt hp.1.2.2 hp.1.1)
  have bl := betweenL_len ps a (cA ls s) (cA ls (s + 1))
  obtain ⟨pcs, epcs⟩ : ∃ z, zpL (cA ls s) (betweenL ps a (cA ls s) (cA ls (s + 1))) (cA ls (s + 1)) = z := ⟨_, rfl⟩
  have pl : pcs.length ≤ 90 := by rw [← epcs]; have := zpL_len (cA ls s) (betweenL ps a (cA ls s) (cA ls (s + 1))) (cA ls (s + 1)); omega
  have pnd : pcs.Nodup := by rw [← epcs]; exact zpL_nd rise
  have snd : (shutL cs a pcs).Nodup := List.Pairwise.filter _ pnd
  have pbd : ∀ p ∈ pcs, 0 ≤ p.1 ∧ p.1 ≤ 1000 ∧ 0 ≤ p.2 ∧ p.2 ≤ 1000 := fun p h => by rw [← epcs] at h; have := zpL_mem rise h; omega
  have wh : (pcs.map fun p => p.2 - p.1).sum = (cA ls (s + 1)) - (cA ls s) := by rw [← epcs]; exact zpL_sum
  have sl : (shutL cs a pcs).length ≤ pcs.length := List.length_filter_le _ _
  refine s_seq ?_
  refine s_set (E.eq (n_e (show EN _ _ (OL ((piecesL ls s (betweenL ps a (cA ls s) (cA ls (s + 1)))).map dP)) from n_call (skn_spn (Rs := Rs__law_pieces ) (P := P__law_pieces ) (C := R__law_pieces ) (ls, gs, cs, st, en, ps, a, s)) (a_cons (e_var rfl) (a_cons (e_var rfl) (a_cons (e_var rfl) (a_cons (e_var rfl) a_nil)))) (fun H kp => by show s < ls.length ∧ ls.length ≤ 2 ∧ Lens ls; exact hp.1))) (e := .list (pcs.map dP)) (by rw [show piecesL ls s (betweenL ps a (cA ls s) (cA ls (s + 1))) = pcs from epcs])) ?_
  show WC ⟨hs, (less hs om), om, [.fz (RD ((eT3 (eL PyData.int) (eL PyData.int) (eL dLk)) (ls, gs, cs))), .fz (RD ((eT3 dP dP (eL dP)) (st, en, ps))), .fz (RD (.int a)), .fz (RD (.int (s : Int))), .fz (RD (.list (pcs.map dP))), .any, .any, .any, .any, .any, .any, .any]⟩ _
  refine s_seq ?_
  refine s_set (E.eq (e_cb o_sum (a_cons (n_e (n_lcM1 (xs := pcs) (enc := dP) (h := fun t => (t.2 - t.1)) (encB := PyData.int) (i_of (e_var rfl)) rfl (by decide) (fun _ t hxt => (g_tup (gs_cons g_name (gs_cons g_name gs_nil)))) (fun _ t hxt hyt => by exact (e_op o_sub (e_var rfl) (e_var rfl))) (by omega))) a_nil)) (e := PyData.int ((cA ls (s + 1)) - (cA ls s))) (by rw [wh])) ?_
  show WC ⟨hs, (less hs om), om, [.fz (RD ((eT3 (eL PyData.int) (eL PyData.int) (eL dLk)) (ls, gs, cs))), .fz (RD ((eT3 dP dP (eL dP)) (st, en, ps))), .fz (RD (.int a)), .fz (RD (.int (s : Int))), .fz (RD (.list (pcs.map dP))), .fz (RD (.int ((cA ls (s + 1)) - (cA ls s)))), .any, .any, .any, .any, .any, .any]⟩ _
  refine s_seq ?_
  refine s_set (E.eq (n_e (n_lcM (xs := pcs) (enc := dP) (h := fun p => p) (p := fun p => (!(freeQ cs a p.1 p.2))) (encB := dP) (i_of (e_var rfl)) rfl (by decide) (fun _ p hxp => g_name) (fun _ p hxp => by exact (t_not (t_B (show E _ _ _ (RD (.bool (freeQ cs a p.1 p.2))) from c_call (sok_sps (Rs := Rs__law_free ) (P := P__law_free ) (R := R__law_free ) (ls, gs, cs, a, p)) (a_cons (e_var rfl) (a_cons (e_var rfl) (a_cons (e_var rfl) a_nil))) (fun H kp => by show (0 ≤ p.1 ∧ p.1 ≤ 1000 ∧ 0 ≤ p.2 ∧ p.2 ≤ 1000) ∧ ∀ c ∈ cs, PyData.strOk c.1 = true; exact ⟨pbd p hxp, hp.2⟩))))) (fun _ p hxp hyp => by exact (e_var rfl)) (by omega))) (e := .list ((shutL cs a pcs).map dP)) (by rw [List.map_id']; rfl)) ?_
  show WC ⟨hs, (less hs om), om, [.fz (RD ((eT3 (eL PyData.int) (eL PyData.int) (eL dLk)) (ls, gs, cs))), .fz (RD ((eT3 dP dP (eL dP)) (st, en, ps))), .fz (RD (.int a)), .fz (RD (.int (s : Int))), .fz (RD (.list (pcs.map dP))), .fz (RD (.int ((cA ls (s + 1)) - (cA ls s)))), .fz (RD (.list ((shutL cs a pcs).map dP))), .any, .any, .any, .any, .any]⟩ _
  refine s_seq ?_
  refine s_new (n_lst m_nil) ?_
  show WC ⟨hs, (less hs om), om, [.fz (RD ((eT3 (eL PyData.int) (eL PyData.int) (eL dLk)) (ls, gs, cs))), .fz (RD ((eT3 dP dP (eL dP)) (st, en, ps))), .fz (RD (.int a)), .fz (RD (.int (s : Int))), .fz (RD (.list (pcs.map dP))), .fz (RD (.int ((cA ls (s + 1)) - (cA ls s)))), .fz (RD (.list ((shutL cs a pcs).map dP))), .own (OL (([] : List (Op)).map dOp)), .any, .any, .any, .any]⟩ _
  refine s_seq ?_
  refine s_if (t_T (e_op o_eqI (e_cb o_lenM (a_cons (e_var rfl) a_nil)) e_int)) (fun h3 => ?_) (fun h3 => ?_)
  · have := h3
    refine s_new (n_lstM (xs := [(((cA ls (s + 1)) - (cA ls s)), 1, 1, true, none), ((2 * ((cA ls (s + 1)) - (cA ls s))), 2, 2, true, none)]) (enc := dOp) (m_cons (show Pk.E true _ _ (RD (dOp (((cA ls (s + 1)) - (cA ls s)), 1, 1, true, none))) from e_tup (m_cons (e_var rfl) (m_cons e_int (m_cons e_int (m_cons e_bl (m_cons e_non m_nil)))))) (m_cons (show Pk.E true _ _ (RD (dOp ((2 * ((cA ls (s + 1)) - (cA ls s))), 2, 2, true, none))) from e_tup (m_cons (e_op (o_mul (i := 2) (j := ((cA ls (s + 1)) - (cA ls s))) (mulL (by omega) (by omega))) e_int (e_var rfl)) (m_cons e_int (m_cons e_int (m_cons e_bl (m_cons e_non m_nil)))))) m_nil))) ?_
    show WC ⟨hs, (less hs om), om, [.fz (RD ((eT3 (eL PyData.int) (eL PyData.int) (eL dLk)) (ls, gs, cs))), .fz (RD ((eT3 dP dP (eL dP)) (st, en, ps))), .fz (RD (.int a)), .fz (RD (.int (s : Int))), .fz (RD (.list (pcs.map dP))), .fz (RD (.int ((cA ls (s + 1)) - (cA ls s)))), .fz (RD (.list ((shutL cs a pcs).map dP))), .own (OL ([(((cA ls (s + 1)) - (cA ls s)), 1, 1, true, none), ((2 * ((cA ls (s + 1)) - (cA ls s))), 2, 2, true, none)].map dOp)), .any, .any, .any, .any]⟩ _
    refine s_seq ?_
    refine s_for (xs := pcs) (enc := dP) (fun (i : Nat) γ => ∃ (fs : List (Op)), γ = [.fz (RD ((eT3 (eL PyData.int) (eL PyData.int) (eL dLk)) (ls, gs, cs))), .fz (RD ((eT3 dP dP (eL dP)) (st, en, ps))), .fz (RD (.int a)), .fz (RD (.int (s : Int))), .fz (RD (.list (pcs.map dP))), .fz (RD (.int ((cA ls (s + 1)) - (cA ls s)))), .fz (RD (.list ((shutL cs a pcs).map dP))), .own (OL (fs.map dOp)), .any, .any, .any, .any] ∧ (fs = (pcs.take i).foldl (optS (cA ls s) (cA ls (s + 1)) (shutL cs a pcs)) (opt0 (cA ls s) (cA ls (s + 1)) (shutL cs a pcs)))) (e_var rfl) ⟨[(((cA ls (s + 1)) - (cA ls s)), 1, 1, true, none), ((2 * ((cA ls (s + 1)) - (cA ls s))), 2, 2, true, none)], rfl, (opt0_T (of_decide_eq_true this)).symm⟩ ?_ ?_
    · rintro h1_1 i p γ kp hx ⟨fs, rfl, hf⟩
      have il := (List.getElem?_eq_some_iff.mp hx).1
      have mp : p ∈ pcs := List.mem_of_getElem? hx
      have fl := opt_len hf
      refine ⟨_, _, g_name, ?_⟩
      show WC ⟨hs, h1_1, om, [.fz (RD ((eT3 (eL PyData.int) (eL PyData.int) (eL dLk)) (ls, gs, cs))), .fz (RD ((eT3 dP dP (eL dP)) (st, en, ps))), .fz (RD (.int a)), .fz (RD (.int (s : Int))), .fz (RD (.list (pcs.map dP))), .fz (RD (.int ((cA ls (s + 1)) - (cA ls s)))), .fz (RD (.list ((shutL cs a pcs).map dP))), .own (OL (fs.map dOp)), .fz (RD (dP p)), .any, .any, .any]⟩ _
      refine s_if (t_T (e_op o_eqI (e_cb o_lenM (a_cons (n_e (n_lcM (xs := (shutL cs a pcs)) (enc := dP) (h := fun o => o) (p := fun o => (!decide (o = p))) (encB := dP) (i_of (e_var rfl)) rfl (by decide) (fun _ o hxo => g_name) (fun _ o hxo => by exact (t_T (e_op (o_neE (f := dP) (a := o) (b := p) (hd := inferInstance) (by exact enc_P) (by decide) (by exact ⟨trivial, trivial⟩) (by exact ⟨trivial, trivial⟩)) (e_var rfl) (e_var rfl)))) (fun _ o hxo hyo => by exact (e_var rfl)) (by omega))) a_nil)) e_int)) (fun h5 => ?_) (fun h5 => ?_)
      · have := h5
        refine s_seq ?_
        refine s_set (e_op (o_mul (i := 2) (j := (if (!decide (p = (ix pcs 0))) = true then 1 else 0 : Int)) (mulL (by omega) (by omega))) e_int (e_cb o_intB (a_cons (e_op (o_neE (f := dP) (a := p) (b := (ix pcs 0)) (hd := inferInstance) (by exact enc_P) (by decide) (by exact ⟨trivial, trivial⟩) (by exact ⟨trivial, trivial⟩)) (e_var rfl) (e_op (o_ixL (ix_at (xs := pcs) (i := 0) (by omega))) (e_var rfl) e_int)) a_nil))) ?_
        show WC ⟨hs, h1_1, om, [.fz (RD ((eT3 (eL PyData.int) (eL PyData.int) (eL dLk)) (ls, gs, cs))), .fz (RD ((eT3 dP dP (eL dP)) (st, en, ps))), .fz (RD (.int a)), .fz (RD (.int (s : Int))), .fz (RD (.list (pcs.map dP))), .fz (RD (.int ((cA ls (s + 1)) - (cA ls s)))), .fz (RD (.list ((shutL cs a pcs).map dP))), .own (OL (fs.map dOp)), .fz (RD (dP p)), .fz (RD (.int (2 * (if (!decide (p = (ix pcs 0))) = true then 1 else 0 : Int)))), .any, .any]⟩ _
        refine s_seq ?_
        refine s_set (e_op (o_mul (i := 2) (j := (if (!decide (p = (ix pcs (-1)))) = true then 1 else 0 : Int)) (mulL (by omega) (by omega))) e_int (e_cb o_intB (a_cons (e_op (o_neE (f := dP) (a := p) (b := (ix pcs (-1))) (hd := inferInstance) (by exact enc_P) (by decide) (by exact ⟨trivial, trivial⟩) (by exact ⟨trivial, trivial⟩)) (e_var rfl) (e_op (o_ixL (ix_at (xs := pcs) (i := (-1)) (by omega))) (e_var rfl) (e_un o_neg e_int))) a_nil))) ?_
        show WC ⟨hs, h1_1, om, [.fz (RD ((eT3 (eL PyData.int) (eL PyData.int) (eL dLk)) (ls, gs, cs))), .fz (RD ((eT3 dP dP (eL dP)) (st, en, ps))), .fz (RD (.int a)), .fz (RD (.int (s : Int))), .fz (RD (.list (pcs.map dP))), .fz (RD (.int ((cA ls (s + 1)) - (cA ls s)))), .fz (RD (.list ((shutL cs a pcs).map dP))), .own (OL (fs.map dOp)), .fz (RD (dP p)), .fz (RD (.int (2 * (if (!decide (p = (ix pcs 0))) = true then 1 else 0 : Int)))), .fz (RD (.int (2 * (if (!decide (p = (ix pcs (-1)))) = true then 1 else 0 : Int)))), .any]⟩ _
        refine s_appM (xs := fs) (a := ((2 * ((((cA ls (s + 1)) - (cA ls s)) - p.2) + p.1)), (2 * (if (!decide (p = (ix pcs 0))) = true then 1 else 0 : Int)), (2 * (if (!decide (p = (ix pcs (-1)))) = true then 1 else 0 : Int)), false, (some p))) rfl (show Pk.E true _ _ (RD (dOp ((2 * ((((cA ls (s + 1)) - (cA ls s)) - p.2) + p.1)), (2 * (if (!decide (p = (ix pcs 0))) = true then 1 else 0 : Int)), (2 * (if (!decide (p = (ix pcs (-1)))) = true then 1 else 0 : Int)), false, (some p)))) from e_tup (m_cons (e_op (o_mul (i := 2) (j := ((((cA ls (s + 1)) - (cA ls s)) - p.2) + p.1)) (mulL (by omega) (by omega))) e_int (e_op o_add (e_op o_sub (e_var rfl) (e_op (o_ixT rfl) (e_var rfl) e_int)) (e_op (o_ixT rfl) (e_var rfl) e_int))) (m_cons (e_var rfl) (m_cons (e_var rfl) (m_cons e_bl (m_cons (e_var rfl) m_nil)))))) (by omega) ?_
        show WC ⟨hs, h1_1, om, [.fz (RD ((eT3 (eL PyData.int) (eL PyData.int) (eL dLk)) (ls, gs, cs))), .fz (RD ((eT3 dP dP (eL dP)) (st, en, ps))), .fz (RD (.int a)), .fz (RD (.int (s : Int))), .fz (RD (.list (pcs.map dP))), .fz (RD (.int ((cA ls (s + 1)) - (cA ls s)))), .fz (RD (.list ((shutL cs a pcs).map dP))), .own (OL ((fs ++ [((2 * ((((cA ls (s + 1)) - (cA ls s)) - p.2) + p.1)), (2 * (if (!decide (p = (ix pcs 0))) = true then 1 else 0 : Int)), (2 * (if (!decide (p = (ix pcs (-1)))) = true then 1 else 0 : Int)), false, (some p))]).map dOp)), .fz (RD (dP p)), .fz (RD (.int (2 * (if (!decide (p = (ix pcs 0))) = true then 1 else 0 : Int)))), .fz (RD (.int (2 * (if (!decide (p = (ix pcs (-1)))) = true then 1 else 0 : Int)))), .any]⟩ _
        refine s_drop 8 ?_
        refine s_drop 9 ?_
        refine s_drop 10 ?_
        show WC ⟨hs, h1_1, om, [.fz (RD ((eT3 (eL PyData.int) (eL PyData.int) (eL dLk)) (ls, gs, cs))), .fz (RD ((eT3 dP dP (eL dP)) (st, en, ps))), .fz (RD (.int a)), .fz (RD (.int (s : Int))), .fz (RD (.list (pcs.map dP))), .fz (RD (.int ((cA ls (s + 1)) - (cA ls s)))), .fz (RD (.list ((shutL cs a pcs).map dP))), .own (OL ((fs ++ [((2 * ((((cA ls (s + 1)) - (cA ls s)) - p.2) + p.1)), (2 * (if (!decide (p = (ix pcs 0))) = true then 1 else 0 : Int)), (2 * (if (!decide (p = (ix pcs (-1)))) = true then 1 else 0 : Int)), false, (some p))]).map dOp)), .any, .any, .any, .any]⟩ _
        exact s_of ⟨(fs ++ [((2 * ((((cA ls (s + 1)) - (cA ls s)) - p.2) + p.1)), (2 * (if (!decide (p = (ix pcs 0))) = true then 1 else 0 : Int)), (2 * (if (!decide (p = (ix pcs (-1)))) = true then 1 else 0 : Int)), false, (some p))]), rfl, (by rw [optW_law rise epcs mp]; exact opt_stepT hf hx snd this)⟩
      · have := h5
        refine s_pass ?_
        refine s_drop 8 ?_
        show WC ⟨hs, h1_1, om, [.fz (RD ((eT3 (eL PyData.int) (eL PyData.int) (eL dLk)) (ls, gs, cs))), .fz (RD ((eT3 dP dP (eL dP)) (st, en, ps))), .fz (RD (.int a)), .fz (RD (.int (s : Int))), .fz (RD (.list (pcs.map dP))), .fz (RD (.int ((cA ls (s + 1)) - (cA ls s)))), .fz (RD (.list ((shutL cs a pcs).map dP))), .own (OL (fs.map dOp)), .any, .any, .any, .any]⟩ _
        exact s_of ⟨fs, rfl, (opt_stepF hf hx snd this)⟩
    · rintro γ ⟨fs, rfl, hf⟩
      show WC ⟨hs, (less hs om), om, [.fz (RD ((eT3 (eL PyData.int) (eL PyData.int) (eL dLk)) (ls, gs, cs))), .fz (RD ((eT3 dP dP (eL dP)) (st, en, ps))), .fz (RD (.int a)), .fz (RD (.int (s : Int))), .fz (RD (.list (pcs.map dP))), .fz (RD (.int ((cA ls (s + 1)) - (cA ls s)))), .fz (RD (.list ((shutL cs a pcs).map dP))), .own (OL (fs.map dOp)), .any, .any, .any, .any]⟩ _
      rw [List.take_length] at hf
      refine s_retOwn (C := OL ((optL (cA ls s) (cA ls (s + 1)) cs a (piecesL ls s (betweenL ps a (cA ls s) (cA ls (s + 1))))).map dOp)) (congrArg (fun z => some (Slot.own (OL (List.map dOp z)))) (show fs = (optL (cA ls s) (cA ls (s + 1)) cs a (piecesL ls s (betweenL ps a (cA ls s) (cA ls (s + 1))))) from ?_)) q
      rw [hf, ← epcs]; rfl
  · have := h3
    refine s_pass ?_
    refine s_seq ?_
    refine s_for (xs := pcs) (enc := dP) (fun (i : Nat) γ => ∃ (fs : List (Op)), γ = [.fz (RD ((eT3 (eL PyData.int) (eL PyData.int) (eL dLk)) (ls, gs, cs))), .fz (RD ((eT3 dP dP (eL dP)) (st, en, ps))), .fz (RD (.int a)), .fz (RD (.int (s : Int))), .fz (RD (.list (pcs.map dP))), .fz (RD (.int ((cA ls (s + 1)) - (cA ls s)))), .fz (RD (.list ((shutL cs a pcs).map dP))), .own (OL (fs.map dOp)), .any, .any, .any, .any] ∧ (fs = (pcs.take i).foldl (optS (cA ls s) (cA ls (s + 1)) (shutL cs a pcs)) (opt0 (cA ls s) (cA ls (s + 1)) (shutL cs a pcs)))) (e_var rfl) ⟨([] : List (Op)), rfl, (opt0_F (of_decide_eq_false this)).symm⟩ ?_ ?_
    · rintro h1_2 i p γ kp hx ⟨fs, rfl, hf⟩
      have il := (List.getElem?_eq_some_iff.mp hx).1
      have mp : p ∈ pcs := List.mem_of_getElem? hx
      have fl := opt_len hf
      refine ⟨_, _, g_name, ?_⟩
      show WC ⟨hs, h1_2, om, [.fz (RD ((eT3 (eL PyData.int) (eL PyData.int) (eL dLk)) (ls, gs, cs))), .fz (RD ((eT3 dP dP (eL dP)) (st, en, ps))), .fz (RD (.int a)), .fz (RD (.int (s : Int))), .fz (RD (.list (pcs.map dP))), .fz (RD (.int ((cA ls (s + 1)) - (cA ls s)))), .fz (RD (.list ((shutL cs a pcs).map dP))), .own (OL (fs.map dOp)), .fz (RD (dP p)), .any, .any, .any]⟩ _
      refine s_if (t_T (e_op o_eqI (e_cb o_lenM (a_cons (n_e (n_lcM (xs := (shutL cs a pcs)) (enc := dP) (h := fun o => o) (p := fun o => (!decide (o = p))) (encB := dP) (i_of (e_var rfl)) rfl (by decide) (fun _ o hxo => g_name) (fun _ o hxo => by exact (t_T (e_op (o_neE (f := dP) (a := o) (b := p) (hd := inferInstance) (by exact enc_P) (by decide) (by exact ⟨trivial, trivial⟩) (by exact ⟨trivial, trivial⟩)) (e_var rfl) (e_var rfl)))) (fun _ o hxo hyo => by exact (e_var rfl)) (by omega))) a_nil)) e_int)) (fun h7 => ?_) (fun h7 => ?_)
      · have := h7
        refine s_seq ?_
        refine s_set (e_op (o_mul (i := 2) (j := (if (!decide (p = (ix pcs 0))) = true then 1 else 0 : Int)) (mulL (by omega) (by omega))) e_int (e_cb o_intB (a_cons (e_op (o_neE (f := dP) (a := p) (b := (ix pcs 0)) (hd := inferInstance) (by exact enc_P) (by decide) (by exact ⟨trivial, trivial⟩) (by exact ⟨trivial, trivial⟩)) (e_var rfl) (e_op (o_ixL (ix_at (xs := pcs) (i := 0) (by omega))) (e_var rfl) e_int)) a_nil))) ?_
        show WC ⟨hs, h1_2, om, [.fz (RD ((eT3 (eL PyData.int) (eL PyData.int) (eL dLk)) (ls, gs, cs))), .fz (RD ((eT3 dP dP (eL dP)) (st, en, ps))), .fz (RD (.int a)), .fz (RD (.int (s : Int))), .fz (RD (.list (pcs.map dP))), .fz (RD (.int ((cA ls (s + 1)) - (cA ls s)))), .fz (RD (.list ((shutL cs a pcs).map dP))), .own (OL (fs.map dOp)), .fz (RD (dP p)), .fz (RD (.int (2 * (if (!decide (p = (ix pcs 0))) = true then 1 else 0 : Int)))), .any, .any]⟩ _
        refine s_seq ?_
        refine s_set (e_op (o_mul (i := 2) (j := (if (!decide (p = (ix pcs (-1)))) = true then 1 else 0 : Int)) (mulL (by omega) (by omega))) e_int (e_cb o_intB (a_cons (e_op (o_neE (f := dP) (a := p) (b := (ix pcs (-1))) (hd := inferInstance) (by exact enc_P) (by decide) (by exact ⟨trivial, trivial⟩) (by exact ⟨trivial, trivial⟩)) (e_var rfl) (e_op (o_ixL (ix_at (xs := pcs) (i := (-1)) (by omega))) (e_var rfl) (e_un o_neg e_int))) a_nil))) ?_
        show WC ⟨hs, h1_2, om, [.fz (RD ((eT3 (eL PyData.int) (eL PyData.int) (eL dLk)) (ls, gs, cs))), .fz (RD ((eT3 dP dP (eL dP)) (st, en, ps))), .fz (RD (.int a)), .fz (RD (.int (s : Int))), .fz (RD (.list (pcs.map dP))), .fz (RD (.int ((cA ls (s + 1)) - (cA ls s)))), .fz (RD (.list ((shutL cs a pcs).map dP))), .own (OL (fs.map dOp)), .fz (RD (dP p)), .fz (RD (.int (2 * (if (!decide (p = (ix pcs 0))) = true then 1 else 0 : Int)))), .fz (RD (.int (2 * (if (!decide (p = (ix pcs (-1)))) = true then 1 else 0 : Int)))), .any]⟩ _
        refine s_appM (xs := fs) (a := ((2 * ((((cA ls (s + 1)) - (cA ls s)) - p.2) + p.1)), (2 * (if (!decide (p = (ix pcs 0))) = true then 1 else 0 : Int)), (2 * (if (!decide (p = (ix pcs (-1)))) = true then 1 else 0 : Int)), false, (some p))) rfl (show Pk.E true _ _ (RD (dOp ((2 * ((((cA ls (s + 1)) - (cA ls s)) - p.2) + p.1)), (2 * (if (!decide (p = (ix pcs 0))) = true then 1 else 0 : Int)), (2 * (if (!decide (p = (ix pcs (-1)))) = true then 1 else 0 : Int)), false, (some p)))) from e_tup (m_cons (e_op (o_mul (i := 2) (j := ((((cA ls (s + 1)) - (cA ls s)) - p.2) + p.1)) (mulL (by omega) (by omega))) e_int (e_op o_add (e_op o_sub (e_var rfl) (e_op (o_ixT rfl) (e_var rfl) e_int)) (e_op (o_ixT rfl) (e_var rfl) e_int))) (m_cons (e_var rfl) (m_cons (e_var rfl) (m_cons e_bl (m_cons (e_var rfl) m_nil)))))) (by omega) ?_
        show WC ⟨hs, h1_2, om, [.fz (RD ((eT3 (eL PyData.int) (eL PyData.int) (eL dLk)) (ls, gs, cs))), .fz (RD ((eT3 dP dP (eL dP)) (st, en, ps))), .fz (RD (.int a)), .fz (RD (.int (s : Int))), .fz (RD (.list (pcs.map dP))), .fz (RD (.int ((cA ls (s + 1)) - (cA ls s)))), .fz (RD (.list ((shutL cs a pcs).map dP))), .own (OL ((fs ++ [((2 * ((((cA ls (s + 1)) - (cA ls s)) - p.2) + p.1)), (2 * (if (!decide (p = (ix pcs 0))) = true then 1 else 0 : Int)), (2 * (if (!decide (p = (ix pcs (-1)))) = true then 1 else 0 : Int)), false, (some p))]).map dOp)), .fz (RD (dP p)), .fz (RD (.int (2 * (if (!decide (p = (ix pcs 0))) = true then 1 else 0 : Int)))), .fz (RD (.int (2 * (if (!decide (p = (ix pcs (-1)))) = true then 1 else 0 : Int)))), .any]⟩ _
        refine s_drop 8 ?_
        refine s_drop 9 ?_
        refine s_drop 10 ?_
        show WC ⟨hs, h1_2, om, [.fz (RD ((eT3 (eL PyData.int) (eL PyData.int) (eL dLk)) (ls, gs, cs))), .fz (RD ((eT3 dP dP (eL dP)) (st, en, ps))), .fz (RD (.int a)), .fz (RD (.int (s : Int))), .fz (RD (.list (pcs.map dP))), .fz (RD (.int ((cA ls (s + 1)) - (cA ls s)))), .fz (RD (.list ((shutL cs a pcs).map dP))), .own (OL ((fs ++ [((2 * ((((cA ls (s + 1)) - (cA ls s)) - p.2) + p.1)), (2 * (if (!decide (p = (ix pcs 0))) = true then 1 else 0 : Int)), (2 * (if (!decide (p = (ix pcs (-1)))) = true then 1 else 0 : Int)), false, (some p))]).map dOp)), .any, .any, .any, .any]⟩ _
        exact s_of ⟨(fs ++ [((2 * ((((cA ls (s + 1)) - (cA ls s)) - p.2) + p.1)), (2 * (if (!decide (p = (ix pcs 0))) = true then 1 else 0 : Int)), (2 * (if (!decide (p = (ix pcs (-1)))) = true then 1 else 0 : Int)), false, (some p))]), rfl, (by rw [optW_law rise epcs mp]; exact opt_stepT hf hx snd this)⟩
      · have := h7
        refine s_pass ?_
        refine s_drop 8 ?_
        show WC ⟨hs, h1_2, om, [.fz (RD ((eT3 (eL PyData.int) (eL PyData.int) (eL dLk)) (ls, gs, cs))), .fz (RD ((eT3 dP dP (eL dP)) (st, en, ps))), .fz (RD (.int a)), .fz (RD (.int (s : Int))), .fz (RD (.list (pcs.map dP))), .fz (RD (.int ((cA ls (s + 1)) - (cA ls s)))), .fz (RD (.list ((shutL cs a pcs).map dP))), .own (OL (fs.map dOp)), .any, .any, .any, .any]⟩ _
        exact s_of ⟨fs, rfl, (opt_stepF hf hx snd this)⟩
    · rintro γ ⟨fs, rfl, hf⟩
      show WC ⟨hs, (less hs om), om, [.fz (RD ((eT3 (eL PyData.int) (eL PyData.int) (eL dLk)) (ls, gs, cs))), .fz (RD ((eT3 dP dP (eL dP)) (st, en, ps))), .fz (RD (.int a)), .fz (RD (.int (s : Int))), .fz (RD (.list (pcs.map dP))), .fz (RD (.int ((cA ls (s + 1)) - (cA ls s)))), .fz (RD (.list ((shutL cs a pcs).map dP))), .own (OL (fs.map dOp)), .any, .any, .any, .any]⟩ _
      rw [List.take_length] at hf
      refine s_retOwn (C := OL ((optL (cA ls s) (cA ls (s + 1)) cs a (piecesL ls s (betweenL ps a (cA ls s) (cA ls (s + 1))))).map dOp)) (congrArg (fun z => some (Slot.own (OL (List.map dOp z)))) (show fs = (optL (cA ls s) (cA ls (s + 1)) cs a (piecesL ls s (betweenL ps a (cA ls s) (cA ls (s + 1))))) from ?_)) q
      rw [hf, ← epcs]; rfl
theorem enc_SG : Enc dSG 1 (fun _ : SG => True) := by
  have h := enc_T3 enc_int enc_int enc_bool
  exact ⟨h.eqv, fun o _ => h.lay o ⟨trivial, trivial, trivial⟩, h.dep, h.nod⟩
theorem best_next {os fs : List Op} {i : Nat} {o : Op} {x : Bool} (hf : fs = (os.take i).filter (goodB os)) (hx : os[i]? = some o) (nd : os.Nodup)
    (c : (decide (((os.filter fun y => (decide (sgO y = sgO o) && decide (y.1 < o.1))).length : Int) = 0) && decide (((fs.filter fun y => decide (sgO y = sgO o)).length : Int) = 0)) = x) : (os.take (i + 1)).filter (goodB os) = if x = true then fs ++ [o] else fs := by
  have il := (List.getElem?_eq_some_iff.mp hx).1
  have e : os = os.take i ++ o :: os.drop (i + 1) := by
    have eo : os[i] = o := (List.getElem?_eq_some_iff.mp hx).2
    rw [← eo, ← List.drop_eq_getElem_cons il, List.take_append_drop]
  have st := best_step (l := os.take i) (r := os.drop (i + 1)) e nd
  rw [pmin_law, hf, st] at c
  rw [List.take_add_one, hx, List.filter_append, ← hf]
  show fs ++ [o].filter (goodB os) = _
  cases x with
  | true => rw [List.filter_cons, c]; rfl
  | false => rw [List.filter_cons, c]; exact List.append_nil _
def Rs__law_best  : (List Op) → List Rel := fun x => [(RD (.list (x.map dOp)))]
def P__law_best  : (List Op) → Hp → Prop := fun x H => x.length ≤ 1003 ∧ x.Nodup
def R__law_best  : (List Op) → Own := fun x => OL ((bestL x).map dOp)
theorem ok__law_best {f : Addr} {fd : FuncData} (F : Fun K "_law_best" "_law_best" s__law_best f fd) (z_len : mg "len" = none) : FnOk P w K mg base CX0 1 f fd ["options"] (SpN (Rs__law_best ) (P__law_best ) (R__law_best )) := by
  refine fn_okN F sc__law_best (fun _ => rfl) fun cdv A outer s H E0 hr => ?_
  have nd := sc__law_best.nd
  refine ⟨_, (pss_cons (ps_set (i := 1) nd rfl (.inl rfl) (pe_lst pa_nil))
      (pss_cons (ps_for PassesOwn.never rfl (pi_list (pv 0)) (pg_name (i := 2) nd rfl (.inr rfl)) (pss_cons (ps_setLc (i := 3) (own := [("other", 5)]) (g := (gName 5)) rfl nd rfl rfl rfl (pi_list (pv 0)) (blkOk_by (N := ["options", "found", "option", "better", "ahead", "other"]) (sc := defScope s__law_best) (by decide +kernel)) (fun _ _ _ _ _ => (pg_name (i := 5) nd rfl (.inl rfl))) (fun _ _ _ _ _ => pts_one (PW.pt (pw_and (pt_cmpR (r := rEqD K) (op_eqD hr.units) (pe_slice (show SlR _ (rSlA K) from sl_tupA) (pv 5) (po_some pe_int) (po_some pe_int)) (pe_slice (show SlR _ (rSlA K) from sl_tupA) (pv 2) (po_some pe_int) (po_some pe_int)) (nomark _)) (pw_and1 (pt_cmpR (r := rI0 fun i j => .bl (decide (i < j))) op_lt (pe_ix (r := rIxT K) ix_tup (pv 5) pe_int (fun _ _ => rfl)) (pe_ix (r := rIxT K) ix_tup (pv 2) pe_int (fun _ _ => rfl)) (nomark _)))))) (fun _ _ _ _ _ => (pv 5)))
      (pss_cons (ps_setLc (i := 4) (own := [("other", 5)]) (g := (gName 5)) rfl nd rfl rfl rfl (pi_list (pv 1)) (blkOk_by (N := ["options", "found", "option", "better", "ahead", "other"]) (sc := defScope s__law_best) (by decide +kernel)) (fun _ _ _ _ _ => (pg_name (i := 5) nd rfl (.inl rfl))) (fun _ _ _ _ _ => pts_one (pt_cmpR (r := rEqD K) (op_eqD hr.units) (pe_slice (show SlR _ (rSlA K) from sl_tupA) (pv 5) (po_some pe_int) (po_some pe_int)) (pe_slice (show SlR _ (rSlA K) from sl_tupA) (pv 2) (po_some pe_int) (po_some pe_int)) (nomark _))) (fun _ _ _ _ _ => (pv 5)))
      (pss_one (ps_if (PW.pt (pw_and (pt_cmpR (r := rEq) op_eq (pe_callB call_len (by rfl) z_len (by decide +kernel) (pa_cons (pv 3) pa_nil)) pe_int (nomark _)) (pw_and1 (pt_cmpR (r := rEq) op_eq (pe_callB call_len (by rfl) z_len (by decide +kernel) (pa_cons (pv 4) pa_nil)) pe_int (nomark _))))) (pss_one (ps_expr (pe_bm PySem.F.plainAttrs_list PySem.F.slot_list_append PySem.F.type_list_append mt_append (pv 1) (pa_cons (pv 2) pa_nil)))) pss_nil)))))
      (pss_one (ps_ret (pv 1))))), ?_⟩
  intro os hs om Q hp q
  show WC ⟨hs, (less hs om), om, [.fz (RD (.list (os.map dOp))), .any, .any, .any, .any, .any]⟩ _
  replace hp : os.length ≤ 1003 ∧ os.Nodup := hp
  replace q : ∀ H' p o, Kp hs H' → H' p = none → (OL ((bestL os).map dOp)).p (less H' om) o → Q (.ref p) (upd H' p o) := q
  refine s_seq ?_
  refine s_new (n_lst m_nil) ?_
  show WC ⟨hs, (less hs om), om, [.fz (RD (.list (os.map dOp))), .own (OL (([] : List (Op)).map dOp)), .any, .any, .any, .any]⟩ _
  refine s_seq ?_
  refine s_for (xs := os) (enc := dOp) (fun (i : Nat) γ => ∃ (fs : List (Op)), γ = [.fz (RD (.list (os.map dOp))), .own (OL (fs.map dOp)), .any, .any, .any, .any] ∧ (fs = (os.take i).filter (goodB os))) (e_var rfl) ⟨([] : List (Op)), rfl, rfl⟩ ?_ ?_
  · rintro h1_1 i o γ kp hx ⟨fs, rfl, hf⟩
    have il := (List.getElem?_eq_some_iff.mp hx).1
    have fl : fs.length ≤ i := by rw [hf]; exact Nat.le_trans (List.length_filter_le _ _) (by rw [List.length_take]; omega)
    refine ⟨_, _, g_name, ?_⟩
    show WC ⟨hs, h1_1, om, [.fz (RD (.list (os.map dOp))), .own (OL (fs.map dOp)), .fz (RD (dOp o)), .any, .any, .any]⟩ _
    refine s_seq ?_
    refine s_set (E.eq (n_e (n_lcM (xs := os) (enc := dOp) (h := fun y => y) (p := fun y => ((decide ((sgO y) = (sgO o))) && (decide (y.1 < o.1)))) (encB := dOp) (i_of (e_var rfl)) rfl (by decide) (fun _ y hxy => g_name) (fun _ y hxy => by exact (t_and (t_T (e_op (o_eqE (f := dSG) (a := (sgO y)) (b := (sgO o)) (hd := inferInstance) (by exact enc_SG) (by decide) trivial trivial) (Pk.E.low (Pk.E.eq (e_slT (xs := [PyData.int y.1, .int y.2.1, .int y.2.2.1, .bool y.2.2.2.1, eO dP y.2.2.2.2]) (enc := fun d => d) (lo := some 1) (hi := some 4) (e_var rfl) (p_some e_int) (p_some e_int)) rfl)) (Pk.E.low (Pk.E.eq (e_slT (xs := [PyData.int o.1, .int o.2.1, .int o.2.2.1, .bool o.2.2.2.1, eO dP o.2.2.2.2]) (enc := fun d => d) (lo := some 1) (hi := some 4) (e_var rfl) (p_some e_int) (p_some e_int)) rfl)))) (fun hbo => (t_T (e_op o_cmpI0 (e_op (o_ixT (ds := [PyData.int y.1, .int y.2.1, .int y.2.2.1, .bool y.2.2.2.1, eO dP y.2.2.2.2]) rfl) (e_var rfl) e_int) (e_op (o_ixT (ds := [PyData.int o.1, .int o.2.1, .int o.2.2.1, .bool o.2.2.2.1, eO dP o.2.2.2.2]) rfl) (e_var rfl) e_int)))))) (fun _ y hxy hyy => by exact (e_var rfl)) (by omega))) (e := .list ((os.filter fun y => (decide (sgO y = sgO o) && decide (y.1 < o.1))).map dOp)) (by rw [List.map_id'])) ?_
    show WC ⟨hs, h1_1, om, [.fz (RD (.list (os.map dOp))), .own (OL (fs.map dOp)), .fz (RD (dOp o)), .fz (RD (.list ((os.filter fun y => (decide (sgO y = sgO o) && decide (y.1 < o.1))).map dOp))), .any, .any]⟩ _
    refine s_seq ?_
    refine s_set (E.eq (n_e (n_lcM (xs := fs) (enc := dOp) (h := fun y => y) (p := fun y => (decide ((sgO y) = (sgO o)))) (encB := dOp) (i_own rfl) rfl (by decide) (fun _ y hxy => g_name) (fun _ y hxy => by exact (t_T (e_op (o_eqE (f := dSG) (a := (sgO y)) (b := (sgO o)) (hd := inferInstance) (by exact enc_SG) (by decide) trivial trivial) (Pk.E.low (Pk.E.eq (e_slT (xs := [PyData.int y.1, .int y.2.1, .int y.2.2.1, .bool y.2.2.2.1, eO dP y.2.2.2.2]) (enc := fun d => d) (lo := some 1) (hi := some 4) (e_var rfl) (p_some e_int) (p_some e_int)) rfl)) (Pk.E.low (Pk.E.eq (e_slT (xs := [PyData.int o.1, .int o.2.1, .int o.2.2.1, .bool o.2.2.2.1, eO dP o.2.2.2.2]) (enc := fun d => d) (lo := some 1) (hi := some 4) (e_var rfl) (p_some e_int) (p_some e_int)) rfl))))) (fun _ y hxy hyy => by exact (e_var rfl)) (by omega))) (e := .list ((fs.filter fun y => decide (sgO y = sgO o)).map dOp)) (by rw [List.map_id'])) ?_
    show WC ⟨hs, h1_1, om, [.fz (RD (.list (os.map dOp))), .own (OL (fs.map dOp)), .fz (RD (dOp o)), .fz (RD (.list ((os.filter fun y => (decide (sgO y = sgO o) && decide (y.1 < o.1))).map dOp))), .fz (RD (.list ((fs.filter fun y => decide (sgO y = sgO o)).map dOp))), .any]⟩ _
    refine s_if (t_and (t_T (e_op o_eqI (e_cb o_lenM (a_cons (e_var rfl) a_nil)) e_int)) (fun hbo => (t_T (e_op o_eqI (e_cb o_lenM (a_cons (e_var rfl) a_nil)) e_int)))) (fun h3 => ?_) (fun h3 => ?_)
    · have := h3
      refine s_appM (xs := fs) (a := o) rfl (e_var rfl) (by omega) ?_
      show WC ⟨hs, h1_1, om, [.fz (RD (.list (os.map dOp))), .own (OL ((fs ++ [o]).map dOp)), .fz (RD (dOp o)), .fz (RD (.list ((os.filter fun y => (decide (sgO y = sgO o) && decide (y.1 < o.1))).map dOp))), .fz (RD (.list ((fs.filter fun y => decide (sgO y = sgO o)).map dOp))), .any]⟩ _
      refine s_drop 2 ?_
      refine s_drop 3 ?_
      refine s_drop 4 ?_
      show WC ⟨hs, h1_1, om, [.fz (RD (.list (os.map dOp))), .own (OL ((fs ++ [o]).map dOp)), .any, .any, .any, .any]⟩ _
      exact s_of ⟨(fs ++ [o]), rfl, (by rw [best_next hf hx hp.2 this]; rfl)⟩
    · have := h3
      refine s_pass ?_
      refine s_drop 2 ?_
      refine s_drop 3 ?_
      refine s_drop 4 ?_
      show WC ⟨hs, h1_1, om, [.fz (RD (.list (os.map dOp))), .own (OL (fs.map dOp)), .any, .any, .any, .any]⟩ _
      exact s_of ⟨fs, rfl, (by rw [best_next hf hx hp.2 this]; rfl)⟩
  · rintro γ ⟨fs, rfl, hf⟩
    show WC ⟨hs, (less hs om), om, [.fz (RD (.list (os.map dOp))), .own (OL (fs.map dOp)), .any, .any, .any, .any]⟩ _
    rw [List.take_length] at hf
    refine s_retOwn (C := OL ((bestL os).map dOp)) (congrArg (fun z => some (Slot.own (OL (List.map dOp z)))) (show fs = (bestL os) from ?_)) q
    rw [hf]; rfl
end
section
open GxR NdefX PySem.Spec PyProof.Rows
variable {P : Program} {w : World} {K : PySem.W.Frag} {mg : Str → Option Value} {base : Heap}
theorem cross1 {n : Int} : crossN [n] = [0, n] := by
  simp [crossN, List.range_succ]
theorem menuE_len (b : Bool) (r : List Int) : (menuE b r).length ≤ 3 := by
  unfold menuE
  refine Nat.le_trans (List.length_filter_le _ _) ?_
  cases b <;> simp
theorem menus_len (b : Bool) (rw : List (List Int)) : (rw.flatMap fun r => (menuE b r).map fun k => r ++ [k]).length ≤ 3 * rw.length := by
  induction rw with
  | nil => exact Nat.zero_le _
  | cons r l ih =>
    rw [List.flatMap_cons, List.length_append, List.length_cons, List.length_map]
    have := menuE_len b r
    omega
theorem evS_len {rw : List (List Int)} {b : Bool} {n : Nat} (h : ∀ r ∈ rw, r.length = n) : ∀ r ∈ evS rw b, r.length = n + 1 := fun r hr => by
  obtain ⟨t, ht, hm⟩ := List.mem_flatMap.mp hr
  obtain ⟨k, _, rfl⟩ := List.mem_map.mp hm
  rw [List.length_append, h t ht]
  rfl
theorem foldE_len : ∀ (bs : List Bool) {rw : List (List Int)} {n : Nat}, (∀ r ∈ rw, r.length = n) → ∀ r ∈ bs.foldl evS rw, r.length = n + bs.length
  | [], _, _, h => h
  | b :: bs, rw, n, h => fun r hr => by
    have := foldE_len bs (evS_len (b := b) h) r hr
    rw [List.length_cons, this]
    omega
theorem evenL_len {bs : List Bool} {r : List Int} (h : r ∈ evenL bs) : r.length = bs.length := by
  have := foldE_len bs (rw := [[]]) (n := 0) (fun r hr => by rw [List.mem_singleton.mp hr]; rfl) r h
  omega
theorem foldE_count : ∀ (bs : List Bool) (rw : List (List Int)), (bs.foldl evS rw).length ≤ 3 ^ bs.length * rw.length
  | [], rw => by simp
  | b :: bs, rw => by
    have h := foldE_count bs (evS rw b)
    have h2 := menus_len b rw
    rw [List.foldl_cons, List.length_cons]
    refine Nat.le_trans h (Nat.le_trans (Nat.mul_le_mul_left _ (show (evS rw b).length ≤ 3 * rw.length from h2)) ?_)
    rw [Nat.pow_succ, Nat.mul_assoc]
    exact Nat.le_refl _
theorem evenL_count (bs : List Bool) : (evenL bs).length ≤ 3 ^ bs.length := by
  have := foldE_count bs [[]]
  simpa [evenL] using this
theorem even_next {rw : List (List Int)} {i : Nat} {f : Nat → Bool} (h : rw = evenL ((List.range i).map f)) : (rw.flatMap fun r => (menuE (f i) r).map fun k => r ++ [k]) = evenL ((List.range (i + 1)).map f) := by
  rw [List.range_succ, List.map_append, h]
  unfold evenL
  rw [List.foldl_append]
  rfl
theorem not_cross {i n : Nat} (h : i < n) : ((i : Int) ∈ [0, (n : Int)]) ↔ i = 0 := by
  constructor
  · intro z
    rcases List.mem_cons.mp z with y | y
    · omega
    · have := List.mem_singleton.mp y
      omega
  · intro z
    subst z
    exact List.mem_cons_self
theorem menu_pos {i n : Nat} (hi : i < n) (h : (!decide ((i : Int) ∈ [0, (n : Int)])) = true) : i ≠ 0 := fun z => by rw [decide_eq_true ((not_cross hi).mpr z)] at h; exact nomatch h
theorem menu_step {b : Bool} {i n : Nat} {r : List Int} (hi : i < n) (h : (!decide ((i : Int) ∈ [0, (n : Int)])) = true) (rl : r.length = i) :
    (((if b = true then [0] else [0, 1, 2] : List Int).filter fun k => decide ((k + ix r (-1)) % 2 = 0)).map fun k => k) = menuE b r := by
  have i0 : i ≠ 0 := fun z => by rw [decide_eq_true ((not_cross hi).mpr z)] at h; exact nomatch h
  have re : r.isEmpty = false := by cases r with | nil => exact absurd rl.symm i0 | cons _ _ => rfl
  rw [List.map_id']
  unfold menuE
  rw [re]
  rfl
theorem menu_zero {b : Bool} {i n : Nat} {r : List Int} (hi : i < n) (h : (!decide ((i : Int) ∈ [0, (n : Int)])) = false) (rl : r.length = i) : menuE b r = (if b = true then [0] else [0, 1, 2] : List Int) := by
  have i0 : i = 0 := (not_cross hi).mp (of_decide_eq_true (by
    cases hq : decide ((i : Int) ∈ [0, (n : Int)]) with
    | true => rfl
    | false => rw [hq] at h; exact nomatch h))
  have re : r = [] := List.length_eq_zero_iff.mp (rl.trans i0)
  subst re
  unfold menuE
  exact List.filter_eq_self.mpr fun _ _ => rfl
theorem menu_next {b : Bool} {rw : List (List Int)} {j : Nat} {r : List Int} (hx : rw[j]? = some r) : ((rw.take (j + 1)).flatMap fun r => (menuE b r).map fun k => r ++ [k]) = ((rw.take j).flatMap fun r => (menuE b r).map fun k => r ++ [k]) ++ (menuE b r).map fun k => r ++ [k] := by
  rw [List.take_add_one, hx, List.flatMap_append]
  congr 1
  exact List.append_nil _
def Rs__law_even  : Nat × (List (Str × Int × Int)) → List Rel := fun x => [(RD ((eT3 (eL PyData.int) (eL PyData.int) (eL dLk)) ([(x.1 : Int)], ([] : List Int), x.2))), (RD (.int 0))]
def P__law_even  : Nat × (List (Str × Int × Int)) → Hp → Prop := fun x H => x.1 ≤ 5 ∧ ∀ c ∈ x.2, PyData.strOk c.1 = true
def R__law_even  : Nat × (List (Str × Int × Int)) → Rel := fun x => (RD (.list ((evenL ((List.range x.1).map fun k : Nat => decide ((("up" : Str), (0 : Int), (k : Int)) ∈ x.2))).map (eTL PyData.int))))
theorem ok__law_even {f : Addr} {fd : FuncData} (F : Fun K "_law_even" "_law_even" s__law_even f fd) (t__law_crosses : TopD P w K mg base 2 "_law_crosses" ["lengths"] (SpN (Rs__law_crosses ) (P__law_crosses ) (R__law_crosses ))) (z_range : mg "range" = none) (z_int : mg "int" = none) : FnOk P w K mg base CX0 3 f fd ["house", "aisle"] (Sps (Rs__law_even ) (P__law_even ) (R__law_even )) := by
  refine fn_ok F sc__law_even (fun _ => rfl) fun cdv A outer s H E0 hr => ?_
  have nd := sc__law_even.nd
  refine ⟨_, (pss_cons (ps_set (i := 2) nd rfl (.inl rfl) (pe_call t__law_crosses.G (by exact hr.mono (by decide)) (by rfl) t__law_crosses.g t__law_crosses.kp t__law_crosses.b .nil pass0 (pa_cons (pe_ix (r := rIxT K) ix_tup (pv 0) pe_int (fun _ _ => rfl)) pa_nil)))
      (pss_cons (ps_set (i := 3) nd rfl (.inl rfl) (pe_lst (pa_cons (pe_tup pa_nil) pa_nil)))
      (pss_cons (ps_for PassesOwn.never rfl (pi_range1 rfl z_range (pa_cons (pe_ix (r := rIxL K) ix_list (pv 2) (pe_un un_neg pe_int) (fun _ _ => rfl)) pa_nil)) (pg_name (i := 4) nd rfl (.inl rfl)) (pss_cons (ps_set (i := 5) nd rfl (.inl rfl) (pe_lst pa_nil))
      (pss_cons (ps_for PassesOwn.never rfl (pi_list (pv 3)) (pg_name (i := 6) nd rfl (.inr rfl)) (pss_cons (ps_set (i := 7) nd rfl (.inl rfl) (pe_ifExp (pt_cmpR (r := rInD K) (op_inD (room65 hr)) (pe_tup (pa_cons pe_str (pa_cons (pv 1) (pa_cons (pv 4) pa_nil)))) (pe_ix (r := rIxT K) ix_tup (pv 0) pe_int (fun _ _ => rfl)) (by rfl)) (pe_lst (pa_cons pe_int pa_nil)) (pe_lst (pa_cons pe_int (pa_cons pe_int (pa_cons pe_int pa_nil))))))
      (pss_cons (ps_if (pt_cmpR (r := rNotInD K) (op_notInD (room65 hr)) (pv 4) (pv 2) (by rfl)) (pss_one (ps_setLc (i := 7) (own := [("number", 8)]) (g := (gName 8)) rfl nd rfl rfl rfl (pi_list (pv 7)) (blkOk_by (N := ["house", "aisle", "crosses", "rows", "height", "longer", "row", "menu", "number"]) (sc := defScope s__law_even) (by decide +kernel)) (fun _ _ _ _ _ => (pg_name (i := 8) nd rfl (.inl rfl))) (fun _ _ _ _ _ => pts_one (pt_cmpR (r := rEq) op_eq (pe_op op_mod (pe_callTy (r := fun xs H Q => (∃ i, xs = [.int i] ∧ Q (.int i) H) ∨ ∃ k, xs = [.bl k] ∧ Q (.int (if k then 1 else 0)) H) call_int1 (by rfl) z_int (by decide +kernel) (pa_cons (pe_op (r := rI0 fun i j => .int (i + j)) op_add (pv 8) (pe_ix (r := rIxT K) ix_tup (pv 6) (pe_un un_neg pe_int) (fun _ _ => rfl))) pa_nil)) pe_int) pe_int (nomark _))) (fun _ _ _ _ _ => (pv 8)))) pss_nil)
      (pss_one (ps_set (i := 5) nd rfl (.inl rfl) (pe_op op_cat (pv 5) (pe_lc (own := [("number", 8)]) (g := (gName 8)) (tt := tYes) rfl nd (pi_list (pv 7)) (blkOk_by (N := ["house", "aisle", "crosses", "rows", "height", "longer", "row", "menu", "number"]) (sc := defScope s__law_even) (by decide +kernel)) (fun _ _ _ _ _ => (pg_name (i := 8) nd rfl (.inl rfl))) (fun _ _ _ _ _ => pts_nil) (fun _ _ _ _ _ => (pe_op (r := rCatA K) op_catA (pv 6) (pe_tup (pa_cons (pv 8) pa_nil)))))))))))
      (pss_one (ps_set (i := 3) nd rfl (.inl rfl) (pv 5))))))
      (pss_one (ps_ret (pv 3)))))), ?_⟩
  rintro ⟨n, cs⟩ hs om Q hp q
  show WC ⟨hs, (less hs om), om, [.fz (RD ((eT3 (eL PyData.int) (eL PyData.int) (eL dLk)) ([(n : Int)], ([] : List Int), cs))), .fz (RD (.int 0)), .any, .any, .any, .any, .any, .any, .any]⟩ _
  replace hp : n ≤ 5 ∧ ∀ c ∈ cs, PyData.strOk c.1 = true := hp
  replace q : ∀ H' v, Kp hs H' → (RD (.list ((evenL ((List.range n).map fun k : Nat => decide ((("up" : Str), (0 : Int), (k : Int)) ∈ cs))).map (eTL PyData.int)))).p (less H' om) v → Q v H' := q
  have ixn : ix [0, (n : Int)] (-1) = (n : Int) := rfl
  refine s_seq ?_
  refine s_set (E.eq (n_e (show EN _ _ (OL ((crossN ([(n : Int)])).map PyData.int)) from n_call (skn_spn (Rs := Rs__law_crosses ) (P := P__law_crosses ) (C := R__law_crosses ) (([(n : Int)]))) (a_cons (e_op (o_ixT rfl) (e_var rfl) e_int) a_nil) (fun H kp => by show ([(n : Int)]).length ≤ 2; exact Nat.le_succ 1))) (e := .list ([0, (n : Int)].map PyData.int)) (by rw [cross1])) ?_
  show WC ⟨hs, (less hs om), om, [.fz (RD ((eT3 (eL PyData.int) (eL PyData.int) (eL dLk)) ([(n : Int)], ([] : List Int), cs))), .fz (RD (.int 0)), .fz (RD (.list ([0, (n : Int)].map PyData.int))), .any, .any, .any, .any, .any, .any]⟩ _
  refine s_seq ?_
  refine s_set (n_e (n_lstM (xs := [([] : List Int)]) (enc := (eTL PyData.int)) (m_cons (e_tup m_nil) m_nil))) ?_
  show WC ⟨hs, (less hs om), om, [.fz (RD ((eT3 (eL PyData.int) (eL PyData.int) (eL dLk)) ([(n : Int)], ([] : List Int), cs))), .fz (RD (.int 0)), .fz (RD (.list ([0, (n : Int)].map PyData.int))), .fz (RD (.list ([([] : List Int)].map (eTL PyData.int)))), .any, .any, .any, .any, .any]⟩ _
  refine s_seq ?_
  refine s_rng (lo := 0) (n := ((ix [0, (n : Int)] (-1)) : Int).toNat) (fun (i : Nat) γ => ∃ (rw : List (List (Int))), γ = [.fz (RD ((eT3 (eL PyData.int) (eL PyData.int) (eL dLk)) ([(n : Int)], ([] : List Int), cs))), .fz (RD (.int 0)), .fz (RD (.list ([0, (n : Int)].map PyData.int))), .fz (RD (.list (rw.map (eTL PyData.int)))), .any, .any, .any, .any, .any] ∧ (rw = evenL ((List.range i).map fun k : Nat => decide ((("up" : Str), (0 : Int), (k : Int)) ∈ cs)))) (w_rng1 (j := (ix [0, (n : Int)] (-1))) (e_op (o_ixL (ix_at (xs := [0, (n : Int)]) (i := (-1)) (by show -(2 : Int) ≤ -1 ∧ (-1 : Int) < 2; omega))) (e_var rfl) (e_un o_neg e_int)) (by rw [ixn]; omega)) ⟨[([] : List Int)], rfl, rfl⟩ ?_ ?_
  · rintro i0 γ hi0 ⟨rw, rfl, hr⟩
    rw [Int.zero_add]
    rw [ixn] at hi0
    have hil : i0 < n := by omega
    have rc := evenL_count ((List.range i0).map fun k : Nat => decide ((("up" : Str), (0 : Int), (k : Int)) ∈ cs))
    rw [← hr, List.length_map, List.length_range] at rc
    have rc2 : rw.length ≤ 243 := Nat.le_trans rc (Nat.pow_le_pow_right (by decide) (show i0 ≤ 5 by omega))
    have rcl : ∀ r ∈ rw, r.length = i0 := fun r h => by rw [hr] at h; have := evenL_len h; rw [List.length_map, List.length_range] at this; exact this
    refine ⟨_, _, g_name, ?_⟩
    show WC ⟨hs, (less hs om), om, [.fz (RD ((eT3 (eL PyData.int) (eL PyData.int) (eL dLk)) ([(n : Int)], ([] : List Int), cs))), .fz (RD (.int 0)), .fz (RD (.list ([0, (n : Int)].map PyData.int))), .fz (RD (.list (rw.map (eTL PyData.int)))), .fz (RD (.int (i0 : Int))), .any, .any, .any, .any]⟩ _
    refine s_seq ?_
    refine s_set (n_e (n_lst m_nil)) ?_
    show WC ⟨hs, (less hs om), om, [.fz (RD ((eT3 (eL PyData.int) (eL PyData.int) (eL dLk)) ([(n : Int)], ([] : List Int), cs))), .fz (RD (.int 0)), .fz (RD (.list ([0, (n : Int)].map PyData.int))), .fz (RD (.list (rw.map (eTL PyData.int)))), .fz (RD (.int (i0 : Int))), .fz (RD (.list (([] : List (List (Int))).map (eTL PyData.int)))), .any, .any, .any]⟩ _
    refine s_seq ?_
    refine s_for (xs := rw) (enc := (eTL PyData.int)) (fun (i : Nat) γ => ∃ (lg : List (List (Int))), γ = [.fz (RD ((eT3 (eL PyData.int) (eL PyData.int) (eL dLk)) ([(n : Int)], ([] : List Int), cs))), .fz (RD (.int 0)), .fz (RD (.list ([0, (n : Int)].map PyData.int))), .fz (RD (.list (rw.map (eTL PyData.int)))), .fz (RD (.int (i0 : Int))), .fz (RD (.list (lg.map (eTL PyData.int)))), .any, .any, .any] ∧ (lg = (rw.take i).flatMap fun r => (menuE (decide ((("up" : Str), (0 : Int), (i0 : Int)) ∈ cs)) r).map fun k => r ++ [k])) (e_var rfl) ⟨([] : List (List (Int))), rfl, rfl⟩ ?_ ?_
    · rintro h1_1 j r γ kp hx ⟨lg, rfl, hj⟩
      have jl := (List.getElem?_eq_some_iff.mp hx).1
      have rl : r.length = i0 := rcl r (List.mem_of_getElem? hx)
      have ll : lg.length ≤ 3 * j := by rw [hj]; exact Nat.le_trans (menus_len _ _) (by rw [List.length_take]; omega)
      refine ⟨_, _, g_name, ?_⟩
      show WC ⟨hs, h1_1, om, [.fz (RD ((eT3 (eL PyData.int) (eL PyData.int) (eL dLk)) ([(n : Int)], ([] : List Int), cs))), .fz (RD (.int 0)), .fz (RD (.list ([0, (n : Int)].map PyData.int))), .fz (RD (.list (rw.map (eTL PyData.int)))), .fz (RD (.int (i0 : Int))), .fz (RD (.list (lg.map (eTL PyData.int)))), .fz (RD ((eTL PyData.int) r)), .any, .any]⟩ _
      refine s_seq ?_
      obtain ⟨bq, ebq⟩ : ∃ z, (decide ((("up" : Str), 0, (i0 : Int)) ∈ cs)) = z := ⟨_, rfl⟩
      refine s_set (show Pk.E true _ _ (RD (eL PyData.int (if bq = true then [0] else [0, 1, 2]))) from e_ite (enc := eL PyData.int) (u := [0]) (v := [0, 1, 2]) (t_eq (t_T (e_op (o_inE (f := dLk) (a := (("up" : Str), 0, (i0 : Int))) (xs := cs) (hd := inferInstance) (by exact enc_Lk) (by decide) (by exact ⟨(by decide +kernel : PyData.strOk ("up" : Str) = true), trivial, trivial⟩) (by exact fun c m => ⟨hp.2 c m, trivial, trivial⟩)) (e_tup (m_cons e_str (m_cons (e_var rfl) (m_cons (e_var rfl) m_nil)))) (e_op (o_ixT rfl) (e_var rfl) e_int))) ebq) (fun _ => n_e (n_lstM (xs := [0]) (enc := PyData.int) (m_cons e_int m_nil))) (fun _ => n_e (n_lstM (xs := [0, 1, 2]) (enc := PyData.int) (m_cons e_int (m_cons e_int (m_cons e_int m_nil)))))) ?_
      show WC ⟨hs, h1_1, om, [.fz (RD ((eT3 (eL PyData.int) (eL PyData.int) (eL dLk)) ([(n : Int)], ([] : List Int), cs))), .fz (RD (.int 0)), .fz (RD (.list ([0, (n : Int)].map PyData.int))), .fz (RD (.list (rw.map (eTL PyData.int)))), .fz (RD (.int (i0 : Int))), .fz (RD (.list (lg.map (eTL PyData.int)))), .fz (RD ((eTL PyData.int) r)), .fz (RD (.list ((if bq = true then [0] else [0, 1, 2] : List Int).map PyData.int))), .any]⟩ _
      have mq : (if bq = true then [0] else [0, 1, 2] : List Int).length ≤ 3 := by cases bq <;> simp
      refine s_seq ?_
      refine s_if (t_T (e_op (o_niE (f := PyData.int) (a := (i0 : Int)) (xs := [0, (n : Int)]) (hd := inferInstance) (by exact enc_int) (by decide) (by exact trivial) (by exact (fun _ _ => trivial))) (e_var rfl) (e_var rfl))) (fun h1 => ?_) (fun h1 => ?_)
      · have := h1
        refine s_set (E.eq (n_e (n_lcM (xs := (if bq = true then [0] else [0, 1, 2] : List Int)) (enc := PyData.int) (h := fun k => k) (p := fun k => (decide (((k + (ix r (-1))) % 2) = 0))) (encB := PyData.int) (i_of (e_var rfl)) rfl (by decide) (fun _ k hxk => g_name) (fun _ k hxk => by exact (t_T (e_op o_eqI (e_op (o_mod (i := (k + (ix r (-1)))) (j := 2) (by omega)) (e_cb o_int (a_cons (e_op o_add (e_var rfl) (e_ixTL (xs := r) (f := PyData.int) (i := (-1)) (e_var rfl) (e_un o_neg e_int) (by have := menu_pos (n := n) hil this; omega))) a_nil)) e_int) e_int))) (fun _ k hxk hyk => by exact (e_var rfl)) (by omega))) (e := .list ((menuE bq r).map PyData.int)) (by rw [menu_step (n := n) hil this rl])) ?_
        show WC ⟨hs, h1_1, om, [.fz (RD ((eT3 (eL PyData.int) (eL PyData.int) (eL dLk)) ([(n : Int)], ([] : List Int), cs))), .fz (RD (.int 0)), .fz (RD (.list ([0, (n : Int)].map PyData.int))), .fz (RD (.list (rw.map (eTL PyData.int)))), .fz (RD (.int (i0 : Int))), .fz (RD (.list (lg.map (eTL PyData.int)))), .fz (RD ((eTL PyData.int) r)), .fz (RD (.list ((menuE bq r).map PyData.int))), .any]⟩ _
        refine s_set (n_e (n_catM (xs := lg) (ys := ((menuE bq r).map fun k => (r ++ [k]))) (i_of (e_var rfl)) (i_n (n_lcM1 (xs := (menuE bq r)) (enc := PyData.int) (h := fun k => (r ++ [k])) (encB := (eTL PyData.int)) (i_of (e_var rfl)) rfl (by decide) (fun _ k hxk => g_name) (fun _ k hxk hyk => by exact (e_op (o_catT (xs := r) (ys := [k]) (by rw [rl]; show i0 + 1 ≤ 16777216; omega)) (e_var rfl) (e_tup (m_cons (e_var rfl) m_nil)))) (by have := menuE_len bq r; omega))) (by rw [List.length_map]; have := menuE_len bq r; omega))) ?_
        show WC ⟨hs, h1_1, om, [.fz (RD ((eT3 (eL PyData.int) (eL PyData.int) (eL dLk)) ([(n : Int)], ([] : List Int), cs))), .fz (RD (.int 0)), .fz (RD (.list ([0, (n : Int)].map PyData.int))), .fz (RD (.list (rw.map (eTL PyData.int)))), .fz (RD (.int (i0 : Int))), .fz (RD (.list ((lg ++ ((menuE bq r).map fun k => (r ++ [k]))).map (eTL PyData.int)))), .fz (RD ((eTL PyData.int) r)), .fz (RD (.list ((menuE bq r).map PyData.int))), .any]⟩ _
        refine s_drop 6 ?_
        refine s_drop 7 ?_
        show WC ⟨hs, h1_1, om, [.fz (RD ((eT3 (eL PyData.int) (eL PyData.int) (eL dLk)) ([(n : Int)], ([] : List Int), cs))), .fz (RD (.int 0)), .fz (RD (.list ([0, (n : Int)].map PyData.int))), .fz (RD (.list (rw.map (eTL PyData.int)))), .fz (RD (.int (i0 : Int))), .fz (RD (.list ((lg ++ ((menuE bq r).map fun k => (r ++ [k]))).map (eTL PyData.int)))), .any, .any, .any]⟩ _
        exact s_of ⟨(lg ++ ((menuE bq r).map fun k => (r ++ [k]))), rfl, (by rw [hj, ebq]; exact (menu_next hx).symm)⟩
      · have := h1
        refine s_pass ?_
        refine s_set (n_e (n_catM (xs := lg) (ys := ((if bq = true then [0] else [0, 1, 2] : List Int).map fun k => (r ++ [k]))) (i_of (e_var rfl)) (i_n (n_lcM1 (xs := (if bq = true then [0] else [0, 1, 2] : List Int)) (enc := PyData.int) (h := fun k => (r ++ [k])) (encB := (eTL PyData.int)) (i_of (e_var rfl)) rfl (by decide) (fun _ k hxk => g_name) (fun _ k hxk hyk => by exact (e_op (o_catT (xs := r) (ys := [k]) (by rw [rl]; show i0 + 1 ≤ 16777216; omega)) (e_var rfl) (e_tup (m_cons (e_var rfl) m_nil)))) (by have := menuE_len bq r; omega))) (by rw [List.length_map]; have := menuE_len bq r; omega))) ?_
        show WC ⟨hs, h1_1, om, [.fz (RD ((eT3 (eL PyData.int) (eL PyData.int) (eL dLk)) ([(n : Int)], ([] : List Int), cs))), .fz (RD (.int 0)), .fz (RD (.list ([0, (n : Int)].map PyData.int))), .fz (RD (.list (rw.map (eTL PyData.int)))), .fz (RD (.int (i0 : Int))), .fz (RD (.list ((lg ++ ((if bq = true then [0] else [0, 1, 2] : List Int).map fun k => (r ++ [k]))).map (eTL PyData.int)))), .fz (RD ((eTL PyData.int) r)), .fz (RD (.list ((if bq = true then [0] else [0, 1, 2] : List Int).map PyData.int))), .any]⟩ _
        refine s_drop 6 ?_
        refine s_drop 7 ?_
        show WC ⟨hs, h1_1, om, [.fz (RD ((eT3 (eL PyData.int) (eL PyData.int) (eL dLk)) ([(n : Int)], ([] : List Int), cs))), .fz (RD (.int 0)), .fz (RD (.list ([0, (n : Int)].map PyData.int))), .fz (RD (.list (rw.map (eTL PyData.int)))), .fz (RD (.int (i0 : Int))), .fz (RD (.list ((lg ++ ((if bq = true then [0] else [0, 1, 2] : List Int).map fun k => (r ++ [k]))).map (eTL PyData.int)))), .any, .any, .any]⟩ _
        exact s_of ⟨(lg ++ ((if bq = true then [0] else [0, 1, 2] : List Int).map fun k => (r ++ [k]))), rfl, (by rw [hj, ebq, ← menu_zero (b := bq) (n := n) hil this rl]; exact (menu_next hx).symm)⟩
    · rintro γ ⟨lg, rfl, hj⟩
      show WC ⟨hs, (less hs om), om, [.fz (RD ((eT3 (eL PyData.int) (eL PyData.int) (eL dLk)) ([(n : Int)], ([] : List Int), cs))), .fz (RD (.int 0)), .fz (RD (.list ([0, (n : Int)].map PyData.int))), .fz (RD (.list (rw.map (eTL PyData.int)))), .fz (RD (.int (i0 : Int))), .fz (RD (.list (lg.map (eTL PyData.int)))), .any, .any, .any]⟩ _
      rw [List.take_length] at hj
      refine s_set (e_var rfl) ?_
      show WC ⟨hs, (less hs om), om, [.fz (RD ((eT3 (eL PyData.int) (eL PyData.int) (eL dLk)) ([(n : Int)], ([] : List Int), cs))), .fz (RD (.int 0)), .fz (RD (.list ([0, (n : Int)].map PyData.int))), .fz (RD (.list (lg.map (eTL PyData.int)))), .fz (RD (.int (i0 : Int))), .fz (RD (.list (lg.map (eTL PyData.int)))), .any, .any, .any]⟩ _
      refine s_drop 4 ?_
      refine s_drop 5 ?_
      show WC ⟨hs, (less hs om), om, [.fz (RD ((eT3 (eL PyData.int) (eL PyData.int) (eL dLk)) ([(n : Int)], ([] : List Int), cs))), .fz (RD (.int 0)), .fz (RD (.list ([0, (n : Int)].map PyData.int))), .fz (RD (.list (lg.map (eTL PyData.int)))), .any, .any, .any, .any, .any]⟩ _
      exact s_of ⟨lg, rfl, (by rw [hj]; exact even_next hr)⟩
  · rintro γ ⟨rw, rfl, hr⟩
    show WC ⟨hs, (less hs om), om, [.fz (RD ((eT3 (eL PyData.int) (eL PyData.int) (eL dLk)) ([(n : Int)], ([] : List Int), cs))), .fz (RD (.int 0)), .fz (RD (.list ([0, (n : Int)].map PyData.int))), .fz (RD (.list (rw.map (eTL PyData.int)))), .any, .any, .any, .any, .any]⟩ _
    rw [ixn] at hr
    rw [show ((n : Int)).toNat = n from Int.toNat_natCast n] at hr
    refine s_ret (E.eq (e_var rfl) (e := .list ((evenL ((List.range n).map fun k : Nat => decide ((("up" : Str), (0 : Int), (k : Int)) ∈ cs))).map (eTL PyData.int))) ?_) q
    rw [hr]
section
variable {b : Bool} {c : Ct} {K : PySem.W.Frag} {ta tb : TE}
theorem DtAll.bools {H : Hp} : ∀ {vs : List V} {ns : List Bool}, DtAll H vs (ns.map PyData.bool) → vs = ns.map V.bl
  | [], [], _ => rfl
  | [], _ :: _, h => by cases h
  | _ :: _, [], h => by cases h
  | v :: vs, x :: ns, .cons a r => by
    cases a
    rw [r.bools]
    rfl
theorem dpAll_bool {K : PySem.W.Frag} {H : Hp} : ∀ ns : List Bool, DpAll K H (ns.map V.bl) (ns.map PyData.bool)
  | [] => .nil
  | n :: ns => .cons (.bl n) (dpAll_bool ns)
theorem e_indexB {bs : List Bool} {i : Bool} {j : Nat} (h : EI c ta (bs.map PyData.bool)) (hy : E true c tb (RD (.bool i))) (hj : bs[j]? = some i) (no : i ∉ bs.take j) : E b c (tBM K "list" (rIndexD K) ta (tCons tb tNil)) (RD (.int (j : Int))) := fun σ H s Q q =>
  h σ H s _ fun H1 a vs k1 e1 r1 => by
    refine .inl ⟨rfl, vs, SqL.of e1⟩ |> fun z => ⟨z, hy σ H1 (s.kp k1) _ fun H2 v k2 r2 => ?_⟩
    cases r2
    have ev := r1.bools
    subst ev
    refine ⟨a, .bl i, .bool i, bs.map PyData.bool, j, .bool i, rfl, rfl, .lst (SqL.of (k2.lst e1)) (dpAll_bool bs), .bl i, ?_, rfl, by rw [List.getElem?_map, hj]; rfl, by rw [enc_bool.eqv]; simp, fun m z' hm hz => ?_, q H2 _ (k1.trans k2) (.int _)⟩
    · exact (enc_list enc_bool).shaped (by decide) (a := bs) fun _ _ => trivial
    · rw [List.getElem?_map] at hz
      obtain ⟨y, hy2, rfl⟩ := Option.map_eq_some_iff.mp hz
      rw [enc_bool.eqv, decide_eq_false_iff_not]
      intro e
      subst e
      refine no (List.mem_iff_getElem?.mpr ⟨m, ?_⟩)
      rw [List.getElem?_take, if_pos hm]
      exact hy2
theorem idxB_at {bs : List Bool} (h : false ∈ bs) : bs[bs.idxOf false]? = some false := by
  have l := List.idxOf_lt_length_iff.mpr h
  rw [List.getElem?_eq_getElem l, List.getElem_idxOf l]
theorem idxB_no {bs : List Bool} : false ∉ bs.take (bs.idxOf false) := by
  induction bs with
  | nil => simp
  | cons x l ih =>
    rw [List.idxOf_cons]
    cases x with
    | false => simp
    | true =>
      show false ∉ (true :: l).take (l.idxOf false + 1)
      rw [List.take_succ_cons]
      intro z
      rcases List.mem_cons.mp z with y | y
      · exact nomatch y
      · exact ih y
end
theorem hang_eq {row ins : List Int} {low : Int} {wk : List Bool} (e : (row.map fun k => decide (0 < k)) = wk) : hangF row ins low =
    if ((rgI 0 row.length).any fun k => (ix wk k && (decide ((if false ∈ wk then ((wk.idxOf false : Nat) : Int) else (row.length : Int)) ≤ k) && decide (k < (if false ∈ wk then (row.length : Int) - ((wk.reverse.idxOf false : Nat) : Int) else 0))))) = true then false
    else ins.all fun h => (decide (h - low ≤ (if false ∈ wk then ((wk.idxOf false : Nat) : Int) else (row.length : Int))) || decide ((if false ∈ wk then (row.length : Int) - ((wk.reverse.idxOf false : Nat) : Int) else 0) ≤ h - low)) := by
  unfold hangF belowF aboveF
  rw [e]
def Rs__law_hangs  : (List Int) × (List Int) × Int → List Rel := fun x => [(RD ((eTL PyData.int) x.1)), (RD (.list (x.2.1.map PyData.int))), (RD (.int x.2.2))]
def P__law_hangs  : (List Int) × (List Int) × Int → Hp → Prop := fun x H => x.1.length ≤ 1000 ∧ x.2.1.length ≤ 1000
def R__law_hangs  : (List Int) × (List Int) × Int → Rel := fun x => (RD (.bool (hangF x.1 x.2.1 x.2.2)))
theorem ok__law_hangs {f : Addr} {fd : FuncData} (F : Fun K "_law_hangs" "_law_hangs" s__law_hangs f fd) (z_len : mg "len" = none) (z_range : mg "range" = none) (z_any : mg "any" = none) (z_all : mg "all" = none) : FnOk P w K mg base CX0 1 f fd ["row", "inside", "low"] (Sps (Rs__law_hangs ) (P__law_hangs ) (R__law_hangs )) := by
  refine fn_ok F sc__law_hangs (fun _ => rfl) fun cdv A outer s H E0 hr => ?_
  have nd := sc__law_hangs.nd
  refine ⟨_, (pss_cons (ps_set (i := 3) nd rfl (.inr rfl) (pe_lc (own := [("number", 6)]) (g := (gName 6)) (tt := tYes) rfl nd (pi_tup (pv 0)) (blkOk_by (N := ["row", "inside", "low", "walked", "below", "above", "number", "k", "height"]) (sc := defScope s__law_hangs) (by decide +kernel)) (fun _ _ _ _ _ => (pg_name (i := 6) nd rfl (.inl rfl))) (fun _ _ _ _ _ => pts_nil) (fun _ _ _ _ _ => (pe_cmpR (r := rI0 fun i j => .bl (decide (j < i))) op_gt (pv 6) pe_int (nomark _)))))
      (pss_cons (ps_set (i := 4) nd rfl (.inr rfl) (pe_callB call_len (by rfl) z_len (by decide +kernel) (pa_cons (pv 0) pa_nil)))
      (pss_cons (ps_set (i := 5) nd rfl (.inr rfl) pe_int)
      (pss_cons (ps_if (pt_cmpR (r := rInD K) (op_inD (room65 hr)) pe_bl (pv 3) (by rfl)) (pss_cons (ps_set (i := 4) nd rfl (.inr rfl) (pe_bm PySem.F.plainAttrs_list PySem.F.slot_list_index PySem.F.type_list_index (mt_indexD (room65 hr)) (pv 3) (pa_cons pe_bl pa_nil)))
      (pss_one (ps_set (i := 5) nd rfl (.inr rfl) (pe_op op_sub (pe_callB call_len (by rfl) z_len (by decide +kernel) (pa_cons (pv 0) pa_nil)) (pe_bm PySem.F.plainAttrs_list PySem.F.slot_list_index PySem.F.type_list_index (mt_indexD (room65 hr)) (pe_revL (pv 3)) (pa_cons pe_bl pa_nil)))))) pss_nil)
      (pss_cons (ps_if (pt_val (pe_callB (cr_any rfl) (by rfl) z_any (by decide +kernel) (pa_cons (pe_lc (own := [("k", 7)]) (g := (gName 7)) (tt := tYes) rfl nd (pi_range1 rfl z_range (pa_cons (pe_callB call_len (by rfl) z_len (by decide +kernel) (pa_cons (pv 0) pa_nil)) pa_nil)) (blkOk_by (N := ["row", "inside", "low", "walked", "below", "above", "number", "k", "height"]) (sc := defScope s__law_hangs) (by decide +kernel)) (fun _ _ _ _ _ => (pg_name (i := 7) nd rfl (.inl rfl))) (fun _ _ _ _ _ => pts_nil) (fun _ _ _ _ _ => (pe_and (pe_ix (r := rIxL K) ix_list (pv 3) (pv 7) (fun _ _ => rfl)) (pe_one (pe_chain (r := rI0 fun i j => .bl (decide (i ≤ j))) (r' := rI0 fun i j => .bl (decide (i < j))) op_le op_lt (pv 4) (pv 7) (pv 5)))))) pa_nil))) (pss_one (ps_ret pe_bl)) pss_nil)
      (pss_one (ps_ret (pe_callB (cr_all rfl) (by rfl) z_all (by decide +kernel) (pa_cons (pe_lc (own := [("height", 8)]) (g := (gName 8)) (tt := tYes) rfl nd (pi_list (pv 1)) (blkOk_by (N := ["row", "inside", "low", "walked", "below", "above", "number", "k", "height"]) (sc := defScope s__law_hangs) (by decide +kernel)) (fun _ _ _ _ _ => (pg_name (i := 8) nd rfl (.inl rfl))) (fun _ _ _ _ _ => pts_nil) (fun _ _ _ _ _ => (pe_or (pe_cmpR (r := rI0 fun i j => .bl (decide (i ≤ j))) op_le (pe_op (r := rI0 fun i j => .int (i - j)) op_sub (pv 8) (pv 2)) (pv 4) (nomark _)) (pe_one (pe_cmpR (r := rI0 fun i j => .bl (decide (j ≤ i))) op_ge (pe_op (r := rI0 fun i j => .int (i - j)) op_sub (pv 8) (pv 2)) (pv 5) (nomark _)))))) pa_nil))))))))), ?_⟩
  rintro ⟨row, ins, low⟩ hs om Q hp q
  show WC ⟨hs, (less hs om), om, [.fz (RD ((eTL PyData.int) row)), .fz (RD (.list (ins.map PyData.int))), .fz (RD (.int low)), .any, .any, .any, .any, .any, .any]⟩ _
  replace hp : row.length ≤ 1000 ∧ ins.length ≤ 1000 := hp
  replace q : ∀ H' v, Kp hs H' → (RD (.bool (hangF row ins low))).p (less H' om) v → Q v H' := q
  obtain ⟨wk, ewk⟩ : ∃ z, (row.map fun k => decide (0 < k)) = z := ⟨_, rfl⟩
  have wl : wk.length = row.length := by rw [← ewk, List.length_map]
  refine s_seq ?_
  refine s_set (E.eq (n_e (n_lcGM1 (xs := row) (fe := fun k => (decide (0 < k))) (encB := PyData.bool) (w_tup (xs := row) (f := PyData.int) (e_var rfl)) rfl (by decide) (fun _ k hxk => g_name) (fun _ k hxk hyk => by exact (e_op o_cmpI0 (e_var rfl) e_int)) (by omega))) (e := .list (wk.map PyData.bool)) (by rw [ewk])) ?_
  show WC ⟨hs, (less hs om), om, [.fz (RD ((eTL PyData.int) row)), .fz (RD (.list (ins.map PyData.int))), .fz (RD (.int low)), .fz (RD (.list (wk.map PyData.bool))), .any, .any, .any, .any, .any]⟩ _
  refine s_seq ?_
  refine s_set (e_cb (o_lenTM (xs := row) (enc := PyData.int)) (a_cons (e_var rfl) a_nil)) ?_
  show WC ⟨hs, (less hs om), om, [.fz (RD ((eTL PyData.int) row)), .fz (RD (.list (ins.map PyData.int))), .fz (RD (.int low)), .fz (RD (.list (wk.map PyData.bool))), .fz (RD (.int (row.length : Int))), .any, .any, .any, .any]⟩ _
  refine s_seq ?_
  try dsimp only
  refine s_set e_int ?_
  show WC ⟨hs, (less hs om), om, [.fz (RD ((eTL PyData.int) row)), .fz (RD (.list (ins.map PyData.int))), .fz (RD (.int low)), .fz (RD (.list (wk.map PyData.bool))), .fz (RD (.int (row.length : Int))), .fz (RD (.int 0)), .any, .any, .any]⟩ _
  refine s_seq ?_
  refine s_if (t_T (e_op (o_inE (f := PyData.bool) (a := false) (xs := wk) (hd := inferInstance) (by exact enc_bool) (by decide) (by exact trivial) (by exact (fun _ _ => trivial))) e_bl (e_var rfl))) (fun h2 => ?_) (fun h2 => ?_)
  · have := h2
    refine s_seq ?_
    refine s_set (e_indexB (bs := wk) (i_of (e_var rfl)) e_bl (idxB_at (of_decide_eq_true this)) idxB_no) ?_
    show WC ⟨hs, (less hs om), om, [.fz (RD ((eTL PyData.int) row)), .fz (RD (.list (ins.map PyData.int))), .fz (RD (.int low)), .fz (RD (.list (wk.map PyData.bool))), .fz (RD (.int ((wk.idxOf false : Nat) : Int))), .fz (RD (.int 0)), .any, .any, .any]⟩ _
    refine s_set (e_op o_sub (e_cb (o_lenTM (xs := row) (enc := PyData.int)) (a_cons (e_var rfl) a_nil)) (e_indexB (bs := wk.reverse) (i_n (n_rev (i_of (e_var rfl)))) e_bl (idxB_at (List.mem_reverse.mpr (of_decide_eq_true this))) idxB_no)) ?_
    show WC ⟨hs, (less hs om), om, [.fz (RD ((eTL PyData.int) row)), .fz (RD (.list (ins.map PyData.int))), .fz (RD (.int low)), .fz (RD (.list (wk.map PyData.bool))), .fz (RD (.int ((wk.idxOf false : Nat) : Int))), .fz (RD (.int ((row.length : Int) - ((wk.reverse.idxOf false : Nat) : Int)))), .any, .any, .any]⟩ _
    refine s_seq ?_
    have hb := hang_eq (row := row) (ins := ins) (low := low) ewk
    refine s_if (t_B (e_cb o_any (a_cons (n_e (n_lcRM1 (lo := 0) (n := ((row.length : Int) : Int).toNat) (h := fun k => ((ix wk k) && ((decide (((wk.idxOf false : Nat) : Int) ≤ k)) && (decide (k < ((row.length : Int) - ((wk.reverse.idxOf false : Nat) : Int))))))) (encB := PyData.bool) (w_rng1 (j := (row.length : Int)) (e_cb (o_lenTM (xs := row) (enc := PyData.int)) (a_cons (e_var rfl) a_nil)) (by omega)) rfl (by decide) (fun _ k hxk => g_name) (fun _ k hxk hyk => by exact (e_and (e_op (o_ixL (ix_at (xs := wk) (i := k) (by have := hxk; omega))) (e_var rfl) (e_var rfl)) (fun hbo => (e_chain o_cmpI0 o_cmpI0 (e_var rfl) (e_var rfl) (fun _ => (e_var rfl)))))) (by simp only [Int.toNat_natCast]; omega))) a_nil))) (fun h4 => ?_) (fun h4 => ?_)
    · have := h4
      refine s_ret (E.eq e_bl (e := PyData.bool (hangF row ins low)) ?_) q
      rw [hb]; simp_all
    · have := h4
      refine s_pass ?_
      refine s_ret (E.eq (e_cb o_all (a_cons (n_e (n_lcM1 (xs := ins) (enc := PyData.int) (h := fun h => ((decide ((h - low) ≤ ((wk.idxOf false : Nat) : Int))) || (decide (((row.length : Int) - ((wk.reverse.idxOf false : Nat) : Int)) ≤ (h - low))))) (encB := PyData.bool) (i_of (e_var rfl)) rfl (by decide) (fun _ h hxh => g_name) (fun _ h hxh hyh => by exact (e_or (e_op o_cmpI0 (e_op o_sub (e_var rfl) (e_var rfl)) (e_var rfl)) (fun hbo => (e_op o_cmpI0 (e_op o_sub (e_var rfl) (e_var rfl)) (e_var rfl))))) (by omega))) a_nil)) (e := PyData.bool (hangF row ins low)) ?_) q
      rw [hb]; simp_all
  · have := h2
    refine s_pass ?_
    refine s_seq ?_
    have hb := hang_eq (row := row) (ins := ins) (low := low) ewk
    refine s_if (t_B (e_cb o_any (a_cons (n_e (n_lcRM1 (lo := 0) (n := ((row.length : Int) : Int).toNat) (h := fun k => ((ix wk k) && ((decide ((row.length : Int) ≤ k)) && (decide (k < 0))))) (encB := PyData.bool) (w_rng1 (j := (row.length : Int)) (e_cb (o_lenTM (xs := row) (enc := PyData.int)) (a_cons (e_var rfl) a_nil)) (by omega)) rfl (by decide) (fun _ k hxk => g_name) (fun _ k hxk hyk => by exact (e_and (e_op (o_ixL (ix_at (xs := wk) (i := k) (by have := hxk; omega))) (e_var rfl) (e_var rfl)) (fun hbo => (e_chain o_cmpI0 o_cmpI0 (e_var rfl) (e_var rfl) (fun _ => (e_var rfl)))))) (by simp only [Int.toNat_natCast]; omega))) a_nil))) (fun h7 => ?_) (fun h7 => ?_)
    · have := h7
      refine s_ret (E.eq e_bl (e := PyData.bool (hangF row ins low)) ?_) q
      rw [hb]; simp_all
    · have := h7
      refine s_pass ?_
      refine s_ret (E.eq (e_cb o_all (a_cons (n_e (n_lcM1 (xs := ins) (enc := PyData.int) (h := fun h => ((decide ((h - low) ≤ (row.length : Int))) || (decide (0 ≤ (h - low))))) (encB := PyData.bool) (i_of (e_var rfl)) rfl (by decide) (fun _ h hxh => g_name) (fun _ h hxh hyh => by exact (e_or (e_op o_cmpI0 (e_op o_sub (e_var rfl) (e_var rfl)) (e_var rfl)) (fun hbo => (e_op o_cmpI0 (e_op o_sub (e_var rfl) (e_var rfl)) (e_var rfl))))) (by omega))) a_nil)) (e := PyData.bool (hangF row ins low)) ?_) q
      rw [hb]; simp_all
theorem cA1_1 {n : Int} : cA [n] (0 + 1) = n := by
  show n + 0 = n
  omega
theorem bound_at {bs : List Bool} {ins row : List Int} {os : List Op} (h : boundF bs ins os = true) (m : row ∈ evenL bs) (g : hangF row ins 0 = true) : ¬ (!decide (true ∈ os.map (goodF row))) = true := by
  have := List.all_eq_true.mp h row m
  rw [g] at this
  have : decide (true ∈ os.map (goodF row)) = true := by simpa using this
  rw [this]
  exact Bool.false_ne_true
def Rs__law_bounded  : Nat × (List (Str × Int × Int)) × Pl × Pl × (List Pl) × (List Op) → List Rel := fun x => [(RD ((eT3 (eL PyData.int) (eL PyData.int) (eL dLk)) ([(x.1 : Int)], ([] : List Int), x.2.1))), (RD ((eT3 dP dP (eL dP)) (x.2.2.1, x.2.2.2.1, x.2.2.2.2.1))), (RD (.list (x.2.2.2.2.2.map dOp)))]
def P__law_bounded  : Nat × (List (Str × Int × Int)) × Pl × Pl × (List Pl) × (List Op) → Hp → Prop := fun x H => (x.1 ≤ 5 ∧ 1 ≤ x.1) ∧ (∀ c ∈ x.2.1, PyData.strOk c.1 = true) ∧ x.2.2.2.2.2.length ≤ 1003 ∧ boundF ((List.range x.1).map fun k : Nat => decide ((("up" : Str), (0 : Int), (k : Int)) ∈ x.2.1)) (betweenL x.2.2.2.2.1 0 0 (x.1 : Int)) x.2.2.2.2.2 = true
def R__law_bounded  : Nat × (List (Str × Int × Int)) × Pl × Pl × (List Pl) × (List Op) → Rel := fun x => (RD (.bool true))
theorem ok__law_bounded {f : Addr} {fd : FuncData} (F : Fun K "_law_bounded" "_law_bounded" s__law_bounded f fd) (t__law_inside : TopD P w K mg base 3 "_law_inside" ["house", "task", "aisle", "stretch"] (SpN (Rs__law_inside ) (P__law_inside ) (R__law_inside ))) (t__law_even : TopD P w K mg base 3 "_law_even" ["house", "aisle"] (Sps (Rs__law_even ) (P__law_even ) (R__law_even ))) (t__law_hangs : TopD P w K mg base 1 "_law_hangs" ["row", "inside", "low"] (Sps (Rs__law_hangs ) (P__law_hangs ) (R__law_hangs ))) (z_int : mg "int" = none) (z_sum : mg "sum" = none) : FnOk P w K mg base CX0 4 f fd ["house", "task", "options"] (Sps (Rs__law_bounded ) (P__law_bounded ) (R__law_bounded )) := by
  refine fn_ok F sc__law_bounded (fun _ => rfl) fun cdv A outer s H E0 hr => ?_
  have nd := sc__law_bounded.nd
  refine ⟨_, (pss_cons (ps_set (i := 3) nd rfl (.inl rfl) (pe_call t__law_inside.G (by exact hr.mono (by decide)) (by rfl) t__law_inside.g t__law_inside.kp t__law_inside.b .nil pass0 (pa_cons (pv 0) (pa_cons (pv 1) (pa_cons pe_int (pa_cons pe_int pa_nil))))))
      (pss_cons (ps_for PassesOwn.never rfl (pi_list (pe_call t__law_even.G (by exact hr.mono (by decide)) (by rfl) t__law_even.g t__law_even.kp t__law_even.b .nil pass0 (pa_cons (pv 0) (pa_cons pe_int pa_nil)))) (pg_name (i := 4) nd rfl (.inl rfl)) (pss_one (ps_if (pt_val (pe_call t__law_hangs.G (by exact hr.mono (by decide)) (by rfl) t__law_hangs.g t__law_hangs.kp t__law_hangs.b .nil pass0 (pa_cons (pv 4) (pa_cons (pv 3) (pa_cons pe_int pa_nil))))) (pss_cons (ps_set (i := 5) nd rfl (.inl rfl) (pe_lst pa_nil))
      (pss_cons (ps_for PassesOwn.never rfl (pi_list (pv 2)) (pg_tup rfl (pgs_cons (pg_name (i := 6) nd rfl (.inl rfl)) (pgs_cons (pg_name (i := 7) nd rfl (.inl rfl)) (pgs_cons (pg_name (i := 8) nd rfl (.inl rfl)) (pgs_cons (pg_name (i := 9) nd rfl (.inl rfl)) (pgs_cons (pg_name (i := 10) nd rfl (.inl rfl)) pgs_nil)))))) (pss_cons (ps_set (i := 11) nd rfl (.inl rfl) (pe_and (pe_cmpR (r := rI0 fun i j => .bl (decide (i ≤ j))) op_le (pv 7) (pe_ix (r := rIxT K) ix_tup (pv 4) pe_int (fun _ _ => rfl)) (nomark _)) (pe_and (pe_cmpR (r := rI0 fun i j => .bl (decide (i ≤ j))) op_le (pv 8) (pe_ix (r := rIxT K) ix_tup (pv 4) (pe_un un_neg pe_int) (fun _ _ => rfl)) (nomark _)) (pe_and (pe_cmpR (r := rEq) op_eq (pe_op op_mod (pe_callTy call_int1 (by rfl) z_int (by decide +kernel) (pa_cons (pe_op op_sub (pe_ix (r := rIxT K) ix_tup (pv 4) pe_int (fun _ _ => rfl)) (pv 7)) pa_nil)) pe_int) pe_int (nomark _)) (pe_one (pe_cmpR (r := rEq) op_eq (pe_op op_mod (pe_callTy call_int1 (by rfl) z_int (by decide +kernel) (pa_cons (pe_op op_sub (pe_ix (r := rIxT K) ix_tup (pv 4) (pe_un un_neg pe_int) (fun _ _ => rfl)) (pv 8)) pa_nil)) pe_int) pe_int (nomark _)))))))
      (pss_one (ps_expr (pe_bm PySem.F.plainAttrs_list PySem.F.slot_list_append PySem.F.type_list_append mt_append (pv 5) (pa_cons (pe_and (pv 11) (pe_and (pe_cmpR (r := rI0 fun i j => .bl (decide (i ≤ j))) op_le (pv 6) (pe_callB (cr_sumT rfl) (by rfl) z_sum (by decide +kernel) (pa_cons (pv 4) pa_nil)) (nomark _)) (pe_one (pe_or (pv 9) (pe_one (pe_cmpR (r := rIn K false) op_in_seq pe_int (pv 4) (by rfl))))))) pa_nil))))))
      (pss_one (ps_if (pt_cmpR (r := rNotInD K) (op_notInD (room65 hr)) pe_bl (pv 5) (by rfl)) (pss_one (ps_ret pe_bl)) pss_nil)))) pss_nil)))
      (pss_one (ps_ret pe_bl)))), ?_⟩
  rintro ⟨n, cs, st, en, ps, os⟩ hs om Q hp q
  show WC ⟨hs, (less hs om), om, [.fz (RD ((eT3 (eL PyData.int) (eL PyData.int) (eL dLk)) ([(n : Int)], ([] : List Int), cs))), .fz (RD ((eT3 dP dP (eL dP)) (st, en, ps))), .fz (RD (.list (os.map dOp))), .any, .any, .any, .any, .any, .any, .any, .any, .any]⟩ _
  replace hp : (n ≤ 5 ∧ 1 ≤ n) ∧ (∀ c ∈ cs, PyData.strOk c.1 = true) ∧ os.length ≤ 1003 ∧ boundF ((List.range n).map fun k : Nat => decide ((("up" : Str), (0 : Int), (k : Int)) ∈ cs)) (betweenL ps 0 0 (n : Int)) os = true := hp
  replace q : ∀ H' v, Kp hs H' → (RD (.bool true)).p (less H' om) v → Q v H' := q
  have bl := betweenL_len ps 0 0 (n : Int)
  have lens1 : Lens [(n : Int)] := fun x hx => by rw [List.mem_singleton.mp hx]; omega
  refine s_seq ?_
  refine s_set (E.eq (n_e (show EN _ _ (OL ((betweenL ps 0 (cA [(n : Int)] 0) (cA [(n : Int)] (0 + 1))).map PyData.int)) from n_call (skn_spn (Rs := Rs__law_inside ) (P := P__law_inside ) (C := R__law_inside ) ([(n : Int)], ([] : List Int), cs, st, en, ps, 0, 0)) (a_cons (e_var rfl) (a_cons (e_var rfl) (a_cons e_int (a_cons e_int a_nil)))) (fun H kp => by show 0 < [(n : Int)].length ∧ [(n : Int)].length ≤ 2 ∧ Lens [(n : Int)]; exact ⟨Nat.zero_lt_one, Nat.le_succ 1, lens1⟩))) (e := .list ((betweenL ps 0 0 (n : Int)).map PyData.int)) (by rw [cA1_1]; rfl)) ?_
  show WC ⟨hs, (less hs om), om, [.fz (RD ((eT3 (eL PyData.int) (eL PyData.int) (eL dLk)) ([(n : Int)], ([] : List Int), cs))), .fz (RD ((eT3 dP dP (eL dP)) (st, en, ps))), .fz (RD (.list (os.map dOp))), .fz (RD (.list ((betweenL ps 0 0 (n : Int)).map PyData.int))), .any, .any, .any, .any, .any, .any, .any, .any]⟩ _
  refine s_seq ?_
  refine s_for (xs := (evenL ((List.range n).map fun k : Nat => decide ((("up" : Str), (0 : Int), (k : Int)) ∈ cs)))) (enc := (eTL PyData.int)) (fun (i : Nat) γ => γ = [.fz (RD ((eT3 (eL PyData.int) (eL PyData.int) (eL dLk)) ([(n : Int)], ([] : List Int), cs))), .fz (RD ((eT3 dP dP (eL dP)) (st, en, ps))), .fz (RD (.list (os.map dOp))), .fz (RD (.list ((betweenL ps 0 0 (n : Int)).map PyData.int))), .any, .any, .any, .any, .any, .any, .any, .any] ∧ (True)) (show E _ _ _ (RD (.list ((evenL ((List.range n).map fun k : Nat => decide ((("up" : Str), (0 : Int), (k : Int)) ∈ cs))).map (eTL PyData.int)))) from c_call (sok_sps (Rs := Rs__law_even ) (P := P__law_even ) (R := R__law_even ) (n, cs)) (a_cons (e_var rfl) (a_cons e_int a_nil)) (fun H kp => by show n ≤ 5 ∧ ∀ c ∈ cs, PyData.strOk c.1 = true; exact ⟨hp.1.1, hp.2.1⟩)) ⟨rfl, by trivial⟩ ?_ ?_
  · rintro h1_1 i0 row γ kp hr ⟨rfl, _⟩
    have rm := List.mem_of_getElem? hr
    have rl : row.length = n := by have := evenL_len rm; rw [List.length_map, List.length_range] at this; exact this
    refine ⟨_, _, g_name, ?_⟩
    show WC ⟨hs, h1_1, om, [.fz (RD ((eT3 (eL PyData.int) (eL PyData.int) (eL dLk)) ([(n : Int)], ([] : List Int), cs))), .fz (RD ((eT3 dP dP (eL dP)) (st, en, ps))), .fz (RD (.list (os.map dOp))), .fz (RD (.list ((betweenL ps 0 0 (n : Int)).map PyData.int))), .fz (RD ((eTL PyData.int) row)), .any, .any, .any, .any, .any, .any, .any]⟩ _
    refine s_if (t_B (show E _ _ _ (RD (.bool (hangF row (betweenL ps 0 0 (n : Int)) 0))) from c_call (sok_sps (Rs := Rs__law_hangs ) (P := P__law_hangs ) (R := R__law_hangs ) (row, (betweenL ps 0 0 (n : Int)), 0)) (a_cons (e_var rfl) (a_cons (e_var rfl) (a_cons e_int a_nil))) (fun H kp => by show row.length ≤ 1000 ∧ (betweenL ps 0 0 (n : Int)).length ≤ 1000; exact ⟨by omega, by omega⟩))) (fun h1 => ?_) (fun h1 => ?_)
    · have := h1
      refine s_seq ?_
      refine s_new (n_lst m_nil) ?_
      show WC ⟨hs, h1_1, om, [.fz (RD ((eT3 (eL PyData.int) (eL PyData.int) (eL dLk)) ([(n : Int)], ([] : List Int), cs))), .fz (RD ((eT3 dP dP (eL dP)) (st, en, ps))), .fz (RD (.list (os.map dOp))), .fz (RD (.list ((betweenL ps 0 0 (n : Int)).map PyData.int))), .fz (RD ((eTL PyData.int) row)), .own (OL (([] : List (Bool)).map PyData.bool)), .any, .any, .any, .any, .any, .any]⟩ _
      refine s_seq ?_
      refine s_for (xs := os) (enc := dOp) (fun (i : Nat) γ => ∃ (gd : List (Bool)), γ = [.fz (RD ((eT3 (eL PyData.int) (eL PyData.int) (eL dLk)) ([(n : Int)], ([] : List Int), cs))), .fz (RD ((eT3 dP dP (eL dP)) (st, en, ps))), .fz (RD (.list (os.map dOp))), .fz (RD (.list ((betweenL ps 0 0 (n : Int)).map PyData.int))), .fz (RD ((eTL PyData.int) row)), .own (OL (gd.map PyData.bool)), .any, .any, .any, .any, .any, .any] ∧ (gd = (os.take i).map (goodF row))) (e_var rfl) ⟨([] : List (Bool)), rfl, rfl⟩ ?_ ?_
      · rintro h1_2 j o γ kp hx ⟨gd, rfl, hj⟩
        have jl := (List.getElem?_eq_some_iff.mp hx).1
        have gl : gd.length ≤ j := by rw [hj, List.length_map, List.length_take]; omega
        refine ⟨_, _, (g_tup (gs_cons g_name (gs_cons g_name (gs_cons g_name (gs_cons g_name (gs_cons g_name gs_nil)))))), ?_⟩
        show WC ⟨hs, h1_2, om, [.fz (RD ((eT3 (eL PyData.int) (eL PyData.int) (eL dLk)) ([(n : Int)], ([] : List Int), cs))), .fz (RD ((eT3 dP dP (eL dP)) (st, en, ps))), .fz (RD (.list (os.map dOp))), .fz (RD (.list ((betweenL ps 0 0 (n : Int)).map PyData.int))), .fz (RD ((eTL PyData.int) row)), .own (OL (gd.map PyData.bool)), .fz (RD (.int o.1)), .fz (RD (.int o.2.1)), .fz (RD (.int o.2.2.1)), .fz (RD (.bool o.2.2.2.1)), .fz (RD ((eO dP) o.2.2.2.2)), .any]⟩ _
        refine s_seq ?_
        refine s_set (E.eq (e_and (e_op o_cmpI0 (e_var rfl) (e_ixTL (xs := row) (f := PyData.int) (i := 0) (e_var rfl) e_int (by omega))) (fun hbo => (e_and (e_op o_cmpI0 (e_var rfl) (e_ixTL (xs := row) (f := PyData.int) (i := (-1)) (e_var rfl) (e_un o_neg e_int) (by omega))) (fun hbo => (e_and (e_op o_eqI (e_op (o_mod (i := ((ix row 0) - o.2.1)) (j := 2) (by omega)) (e_cb o_int (a_cons (e_op o_sub (e_ixTL (xs := row) (f := PyData.int) (i := 0) (e_var rfl) e_int (by omega)) (e_var rfl)) a_nil)) e_int) e_int) (fun hbo => (e_op o_eqI (e_op (o_mod (i := ((ix row (-1)) - o.2.2.1)) (j := 2) (by omega)) (e_cb o_int (a_cons (e_op o_sub (e_ixTL (xs := row) (f := PyData.int) (i := (-1)) (e_var rfl) (e_un o_neg e_int) (by omega)) (e_var rfl)) a_nil)) e_int) e_int))))))) (e := PyData.bool (endsF row o)) (by rfl)) ?_
        show WC ⟨hs, h1_2, om, [.fz (RD ((eT3 (eL PyData.int) (eL PyData.int) (eL dLk)) ([(n : Int)], ([] : List Int), cs))), .fz (RD ((eT3 dP dP (eL dP)) (st, en, ps))), .fz (RD (.list (os.map dOp))), .fz (RD (.list ((betweenL ps 0 0 (n : Int)).map PyData.int))), .fz (RD ((eTL PyData.int) row)), .own (OL (gd.map PyData.bool)), .fz (RD (.int o.1)), .fz (RD (.int o.2.1)), .fz (RD (.int o.2.2.1)), .fz (RD (.bool o.2.2.2.1)), .fz (RD ((eO dP) o.2.2.2.2)), .fz (RD (.bool (endsF row o)))]⟩ _
        refine s_appM (xs := gd) (a := ((endsF row o) && ((decide (o.1 ≤ (row.sum))) && (o.2.2.2.1 || (decide (0 ∈ row)))))) rfl (e_and (e_var rfl) (fun hbo => (e_and (e_op o_cmpI0 (e_var rfl) (e_cb (o_sumT (ns := row)) (a_cons (e_var rfl) a_nil))) (fun hbo => (e_or (e_var rfl) (fun hbo => (e_op (o_inI (i := 0) (ns := row) false) e_int (e_var rfl)))))))) (by omega) ?_
        show WC ⟨hs, h1_2, om, [.fz (RD ((eT3 (eL PyData.int) (eL PyData.int) (eL dLk)) ([(n : Int)], ([] : List Int), cs))), .fz (RD ((eT3 dP dP (eL dP)) (st, en, ps))), .fz (RD (.list (os.map dOp))), .fz (RD (.list ((betweenL ps 0 0 (n : Int)).map PyData.int))), .fz (RD ((eTL PyData.int) row)), .own (OL ((gd ++ [((endsF row o) && ((decide (o.1 ≤ (row.sum))) && (o.2.2.2.1 || (decide (0 ∈ row)))))]).map PyData.bool)), .fz (RD (.int o.1)), .fz (RD (.int o.2.1)), .fz (RD (.int o.2.2.1)), .fz (RD (.bool o.2.2.2.1)), .fz (RD ((eO dP) o.2.2.2.2)), .fz (RD (.bool (endsF row o)))]⟩ _
        refine s_drop 6 ?_
        refine s_drop 7 ?_
        refine s_drop 8 ?_
        refine s_drop 9 ?_
        refine s_drop 10 ?_
        refine s_drop 11 ?_
        show WC ⟨hs, h1_2, om, [.fz (RD ((eT3 (eL PyData.int) (eL PyData.int) (eL dLk)) ([(n : Int)], ([] : List Int), cs))), .fz (RD ((eT3 dP dP (eL dP)) (st, en, ps))), .fz (RD (.list (os.map dOp))), .fz (RD (.list ((betweenL ps 0 0 (n : Int)).map PyData.int))), .fz (RD ((eTL PyData.int) row)), .own (OL ((gd ++ [((endsF row o) && ((decide (o.1 ≤ (row.sum))) && (o.2.2.2.1 || (decide (0 ∈ row)))))]).map PyData.bool)), .any, .any, .any, .any, .any, .any]⟩ _
        exact s_of ⟨(gd ++ [((endsF row o) && ((decide (o.1 ≤ (row.sum))) && (o.2.2.2.1 || (decide (0 ∈ row)))))]), rfl, (by rw [hj, List.take_add_one, hx, List.map_append]; rfl)⟩
      · rintro γ ⟨gd, rfl, hj⟩
        show WC ⟨hs, h1_1, om, [.fz (RD ((eT3 (eL PyData.int) (eL PyData.int) (eL dLk)) ([(n : Int)], ([] : List Int), cs))), .fz (RD ((eT3 dP dP (eL dP)) (st, en, ps))), .fz (RD (.list (os.map dOp))), .fz (RD (.list ((betweenL ps 0 0 (n : Int)).map PyData.int))), .fz (RD ((eTL PyData.int) row)), .own (OL (gd.map PyData.bool)), .any, .any, .any, .any, .any, .any]⟩ _
        rw [List.take_length] at hj
        refine s_if (t_T (e_op (o_niE (f := PyData.bool) (a := true) (xs := gd) (hd := inferInstance) (by exact enc_bool) (by decide) (by exact trivial) (by exact (fun _ _ => trivial))) e_bl (e_own rfl))) (fun h2 => absurd h2 ?_) (fun h2 => ?_)
        · rw [hj]; exact bound_at hp.2.2.2 rm this
        refine s_pass ?_
        refine s_drop 4 ?_
        refine s_drop 5 ?_
        show WC ⟨hs, h1_1, om, [.fz (RD ((eT3 (eL PyData.int) (eL PyData.int) (eL dLk)) ([(n : Int)], ([] : List Int), cs))), .fz (RD ((eT3 dP dP (eL dP)) (st, en, ps))), .fz (RD (.list (os.map dOp))), .fz (RD (.list ((betweenL ps 0 0 (n : Int)).map PyData.int))), .any, .any, .any, .any, .any, .any, .any, .any]⟩ _
        exact s_of ⟨rfl, by trivial⟩
    · have := h1
      refine s_pass ?_
      refine s_drop 4 ?_
      show WC ⟨hs, h1_1, om, [.fz (RD ((eT3 (eL PyData.int) (eL PyData.int) (eL dLk)) ([(n : Int)], ([] : List Int), cs))), .fz (RD ((eT3 dP dP (eL dP)) (st, en, ps))), .fz (RD (.list (os.map dOp))), .fz (RD (.list ((betweenL ps 0 0 (n : Int)).map PyData.int))), .any, .any, .any, .any, .any, .any, .any, .any]⟩ _
      exact s_of ⟨rfl, by trivial⟩
  · rintro γ ⟨rfl, _⟩
    show WC ⟨hs, (less hs om), om, [.fz (RD ((eT3 (eL PyData.int) (eL PyData.int) (eL dLk)) ([(n : Int)], ([] : List Int), cs))), .fz (RD ((eT3 dP dP (eL dP)) (st, en, ps))), .fz (RD (.list (os.map dOp))), .fz (RD (.list ((betweenL ps 0 0 (n : Int)).map PyData.int))), .any, .any, .any, .any, .any, .any, .any, .any]⟩ _
    try dsimp only
    refine s_ret (E.eq e_bl (e := PyData.bool true) ?_) q
    rfl
end
section
open GxR NdefX PySem.Spec PyProof.Rows
variable {P : Program} {w : World} {K : PySem.W.Frag} {mg : Str → Option Value} {base : Heap}
theorem any_congr_mem {α : Type} {l : List α} {p q : α → Bool} (h : ∀ x ∈ l, p x = q x) : l.any p = l.any q := by
  induction l with
  | nil => rfl
  | cons a l ih => rw [List.any_cons, List.any_cons, h a (by simp), ih fun x hx => h x (List.mem_cons_of_mem _ hx)]
theorem x_task {hs h0 : Hp} {g : List Slot} {ta : TA} {E' : XK} {ns : List Int} {a many : Nat} {ls gs : List Int} {cs : List (Str × Int × Int)} (ha : EA true ⟨hs, h0, fun _ => False, g⟩ ta [RD (.list (ns.map PyData.int)), RD (.int (a : Int)), RD (dHT ls gs cs), RD (.int (many : Int))])
    (hp : Small ns ∧ a + 4 + many ≤ ns.length ∧ many ≤ 50 ∧ Valid ls gs cs) (no : noOwn g = true := by rfl) : EX ⟨hs, h0, fun _ => False, g⟩ (tCall (spTk K) [] E' ta) (fun x : Pl × Pl × List Pl => RD (eT3 dP dP (eL dP) x)) (fun x => DTask ls gs many x.1 x.2.1 x.2.2) := fun σ H s Q q =>
  task_call ha hp no σ H s Q fun H1 H' t va vb l xs st en ps k1 k2 et pa pb nl el px dt => by
    refine q H' _ (st, en, ps) (k1.trans k2) dt ?_
    rw [bas_all no]
    show Dt H' (.ref t) (.tuple [dP st, dP en, .list (ps.map dP)])
    exact .tup et (.cons pa.dt (.cons pb.dt (.cons (.lst el px.dt) .nil)))
theorem sh_bool (x : Bool) : ShE (.bool x) 0 0 := by cases x <;> exact ⟨rfl, rfl, Nat.le_refl _, by decide +kernel, by decide +kernel⟩
theorem sh_none : ShE .none 0 0 := ⟨rfl, rfl, Nat.le_refl _, by decide +kernel, by decide +kernel⟩
structure OpOk (o : Op) : Prop where
  a : 0 ≤ o.1 ∧ o.1 ≤ 10000
  b : 0 ≤ o.2.1 ∧ o.2.1 ≤ 2
  c : 0 ≤ o.2.2.1 ∧ o.2.2.1 ≤ 2
  d : ∀ p, o.2.2.2.2 = some p → 0 ≤ p.1 ∧ p.1 ≤ 1000 ∧ 0 ≤ p.2 ∧ p.2 ≤ 1000
theorem OpOk.sh {o : Op} (h : OpOk o) : ShE (dOp o) 2 15 := by
  have big : (10000 : Nat) < 10 ^ 12 := by decide
  have ha := h.a
  have hb := h.b
  have hc := h.c
  refine sh_tuple (n := 1) (m := 2) fun d hd => ?_
  simp only [List.mem_cons, List.not_mem_nil, or_false] at hd
  rcases hd with rfl | rfl | rfl | rfl | rfl
  · exact (sh_int (by omega)).up (Nat.zero_le _) (Nat.zero_le _)
  · exact (sh_int (by omega)).up (Nat.zero_le _) (Nat.zero_le _)
  · exact (sh_int (by omega)).up (Nat.zero_le _) (Nat.zero_le _)
  · exact (sh_bool _).up (Nat.zero_le _) (Nat.zero_le _)
  · cases e : o.2.2.2.2 with
    | none => exact sh_none.up (Nat.zero_le _) (Nat.zero_le _)
    | some p =>
      have := h.d p e
      exact sh_pl (by omega) (by omega)
theorem shows_ops {A B : List Op} (ha : ∀ o ∈ A, OpOk o) (hb : ∀ o ∈ B, OpOk o) (la : A.length ≤ 1003) (lb : B.length ≤ 1003) : Shows (.list [.list (A.map dOp), .list (B.map dOp)]) := by
  have f : ∀ L : List Op, (∀ o ∈ L, OpOk o) → L.length ≤ 1003 → ShE (.list (L.map dOp)) 3 16048 := fun L h l => sh_map (n := 2) (m := 15) (fun o ho => (h o ho).sh) l
  refine (sh_list (n := 3) (m := 16048) fun d hd => ?_).shows (by decide) (by show 2 * (16048 + 1) ≤ 1048576; decide)
  rcases List.mem_cons.mp hd with z | z
  · subst z; exact f A ha la
  · rw [List.mem_singleton.mp z]; exact f B hb lb
theorem optL_ok {lo hi a : Int} {cs : List (Str × Int × Int)} {ps : List Pl} (l0 : 0 ≤ lo) (l1 : lo ≤ hi) (l2 : hi ≤ 1000) (h : ∀ p ∈ ps, lo ≤ p.1 ∧ p.1 ≤ p.2 ∧ p.2 ≤ hi) : ∀ o ∈ optL lo hi cs a ps, OpOk o := fun o ho => by
  rcases optS_mem ho with z | ⟨p, hp, e⟩
  · rcases opt0_mem z with y | y
    · subst y; exact ⟨⟨by show 0 ≤ hi - lo; omega, by show hi - lo ≤ 10000; omega⟩, ⟨by show (0 : Int) ≤ 1; decide, by show (1 : Int) ≤ 2; decide⟩, ⟨by show (0 : Int) ≤ 1; decide, by show (1 : Int) ≤ 2; decide⟩, fun p e => nomatch e⟩
    · subst y; exact ⟨⟨by show 0 ≤ 2 * (hi - lo); omega, by show 2 * (hi - lo) ≤ 10000; omega⟩, ⟨by show (0 : Int) ≤ 2; decide, by show (2 : Int) ≤ 2; decide⟩, ⟨by show (0 : Int) ≤ 2; decide, by show (2 : Int) ≤ 2; decide⟩, fun p e => nomatch e⟩
  · subst e
    have := h p hp
    refine ⟨⟨by show 0 ≤ 2 * (hi - lo - (p.2 - p.1)); omega, by show 2 * (hi - lo - (p.2 - p.1)) ≤ 10000; omega⟩, ?_, ?_, fun q e => ?_⟩
    · show 0 ≤ (if decide (p.1 = lo) = true then 0 else 2 : Int) ∧ (if decide (p.1 = lo) = true then 0 else 2 : Int) ≤ 2
      split <;> decide
    · show 0 ≤ (if decide (p.2 = hi) = true then 0 else 2 : Int) ∧ (if decide (p.2 = hi) = true then 0 else 2 : Int) ≤ 2
      split <;> decide
    · have e : some p = some q := e
      injection e with e
      subst e
      omega
theorem bestL_sub {os : List Op} {o : Op} (h : o ∈ bestL os) : o ∈ os := (List.mem_filter.mp h).1
def clL (f : Int → Bool) (n : Nat) : List (Str × Int × Int) := ((rgI 0 n).filter f).map fun k => (("up" : Str), (0 : Int), k)
def pkL (f : Int → Bool) (n : Nat) : List Pl := ((rgI 0 (n + 1)).filter f).map fun k => ((0 : Int), k)
theorem mem_clL {f : Int → Bool} {n : Nat} {k : Int} : ((("up" : Str), (0 : Int), k) ∈ clL f n) ↔ (0 ≤ k ∧ k < n) ∧ f k = true := by
  unfold clL
  rw [List.mem_map]
  constructor
  · rintro ⟨j, hj, e⟩
    have e : j = k := congrArg (fun c : Str × Int × Int => c.2.2) e
    subst e
    have := List.mem_filter.mp hj
    have h1 := rgI_mem.mp this.1
    exact ⟨⟨h1.1, by omega⟩, this.2⟩
  · rintro ⟨h1, h2⟩
    exact ⟨k, List.mem_filter.mpr ⟨rgI_mem.mpr ⟨h1.1, by omega⟩, h2⟩, rfl⟩
theorem mem_pkL {f : Int → Bool} {n : Nat} {k : Int} : (((0 : Int), k) ∈ pkL f n) ↔ (0 ≤ k ∧ k < n + 1) ∧ f k = true := by
  unfold pkL
  rw [List.mem_map]
  constructor
  · rintro ⟨j, hj, e⟩
    have e : j = k := congrArg (fun c : Pl => c.2) e
    subst e
    have := List.mem_filter.mp hj
    have h1 := rgI_mem.mp this.1
    exact ⟨⟨h1.1, by omega⟩, this.2⟩
  · rintro ⟨h1, h2⟩
    exact ⟨k, List.mem_filter.mpr ⟨rgI_mem.mpr ⟨h1.1, by omega⟩, h2⟩, rfl⟩
theorem rgI_nd (lo : Int) (n : Nat) : (rgI lo n).Nodup := by
  unfold rgI
  refine List.Pairwise.map _ (fun a b (h : a ≠ b) => ?_) List.nodup_range
  intro e
  exact h (by omega)
theorem rgI_length (lo : Int) (n : Nat) : (rgI lo n).length = n := by unfold rgI; rw [List.length_map, List.length_range]
theorem pkL_nd (f : Int → Bool) (n : Nat) : (pkL f n).Nodup := by
  unfold pkL
  refine List.Pairwise.map _ (fun a b (h : a ≠ b) => ?_) (List.Pairwise.filter _ (rgI_nd 0 (n + 1)))
  exact fun e => h (congrArg (fun c : Pl => c.2) e)
theorem pkL_len (f : Int → Bool) (n : Nat) : (pkL f n).length ≤ n + 1 := by
  unfold pkL
  rw [List.length_map]
  exact Nat.le_trans (List.length_filter_le _ _) (Nat.le_of_eq (rgI_length 0 (n + 1)))
theorem clL_len (f : Int → Bool) (n : Nat) : (clL f n).length ≤ n := by
  unfold clL
  rw [List.length_map]
  exact Nat.le_trans (List.length_filter_le _ _) (Nat.le_of_eq (rgI_length 0 n))
theorem pkL_pl {f : Int → Bool} {n : Nat} : ∀ p ∈ pkL f n, isPl [(n : Int)] [] p = true := fun p hp => by
  obtain ⟨k, hk, rfl⟩ := List.mem_map.mp hp
  have := rgI_mem.mp (List.mem_filter.mp hk).1
  unfold isPl
  simp
  omega
theorem clL_ok {f : Int → Bool} {n : Nat} : ∀ c ∈ clL f n, PyData.strOk c.1 = true := fun c hc => by
  obtain ⟨k, hk, rfl⟩ := List.mem_map.mp hc
  exact (by decide +kernel : PyData.strOk ("up" : Str) = true)
theorem small_valid {f : Int → Bool} {n : Nat} (h1 : 1 ≤ n) (h5 : n ≤ 5) : Valid [(n : Int)] [] (clL f n) := by
  refine ⟨⟨⟨Nat.le_refl _, Nat.le_succ _⟩, ?_⟩, ⟨Nat.zero_le _, rfl⟩, Nat.le_trans (clL_len f n) (by omega), ?_, fun c hc => ?_⟩
  · show (longN (n : Int) && true) = true
    unfold longN
    simp
    omega
  · unfold kOf clL
    rw [List.map_map]
    refine List.Pairwise.map _ (fun a b (h : a ≠ b) => ?_) (List.Pairwise.filter _ (rgI_nd 0 n))
    intro e
    have e : lk "up" 0 a = lk "up" 0 b := e
    unfold lk at e
    injection e with _ e
    injection e with _ e
    injection e with e _
    injection e with e
    exact h e
  · obtain ⟨k, hk, rfl⟩ := List.mem_map.mp hc
    have := rgI_mem.mp (List.mem_filter.mp hk).1
    show isLk [(n : Int)] [] "up" 0 k = true
    unfold isLk
    rw [if_pos rfl]
    simp
    omega
theorem small_cr {n : Nat} : isCr [(n : Int)] [] (0, 0) = true := by
  unfold isCr isPl
  rw [cross1]
  simp
theorem free_small {f : Int → Bool} {n : Nat} {p : Pl} (h0 : 0 ≤ p.1) (h1 : p.2 ≤ n) : freeQ (clL f n) 0 p.1 p.2 = freeB ((List.range n).map fun k : Nat => f (k : Int)) p := by
  unfold freeQ freeB
  rw [List.all_eq_not_any_not]
  congr 1
  refine any_congr_mem fun k hk => ?_
  have hk := rgI_mem.mp hk
  rw [Bool.not_not, Bool.eq_iff_iff, decide_eq_true_eq]
  have e : lkC ("up", 0, k) ∈ kOf (clL f n) ↔ (("up" : Str), (0 : Int), k) ∈ clL f n := mem_kOf
  rw [e, mem_clL]
  have kn : k.toNat < n := by omega
  rw [List.getD_eq_getElem?_getD, List.getElem?_map, List.getElem?_range kn, Option.map_some, Option.getD_some]
  rw [show ((k.toNat : Nat) : Int) = k by omega]
  exact ⟨fun z => z.2, fun z => ⟨by omega, z⟩⟩
theorem small_fact {fc fp : Int → Bool} {n : Nat} (h1 : 1 ≤ n) (h5 : n ≤ 5) : boundF ((List.range n).map fun k : Nat => decide ((("up" : Str), (0 : Int), (k : Int)) ∈ clL fc n)) (betweenL (pkL fp n) 0 0 (n : Int))
    (bestL (optL 0 (n : Int) (clL fc n) 0 (zpL 0 (betweenL (pkL fp n) 0 0 (n : Int)) (n : Int)))) = true := by
  obtain ⟨m, rfl⟩ : ∃ m, n = m + 1 := ⟨n - 1, by omega⟩
  have eb : ((List.range (m + 1)).map fun k : Nat => decide ((("up" : Str), (0 : Int), (k : Int)) ∈ clL fc (m + 1))) = (List.range (m + 1)).map fun k : Nat => fc (k : Int) := by
    refine List.map_congr_left fun k hk => ?_
    have := List.mem_range.mp hk
    rw [Bool.eq_iff_iff, decide_eq_true_eq, mem_clL]
    exact ⟨fun z => z.2, fun z => ⟨by omega, z⟩⟩
  have ei : betweenL (pkL fp (m + 1)) 0 0 ((m + 1 : Nat) : Int) = insB ((List.range m).map fun k : Nat => fp ((k : Int) + 1)) m := by
    unfold betweenL insB
    rw [show (((m + 1 : Nat) : Int) - (0 + 1)).toNat = m by omega]
    refine List.filter_congr fun k hk => ?_
    have hk := rgI_mem.mp hk
    rw [Bool.eq_iff_iff, decide_eq_true_eq, mem_pkL]
    have kn : (k - 1).toNat < m := by omega
    rw [List.getD_eq_getElem?_getD, List.getElem?_map, List.getElem?_range kn, Option.map_some, Option.getD_some]
    rw [show (((k - 1).toNat : Nat) : Int) + 1 = k by omega]
    exact ⟨fun z => z.2, fun z => ⟨by omega, z⟩⟩
  have rise := rise_between (pkL fp (m + 1)) 0 (show (0 : Int) < ((m + 1 : Nat) : Int) by omega)
  have es : shutL (clL fc (m + 1)) 0 (zpL 0 (betweenL (pkL fp (m + 1)) 0 0 ((m + 1 : Nat) : Int)) ((m + 1 : Nat) : Int)) = (zpL 0 (betweenL (pkL fp (m + 1)) 0 0 ((m + 1 : Nat) : Int)) ((m + 1 : Nat) : Int)).filter fun p => !freeB ((List.range (m + 1)).map fun k : Nat => fc (k : Int)) p := by
    unfold shutL
    refine List.filter_congr fun p hp => ?_
    have := zpL_mem rise hp
    rw [free_small (by omega) (by omega)]
  rw [eb]
  unfold optL
  rw [es, ei]
  exact small_ok (bs := (List.range (m + 1)).map fun k : Nat => fc (k : Int)) (js := (List.range m).map fun k : Nat => fp ((k : Int) + 1)) (by omega) (by rw [List.length_map, List.length_range]) (by rw [List.length_map, List.length_range])
theorem inside_between {ps : List Pl} (hn : ps.Nodup) (a lo hi : Int) : insideL (sortP ps) a lo hi = betweenL ps a lo hi := by
  refine rise_uniq ?_ ?_ fun k => ?_
  · unfold insideL
    rw [List.pairwise_map]
    have pw := (sortP_pw ps).and (sortP_nd.mpr hn)
    have pf := pw.filter (fun p : Pl => (decide (p.1 = a) && (decide (lo < p.2) && decide (p.2 < hi))))
    refine pf.imp_of_mem fun {p q} hp hq h => ?_
    obtain ⟨h1, h2⟩ := h
    have e1 : p.1 = a := by have := (List.mem_filter.mp hp).2; simp at this; exact this.1
    have e2 : q.1 = a := by have := (List.mem_filter.mp hq).2; simp at this; exact this.1
    have ne : ¬ p.2 = q.2 := fun z => h2 (Prod.ext (e1.trans e2.symm) z)
    rcases (show p.1 < q.1 ∨ (p.1 = q.1 ∧ p.2 ≤ q.2) from h1) with z | z
    · omega
    · omega
  · unfold betweenL rgI
    refine List.Pairwise.filter _ ?_
    rw [List.pairwise_map]
    refine List.pairwise_lt_range.imp fun {x y} h => ?_
    show lo + 1 + (x : Int) < lo + 1 + (y : Int)
    omega
  · unfold insideL betweenL
    rw [List.mem_filter, rgI_mem, List.mem_map]
    constructor
    · rintro ⟨p, hp, rfl⟩
      obtain ⟨m, d⟩ := List.mem_filter.mp hp
      simp at d
      obtain ⟨rfl, d2, d3⟩ := d
      exact ⟨by omega, decide_eq_true (sortP_mem.mp m)⟩
    · rintro ⟨b, d⟩
      exact ⟨(a, k), List.mem_filter.mpr ⟨sortP_mem.mpr (of_decide_eq_true d), by simp; omega⟩, rfl⟩
theorem piecesL_len (ls : List Int) (s : Nat) (ins : List Int) : (piecesL ls s ins).length ≤ ins.length + 1 := by
  unfold piecesL
  rw [List.length_zip]
  simp
theorem Drawn.ok {n : Nat} {x : List Int × List Int × List (Str × Int × Int)} (h : Drawn n x) : ∀ c ∈ x.2.2, PyData.strOk c.1 = true := fun c m => by
  rcases h.wd c m with z | z
  · rw [z]; decide +kernel
  · rw [z]; decide +kernel
theorem ok_law (C CT CP CIT TL TI TF : Addr) {f : Addr} {fd : FuncData} (F : Fun K "law" "law" s_law f fd) (t__law_numbers : TopD P w K mg base 2 "_law_numbers" ["script", "many"] (spNumbers K)) (t__law_house : TopD P w K mg base 4 "_law_house" ["numbers", "at", "many", "most"] (spHs K)) (t__law_task : TopD P w K mg base 4 "_law_task" ["numbers", "at", "house", "many"] (spTk K)) (t__law_made : TopD P w K mg base 7 "_law_made" ["house", "task"] (spMd C CT TL TI)) (z_range : mg "range" = none) (z_len : mg "len" = none) (t__law_options : TopD P w K mg base 5 "_law_options" ["house", "task", "aisle", "stretch"] (SpN (Rs__law_options ) (P__law_options ) (R__law_options ))) (t_options_of : TopD P w K mg base 7 "options_of" ["house", "task", "aisle", "stretch"] (spOo C CT CP CIT TF)) (t_best_options : TopD P w K mg base 8 "best_options" ["house", "task", "aisle", "stretch"] (spBo C CT CP CIT TF)) (z_repr : mg "repr" = none) (t__law_best : TopD P w K mg base 1 "_law_best" ["options"] (SpN (Rs__law_best ) (P__law_best ) (R__law_best ))) (z_int : mg "int" = none) (t__law_bounded : TopD P w K mg base 4 "_law_bounded" ["house", "task", "options"] (Sps (Rs__law_bounded ) (P__law_bounded ) (R__law_bounded ))) : AskOk P w K mg base f fd "script" (spLawT K [TL, TI, TF]) := by
  refine ask_okL F sc_law (k := 8) ⟨rfl, by decide, by decide⟩ fun cdv A outer s H E0 hr hg => ?_
  have nd := sc_law.nd
  refine ⟨_, (pss_cons (ps_set (i := 1) nd rfl (.inr rfl) (pe_call t__law_numbers.G (by exact hr.mono (by decide)) (by rfl) t__law_numbers.g t__law_numbers.kp t__law_numbers.b .nil pass0 (pa_cons (pv 0) (pa_cons pe_int pa_nil))))
      (pss_cons (ps_set (i := 2) nd rfl (.inl rfl) (pe_call t__law_house.G (by exact hr.mono (by decide)) (by rfl) t__law_house.g t__law_house.kp t__law_house.b .nil pass0 (pa_cons (pv 1) (pa_cons pe_int (pa_cons pe_int (pa_cons pe_int pa_nil))))))
      (pss_cons (ps_set (i := 3) nd rfl (.inl rfl) (pe_call t__law_task.G (by exact hr.mono (by decide)) (by rfl) t__law_task.g t__law_task.kp t__law_task.b .nil pass0 (pa_cons (pv 1) (pa_cons pe_int (pa_cons (pv 2) (pa_cons pe_int pa_nil))))))
      (pss_cons (ps_asg (pe_call t__law_made.G (by exact hr.mono (by decide)) (by rfl) t__law_made.g t__law_made.kp t__law_made.b .nil pass0 (pa_cons (pv 2) (pa_cons (pv 3) pa_nil))) (pg_tup rfl (pgs_cons (pg_name (i := 4) nd rfl (.inl rfl)) (pgs_cons (pg_name (i := 5) nd rfl (.inl rfl)) pgs_nil))))
      (pss_cons (ps_for PassesOwn.never rfl (pi_range1 rfl z_range (pa_cons (pe_op op_add (pe_callB call_len (by rfl) z_len (by decide +kernel) (pa_cons (pe_ix (r := rIxT K) ix_tup (pv 2) pe_int (fun _ _ => rfl)) pa_nil)) pe_int) pa_nil)) (pg_name (i := 6) nd rfl (.inl rfl)) (pss_one (ps_for PassesOwn.never rfl (pi_range1 rfl z_range (pa_cons (pe_callB call_len (by rfl) z_len (by decide +kernel) (pa_cons (pe_ix (r := rIxT K) ix_tup (pv 2) pe_int (fun _ _ => rfl)) pa_nil)) pa_nil)) (pg_name (i := 7) nd rfl (.inl rfl)) (pss_cons (ps_set (i := 8) nd rfl (.inl rfl) (pe_call t__law_options.G (by exact hr.mono (by decide)) (by rfl) t__law_options.g t__law_options.kp t__law_options.b .nil pass0 (pa_cons (pv 2) (pa_cons (pv 3) (pa_cons (pv 6) (pa_cons (pv 7) pa_nil))))))
      (pss_one (ps_for PassesOwn.never rfl (pi_range1 rfl z_range (pa_cons pe_int pa_nil)) (pg_name (i := 9) nd rfl (.inl rfl)) (pss_cons (ps_set (i := 10) nd rfl (.inl rfl) (pe_lst (pa_cons (pe_call t_options_of.G (by exact hr.mono (by decide)) (by rfl) t_options_of.g t_options_of.kp t_options_of.b .nil pass0 (pa_cons (pv 4) (pa_cons (pv 5) (pa_cons (pv 6) (pa_cons (pv 7) pa_nil))))) (pa_cons (pe_call t_best_options.G (by exact hr.mono (by decide)) (by rfl) t_best_options.g t_best_options.kp t_best_options.b .nil pass0 (pa_cons (pv 4) (pa_cons (pv 5) (pa_cons (pv 6) (pa_cons (pv 7) pa_nil))))) pa_nil))))
      (pss_cons (ps_if (pt_cmpR (r := rNe) op_ne (pe_callB (call_reprD hg (by exact hr.units)) (by rfl) z_repr (by decide +kernel) (pa_cons (pv 10) pa_nil)) (pe_callB (call_reprD hg (by exact hr.units)) (by rfl) z_repr (by decide +kernel) (pa_cons (pe_lst (pa_cons (pv 8) (pa_cons (pe_call t__law_best.G (by exact hr.mono (by decide)) (by rfl) t__law_best.g t__law_best.kp t__law_best.b .nil pass0 (pa_cons (pv 8) pa_nil)) pa_nil))) pa_nil)) (nomark _)) (pss_one (ps_ret pe_bl)) pss_nil)
      (pss_cons (ps_expr (pe_bm0 PySem.F.plainAttrs_list PySem.F.slot_list_clear PySem.F.type_list_clear mt_clear (pe_ix (r := rIxL K) ix_list (pv 10) pe_int (fun _ _ => rfl))))
      (pss_one (ps_expr (pe_bm PySem.F.plainAttrs_list PySem.F.slot_list_append PySem.F.type_list_append mt_append (pe_ix (r := rIxL K) ix_list (pv 10) pe_int (fun _ _ => rfl)) (pa_cons pe_int pa_nil)))))))))))))
      (pss_cons (ps_set (i := 11) nd rfl (.inl rfl) (pe_op op_add pe_int (pe_op op_mod (pe_callTy call_int1 (by rfl) z_int (by decide +kernel) (pa_cons (pe_ix (r := rIxL K) ix_list (pv 1) pe_int (fun _ _ => rfl)) pa_nil)) pe_int)))
      (pss_cons (ps_setLc (i := 12) (own := [("height", 17)]) (g := (gName 17)) rfl nd rfl rfl rfl (pi_range1 rfl z_range (pa_cons (pv 11) pa_nil)) (blkOk_by (N := ["script", "numbers", "house", "task", "warehouse", "errand", "aisle", "stretch", "due", "turn", "told", "size", "closed", "small", "picks", "made", "given", "height"]) (sc := defScope s_law) (by decide +kernel)) (fun _ _ _ _ _ => (pg_name (i := 17) nd rfl (.inl rfl))) (fun _ _ _ _ _ => pts_one (pt_cmpR (r := rEq) op_eq (pe_op op_mod (pe_callTy (r := fun xs H Q => (∃ i, xs = [.int i] ∧ Q (.int i) H) ∨ ∃ k, xs = [.bl k] ∧ Q (.int (if k then 1 else 0)) H) call_int1 (by rfl) z_int (by decide +kernel) (pa_cons (pe_ix (r := rIxL K) ix_list (pv 1) (pe_op (r := rI0 fun i j => .int (i + j)) op_add pe_int (pv 17)) (fun _ _ => rfl)) pa_nil)) pe_int) pe_int (nomark _))) (fun _ _ _ _ _ => (pe_tup (pa_cons pe_str (pa_cons pe_int (pa_cons (pv 17) pa_nil))))))
      (pss_cons (ps_set (i := 13) nd rfl (.inl rfl) (pe_tup (pa_cons (pe_lst (pa_cons (pv 11) pa_nil)) (pa_cons (pe_lst pa_nil) (pa_cons (pv 12) pa_nil)))))
      (pss_cons (ps_setLc (i := 14) (own := [("height", 17)]) (g := (gName 17)) rfl nd rfl rfl rfl (pi_range1 rfl z_range (pa_cons (pe_op op_add (pv 11) pe_int) pa_nil)) (blkOk_by (N := ["script", "numbers", "house", "task", "warehouse", "errand", "aisle", "stretch", "due", "turn", "told", "size", "closed", "small", "picks", "made", "given", "height"]) (sc := defScope s_law) (by decide +kernel)) (fun _ _ _ _ _ => (pg_name (i := 17) nd rfl (.inl rfl))) (fun _ _ _ _ _ => pts_one (pt_cmpR (r := rI0 fun i j => .bl (decide (j < i))) op_gt (pe_op op_mod (pe_callTy (r := fun xs H Q => (∃ i, xs = [.int i] ∧ Q (.int i) H) ∨ ∃ k, xs = [.bl k] ∧ Q (.int (if k then 1 else 0)) H) call_int1 (by rfl) z_int (by decide +kernel) (pa_cons (pe_ix (r := rIxL K) ix_list (pv 1) (pe_op (r := rI0 fun i j => .int (i + j)) op_add pe_int (pv 17)) (fun _ _ => rfl)) pa_nil)) pe_int) pe_int (nomark _))) (fun _ _ _ _ _ => (pe_tup (pa_cons pe_int (pa_cons (pv 17) pa_nil)))))
      (pss_cons (ps_set (i := 5) nd rfl (.inl rfl) (pe_tup (pa_cons (pe_tup (pa_cons pe_int (pa_cons pe_int pa_nil))) (pa_cons (pe_tup (pa_cons pe_int (pa_cons pe_int pa_nil))) (pa_cons (pv 14) pa_nil)))))
      (pss_cons (ps_asg (pe_call t__law_made.G (by exact hr.mono (by decide)) (by rfl) t__law_made.g t__law_made.kp t__law_made.b .nil pass0 (pa_cons (pv 13) (pa_cons (pv 5) pa_nil))) (pg_tup rfl (pgs_cons (pg_name (i := 15) nd rfl (.inl rfl)) (pgs_cons (pg_name (i := 16) nd rfl (.inl rfl)) pgs_nil))))
      (pss_one (ps_ret (pe_call t__law_bounded.G (by exact hr.mono (by decide)) (by rfl) t__law_bounded.g t__law_bounded.kp t__law_bounded.b .nil pass0 (pa_cons (pv 13) (pa_cons (pv 5) (pa_cons (pe_call t_best_options.G (by exact hr.mono (by decide)) (by rfl) t_best_options.g t_best_options.kp t_best_options.b .nil pass0 (pa_cons (pv 15) (pa_cons (pv 16) (pa_cons pe_int (pa_cons pe_int pa_nil))))) pa_nil))))))))))))))))), ?_⟩
  intro ns hs Q hns hT q
  show WC ⟨hs, hs, fun _ => False, [.fz (RScr K ns), .any, .any, .any, .any, .any, .any, .any, .any, .any, .any, .any, .any, .any, .any, .any, .any, .any]⟩ _
  have tF := hT TF (by simp)
  have tL := hT TL (by simp)
  have tI := hT TI (by simp)
  refine s_seq ?_
  refine s_setX (x_call0 (skx_numbers (m := 70)) (a_cons (e_var rfl) (a_cons e_int a_nil)) (fun _ _ => ⟨hns, by decide⟩)) ?_
  rintro ns1 ⟨n70, sm⟩
  show WC ⟨hs, hs, (fun _ => False), [.fz (RScr K ns), .fz (RD (.list (ns1.map PyData.int))), .any, .any, .any, .any, .any, .any, .any, .any, .any, .any, .any, .any, .any, .any, .any, .any]⟩ _
  refine s_seq ?_
  refine s_setX (x_call0 (skx_house (a := 0) (many := 2) (most := 30)) (a_cons (e_var rfl) (a_cons e_int (a_cons e_int (a_cons e_int a_nil)))) (fun _ _ => ⟨by assumption, by omega, by decide, by decide, by decide, by decide⟩)) ?_
  rintro ⟨ls, gs, cs⟩ hd
  show WC ⟨hs, hs, (fun _ => False), [.fz (RScr K ns), .fz (RD (.list (ns1.map PyData.int))), .fz (RD ((eT3 (eL PyData.int) (eL PyData.int) (eL dLk)) (ls, gs, cs))), .any, .any, .any, .any, .any, .any, .any, .any, .any, .any, .any, .any, .any, .any, .any]⟩ _
  have lens : Lens ls := hd.v.lens
  have le2 : ls.length ≤ 2 := hd.v.1.1.2
  have cok := hd.ok
  have gl : gs.length < 2 := hd.gl
  refine s_seq ?_
  refine s_setX (x_task (a := 24) (many := 10) (a_cons (e_var rfl) (a_cons e_int (a_cons (e_var rfl) (a_cons e_int a_nil)))) ⟨sm, by omega, by decide, hd.v⟩) ?_
  rintro ⟨st, en, ps⟩ ht
  show WC ⟨hs, hs, (fun _ => False), [.fz (RScr K ns), .fz (RD (.list (ns1.map PyData.int))), .fz (RD ((eT3 (eL PyData.int) (eL PyData.int) (eL dLk)) (ls, gs, cs))), .fz (RD ((eT3 dP dP (eL dP)) (st, en, ps))), .any, .any, .any, .any, .any, .any, .any, .any, .any, .any, .any, .any, .any, .any]⟩ _
  have hw := wrong_none ht.cs ht.ce ht.pl
  have pz : ps.length ≤ 10 := ht.le
  have p60 : (sortP ps).length ≤ 60 := by rw [sortP_len]; omega
  refine s_seq ?_
  refine s_asgX (x_call0 skx_made (a_cons (e_var rfl) (a_cons (e_var rfl) a_nil)) (fun H kp => ⟨hd.v, ht.nd, Nat.le_trans pz (by decide), kp.tab _ tL, kp.tab _ tI⟩)) (fun _ _ => g_tup2 g_name g_name) ?_
  rintro _ _
  show WC ⟨hs, hs, (fun _ => False), [.fz (RScr K ns), .fz (RD (.list (ns1.map PyData.int))), .fz (RD ((eT3 (eL PyData.int) (eL PyData.int) (eL dLk)) (ls, gs, cs))), .fz (RD ((eT3 dP dP (eL dP)) (st, en, ps))), .fz (RHouse C (⟨ls, gs, cs⟩ : HD)), .fz (RTask CT (⟨st, en, sortP ps⟩ : TD)), .any, .any, .any, .any, .any, .any, .any, .any, .any, .any, .any, .any]⟩ _
  refine s_seq ?_
  refine s_rng (lo := 0) (n := (((gs.length : Int) + 1) : Int).toNat) (fun (i : Nat) γ => γ = [.fz (RScr K ns), .fz (RD (.list (ns1.map PyData.int))), .fz (RD ((eT3 (eL PyData.int) (eL PyData.int) (eL dLk)) (ls, gs, cs))), .fz (RD ((eT3 dP dP (eL dP)) (st, en, ps))), .fz (RHouse C (⟨ls, gs, cs⟩ : HD)), .fz (RTask CT (⟨st, en, sortP ps⟩ : TD)), .any, .any, .any, .any, .any, .any, .any, .any, .any, .any, .any, .any] ∧ (True)) (w_rng1 (j := ((gs.length : Int) + 1)) (e_op o_add (e_cb o_lenM (a_cons (e_op (o_ixT rfl) (e_var rfl) e_int) a_nil)) e_int) (by omega)) ⟨rfl, by trivial⟩ ?_ ?_
  · rintro a0 γ ha ⟨rfl, _⟩
    rw [Int.zero_add]
    generalize ea : (a0 : Int) = a
    refine ⟨_, _, g_name, ?_⟩
    show WC ⟨hs, hs, (fun _ => False), [.fz (RScr K ns), .fz (RD (.list (ns1.map PyData.int))), .fz (RD ((eT3 (eL PyData.int) (eL PyData.int) (eL dLk)) (ls, gs, cs))), .fz (RD ((eT3 dP dP (eL dP)) (st, en, ps))), .fz (RHouse C (⟨ls, gs, cs⟩ : HD)), .fz (RTask CT (⟨st, en, sortP ps⟩ : TD)), .fz (RD (.int a)), .any, .any, .any, .any, .any, .any, .any, .any, .any, .any, .any]⟩ _
    refine s_rng (lo := 0) (n := ((ls.length : Int) : Int).toNat) (fun (i : Nat) γ => γ = [.fz (RScr K ns), .fz (RD (.list (ns1.map PyData.int))), .fz (RD ((eT3 (eL PyData.int) (eL PyData.int) (eL dLk)) (ls, gs, cs))), .fz (RD ((eT3 dP dP (eL dP)) (st, en, ps))), .fz (RHouse C (⟨ls, gs, cs⟩ : HD)), .fz (RTask CT (⟨st, en, sortP ps⟩ : TD)), .fz (RD (.int a)), .any, .any, .any, .any, .any, .any, .any, .any, .any, .any, .any] ∧ (True)) (w_rng1 (j := (ls.length : Int)) (e_cb o_lenM (a_cons (e_op (o_ixT rfl) (e_var rfl) e_int) a_nil)) (by omega)) ⟨rfl, by trivial⟩ ?_ ?_
    · rintro s γ hss ⟨rfl, _⟩
      rw [Int.zero_add]
      have hss : s < ls.length := by simpa using hss
      have b0 := cA_pos lens le2 s
      have b1 := cA_pos lens le2 (s + 1)
      refine ⟨_, _, g_name, ?_⟩
      show WC ⟨hs, hs, (fun _ => False), [.fz (RScr K ns), .fz (RD (.list (ns1.map PyData.int))), .fz (RD ((eT3 (eL PyData.int) (eL PyData.int) (eL dLk)) (ls, gs, cs))), .fz (RD ((eT3 dP dP (eL dP)) (st, en, ps))), .fz (RHouse C (⟨ls, gs, cs⟩ : HD)), .fz (RTask CT (⟨st, en, sortP ps⟩ : TD)), .fz (RD (.int a)), .fz (RD (.int (s : Int))), .any, .any, .any, .any, .any, .any, .any, .any, .any, .any]⟩ _
      refine s_seq ?_
      obtain ⟨dl, edl⟩ : ∃ z, optL (cA ls s) (cA ls (s + 1)) cs a (piecesL ls s (betweenL ps a (cA ls s) (cA ls (s + 1)))) = z := ⟨_, rfl⟩
      have eio : optA ((⟨ls, gs, cs⟩ : HD), (⟨st, en, sortP ps⟩ : TD), a, s) = dl := by rw [← edl]; show optL _ _ _ _ (piecesL ls s (insideL (sortP ps) a _ _)) = _; rw [inside_between ht.nd]
      have rise := rise_between ps a (cA_lt lens hss)
      have bl := betweenL_len ps a (cA ls s) (cA ls (s + 1))
      have zb : ∀ p ∈ piecesL ls s (betweenL ps a (cA ls s) (cA ls (s + 1))), (cA ls s) ≤ p.1 ∧ p.1 ≤ p.2 ∧ p.2 ≤ (cA ls (s + 1)) := fun p hp => by have := zpL_mem rise hp; omega
      have dlen : dl.length ≤ 1003 := by rw [← edl]; have h1 := optL_len (lo := (cA ls s)) (hi := (cA ls (s + 1))) (a := a) (cs := cs) (ps := piecesL ls s (betweenL ps a (cA ls s) (cA ls (s + 1)))); have h2 := piecesL_len ls s (betweenL ps a (cA ls s) (cA ls (s + 1))); omega
      have dnd : dl.Nodup := by rw [← edl]; exact optL_nd (zpL_nd rise)
      have dok : ∀ o ∈ dl, OpOk o := by rw [← edl]; exact optL_ok b0.1 (by have := cA_lt lens hss; omega) (by omega) zb
      have blen : (bestL dl).length ≤ 1003 := Nat.le_trans (List.length_filter_le _ _) dlen
      have bok : ∀ o ∈ bestL dl, OpOk o := fun o ho => dok o (bestL_sub ho)
      have ins : insOk ls s (insideL (sortP ps) a (cA ls s) (cA ls (s + 1))) := by rw [inside_between ht.nd]; exact ⟨hss, Nat.le_trans bl (by omega), fun p hp => by have := zb p hp; omega⟩
      have shw := shows_ops dok bok dlen blen
      refine s_set (E.eq (n_e (show EN _ _ (OL ((optL (cA ls s) (cA ls (s + 1)) cs a (piecesL ls s (betweenL ps a (cA ls s) (cA ls (s + 1))))).map dOp)) from n_call (skn_spn (Rs := Rs__law_options ) (P := P__law_options ) (C := R__law_options ) (ls, gs, cs, st, en, ps, a, s)) (a_cons (e_var rfl) (a_cons (e_var rfl) (a_cons (e_var rfl) (a_cons (e_var rfl) a_nil)))) (fun H kp => by show (s < ls.length ∧ ls.length ≤ 2 ∧ Lens ls) ∧ ∀ c ∈ cs, PyData.strOk c.1 = true; exact ⟨⟨hss, le2, lens⟩, cok⟩))) (e := .list (dl.map dOp)) (by rw [edl])) ?_
      show WC ⟨hs, hs, (fun _ => False), [.fz (RScr K ns), .fz (RD (.list (ns1.map PyData.int))), .fz (RD ((eT3 (eL PyData.int) (eL PyData.int) (eL dLk)) (ls, gs, cs))), .fz (RD ((eT3 dP dP (eL dP)) (st, en, ps))), .fz (RHouse C (⟨ls, gs, cs⟩ : HD)), .fz (RTask CT (⟨st, en, sortP ps⟩ : TD)), .fz (RD (.int a)), .fz (RD (.int (s : Int))), .fz (RD (.list (dl.map dOp))), .any, .any, .any, .any, .any, .any, .any, .any, .any]⟩ _
      refine s_rng (lo := 0) (n := (2 : Int).toNat) (fun (i : Nat) γ => γ = [.fz (RScr K ns), .fz (RD (.list (ns1.map PyData.int))), .fz (RD ((eT3 (eL PyData.int) (eL PyData.int) (eL dLk)) (ls, gs, cs))), .fz (RD ((eT3 dP dP (eL dP)) (st, en, ps))), .fz (RHouse C (⟨ls, gs, cs⟩ : HD)), .fz (RTask CT (⟨st, en, sortP ps⟩ : TD)), .fz (RD (.int a)), .fz (RD (.int (s : Int))), .fz (RD (.list (dl.map dOp))), .any, .any, .any, .any, .any, .any, .any, .any, .any] ∧ (True)) (w_rng1 (j := 2) e_int (by omega)) ⟨rfl, by trivial⟩ ?_ ?_
      · rintro t0 γ ht0 ⟨rfl, _⟩
        rw [Int.zero_add]
        refine ⟨_, _, g_name, ?_⟩
        show WC ⟨hs, hs, (fun _ => False), [.fz (RScr K ns), .fz (RD (.list (ns1.map PyData.int))), .fz (RD ((eT3 (eL PyData.int) (eL PyData.int) (eL dLk)) (ls, gs, cs))), .fz (RD ((eT3 dP dP (eL dP)) (st, en, ps))), .fz (RHouse C (⟨ls, gs, cs⟩ : HD)), .fz (RTask CT (⟨st, en, sortP ps⟩ : TD)), .fz (RD (.int a)), .fz (RD (.int (s : Int))), .fz (RD (.list (dl.map dOp))), .fz (RD (.int (t0 : Int))), .any, .any, .any, .any, .any, .any, .any, .any]⟩ _
        refine s_told (n := 0) (m := 1) (show EN _ _ (OL (dl.map dOp)) from EN.eqL (n_call (skn_spn (Rs := Rs_marks_inside C CT CP CIT) (P := fun x H => P_marks_inside C CT CP CIT x H ∧ insOk x.1.ls x.2.2.2 (insA x) ∧ TabG H TF) (C := fun x => OL (((optA x)).map dOp)) ((⟨ls, gs, cs⟩ : HD), (⟨st, en, sortP ps⟩ : TD), a, s)) (a_cons (e_var rfl) (a_cons (e_var rfl) (a_cons (e_var rfl) (a_cons (e_var rfl) a_nil)))) (fun H kp => by exact ⟨⟨hss, hw, p60⟩, ins, kp.tab _ tF⟩)) (by rw [eio])) (show EN _ _ (OL ((bestL dl).map dOp)) from EN.eqL (n_call (skn_spn (Rs := Rs_marks_inside C CT CP CIT) (P := fun x H => P_marks_inside C CT CP CIT x H ∧ insOk x.1.ls x.2.2.2 (insA x) ∧ TabG H TF) (C := fun x => OL ((bestL (optA x)).map dOp)) ((⟨ls, gs, cs⟩ : HD), (⟨st, en, sortP ps⟩ : TD), a, s)) (a_cons (e_var rfl) (a_cons (e_var rfl) (a_cons (e_var rfl) (a_cons (e_var rfl) a_nil)))) (fun H kp => by exact ⟨⟨hss, hw, p60⟩, ins, kp.tab _ tF⟩)) (by rw [eio])) rfl (by rw [List.length_map]; show dl.length + 0 ≤ 16777216; omega) (by rw [List.length_map]; show (bestL dl).length + 1 ≤ 16777216; omega) (t_eq (t_T (e_op o_neS (e_cb (o_reprD (Enc.nod (enc_H2 (enc_list enc_Op) (enc_list enc_Op)) _) rfl (show Shows (eH2 (eL dOp) (eL dOp) (dl, bestL dl)) from shw)) (a_cons (e_var rfl) a_nil)) (e_cb (o_reprD (Enc.nod (enc_list (enc_list enc_Op)) _) rfl (show Shows (.list (([dl, bestL dl] : List (List Op)).map fun xs : List Op => .list (xs.map dOp))) from shw)) (a_cons (n_e (n_lstM (xs := [dl, (bestL dl)]) (enc := (eL dOp)) (m_cons (e_var rfl) (m_cons (n_e (show EN _ _ (OL ((bestL dl).map dOp)) from n_call (skn_spn (Rs := Rs__law_best ) (P := P__law_best ) (C := R__law_best ) (dl)) (a_cons (e_var rfl) a_nil) (fun H kp => by show dl.length ≤ 1003 ∧ dl.Nodup; exact ⟨dlen, dnd⟩))) m_nil)))) a_nil)))) ?_) ?_
        · rw [Bool.not_eq_false']; exact decide_eq_true rfl
        refine wt_seq ?_
        refine wt_clr0 rfl ?_
        refine wt_app1 rfl ?_
        refine wt_done rfl ?_
        show WC ⟨hs, hs, (fun _ => False), [.fz (RScr K ns), .fz (RD (.list (ns1.map PyData.int))), .fz (RD ((eT3 (eL PyData.int) (eL PyData.int) (eL dLk)) (ls, gs, cs))), .fz (RD ((eT3 dP dP (eL dP)) (st, en, ps))), .fz (RHouse C (⟨ls, gs, cs⟩ : HD)), .fz (RTask CT (⟨st, en, sortP ps⟩ : TD)), .fz (RD (.int a)), .fz (RD (.int (s : Int))), .fz (RD (.list (dl.map dOp))), .fz (RD (.int (t0 : Int))), .any, .any, .any, .any, .any, .any, .any, .any]⟩ _
        refine s_drop 9 ?_
        show WC ⟨hs, hs, (fun _ => False), [.fz (RScr K ns), .fz (RD (.list (ns1.map PyData.int))), .fz (RD ((eT3 (eL PyData.int) (eL PyData.int) (eL dLk)) (ls, gs, cs))), .fz (RD ((eT3 dP dP (eL dP)) (st, en, ps))), .fz (RHouse C (⟨ls, gs, cs⟩ : HD)), .fz (RTask CT (⟨st, en, sortP ps⟩ : TD)), .fz (RD (.int a)), .fz (RD (.int (s : Int))), .fz (RD (.list (dl.map dOp))), .any, .any, .any, .any, .any, .any, .any, .any, .any]⟩ _
        exact s_of ⟨rfl, by trivial⟩
      · rintro γ ⟨rfl, _⟩
        show WC ⟨hs, hs, (fun _ => False), [.fz (RScr K ns), .fz (RD (.list (ns1.map PyData.int))), .fz (RD ((eT3 (eL PyData.int) (eL PyData.int) (eL dLk)) (ls, gs, cs))), .fz (RD ((eT3 dP dP (eL dP)) (st, en, ps))), .fz (RHouse C (⟨ls, gs, cs⟩ : HD)), .fz (RTask CT (⟨st, en, sortP ps⟩ : TD)), .fz (RD (.int a)), .fz (RD (.int (s : Int))), .fz (RD (.list (dl.map dOp))), .any, .any, .any, .any, .any, .any, .any, .any, .any]⟩ _
        refine s_drop 7 ?_
        refine s_drop 8 ?_
        show WC ⟨hs, hs, (fun _ => False), [.fz (RScr K ns), .fz (RD (.list (ns1.map PyData.int))), .fz (RD ((eT3 (eL PyData.int) (eL PyData.int) (eL dLk)) (ls, gs, cs))), .fz (RD ((eT3 dP dP (eL dP)) (st, en, ps))), .fz (RHouse C (⟨ls, gs, cs⟩ : HD)), .fz (RTask CT (⟨st, en, sortP ps⟩ : TD)), .fz (RD (.int a)), .any, .any, .any, .any, .any, .any, .any, .any, .any, .any, .any]⟩ _
        exact s_of ⟨rfl, by trivial⟩
    · rintro γ ⟨rfl, _⟩
      show WC ⟨hs, hs, (fun _ => False), [.fz (RScr K ns), .fz (RD (.list (ns1.map PyData.int))), .fz (RD ((eT3 (eL PyData.int) (eL PyData.int) (eL dLk)) (ls, gs, cs))), .fz (RD ((eT3 dP dP (eL dP)) (st, en, ps))), .fz (RHouse C (⟨ls, gs, cs⟩ : HD)), .fz (RTask CT (⟨st, en, sortP ps⟩ : TD)), .fz (RD (.int a)), .any, .any, .any, .any, .any, .any, .any, .any, .any, .any, .any]⟩ _
      refine s_drop 6 ?_
      show WC ⟨hs, hs, (fun _ => False), [.fz (RScr K ns), .fz (RD (.list (ns1.map PyData.int))), .fz (RD ((eT3 (eL PyData.int) (eL PyData.int) (eL dLk)) (ls, gs, cs))), .fz (RD ((eT3 dP dP (eL dP)) (st, en, ps))), .fz (RHouse C (⟨ls, gs, cs⟩ : HD)), .fz (RTask CT (⟨st, en, sortP ps⟩ : TD)), .any, .any, .any, .any, .any, .any, .any, .any, .any, .any, .any, .any]⟩ _
      exact s_of ⟨rfl, by trivial⟩
  · rintro γ ⟨rfl, _⟩
    show WC ⟨hs, hs, (fun _ => False), [.fz (RScr K ns), .fz (RD (.list (ns1.map PyData.int))), .fz (RD ((eT3 (eL PyData.int) (eL PyData.int) (eL dLk)) (ls, gs, cs))), .fz (RD ((eT3 dP dP (eL dP)) (st, en, ps))), .fz (RHouse C (⟨ls, gs, cs⟩ : HD)), .fz (RTask CT (⟨st, en, sortP ps⟩ : TD)), .any, .any, .any, .any, .any, .any, .any, .any, .any, .any, .any, .any]⟩ _
    refine s_seq ?_
    have e0 := Int.emod_nonneg (ix ns1 40) (show (5 : Int) ≠ 0 by decide)
    have e1 := Int.emod_lt_of_pos (ix ns1 40) (show (0 : Int) < 5 by decide)
    obtain ⟨n, en1, n1, n5⟩ : ∃ n : Nat, 1 + ix ns1 40 % 5 = (n : Int) ∧ 1 ≤ n ∧ n ≤ 5 := ⟨(1 + ix ns1 40 % 5).toNat, by omega, by omega, by omega⟩
    refine s_set (E.eq (e_op o_add e_int (e_op (o_mod (i := (ix ns1 40)) (j := 5) (by omega)) (e_cb o_int (a_cons (e_op (o_ixL (ix_at (xs := ns1) (i := 40) (by omega))) (e_var rfl) e_int) a_nil)) e_int)) (e := PyData.int (n : Int)) (by rw [en1])) ?_
    show WC ⟨hs, hs, (fun _ => False), [.fz (RScr K ns), .fz (RD (.list (ns1.map PyData.int))), .fz (RD ((eT3 (eL PyData.int) (eL PyData.int) (eL dLk)) (ls, gs, cs))), .fz (RD ((eT3 dP dP (eL dP)) (st, en, ps))), .fz (RHouse C (⟨ls, gs, cs⟩ : HD)), .fz (RTask CT (⟨st, en, sortP ps⟩ : TD)), .any, .any, .any, .any, .any, .fz (RD (.int (n : Int))), .any, .any, .any, .any, .any, .any]⟩ _
    refine s_seq ?_
    obtain ⟨fc, efc⟩ : ∃ f : Int → Bool, (fun k => decide (ix ns1 (41 + k) % 7 = 3)) = f := ⟨_, rfl⟩
    refine s_set (E.eq (n_e (n_lcRM (lo := 0) (n := ((n : Int) : Int).toNat) (h := fun k => (("up" : Str), 0, k)) (p := fun k => (decide (((ix ns1 (41 + k)) % 7) = 3))) (encB := dLk) (w_rng1 (j := (n : Int)) (e_var rfl) (by omega)) rfl (by decide) (fun _ k hxk => g_name) (fun _ k hxk => by exact (t_T (e_op o_eqI (e_op (o_mod (i := (ix ns1 (41 + k))) (j := 7) (by omega)) (e_cb o_int (a_cons (e_op (o_ixL (ix_at (xs := ns1) (i := (41 + k)) (by omega))) (e_var rfl) (e_op o_add e_int (e_var rfl))) a_nil)) e_int) e_int))) (fun _ k hxk hyk => by exact (e_tup (m_cons e_str (m_cons e_int (m_cons (e_var rfl) m_nil))))) (by simp only [Int.toNat_natCast]; omega))) (e := .list ((clL fc n).map dLk)) (by rw [← efc]; rfl)) ?_
    show WC ⟨hs, hs, (fun _ => False), [.fz (RScr K ns), .fz (RD (.list (ns1.map PyData.int))), .fz (RD ((eT3 (eL PyData.int) (eL PyData.int) (eL dLk)) (ls, gs, cs))), .fz (RD ((eT3 dP dP (eL dP)) (st, en, ps))), .fz (RHouse C (⟨ls, gs, cs⟩ : HD)), .fz (RTask CT (⟨st, en, sortP ps⟩ : TD)), .any, .any, .any, .any, .any, .fz (RD (.int (n : Int))), .fz (RD (.list ((clL fc n).map dLk))), .any, .any, .any, .any, .any]⟩ _
    refine s_seq ?_
    refine s_set (R := RD (dHT [(n : Int)] [] (clL fc n))) (show Pk.E true _ _ (RD (eT3 (eL PyData.int) (eL PyData.int) (eL dLk) ([(n : Int)], ([] : List Int), clL fc n))) from e_tup (m_cons (n_e (n_lstM (xs := [(n : Int)]) (enc := PyData.int) (m_cons (e_var rfl) m_nil))) (m_cons (n_e (n_lstM (xs := ([] : List Int)) (enc := PyData.int) m_nil)) (m_cons (e_var rfl) m_nil)))) ?_
    show WC ⟨hs, hs, (fun _ => False), [.fz (RScr K ns), .fz (RD (.list (ns1.map PyData.int))), .fz (RD ((eT3 (eL PyData.int) (eL PyData.int) (eL dLk)) (ls, gs, cs))), .fz (RD ((eT3 dP dP (eL dP)) (st, en, ps))), .fz (RHouse C (⟨ls, gs, cs⟩ : HD)), .fz (RTask CT (⟨st, en, sortP ps⟩ : TD)), .any, .any, .any, .any, .any, .fz (RD (.int (n : Int))), .fz (RD (.list ((clL fc n).map dLk))), .fz (RD ((eT3 (eL PyData.int) (eL PyData.int) (eL dLk)) ([(n : Int)], ([] : List Int), clL fc n))), .any, .any, .any, .any]⟩ _
    refine s_seq ?_
    obtain ⟨fp, efp⟩ : ∃ f : Int → Bool, (fun k => decide (2 < ix ns1 (47 + k) % 5)) = f := ⟨_, rfl⟩
    refine s_set (E.eq (n_e (n_lcRM (lo := 0) (n := (((n : Int) + 1) : Int).toNat) (h := fun k => (0, k)) (p := fun k => (decide (2 < ((ix ns1 (47 + k)) % 5)))) (encB := dP) (w_rng1 (j := ((n : Int) + 1)) (e_op o_add (e_var rfl) e_int) (by omega)) rfl (by decide) (fun _ k hxk => g_name) (fun _ k hxk => by exact (t_T (e_op o_cmpI0 (e_op (o_mod (i := (ix ns1 (47 + k))) (j := 5) (by omega)) (e_cb o_int (a_cons (e_op (o_ixL (ix_at (xs := ns1) (i := (47 + k)) (by omega))) (e_var rfl) (e_op o_add e_int (e_var rfl))) a_nil)) e_int) e_int))) (fun _ k hxk hyk => by exact (e_tup (m_cons e_int (m_cons (e_var rfl) m_nil)))) (by omega))) (e := .list ((pkL fp n).map dP)) (by rw [← efp]; rfl)) ?_
    show WC ⟨hs, hs, (fun _ => False), [.fz (RScr K ns), .fz (RD (.list (ns1.map PyData.int))), .fz (RD ((eT3 (eL PyData.int) (eL PyData.int) (eL dLk)) (ls, gs, cs))), .fz (RD ((eT3 dP dP (eL dP)) (st, en, ps))), .fz (RHouse C (⟨ls, gs, cs⟩ : HD)), .fz (RTask CT (⟨st, en, sortP ps⟩ : TD)), .any, .any, .any, .any, .any, .fz (RD (.int (n : Int))), .fz (RD (.list ((clL fc n).map dLk))), .fz (RD ((eT3 (eL PyData.int) (eL PyData.int) (eL dLk)) ([(n : Int)], ([] : List Int), clL fc n))), .fz (RD (.list ((pkL fp n).map dP))), .any, .any, .any]⟩ _
    refine s_seq ?_
    refine s_set (e_tup (m_cons (e_tup (m_cons e_int (m_cons e_int m_nil))) (m_cons (e_tup (m_cons e_int (m_cons e_int m_nil))) (m_cons (e_var rfl) m_nil)))) ?_
    show WC ⟨hs, hs, (fun _ => False), [.fz (RScr K ns), .fz (RD (.list (ns1.map PyData.int))), .fz (RD ((eT3 (eL PyData.int) (eL PyData.int) (eL dLk)) (ls, gs, cs))), .fz (RD ((eT3 dP dP (eL dP)) (st, en, ps))), .fz (RHouse C (⟨ls, gs, cs⟩ : HD)), .fz (RD ((eT3 dP dP (eL dP)) ((0, 0), (0, 0), (pkL fp n)))), .any, .any, .any, .any, .any, .fz (RD (.int (n : Int))), .fz (RD (.list ((clL fc n).map dLk))), .fz (RD ((eT3 (eL PyData.int) (eL PyData.int) (eL dLk)) ([(n : Int)], ([] : List Int), clL fc n))), .fz (RD (.list ((pkL fp n).map dP))), .any, .any, .any]⟩ _
    refine s_seq ?_
    refine s_asgX (x_call0 skx_made (a_cons (e_var rfl) (a_cons (e_var rfl) a_nil)) (fun H kp => ⟨small_valid n1 n5, pkL_nd fp n, Nat.le_trans (pkL_len fp n) (by omega), kp.tab _ tL, kp.tab _ tI⟩)) (fun _ _ => g_tup2 g_name g_name) ?_
    rintro _ _
    show WC ⟨hs, hs, (fun _ => False), [.fz (RScr K ns), .fz (RD (.list (ns1.map PyData.int))), .fz (RD ((eT3 (eL PyData.int) (eL PyData.int) (eL dLk)) (ls, gs, cs))), .fz (RD ((eT3 dP dP (eL dP)) (st, en, ps))), .fz (RHouse C (⟨ls, gs, cs⟩ : HD)), .fz (RD ((eT3 dP dP (eL dP)) ((0, 0), (0, 0), (pkL fp n)))), .any, .any, .any, .any, .any, .fz (RD (.int (n : Int))), .fz (RD (.list ((clL fc n).map dLk))), .fz (RD ((eT3 (eL PyData.int) (eL PyData.int) (eL dLk)) ([(n : Int)], ([] : List Int), clL fc n))), .fz (RD (.list ((pkL fp n).map dP))), .fz (RHouse C (⟨[(n : Int)], [], clL fc n⟩ : HD)), .fz (RTask CT (⟨(0, 0), (0, 0), sortP (pkL fp n)⟩ : TD)), .any]⟩ _
    obtain ⟨so, eso⟩ : ∃ z, optL 0 (n : Int) (clL fc n) 0 (zpL 0 (betweenL (pkL fp n) 0 0 (n : Int)) (n : Int)) = z := ⟨_, rfl⟩
    have sfact := small_fact (fc := fc) (fp := fp) n1 n5
    rw [eso] at sfact
    have sp60 : (sortP (pkL fp n)).length ≤ 60 := by rw [sortP_len]; have := pkL_len fp n; omega
    have lens1 : Lens [(n : Int)] := fun x hx => by rw [List.mem_singleton.mp hx]; omega
    have pnd := pkL_nd fp n
    have srise := rise_between (pkL fp n) 0 (show (0 : Int) < (n : Int) by omega)
    have sbl := betweenL_len (pkL fp n) 0 0 (n : Int)
    have sil : insideL (sortP (pkL fp n)) 0 (cA [(n : Int)] 0) (cA [(n : Int)] (0 + 1)) = betweenL (pkL fp n) 0 0 (n : Int) := by rw [inside_between pnd, cA1_1]; rfl
    have sio : optA ((⟨[(n : Int)], [], clL fc n⟩ : HD), (⟨(0, 0), (0, 0), sortP (pkL fp n)⟩ : TD), 0, 0) = so := by rw [← eso]; show optL (cA [(n : Int)] 0) (cA [(n : Int)] (0 + 1)) _ _ (zpL (cA [(n : Int)] 0) (insideL (sortP (pkL fp n)) 0 _ _) (cA [(n : Int)] (0 + 1))) = _; rw [sil, cA1_1]; rfl
    have sins : insOk [(n : Int)] 0 (insideL (sortP (pkL fp n)) 0 (cA [(n : Int)] 0) (cA [(n : Int)] (0 + 1))) := by rw [sil]; exact ⟨Nat.zero_lt_one, Nat.le_trans sbl (by omega), fun p hp => by have hp : p ∈ zpL (cA [(n : Int)] 0) (betweenL (pkL fp n) 0 0 (n : Int)) (cA [(n : Int)] (0 + 1)) := hp; rw [cA1_1] at hp; have := zpL_mem srise hp; omega⟩
    have shw2 := wrong_none (st := (0, 0)) (en := (0, 0)) (small_cr (n := n)) small_cr (pkL_pl (f := fp))
    have solen : (bestL so).length ≤ 1003 := by rw [← eso]; refine Nat.le_trans (List.length_filter_le _ _) (Nat.le_trans optL_len ?_); have := zpL_len 0 (betweenL (pkL fp n) 0 0 (n : Int)) (n : Int); omega
    refine s_ret (E.eq (show E _ _ _ (RD (.bool true)) from c_call (sok_sps (Rs := Rs__law_bounded ) (P := P__law_bounded ) (R := R__law_bounded ) (n, (clL fc n), (0, 0), (0, 0), (pkL fp n), (bestL so))) (a_cons (e_var rfl) (a_cons (e_var rfl) (a_cons (n_e (show EN _ _ (OL ((bestL so).map dOp)) from EN.eqL (n_call (skn_spn (Rs := Rs_marks_inside C CT CP CIT) (P := fun x H => P_marks_inside C CT CP CIT x H ∧ insOk x.1.ls x.2.2.2 (insA x) ∧ TabG H TF) (C := fun x => OL ((bestL (optA x)).map dOp)) ((⟨[(n : Int)], [], clL fc n⟩ : HD), (⟨(0, 0), (0, 0), sortP (pkL fp n)⟩ : TD), 0, 0)) (a_cons (e_var rfl) (a_cons (e_var rfl) (a_cons e_int (a_cons e_int a_nil)))) (fun H kp => by exact ⟨⟨Nat.zero_lt_one, shw2, sp60⟩, sins, kp.tab _ tF⟩)) (by rw [sio]))) a_nil))) (fun H kp => by show (n ≤ 5 ∧ 1 ≤ n) ∧ (∀ c ∈ (clL fc n), PyData.strOk c.1 = true) ∧ (bestL so).length ≤ 1003 ∧ boundF ((List.range n).map fun k : Nat => decide ((("up" : Str), (0 : Int), (k : Int)) ∈ (clL fc n))) (betweenL (pkL fp n) 0 0 (n : Int)) (bestL so) = true; exact ⟨⟨n5, n1⟩, clL_ok, solen, sfact⟩)) (e := .bool true) (congrArg PyData.bool ?_)) fun H' v k r => by cases r; exact q H'
    rfl
end
section
open GxR NdefX PySem.Spec PyProof.Rows
theorem all_mk {l : PySem.W.OpenLaw} {w : World} {K : PySem.W.Frag} {h : Heap} {mg : Str → Option Value} {fa : Addr} {TI TL TF : Addr} (X : K.In h) (G : h.Ns mainGlobals mg) (hfa : mg "law" = some (.ref fa))
    {C : Addr}
    {CI : Addr}
    {tk_LONGEST : Tok}
    {tk_MOST_STRETCHES : Tok}
    {tk_MOST_GAPS : Tok}
    {tk_MOST_CLOSED : Tok}
    {f_House___init__ : Addr}
    {c8_House___init__ : Addr}
    {od_House___init__ an_House___init__ : Option Addr} {sl_House___init__ : Array (Option Value)} {oc_House___init__ kV_House___init__ dc_House___init__ pm_House___init__ ct_House___init__ : Value}
    {f__are_long : Addr}
    {c8__are_long : Addr}
    {od__are_long an__are_long : Option Addr} {sl__are_long : Array (Option Value)} {oc__are_long kV__are_long dc__are_long pm__are_long ct__are_long : Value}
    {f__cross_heights : Addr}
    {od__cross_heights an__cross_heights : Option Addr} {sl__cross_heights : Array (Option Value)} {oc__cross_heights kV__cross_heights dc__cross_heights pm__cross_heights cd__cross_heights ct__cross_heights : Value}
    {f_House_is_link : Addr}
    {od_House_is_link an_House_is_link : Option Addr} {sl_House_is_link : Array (Option Value)} {oc_House_is_link kV_House_is_link dc_House_is_link pm_House_is_link cd_House_is_link ct_House_is_link : Value}
    {p_House_lengths : Addr}
    {r_House_lengths : List Value}
    {f_House_lengths : Addr}
    {od_House_lengths an_House_lengths : Option Addr} {sl_House_lengths : Array (Option Value)} {oc_House_lengths kV_House_lengths dc_House_lengths pm_House_lengths cd_House_lengths ct_House_lengths : Value}
    {f_House_crosses : Addr}
    {od_House_crosses an_House_crosses : Option Addr} {sl_House_crosses : Array (Option Value)} {oc_House_crosses kV_House_crosses dc_House_crosses pm_House_crosses cd_House_crosses ct_House_crosses : Value}
    {f_House_is_place : Addr}
    {od_House_is_place an_House_is_place : Option Addr} {sl_House_is_place : Array (Option Value)} {oc_House_is_place kV_House_is_place dc_House_is_place pm_House_is_place cd_House_is_place ct_House_is_place : Value}
    {f_House_is_cross : Addr}
    {od_House_is_cross an_House_is_cross : Option Addr} {sl_House_is_cross : Array (Option Value)} {oc_House_is_cross kV_House_is_cross dc_House_is_cross pm_House_is_cross cd_House_is_cross ct_House_is_cross : Value}
    {f_House_is_closed : Addr}
    {od_House_is_closed an_House_is_closed : Option Addr} {sl_House_is_closed : Array (Option Value)} {oc_House_is_closed kV_House_is_closed dc_House_is_closed pm_House_is_closed cd_House_is_closed ct_House_is_closed : Value}
    {CT : Addr}
    {CIT : Addr}
    {tk_MOST_PICKS : Tok}
    {f_Task___init__ : Addr}
    {od_Task___init__ an_Task___init__ : Option Addr} {sl_Task___init__ : Array (Option Value)} {oc_Task___init__ kV_Task___init__ dc_Task___init__ pm_Task___init__ cd_Task___init__ ct_Task___init__ : Value}
    {p_Task_picks : Addr}
    {r_Task_picks : List Value}
    {f_Task_picks : Addr}
    {od_Task_picks an_Task_picks : Option Addr} {sl_Task_picks : Array (Option Value)} {oc_Task_picks kV_Task_picks dc_Task_picks pm_Task_picks cd_Task_picks ct_Task_picks : Value}
    {CP : Addr}
    {Pe : Addr}
    {nm0 qn0 : Str} {N0 : Addr} {bs0 : List Value} {sn0 : List Str} {sb0 : List Value} {ab0 : Bool} {co0 : Option Bool} {dd0 : Option Addr} {ma0 mb0 mc0 md0 me0 : Option Value}
    {f_iCP : Addr}
    {od_iCP an_iCP : Option Addr} {sl_iCP : Array (Option Value)} {oc_iCP kV_iCP dc_iCP pm_iCP cd_iCP ct_iCP : Value}
    {f_check_task : Addr}
    {od_check_task an_check_task : Option Addr} {sl_check_task : Array (Option Value)} {oc_check_task kV_check_task dc_check_task pm_check_task cd_check_task ct_check_task : Value}
    {f__law_row : Addr}
    {od__law_row an__law_row : Option Addr} {sl__law_row : Array (Option Value)} {oc__law_row kV__law_row dc__law_row pm__law_row cd__law_row ct__law_row : Value}
    {f__law_numbers : Addr}
    {od__law_numbers an__law_numbers : Option Addr} {sl__law_numbers : Array (Option Value)} {oc__law_numbers kV__law_numbers dc__law_numbers pm__law_numbers cd__law_numbers ct__law_numbers : Value}
    {f__law_crosses : Addr}
    {od__law_crosses an__law_crosses : Option Addr} {sl__law_crosses : Array (Option Value)} {oc__law_crosses kV__law_crosses dc__law_crosses pm__law_crosses cd__law_crosses ct__law_crosses : Value}
    {f__law_link : Addr}
    {od__law_link an__law_link : Option Addr} {sl__law_link : Array (Option Value)} {oc__law_link kV__law_link dc__law_link pm__law_link cd__law_link ct__law_link : Value}
    {f__law_house : Addr}
    {od__law_house an__law_house : Option Addr} {sl__law_house : Array (Option Value)} {oc__law_house kV__law_house dc__law_house pm__law_house cd__law_house ct__law_house : Value}
    {f__law_cross : Addr}
    {od__law_cross an__law_cross : Option Addr} {sl__law_cross : Array (Option Value)} {oc__law_cross kV__law_cross dc__law_cross pm__law_cross cd__law_cross ct__law_cross : Value}
    {f__law_place : Addr}
    {od__law_place an__law_place : Option Addr} {sl__law_place : Array (Option Value)} {oc__law_place kV__law_place dc__law_place pm__law_place cd__law_place ct__law_place : Value}
    {f__law_task : Addr}
    {od__law_task an__law_task : Option Addr} {sl__law_task : Array (Option Value)} {oc__law_task kV__law_task dc__law_task pm__law_task cd__law_task ct__law_task : Value}
    {f__law_made : Addr}
    {od__law_made an__law_made : Option Addr} {sl__law_made : Array (Option Value)} {oc__law_made kV__law_made dc__law_made pm__law_made cd__law_made ct__law_made : Value}
    {f_ends_of_stretch : Addr}
    {od_ends_of_stretch an_ends_of_stretch : Option Addr} {sl_ends_of_stretch : Array (Option Value)} {oc_ends_of_stretch kV_ends_of_stretch dc_ends_of_stretch pm_ends_of_stretch cd_ends_of_stretch ct_ends_of_stretch : Value}
    {f_marks_inside : Addr}
    {od_marks_inside an_marks_inside : Option Addr} {sl_marks_inside : Array (Option Value)} {oc_marks_inside kV_marks_inside dc_marks_inside pm_marks_inside cd_marks_inside ct_marks_inside : Value}
    {f__pieces_between : Addr}
    {od__pieces_between an__pieces_between : Option Addr} {sl__pieces_between : Array (Option Value)} {oc__pieces_between kV__pieces_between dc__pieces_between pm__pieces_between cd__pieces_between ct__pieces_between : Value}
    {f_is_free : Addr}
    {c8_is_free : Addr}
    {od_is_free an_is_free : Option Addr} {sl_is_free : Array (Option Value)} {oc_is_free kV_is_free dc_is_free pm_is_free ct_is_free : Value}
    {f__law_inside : Addr}
    {od__law_inside an__law_inside : Option Addr} {sl__law_inside : Array (Option Value)} {oc__law_inside kV__law_inside dc__law_inside pm__law_inside cd__law_inside ct__law_inside : Value}
    {f__law_pieces : Addr}
    {od__law_pieces an__law_pieces : Option Addr} {sl__law_pieces : Array (Option Value)} {oc__law_pieces kV__law_pieces dc__law_pieces pm__law_pieces cd__law_pieces ct__law_pieces : Value}
    {f__law_free : Addr}
    {od__law_free an__law_free : Option Addr} {sl__law_free : Array (Option Value)} {oc__law_free kV__law_free dc__law_free pm__law_free cd__law_free ct__law_free : Value}
    {f__law_options : Addr}
    {od__law_options an__law_options : Option Addr} {sl__law_options : Array (Option Value)} {oc__law_options kV__law_options dc__law_options pm__law_options cd__law_options ct__law_options : Value}
    {f__law_best : Addr}
    {od__law_best an__law_best : Option Addr} {sl__law_best : Array (Option Value)} {oc__law_best kV__law_best dc__law_best pm__law_best cd__law_best ct__law_best : Value}
    {f__law_even : Addr}
    {od__law_even an__law_even : Option Addr} {sl__law_even : Array (Option Value)} {oc__law_even kV__law_even dc__law_even pm__law_even cd__law_even ct__law_even : Value}
    {f__law_hangs : Addr}
    {od__law_hangs an__law_hangs : Option Addr} {sl__law_hangs : Array (Option Value)} {oc__law_hangs kV__law_hangs dc__law_hangs pm__law_hangs cd__law_hangs ct__law_hangs : Value}
    {f__law_bounded : Addr}
    {od__law_bounded an__law_bounded : Option Addr} {sl__law_bounded : Array (Option Value)} {oc__law_bounded kV__law_bounded dc__law_bounded pm__law_bounded cd__law_bounded ct__law_bounded : Value}
    {f__option_without : Addr}
    {od__option_without an__option_without : Option Addr} {sl__option_without : Array (Option Value)} {oc__option_without kV__option_without dc__option_without pm__option_without cd__option_without ct__option_without : Value}
    {f_options_between : Addr}
    {od_options_between an_options_between : Option Addr} {sl_options_between : Array (Option Value)} {oc_options_between kV_options_between dc_options_between pm_options_between cd_options_between ct_options_between : Value}
    {f_best_between : Addr}
    {od_best_between an_best_between : Option Addr} {sl_best_between : Array (Option Value)} {oc_best_between kV_best_between dc_best_between pm_best_between cd_best_between ct_best_between : Value}
    {f_options_of : Addr}
    {od_options_of an_options_of : Option Addr} {sl_options_of : Array (Option Value)} {oc_options_of kV_options_of dc_options_of pm_options_of cd_options_of ct_options_of : Value}
    {f_best_options : Addr}
    {od_best_options an_best_options : Option Addr} {sl_best_options : Array (Option Value)} {oc_best_options kV_best_options dc_best_options pm_best_options cd_best_options ct_best_options : Value}
    {f_law : Addr}
    {od_law an_law : Option Addr} {sl_law : Array (Option Value)} {oc_law kV_law dc_law pm_law cd_law ct_law : Value}
    (a_C : PySem.W.nsIn K mainGlobals "House" = some (some (.ref C)))
    (pg_C : PySem.W.plainGet K C Str.empty = true)
    (hd_C : PySem.W.hasDictIn K C = true)
    (po_C : PySem.W.plainOver K C = true)
    (sa_C : PySem.W.findIn K (.ref C) "__setattr__" = some (some (.builtin "object.__setattr__")))
    (mk_C : PySem.W.makesIn K C = true)
    (kc_C : PySem.W.keepIn K (.ref C) = true)
    (nplengths : PySem.W.findIn K (.ref C) "_lengths" = some none)
    (npgaps : PySem.W.findIn K (.ref C) "_gaps" = some none)
    (npcrosses : PySem.W.findIn K (.ref C) "_crosses" = some none)
    (nptop : PySem.W.findIn K (.ref C) "_top" = some none)
    (npclosed : PySem.W.findIn K (.ref C) "_closed" = some none)
    (a_CI : PySem.W.nsIn K mainGlobals "InvalidHouse" = some (some (.ref CI)))
    (kpCI : PySem.W.keepIn K (.ref CI) = true)
    (sbCI : PySem.W.subIn K (.ref CI) (.type "BaseException") = some true)
    (tyCI : PySem.W.typeIn K (.ref CI) = some (.type "type"))
    (exCI : PySem.W.excIn K CI [.type "ValueError", .type "Exception", .type "BaseException", .type "object"] "ValueError.__new__" = true)
    (c_LONGEST : PySem.W.nsIn K mainGlobals "LONGEST" = some (some (.int 40 tk_LONGEST)))
    (c_MOST_STRETCHES : PySem.W.nsIn K mainGlobals "MOST_STRETCHES" = some (some (.int 2 tk_MOST_STRETCHES)))
    (c_MOST_GAPS : PySem.W.nsIn K mainGlobals "MOST_GAPS" = some (some (.int 11 tk_MOST_GAPS)))
    (c_MOST_CLOSED : PySem.W.nsIn K mainGlobals "MOST_CLOSED" = some (some (.int 200 tk_MOST_CLOSED)))
    (z_abs : PySem.W.nsIn K mainGlobals "abs" = some none)
    (z_all : PySem.W.nsIn K mainGlobals "all" = some none)
    (z_int : PySem.W.nsIn K mainGlobals "int" = some none)
    (z_len : PySem.W.nsIn K mainGlobals "len" = some none)
    (z_list : PySem.W.nsIn K mainGlobals "list" = some none)
    (z_max : PySem.W.nsIn K mainGlobals "max" = some none)
    (z_range : PySem.W.nsIn K mainGlobals "range" = some none)
    (z_sorted : PySem.W.nsIn K mainGlobals "sorted" = some none)
    (z_sum : PySem.W.nsIn K mainGlobals "sum" = some none)
    (a_House___init__ : PySem.W.findIn K (.ref C) "__init__" = some (some (.ref f_House___init__)))
    (i_House___init__ : PySem.W.isFn K (.ref f_House___init__) = true)
    (l_House___init__ : K.lookup f_House___init__ = some ⟨oc_House___init__, od_House___init__, .func (PySem.W.fnOf "__init__" "House.__init__" (defArgs s_House___init__) (defBody s_House___init__) (defScope s_House___init__) .none kV_House___init__ dc_House___init__ pm_House___init__ an_House___init__ (.ref c8_House___init__) ct_House___init__), sl_House___init__⟩)
    (c_House___init__ : PySem.W.codeIn K (.ref c8_House___init__) "House.__init__" = true)
    (k_House___init__ : PySem.W.keepIn K (.ref f_House___init__) = true)
    (a__are_long : PySem.W.nsIn K mainGlobals "_are_long" = some (some (.ref f__are_long)))
    (l__are_long : K.lookup f__are_long = some ⟨oc__are_long, od__are_long, .func (PySem.W.fnOf "_are_long" "_are_long" (defArgs s__are_long) (defBody s__are_long) (defScope s__are_long) .none kV__are_long dc__are_long pm__are_long an__are_long (.ref c8__are_long) ct__are_long), sl__are_long⟩)
    (c__are_long : PySem.W.codeIn K (.ref c8__are_long) "_are_long" = true)
    (k__are_long : PySem.W.keepIn K (.ref f__are_long) = true)
    (a__cross_heights : PySem.W.nsIn K mainGlobals "_cross_heights" = some (some (.ref f__cross_heights)))
    (l__cross_heights : K.lookup f__cross_heights = some ⟨oc__cross_heights, od__cross_heights, .func (PySem.W.fnOf "_cross_heights" "_cross_heights" (defArgs s__cross_heights) (defBody s__cross_heights) (defScope s__cross_heights) .none kV__cross_heights dc__cross_heights pm__cross_heights an__cross_heights cd__cross_heights ct__cross_heights), sl__cross_heights⟩)
    (c__cross_heights : PySem.W.codeIn K cd__cross_heights "_cross_heights" = true)
    (k__cross_heights : PySem.W.keepIn K (.ref f__cross_heights) = true)
    (a_House_is_link : PySem.W.findIn K (.ref C) "is_link" = some (some (.ref f_House_is_link)))
    (i_House_is_link : PySem.W.isFn K (.ref f_House_is_link) = true)
    (l_House_is_link : K.lookup f_House_is_link = some ⟨oc_House_is_link, od_House_is_link, .func (PySem.W.fnOf "is_link" "House.is_link" (defArgs s_House_is_link) (defBody s_House_is_link) (defScope s_House_is_link) .none kV_House_is_link dc_House_is_link pm_House_is_link an_House_is_link cd_House_is_link ct_House_is_link), sl_House_is_link⟩)
    (c_House_is_link : PySem.W.codeIn K cd_House_is_link "House.is_link" = true)
    (k_House_is_link : PySem.W.keepIn K (.ref f_House_is_link) = true)
    (pa_House_lengths : PySem.W.findIn K (.ref C) "lengths" = some (some (.ref p_House_lengths)))
    (pg_House_lengths : PySem.W.specialIn K (.ref p_House_lengths) "__get__" = some (some (.builtin "property.__get__")))
    (pt_House_lengths : PySem.W.takesIn K (.ref p_House_lengths) = some true)
    (pr_House_lengths : PySem.W.recIn K p_House_lengths "property" = some (.ref f_House_lengths :: r_House_lengths))
    (l_House_lengths : K.lookup f_House_lengths = some ⟨oc_House_lengths, od_House_lengths, .func (PySem.W.fnOf "lengths" "House.lengths" (defArgs s_House_lengths) (defBody s_House_lengths) (defScope s_House_lengths) .none kV_House_lengths dc_House_lengths pm_House_lengths an_House_lengths cd_House_lengths ct_House_lengths), sl_House_lengths⟩)
    (c_House_lengths : PySem.W.codeIn K cd_House_lengths "House.lengths" = true)
    (k_House_lengths : PySem.W.keepIn K (.ref f_House_lengths) = true)
    (a_House_crosses : PySem.W.findIn K (.ref C) "crosses" = some (some (.ref f_House_crosses)))
    (i_House_crosses : PySem.W.isFn K (.ref f_House_crosses) = true)
    (l_House_crosses : K.lookup f_House_crosses = some ⟨oc_House_crosses, od_House_crosses, .func (PySem.W.fnOf "crosses" "House.crosses" (defArgs s_House_crosses) (defBody s_House_crosses) (defScope s_House_crosses) .none kV_House_crosses dc_House_crosses pm_House_crosses an_House_crosses cd_House_crosses ct_House_crosses), sl_House_crosses⟩)
    (c_House_crosses : PySem.W.codeIn K cd_House_crosses "House.crosses" = true)
    (k_House_crosses : PySem.W.keepIn K (.ref f_House_crosses) = true)
    (a_House_is_place : PySem.W.findIn K (.ref C) "is_place" = some (some (.ref f_House_is_place)))
    (i_House_is_place : PySem.W.isFn K (.ref f_House_is_place) = true)
    (l_House_is_place : K.lookup f_House_is_place = some ⟨oc_House_is_place, od_House_is_place, .func (PySem.W.fnOf "is_place" "House.is_place" (defArgs s_House_is_place) (defBody s_House_is_place) (defScope s_House_is_place) .none kV_House_is_place dc_House_is_place pm_House_is_place an_House_is_place cd_House_is_place ct_House_is_place), sl_House_is_place⟩)
    (c_House_is_place : PySem.W.codeIn K cd_House_is_place "House.is_place" = true)
    (k_House_is_place : PySem.W.keepIn K (.ref f_House_is_place) = true)
    (a_House_is_cross : PySem.W.findIn K (.ref C) "is_cross" = some (some (.ref f_House_is_cross)))
    (i_House_is_cross : PySem.W.isFn K (.ref f_House_is_cross) = true)
    (l_House_is_cross : K.lookup f_House_is_cross = some ⟨oc_House_is_cross, od_House_is_cross, .func (PySem.W.fnOf "is_cross" "House.is_cross" (defArgs s_House_is_cross) (defBody s_House_is_cross) (defScope s_House_is_cross) .none kV_House_is_cross dc_House_is_cross pm_House_is_cross an_House_is_cross cd_House_is_cross ct_House_is_cross), sl_House_is_cross⟩)
    (c_House_is_cross : PySem.W.codeIn K cd_House_is_cross "House.is_cross" = true)
    (k_House_is_cross : PySem.W.keepIn K (.ref f_House_is_cross) = true)
    (a_House_is_closed : PySem.W.findIn K (.ref C) "is_closed" = some (some (.ref f_House_is_closed)))
    (i_House_is_closed : PySem.W.isFn K (.ref f_House_is_closed) = true)
    (l_House_is_closed : K.lookup f_House_is_closed = some ⟨oc_House_is_closed, od_House_is_closed, .func (PySem.W.fnOf "is_closed" "House.is_closed" (defArgs s_House_is_closed) (defBody s_House_is_closed) (defScope s_House_is_closed) .none kV_House_is_closed dc_House_is_closed pm_House_is_closed an_House_is_closed cd_House_is_closed ct_House_is_closed), sl_House_is_closed⟩)
    (c_House_is_closed : PySem.W.codeIn K cd_House_is_closed "House.is_closed" = true)
    (k_House_is_closed : PySem.W.keepIn K (.ref f_House_is_closed) = true)
    (a_CT : PySem.W.nsIn K mainGlobals "Task" = some (some (.ref CT)))
    (pg_CT : PySem.W.plainGet K CT Str.empty = true)
    (hd_CT : PySem.W.hasDictIn K CT = true)
    (po_CT : PySem.W.plainOver K CT = true)
    (sa_CT : PySem.W.findIn K (.ref CT) "__setattr__" = some (some (.builtin "object.__setattr__")))
    (mk_CT : PySem.W.makesIn K CT = true)
    (kc_CT : PySem.W.keepIn K (.ref CT) = true)
    (a_CIT : PySem.W.nsIn K mainGlobals "InvalidTask" = some (some (.ref CIT)))
    (kpCIT : PySem.W.keepIn K (.ref CIT) = true)
    (sbCIT : PySem.W.subIn K (.ref CIT) (.type "BaseException") = some true)
    (tyCIT : PySem.W.typeIn K (.ref CIT) = some (.type "type"))
    (exCIT : PySem.W.excIn K CIT [.type "ValueError", .type "Exception", .type "BaseException", .type "object"] "ValueError.__new__" = true)
    (tstart : PySem.W.findIn K (.ref CT) "start" = some none)
    (tend : PySem.W.findIn K (.ref CT) "end" = some none)
    (tppicks : PySem.W.findIn K (.ref CT) "_picks" = some none)
    (c_MOST_PICKS : PySem.W.nsIn K mainGlobals "MOST_PICKS" = some (some (.int 60 tk_MOST_PICKS)))
    (z_set : PySem.W.nsIn K mainGlobals "set" = some none)
    (a_Task___init__ : PySem.W.findIn K (.ref CT) "__init__" = some (some (.ref f_Task___init__)))
    (i_Task___init__ : PySem.W.isFn K (.ref f_Task___init__) = true)
    (l_Task___init__ : K.lookup f_Task___init__ = some ⟨oc_Task___init__, od_Task___init__, .func (PySem.W.fnOf "__init__" "Task.__init__" (defArgs s_Task___init__) (defBody s_Task___init__) (defScope s_Task___init__) .none kV_Task___init__ dc_Task___init__ pm_Task___init__ an_Task___init__ cd_Task___init__ ct_Task___init__), sl_Task___init__⟩)
    (c_Task___init__ : PySem.W.codeIn K cd_Task___init__ "Task.__init__" = true)
    (k_Task___init__ : PySem.W.keepIn K (.ref f_Task___init__) = true)
    (pa_Task_picks : PySem.W.findIn K (.ref CT) "picks" = some (some (.ref p_Task_picks)))
    (pg_Task_picks : PySem.W.specialIn K (.ref p_Task_picks) "__get__" = some (some (.builtin "property.__get__")))
    (pt_Task_picks : PySem.W.takesIn K (.ref p_Task_picks) = some true)
    (pr_Task_picks : PySem.W.recIn K p_Task_picks "property" = some (.ref f_Task_picks :: r_Task_picks))
    (l_Task_picks : K.lookup f_Task_picks = some ⟨oc_Task_picks, od_Task_picks, .func (PySem.W.fnOf "picks" "Task.picks" (defArgs s_Task_picks) (defBody s_Task_picks) (defScope s_Task_picks) .none kV_Task_picks dc_Task_picks pm_Task_picks an_Task_picks cd_Task_picks ct_Task_picks), sl_Task_picks⟩)
    (c_Task_picks : PySem.W.codeIn K cd_Task_picks "Task.picks" = true)
    (k_Task_picks : PySem.W.keepIn K (.ref f_Task_picks) = true)
    (a_CP : PySem.W.nsIn K mainGlobals "InvalidPlace" = some (some (.ref CP)))
    (kpCP : PySem.W.keepIn K (.ref CP) = true)
    (sbCP : PySem.W.subIn K (.ref CP) (.type "BaseException") = some true)
    (tyCP : PySem.W.typeIn K (.ref CP) = some (.type "type"))
    (a_Pe : PySem.W.nsIn K mainGlobals "PickError" = some (some (.ref Pe)))
    (dcCP : PySem.W.hasDictIn K CP = true)
    (ssCP : PySem.W.subIn K (.ref CP) (.ref CP) = some true)
    (xlCP : K.lookup CP = some (excClassObj nm0 qn0 CP N0 bs0 [.ref Pe, .type "ValueError", .type "Exception", .type "BaseException", .type "object"] true sn0 sb0 ab0 co0 dd0 ma0 mb0 mc0 md0 me0 "ValueError.__new__"))
    (saCP : PySem.W.findIn K (.ref CP) "__setattr__" = some (some (.builtin "object.__setattr__")))
    (noCP : PySem.W.findIn K (.ref CP) "place" = some none)
    (gaCP : PySem.W.findIn K (.ref CP) "__getattribute__" = some (some (.builtin "BaseException.__getattribute__")))
    (ggCP : PySem.W.findIn K (.ref CP) "__getattr__" = some none)
    (a_iCP : PySem.W.findIn K (.ref CP) "__init__" = some (some (.ref f_iCP)))
    (tiCP : PySem.W.typeIn K (.ref f_iCP) = some (.type "function"))
    (l_iCP : K.lookup f_iCP = some ⟨oc_iCP, od_iCP, .func (PySem.W.fnOf "__init__" "InvalidPlace.__init__" (defArgs s_InvalidPlace___init__) (defBody s_InvalidPlace___init__) (defScope s_InvalidPlace___init__) .none kV_iCP dc_iCP pm_iCP an_iCP cd_iCP ct_iCP), sl_iCP⟩)
    (c_iCP : PySem.W.codeIn K cd_iCP "InvalidPlace.__init__" = true)
    (k_iCP : PySem.W.keepIn K (.ref f_iCP) = true)
    (a_check_task : PySem.W.nsIn K mainGlobals "check_task" = some (some (.ref f_check_task)))
    (l_check_task : K.lookup f_check_task = some ⟨oc_check_task, od_check_task, .func (PySem.W.fnOf "check_task" "check_task" (defArgs s_check_task) (defBody s_check_task) (defScope s_check_task) .none kV_check_task dc_check_task pm_check_task an_check_task cd_check_task ct_check_task), sl_check_task⟩)
    (c_check_task : PySem.W.codeIn K cd_check_task "check_task" = true)
    (k_check_task : PySem.W.keepIn K (.ref f_check_task) = true)
    (a__law_row : PySem.W.nsIn K mainGlobals "_law_row" = some (some (.ref f__law_row)))
    (l__law_row : K.lookup f__law_row = some ⟨oc__law_row, od__law_row, .func (PySem.W.fnOf "_law_row" "_law_row" (defArgs s__law_row) (defBody s__law_row) (defScope s__law_row) .none kV__law_row dc__law_row pm__law_row an__law_row cd__law_row ct__law_row), sl__law_row⟩)
    (c__law_row : PySem.W.codeIn K cd__law_row "_law_row" = true)
    (k__law_row : PySem.W.keepIn K (.ref f__law_row) = true)
    (a__law_numbers : PySem.W.nsIn K mainGlobals "_law_numbers" = some (some (.ref f__law_numbers)))
    (l__law_numbers : K.lookup f__law_numbers = some ⟨oc__law_numbers, od__law_numbers, .func (PySem.W.fnOf "_law_numbers" "_law_numbers" (defArgs s__law_numbers) (defBody s__law_numbers) (defScope s__law_numbers) .none kV__law_numbers dc__law_numbers pm__law_numbers an__law_numbers cd__law_numbers ct__law_numbers), sl__law_numbers⟩)
    (c__law_numbers : PySem.W.codeIn K cd__law_numbers "_law_numbers" = true)
    (k__law_numbers : PySem.W.keepIn K (.ref f__law_numbers) = true)
    (a__law_crosses : PySem.W.nsIn K mainGlobals "_law_crosses" = some (some (.ref f__law_crosses)))
    (l__law_crosses : K.lookup f__law_crosses = some ⟨oc__law_crosses, od__law_crosses, .func (PySem.W.fnOf "_law_crosses" "_law_crosses" (defArgs s__law_crosses) (defBody s__law_crosses) (defScope s__law_crosses) .none kV__law_crosses dc__law_crosses pm__law_crosses an__law_crosses cd__law_crosses ct__law_crosses), sl__law_crosses⟩)
    (c__law_crosses : PySem.W.codeIn K cd__law_crosses "_law_crosses" = true)
    (k__law_crosses : PySem.W.keepIn K (.ref f__law_crosses) = true)
    (a__law_link : PySem.W.nsIn K mainGlobals "_law_link" = some (some (.ref f__law_link)))
    (l__law_link : K.lookup f__law_link = some ⟨oc__law_link, od__law_link, .func (PySem.W.fnOf "_law_link" "_law_link" (defArgs s__law_link) (defBody s__law_link) (defScope s__law_link) .none kV__law_link dc__law_link pm__law_link an__law_link cd__law_link ct__law_link), sl__law_link⟩)
    (c__law_link : PySem.W.codeIn K cd__law_link "_law_link" = true)
    (k__law_link : PySem.W.keepIn K (.ref f__law_link) = true)
    (a__law_house : PySem.W.nsIn K mainGlobals "_law_house" = some (some (.ref f__law_house)))
    (l__law_house : K.lookup f__law_house = some ⟨oc__law_house, od__law_house, .func (PySem.W.fnOf "_law_house" "_law_house" (defArgs s__law_house) (defBody s__law_house) (defScope s__law_house) .none kV__law_house dc__law_house pm__law_house an__law_house cd__law_house ct__law_house), sl__law_house⟩)
    (c__law_house : PySem.W.codeIn K cd__law_house "_law_house" = true)
    (k__law_house : PySem.W.keepIn K (.ref f__law_house) = true)
    (a__law_cross : PySem.W.nsIn K mainGlobals "_law_cross" = some (some (.ref f__law_cross)))
    (l__law_cross : K.lookup f__law_cross = some ⟨oc__law_cross, od__law_cross, .func (PySem.W.fnOf "_law_cross" "_law_cross" (defArgs s__law_cross) (defBody s__law_cross) (defScope s__law_cross) .none kV__law_cross dc__law_cross pm__law_cross an__law_cross cd__law_cross ct__law_cross), sl__law_cross⟩)
    (c__law_cross : PySem.W.codeIn K cd__law_cross "_law_cross" = true)
    (k__law_cross : PySem.W.keepIn K (.ref f__law_cross) = true)
    (a__law_place : PySem.W.nsIn K mainGlobals "_law_place" = some (some (.ref f__law_place)))
    (l__law_place : K.lookup f__law_place = some ⟨oc__law_place, od__law_place, .func (PySem.W.fnOf "_law_place" "_law_place" (defArgs s__law_place) (defBody s__law_place) (defScope s__law_place) .none kV__law_place dc__law_place pm__law_place an__law_place cd__law_place ct__law_place), sl__law_place⟩)
    (c__law_place : PySem.W.codeIn K cd__law_place "_law_place" = true)
    (k__law_place : PySem.W.keepIn K (.ref f__law_place) = true)
    (a__law_task : PySem.W.nsIn K mainGlobals "_law_task" = some (some (.ref f__law_task)))
    (l__law_task : K.lookup f__law_task = some ⟨oc__law_task, od__law_task, .func (PySem.W.fnOf "_law_task" "_law_task" (defArgs s__law_task) (defBody s__law_task) (defScope s__law_task) .none kV__law_task dc__law_task pm__law_task an__law_task cd__law_task ct__law_task), sl__law_task⟩)
    (c__law_task : PySem.W.codeIn K cd__law_task "_law_task" = true)
    (k__law_task : PySem.W.keepIn K (.ref f__law_task) = true)
    (a__law_made : PySem.W.nsIn K mainGlobals "_law_made" = some (some (.ref f__law_made)))
    (l__law_made : K.lookup f__law_made = some ⟨oc__law_made, od__law_made, .func (PySem.W.fnOf "_law_made" "_law_made" (defArgs s__law_made) (defBody s__law_made) (defScope s__law_made) .none kV__law_made dc__law_made pm__law_made an__law_made cd__law_made ct__law_made), sl__law_made⟩)
    (c__law_made : PySem.W.codeIn K cd__law_made "_law_made" = true)
    (k__law_made : PySem.W.keepIn K (.ref f__law_made) = true)
    (a_ends_of_stretch : PySem.W.nsIn K mainGlobals "ends_of_stretch" = some (some (.ref f_ends_of_stretch)))
    (l_ends_of_stretch : K.lookup f_ends_of_stretch = some ⟨oc_ends_of_stretch, od_ends_of_stretch, .func (PySem.W.fnOf "ends_of_stretch" "ends_of_stretch" (defArgs s_ends_of_stretch) (defBody s_ends_of_stretch) (defScope s_ends_of_stretch) .none kV_ends_of_stretch dc_ends_of_stretch pm_ends_of_stretch an_ends_of_stretch cd_ends_of_stretch ct_ends_of_stretch), sl_ends_of_stretch⟩)
    (c_ends_of_stretch : PySem.W.codeIn K cd_ends_of_stretch "ends_of_stretch" = true)
    (k_ends_of_stretch : PySem.W.keepIn K (.ref f_ends_of_stretch) = true)
    (a_marks_inside : PySem.W.nsIn K mainGlobals "marks_inside" = some (some (.ref f_marks_inside)))
    (l_marks_inside : K.lookup f_marks_inside = some ⟨oc_marks_inside, od_marks_inside, .func (PySem.W.fnOf "marks_inside" "marks_inside" (defArgs s_marks_inside) (defBody s_marks_inside) (defScope s_marks_inside) .none kV_marks_inside dc_marks_inside pm_marks_inside an_marks_inside cd_marks_inside ct_marks_inside), sl_marks_inside⟩)
    (c_marks_inside : PySem.W.codeIn K cd_marks_inside "marks_inside" = true)
    (k_marks_inside : PySem.W.keepIn K (.ref f_marks_inside) = true)
    (z_zip : PySem.W.nsIn K mainGlobals "zip" = some none)
    (a__pieces_between : PySem.W.nsIn K mainGlobals "_pieces_between" = some (some (.ref f__pieces_between)))
    (l__pieces_between : K.lookup f__pieces_between = some ⟨oc__pieces_between, od__pieces_between, .func (PySem.W.fnOf "_pieces_between" "_pieces_between" (defArgs s__pieces_between) (defBody s__pieces_between) (defScope s__pieces_between) .none kV__pieces_between dc__pieces_between pm__pieces_between an__pieces_between cd__pieces_between ct__pieces_between), sl__pieces_between⟩)
    (c__pieces_between : PySem.W.codeIn K cd__pieces_between "_pieces_between" = true)
    (k__pieces_between : PySem.W.keepIn K (.ref f__pieces_between) = true)
    (z_any : PySem.W.nsIn K mainGlobals "any" = some none)
    (a_is_free : PySem.W.nsIn K mainGlobals "is_free" = some (some (.ref f_is_free)))
    (l_is_free : K.lookup f_is_free = some ⟨oc_is_free, od_is_free, .func (PySem.W.fnOf "is_free" "is_free" (defArgs s_is_free) (defBody s_is_free) (defScope s_is_free) .none kV_is_free dc_is_free pm_is_free an_is_free (.ref c8_is_free) ct_is_free), sl_is_free⟩)
    (c_is_free : PySem.W.codeIn K (.ref c8_is_free) "is_free" = true)
    (k_is_free : PySem.W.keepIn K (.ref f_is_free) = true)
    (a__law_inside : PySem.W.nsIn K mainGlobals "_law_inside" = some (some (.ref f__law_inside)))
    (l__law_inside : K.lookup f__law_inside = some ⟨oc__law_inside, od__law_inside, .func (PySem.W.fnOf "_law_inside" "_law_inside" (defArgs s__law_inside) (defBody s__law_inside) (defScope s__law_inside) .none kV__law_inside dc__law_inside pm__law_inside an__law_inside cd__law_inside ct__law_inside), sl__law_inside⟩)
    (c__law_inside : PySem.W.codeIn K cd__law_inside "_law_inside" = true)
    (k__law_inside : PySem.W.keepIn K (.ref f__law_inside) = true)
    (a__law_pieces : PySem.W.nsIn K mainGlobals "_law_pieces" = some (some (.ref f__law_pieces)))
    (l__law_pieces : K.lookup f__law_pieces = some ⟨oc__law_pieces, od__law_pieces, .func (PySem.W.fnOf "_law_pieces" "_law_pieces" (defArgs s__law_pieces) (defBody s__law_pieces) (defScope s__law_pieces) .none kV__law_pieces dc__law_pieces pm__law_pieces an__law_pieces cd__law_pieces ct__law_pieces), sl__law_pieces⟩)
    (c__law_pieces : PySem.W.codeIn K cd__law_pieces "_law_pieces" = true)
    (k__law_pieces : PySem.W.keepIn K (.ref f__law_pieces) = true)
    (a__law_free : PySem.W.nsIn K mainGlobals "_law_free" = some (some (.ref f__law_free)))
    (l__law_free : K.lookup f__law_free = some ⟨oc__law_free, od__law_free, .func (PySem.W.fnOf "_law_free" "_law_free" (defArgs s__law_free) (defBody s__law_free) (defScope s__law_free) .none kV__law_free dc__law_free pm__law_free an__law_free cd__law_free ct__law_free), sl__law_free⟩)
    (c__law_free : PySem.W.codeIn K cd__law_free "_law_free" = true)
    (k__law_free : PySem.W.keepIn K (.ref f__law_free) = true)
    (a__law_options : PySem.W.nsIn K mainGlobals "_law_options" = some (some (.ref f__law_options)))
    (l__law_options : K.lookup f__law_options = some ⟨oc__law_options, od__law_options, .func (PySem.W.fnOf "_law_options" "_law_options" (defArgs s__law_options) (defBody s__law_options) (defScope s__law_options) .none kV__law_options dc__law_options pm__law_options an__law_options cd__law_options ct__law_options), sl__law_options⟩)
    (c__law_options : PySem.W.codeIn K cd__law_options "_law_options" = true)
    (k__law_options : PySem.W.keepIn K (.ref f__law_options) = true)
    (a__law_best : PySem.W.nsIn K mainGlobals "_law_best" = some (some (.ref f__law_best)))
    (l__law_best : K.lookup f__law_best = some ⟨oc__law_best, od__law_best, .func (PySem.W.fnOf "_law_best" "_law_best" (defArgs s__law_best) (defBody s__law_best) (defScope s__law_best) .none kV__law_best dc__law_best pm__law_best an__law_best cd__law_best ct__law_best), sl__law_best⟩)
    (c__law_best : PySem.W.codeIn K cd__law_best "_law_best" = true)
    (k__law_best : PySem.W.keepIn K (.ref f__law_best) = true)
    (a__law_even : PySem.W.nsIn K mainGlobals "_law_even" = some (some (.ref f__law_even)))
    (l__law_even : K.lookup f__law_even = some ⟨oc__law_even, od__law_even, .func (PySem.W.fnOf "_law_even" "_law_even" (defArgs s__law_even) (defBody s__law_even) (defScope s__law_even) .none kV__law_even dc__law_even pm__law_even an__law_even cd__law_even ct__law_even), sl__law_even⟩)
    (c__law_even : PySem.W.codeIn K cd__law_even "_law_even" = true)
    (k__law_even : PySem.W.keepIn K (.ref f__law_even) = true)
    (a__law_hangs : PySem.W.nsIn K mainGlobals "_law_hangs" = some (some (.ref f__law_hangs)))
    (l__law_hangs : K.lookup f__law_hangs = some ⟨oc__law_hangs, od__law_hangs, .func (PySem.W.fnOf "_law_hangs" "_law_hangs" (defArgs s__law_hangs) (defBody s__law_hangs) (defScope s__law_hangs) .none kV__law_hangs dc__law_hangs pm__law_hangs an__law_hangs cd__law_hangs ct__law_hangs), sl__law_hangs⟩)
    (c__law_hangs : PySem.W.codeIn K cd__law_hangs "_law_hangs" = true)
    (k__law_hangs : PySem.W.keepIn K (.ref f__law_hangs) = true)
    (a__law_bounded : PySem.W.nsIn K mainGlobals "_law_bounded" = some (some (.ref f__law_bounded)))
    (l__law_bounded : K.lookup f__law_bounded = some ⟨oc__law_bounded, od__law_bounded, .func (PySem.W.fnOf "_law_bounded" "_law_bounded" (defArgs s__law_bounded) (defBody s__law_bounded) (defScope s__law_bounded) .none kV__law_bounded dc__law_bounded pm__law_bounded an__law_bounded cd__law_bounded ct__law_bounded), sl__law_bounded⟩)
    (c__law_bounded : PySem.W.codeIn K cd__law_bounded "_law_bounded" = true)
    (k__law_bounded : PySem.W.keepIn K (.ref f__law_bounded) = true)
    (a__option_without : PySem.W.nsIn K mainGlobals "_option_without" = some (some (.ref f__option_without)))
    (l__option_without : K.lookup f__option_without = some ⟨oc__option_without, od__option_without, .func (PySem.W.fnOf "_option_without" "_option_without" (defArgs s__option_without) (defBody s__option_without) (defScope s__option_without) .none kV__option_without dc__option_without pm__option_without an__option_without cd__option_without ct__option_without), sl__option_without⟩)
    (c__option_without : PySem.W.codeIn K cd__option_without "_option_without" = true)
    (k__option_without : PySem.W.keepIn K (.ref f__option_without) = true)
    (a_options_between : PySem.W.nsIn K mainGlobals "options_between" = some (some (.ref f_options_between)))
    (l_options_between : K.lookup f_options_between = some ⟨oc_options_between, od_options_between, .func (PySem.W.fnOf "options_between" "options_between" (defArgs s_options_between) (defBody s_options_between) (defScope s_options_between) .none kV_options_between dc_options_between pm_options_between an_options_between cd_options_between ct_options_between), sl_options_between⟩)
    (c_options_between : PySem.W.codeIn K cd_options_between "options_between" = true)
    (k_options_between : PySem.W.keepIn K (.ref f_options_between) = true)
    (a_best_between : PySem.W.nsIn K mainGlobals "best_between" = some (some (.ref f_best_between)))
    (l_best_between : K.lookup f_best_between = some ⟨oc_best_between, od_best_between, .func (PySem.W.fnOf "best_between" "best_between" (defArgs s_best_between) (defBody s_best_between) (defScope s_best_between) .none kV_best_between dc_best_between pm_best_between an_best_between cd_best_between ct_best_between), sl_best_between⟩)
    (c_best_between : PySem.W.codeIn K cd_best_between "best_between" = true)
    (k_best_between : PySem.W.keepIn K (.ref f_best_between) = true)
    (a_options_of : PySem.W.nsIn K mainGlobals "options_of" = some (some (.ref f_options_of)))
    (l_options_of : K.lookup f_options_of = some ⟨oc_options_of, od_options_of, .func (PySem.W.fnOf "options_of" "options_of" (defArgs s_options_of) (defBody s_options_of) (defScope s_options_of) .none kV_options_of dc_options_of pm_options_of an_options_of cd_options_of ct_options_of), sl_options_of⟩)
    (c_options_of : PySem.W.codeIn K cd_options_of "options_of" = true)
    (k_options_of : PySem.W.keepIn K (.ref f_options_of) = true)
    (a_best_options : PySem.W.nsIn K mainGlobals "best_options" = some (some (.ref f_best_options)))
    (l_best_options : K.lookup f_best_options = some ⟨oc_best_options, od_best_options, .func (PySem.W.fnOf "best_options" "best_options" (defArgs s_best_options) (defBody s_best_options) (defScope s_best_options) .none kV_best_options dc_best_options pm_best_options an_best_options cd_best_options ct_best_options), sl_best_options⟩)
    (c_best_options : PySem.W.codeIn K cd_best_options "best_options" = true)
    (k_best_options : PySem.W.keepIn K (.ref f_best_options) = true)
    (z_repr : PySem.W.nsIn K mainGlobals "repr" = some none)
    (a_law : PySem.W.nsIn K mainGlobals "law" = some (some (.ref f_law)))
    (l_law : K.lookup f_law = some ⟨oc_law, od_law, .func (PySem.W.fnOf "law" "law" (defArgs s_law) (defBody s_law) (defScope s_law) .none kV_law dc_law pm_law an_law cd_law ct_law), sl_law⟩)
    (c_law : PySem.W.codeIn K cd_law "law" = true)
    (k_law : PySem.W.keepIn K (.ref f_law) = true)
    : ∃ fd : FuncData, (∀ (s : Shared) (v : Value), BindsTo s fd ⟨[v], []⟩ [("script", v)]) ∧
      ∀ base : Heap, K.In base → base.Ns mainGlobals mg → TabB base mg c8_House___init__ TI → TabB base mg c8__are_long TL → TabB base mg c8_is_free TF → AskOk l.prog w (K) mg base fa fd "script" (spLawT (K) [TL, TI, TF]) := by
  have e := hfa.symm.trans (PySem.W.mg_of X G a_law)
  cases e
  have g_LONGEST : ∃ t : Tok, mg "LONGEST" = some (.int 40 t) := ⟨tk_LONGEST, PySem.W.mg_of X G c_LONGEST⟩
  have g_MOST_STRETCHES : ∃ t : Tok, mg "MOST_STRETCHES" = some (.int 2 t) := ⟨tk_MOST_STRETCHES, PySem.W.mg_of X G c_MOST_STRETCHES⟩
  have g_MOST_GAPS : ∃ t : Tok, mg "MOST_GAPS" = some (.int 11 t) := ⟨tk_MOST_GAPS, PySem.W.mg_of X G c_MOST_GAPS⟩
  have g_MOST_CLOSED : ∃ t : Tok, mg "MOST_CLOSED" = some (.int 200 t) := ⟨tk_MOST_CLOSED, PySem.W.mg_of X G c_MOST_CLOSED⟩
  have z_abs := PySem.W.mg_none_of X G z_abs
  have z_all := PySem.W.mg_none_of X G z_all
  have z_int := PySem.W.mg_none_of X G z_int
  have z_len := PySem.W.mg_none_of X G z_len
  have z_list := PySem.W.mg_none_of X G z_list
  have z_max := PySem.W.mg_none_of X G z_max
  have z_range := PySem.W.mg_none_of X G z_range
  have z_sorted := PySem.W.mg_none_of X G z_sorted
  have z_sum := PySem.W.mg_none_of X G z_sum
  have g_MOST_PICKS : ∃ t : Tok, mg "MOST_PICKS" = some (.int 60 t) := ⟨tk_MOST_PICKS, PySem.W.mg_of X G c_MOST_PICKS⟩
  have z_set := PySem.W.mg_none_of X G z_set
  have z_zip := PySem.W.mg_none_of X G z_zip
  have z_any := PySem.W.mg_none_of X G z_any
  have z_repr := PySem.W.mg_none_of X G z_repr
  have F_law := fun_mk (st := s_law) l_law c_law k_law
  refine ⟨PySem.W.fnOf "law" "law" (defArgs s_law) (defBody s_law) (defScope s_law) .none kV_law dc_law pm_law an_law cd_law ct_law, fun s v => .of_eq rfl, fun base _ _ TBTI TBTL TBTF => ?_⟩
  have UCI : ErrTxt K mg CI "InvalidHouse" := { gI := PySem.W.mg_of X G a_CI, kI := kpCI, xI := exCI, bI := sbCI, tI := tyCI }
  have F_House___init__ : FunC K "__init__" "House.__init__" s_House___init__ f_House___init__ c8_House___init__ _ := ⟨⟨_, _, _, _, _, _, _, _, rfl, l_House___init__, c_House___init__⟩, k_House___init__⟩
  have b_House___init__ : Binds K _ ["self", "lengths", "gaps", "closed"] [] := (fun_mk (st := s_House___init__) l_House___init__ c_House___init__ k_House___init__).binds (ps := ["self", "lengths", "gaps", "closed"]) fun _ _ _ _ _ _ us hl => match us, hl with | [_, _, _, _], _ => rfl
  have M_House___init__ : Meth K C "__init__" f_House___init__ := ⟨a_House___init__, i_House___init__, k_House___init__⟩
  have F__are_long : FunC K "_are_long" "_are_long" s__are_long f__are_long c8__are_long _ := ⟨⟨_, _, _, _, _, _, _, _, rfl, l__are_long, c__are_long⟩, k__are_long⟩
  have b__are_long : Binds K _ ["numbers"] [] := (fun_mk (st := s__are_long) l__are_long c__are_long k__are_long).binds (ps := ["numbers"]) fun _ _ _ _ _ _ us hl => match us, hl with | [_], _ => rfl
  have F__cross_heights := fun_mk (st := s__cross_heights) l__cross_heights c__cross_heights k__cross_heights
  have b__cross_heights := F__cross_heights.binds (ps := ["lengths"]) fun _ _ _ _ _ _ us hl => match us, hl with | [_], _ => rfl
  have F_House_is_link := fun_mk (st := s_House_is_link) l_House_is_link c_House_is_link k_House_is_link
  have b_House_is_link := F_House_is_link.binds (ps := ["self", "link"]) fun _ _ _ _ _ _ us hl => match us, hl with | [_, _], _ => rfl
  have M_House_is_link : Meth K C "is_link" f_House_is_link := ⟨a_House_is_link, i_House_is_link, k_House_is_link⟩
  have Y : HouseTop mg := { all := z_all, len := z_len, sum := z_sum, list := z_list, sorted := z_sorted, range := z_range, longest := g_LONGEST, stretches := g_MOST_STRETCHES, mostGaps := g_MOST_GAPS, mostClosed := g_MOST_CLOSED }
  have T : HouseTxt K mg C := { cl := ⟨pg_C, hd_C, po_C, sa_C⟩, nL := nplengths, nG := npgaps, nX := npcrosses, nT := nptop, nC := npclosed }
  let MH : MakeH l.prog w K mg base := { C := C, CI := CI, TL := TL, TI := TI, fI := f_House___init__, fdI := _, M := ⟨mk_C, a_House___init__, i_House___init__, kc_C⟩, GI := ok_house F_House___init__ TBTI Y T UCI F_House_is_link b_House_is_link M_House_is_link F__are_long TBTL b__are_long (PySem.W.mg_of X G a__are_long) F__cross_heights b__cross_heights (PySem.W.mg_of X G a__cross_heights), bI := b_House___init__, mgC := PySem.W.mg_of X G a_C }
  have F_House_lengths := fun_mk (st := s_House_lengths) l_House_lengths c_House_lengths k_House_lengths
  have b_House_lengths := F_House_lengths.binds (ps := ["self"]) fun _ _ _ _ _ _ us hl => match us, hl with | [_], _ => rfl
  have hp_House_lengths : PropOf K C "lengths" p_House_lengths f_House_lengths := ⟨pa_House_lengths, pg_House_lengths, pt_House_lengths, r_House_lengths, pr_House_lengths⟩
  have p_lengths : PropD l.prog w K mg base C 1 "lengths" (spNums C fun ls _ => ls) := ⟨f_House_lengths, p_House_lengths, _, hp_House_lengths, ok_lengths F_House_lengths Y T, b_House_lengths⟩
  have F_House_crosses := fun_mk (st := s_House_crosses) l_House_crosses c_House_crosses k_House_crosses
  have b_House_crosses := F_House_crosses.binds (ps := ["self"]) fun _ _ _ _ _ _ us hl => match us, hl with | [_], _ => rfl
  have M_House_crosses : Meth K C "crosses" f_House_crosses := ⟨a_House_crosses, i_House_crosses, k_House_crosses⟩
  have m_crosses : MethD l.prog w K mg base C 1 "crosses" ["self"] (spNums C fun ls _ => crossN ls) := ⟨f_House_crosses, _, M_House_crosses, ok_crosses (P := l.prog) (w := w) (mg := mg) (base := base) F_House_crosses Y T, b_House_crosses⟩
  have F_House_is_place := fun_mk (st := s_House_is_place) l_House_is_place c_House_is_place k_House_is_place
  have b_House_is_place := F_House_is_place.binds (ps := ["self", "place"]) fun _ _ _ _ _ _ us hl => match us, hl with | [_, _], _ => rfl
  have M_House_is_place : Meth K C "is_place" f_House_is_place := ⟨a_House_is_place, i_House_is_place, k_House_is_place⟩
  have m_is_place : MethD l.prog w K mg base C 1 "is_place" ["self", "place"] (spPl C isPl) := ⟨f_House_is_place, _, M_House_is_place, ok_is_place (P := l.prog) (w := w) (mg := mg) (base := base) F_House_is_place Y T, b_House_is_place⟩
  have F_House_is_cross := fun_mk (st := s_House_is_cross) l_House_is_cross c_House_is_cross k_House_is_cross
  have b_House_is_cross := F_House_is_cross.binds (ps := ["self", "place"]) fun _ _ _ _ _ _ us hl => match us, hl with | [_, _], _ => rfl
  have M_House_is_cross : Meth K C "is_cross" f_House_is_cross := ⟨a_House_is_cross, i_House_is_cross, k_House_is_cross⟩
  have m_is_cross : MethD l.prog w K mg base C 2 "is_cross" ["self", "place"] (spPl C isCr) := ⟨f_House_is_cross, _, M_House_is_cross, ok_is_cross (P := l.prog) (w := w) (mg := mg) (base := base) F_House_is_cross T m_is_place.G m_is_place.b m_is_place.m, b_House_is_cross⟩
  have F_House_is_closed := fun_mk (st := s_House_is_closed) l_House_is_closed c_House_is_closed k_House_is_closed
  have b_House_is_closed := F_House_is_closed.binds (ps := ["self", "link"]) fun _ _ _ _ _ _ us hl => match us, hl with | [_, _], _ => rfl
  have M_House_is_closed : Meth K C "is_closed" f_House_is_closed := ⟨a_House_is_closed, i_House_is_closed, k_House_is_closed⟩
  have m_is_closed : MethD l.prog w K mg base C 1 "is_closed" ["self", "link"] (spClosedQ C) := ⟨f_House_is_closed, _, M_House_is_closed, ok_is_closed (P := l.prog) (w := w) (mg := mg) (base := base) F_House_is_closed T, b_House_is_closed⟩
  have UCIT : ErrTxt K mg CIT "InvalidTask" := { gI := PySem.W.mg_of X G a_CIT, kI := kpCIT, xI := exCIT, bI := sbCIT, tI := tyCIT }
  have F_Task___init__ := fun_mk (st := s_Task___init__) l_Task___init__ c_Task___init__ k_Task___init__
  have b_Task___init__ := F_Task___init__.binds (ps := ["self", "start", "end", "picks"]) fun _ _ _ _ _ _ us hl => match us, hl with | [_, _, _, _], _ => rfl
  have M_Task___init__ : Meth K CT "__init__" f_Task___init__ := ⟨a_Task___init__, i_Task___init__, k_Task___init__⟩
  have TT : TaskTxt K mg CT CIT := { cl := ⟨pg_CT, hd_CT, po_CT, sa_CT⟩, nS := tstart, nE := tend, nP := tppicks, mgC := PySem.W.mg_of X G a_CT, len := z_len, set := z_set, sorted := z_sorted, list := z_list, most := g_MOST_PICKS, gI := PySem.W.mg_of X G a_CIT, kI := kpCIT, xI := exCIT, bI := sbCIT, tI := tyCIT }
  have MT : Mk K CT f_Task___init__ := ⟨mk_CT, a_Task___init__, i_Task___init__, kc_CT⟩
  have gTk := ok_task (P := l.prog) (w := w) (mg := mg) (base := base) F_Task___init__ TT
  have F_Task_picks := fun_mk (st := s_Task_picks) l_Task_picks c_Task_picks k_Task_picks
  have b_Task_picks := F_Task_picks.binds (ps := ["self"]) fun _ _ _ _ _ _ us hl => match us, hl with | [_], _ => rfl
  have hp_Task_picks : PropOf K CT "picks" p_Task_picks f_Task_picks := ⟨pa_Task_picks, pg_Task_picks, pt_Task_picks, r_Task_picks, pr_Task_picks⟩
  have p_picks : PropD l.prog w K mg base CT 1 "picks" (spPicks CT) := ⟨f_Task_picks, p_Task_picks, _, hp_Task_picks, ok_picks (P := l.prog) (w := w) (mg := mg) (base := base) F_Task_picks TT, b_Task_picks⟩
  have F_iCP := fun_mk (st := s_InvalidPlace___init__) l_iCP c_iCP k_iCP
  have b_iCP := F_iCP.binds (ps := ["self", "place"]) fun _ _ _ _ _ _ us hl => match us, hl with | [_, _], _ => rfl
  have o_CP : OexC K CP := ⟨⟨nm0, qn0, N0, bs0, _, sn0, sb0, ab0, co0, dd0, ma0, mb0, mc0, md0, me0, xlCP, rfl⟩, saCP, sbCP, tyCP, kpCP⟩
  have UCP : PlcTxt K mg CP f_iCP := { g := PySem.W.mg_of X G a_CP, o := o_CP, n := noCP, i := a_iCP, y := tiCP }
  have F_check_task := fun_mk (st := s_check_task) l_check_task c_check_task k_check_task
  have b_check_task := F_check_task.binds (ps := ["house", "task"]) fun _ _ _ _ _ _ us hl => match us, hl with | [_, _], _ => rfl
  have t_check_task : TopN l.prog w K mg base (L2.CX l.prog w) 4 "check_task" ["house", "task"] (spCheck CT C CP) := ⟨f_check_task, _, ok_check (P := l.prog) (w := w) (mg := mg) (base := base) F_check_task T TT UCP (ok_plcinit F_iCP) b_iCP m_is_place.G m_is_place.b m_is_place.m m_is_cross.G m_is_cross.b m_is_cross.m p_picks.G p_picks.b p_picks.h, b_check_task, PySem.W.mg_of X G a_check_task, k_check_task⟩
  have F__law_row := fun_mk (st := s__law_row) l__law_row c__law_row k__law_row
  have b__law_row := F__law_row.binds (ps := ["cell", "many"]) fun _ _ _ _ _ _ us hl => match us, hl with | [_, _], _ => rfl
  have F__law_numbers := fun_mk (st := s__law_numbers) l__law_numbers c__law_numbers k__law_numbers
  have b__law_numbers := F__law_numbers.binds (ps := ["script", "many"]) fun _ _ _ _ _ _ us hl => match us, hl with | [_, _], _ => rfl
  have D : DrawTxt mg f__law_row := ⟨z_abs, z_int, z_range, z_len, z_max, PySem.W.mg_of X G a__law_row⟩
  have t__law_numbers : TopD l.prog w K mg base 2 "_law_numbers" ["script", "many"] (spNumbers K) := ⟨f__law_numbers, _, ok_numbers F__law_numbers D F__law_row b__law_row, b__law_numbers, PySem.W.mg_of X G a__law_numbers, k__law_numbers⟩
  have F__law_crosses := fun_mk (st := s__law_crosses) l__law_crosses c__law_crosses k__law_crosses
  have b__law_crosses := F__law_crosses.binds (ps := ["lengths"]) fun _ _ _ _ _ _ us hl => match us, hl with | [_], _ => rfl
  have h_cr : TopD l.prog w K mg base 2 "_law_crosses" ["lengths"] (spCross K) := ⟨f__law_crosses, _, ok_lcr (P := l.prog) (w := w) (mg := mg) (base := base) F__law_crosses, b__law_crosses, PySem.W.mg_of X G a__law_crosses, k__law_crosses⟩
  have F__law_link := fun_mk (st := s__law_link) l__law_link c__law_link k__law_link
  have b__law_link := F__law_link.binds (ps := ["lengths", "gaps", "first", "second"]) fun _ _ _ _ _ _ us hl => match us, hl with | [_, _, _, _], _ => rfl
  have h_lk : TopD l.prog w K mg base 3 "_law_link" ["lengths", "gaps", "first", "second"] (spLk) := ⟨f__law_link, _, ok_lwlink (P := l.prog) (w := w) (mg := mg) (base := base) F__law_link z_int z_len z_sum h_cr, b__law_link, PySem.W.mg_of X G a__law_link, k__law_link⟩
  have F__law_house := fun_mk (st := s__law_house) l__law_house c__law_house k__law_house
  have b__law_house := F__law_house.binds (ps := ["numbers", "at", "many", "most"]) fun _ _ _ _ _ _ us hl => match us, hl with | [_, _, _, _], _ => rfl
  have t__law_house : TopD l.prog w K mg base 4 "_law_house" ["numbers", "at", "many", "most"] (spHs K) := ⟨f__law_house, _, ok_lwhouse (P := l.prog) (w := w) (mg := mg) (base := base) F__law_house z_int z_range h_lk, b__law_house, PySem.W.mg_of X G a__law_house, k__law_house⟩
  have F__law_cross := fun_mk (st := s__law_cross) l__law_cross c__law_cross k__law_cross
  have b__law_cross := F__law_cross.binds (ps := ["house", "number"]) fun _ _ _ _ _ _ us hl => match us, hl with | [_, _], _ => rfl
  have h_lc : TopD l.prog w K mg base 3 "_law_cross" ["house", "number"] (spDraw isCr) := ⟨f__law_cross, _, ok_lc (P := l.prog) (w := w) (mg := mg) (base := base) F__law_cross z_int z_len h_cr, b__law_cross, PySem.W.mg_of X G a__law_cross, k__law_cross⟩
  have F__law_place := fun_mk (st := s__law_place) l__law_place c__law_place k__law_place
  have b__law_place := F__law_place.binds (ps := ["house", "number"]) fun _ _ _ _ _ _ us hl => match us, hl with | [_, _], _ => rfl
  have h_lp : TopD l.prog w K mg base 1 "_law_place" ["house", "number"] (spDraw isPl) := ⟨f__law_place, _, ok_lp (P := l.prog) (w := w) (mg := mg) (base := base) F__law_place z_int z_len z_sum, b__law_place, PySem.W.mg_of X G a__law_place, k__law_place⟩
  have F__law_task := fun_mk (st := s__law_task) l__law_task c__law_task k__law_task
  have b__law_task := F__law_task.binds (ps := ["numbers", "at", "house", "many"]) fun _ _ _ _ _ _ us hl => match us, hl with | [_, _, _, _], _ => rfl
  have t__law_task : TopD l.prog w K mg base 4 "_law_task" ["numbers", "at", "house", "many"] (spTk K) := ⟨f__law_task, _, ok_tk (P := l.prog) (w := w) (mg := mg) (base := base) F__law_task z_int z_range h_lc h_lp, b__law_task, PySem.W.mg_of X G a__law_task, k__law_task⟩
  have F__law_made := fun_mk (st := s__law_made) l__law_made c__law_made k__law_made
  have b__law_made := F__law_made.binds (ps := ["house", "task"]) fun _ _ _ _ _ _ us hl => match us, hl with | [_, _], _ => rfl
  have t__law_made : TopD l.prog w K mg base 7 "_law_made" ["house", "task"] (spMd C CT TL TI) := ⟨f__law_made, _, ok_md (P := l.prog) (w := w) (mg := mg) (base := base) F__law_made MH MT gTk b_Task___init__ (PySem.W.mg_of X G a_CT), b__law_made, PySem.W.mg_of X G a__law_made, k__law_made⟩
  have F_ends_of_stretch := fun_mk (st := s_ends_of_stretch) l_ends_of_stretch c_ends_of_stretch k_ends_of_stretch
  have b_ends_of_stretch := F_ends_of_stretch.binds (ps := ["house", "stretch"]) fun _ _ _ _ _ _ us hl => match us, hl with | [_, _], _ => rfl
  have t_ends_of_stretch : TopD l.prog w K mg base 3 "ends_of_stretch" ["house", "stretch"] (Sps (Rs_ends_of_stretch C) (P_ends_of_stretch C) (R_ends_of_stretch C)) := ⟨f_ends_of_stretch, _, ok_ends_of_stretch C (P := l.prog) (w := w) (mg := mg) (base := base) F_ends_of_stretch T m_crosses, b_ends_of_stretch, PySem.W.mg_of X G a_ends_of_stretch, k_ends_of_stretch⟩
  have F_marks_inside := fun_mk (st := s_marks_inside) l_marks_inside c_marks_inside k_marks_inside
  have b_marks_inside := F_marks_inside.binds (ps := ["house", "task", "aisle", "stretch"]) fun _ _ _ _ _ _ us hl => match us, hl with | [_, _, _, _], _ => rfl
  have t_marks_inside : TopD l.prog w K mg base 5 "marks_inside" ["house", "task", "aisle", "stretch"] (SpN (Rs_marks_inside C CT CP CIT) (P_marks_inside C CT CP CIT) (R_marks_inside C CT CP CIT)) := ⟨f_marks_inside, _, ok_marks_inside C CT CP CIT (P := l.prog) (w := w) (mg := mg) (base := base) F_marks_inside t_check_task t_ends_of_stretch TT p_picks, b_marks_inside, PySem.W.mg_of X G a_marks_inside, k_marks_inside⟩
  have F__pieces_between := fun_mk (st := s__pieces_between) l__pieces_between c__pieces_between k__pieces_between
  have b__pieces_between := F__pieces_between.binds (ps := ["house", "stretch", "inside"]) fun _ _ _ _ _ _ us hl => match us, hl with | [_, _, _], _ => rfl
  have t__pieces_between : TopD l.prog w K mg base 4 "_pieces_between" ["house", "stretch", "inside"] (SpN (Rs__pieces_between C) (P__pieces_between C) (R__pieces_between C)) := ⟨f__pieces_between, _, ok__pieces_between C (P := l.prog) (w := w) (mg := mg) (base := base) F__pieces_between t_ends_of_stretch z_list z_zip, b__pieces_between, PySem.W.mg_of X G a__pieces_between, k__pieces_between⟩
  have F_is_free : FunC K "is_free" "is_free" s_is_free f_is_free c8_is_free _ := ⟨⟨_, _, _, _, _, _, _, _, rfl, l_is_free, c_is_free⟩, k_is_free⟩
  have b_is_free : Binds K _ ["house", "aisle", "piece"] [] := (fun_mk (st := s_is_free) l_is_free c_is_free k_is_free).binds (ps := ["house", "aisle", "piece"]) fun _ _ _ _ _ _ us hl => match us, hl with | [_, _, _], _ => rfl
  have t_is_free : TopD l.prog w K mg base 5 "is_free" ["house", "aisle", "piece"] (Sps (Rs_is_free C TF) (P_is_free C TF) (R_is_free C TF)) := ⟨f_is_free, _, ok_is_free C TF (P := l.prog) (w := w) (mg := mg) (base := base) F_is_free TBTF z_any z_range T m_is_closed, b_is_free, PySem.W.mg_of X G a_is_free, k_is_free⟩
  have t__law_crosses : TopD l.prog w K mg base 2 "_law_crosses" ["lengths"] (SpN (Rs__law_crosses ) (P__law_crosses ) (R__law_crosses )) := ⟨f__law_crosses, _, ok__law_crosses (P := l.prog) (w := w) (mg := mg) (base := base) F__law_crosses, b__law_crosses, PySem.W.mg_of X G a__law_crosses, k__law_crosses⟩
  have F__law_inside := fun_mk (st := s__law_inside) l__law_inside c__law_inside k__law_inside
  have b__law_inside := F__law_inside.binds (ps := ["house", "task", "aisle", "stretch"]) fun _ _ _ _ _ _ us hl => match us, hl with | [_, _, _, _], _ => rfl
  have t__law_inside : TopD l.prog w K mg base 3 "_law_inside" ["house", "task", "aisle", "stretch"] (SpN (Rs__law_inside ) (P__law_inside ) (R__law_inside )) := ⟨f__law_inside, _, ok__law_inside (P := l.prog) (w := w) (mg := mg) (base := base) F__law_inside t__law_crosses z_range, b__law_inside, PySem.W.mg_of X G a__law_inside, k__law_inside⟩
  have F__law_pieces := fun_mk (st := s__law_pieces) l__law_pieces c__law_pieces k__law_pieces
  have b__law_pieces := F__law_pieces.binds (ps := ["house", "task", "aisle", "stretch"]) fun _ _ _ _ _ _ us hl => match us, hl with | [_, _, _, _], _ => rfl
  have t__law_pieces : TopD l.prog w K mg base 4 "_law_pieces" ["house", "task", "aisle", "stretch"] (SpN (Rs__law_pieces ) (P__law_pieces ) (R__law_pieces )) := ⟨f__law_pieces, _, ok__law_pieces (P := l.prog) (w := w) (mg := mg) (base := base) F__law_pieces t__law_crosses t__law_inside z_range z_len, b__law_pieces, PySem.W.mg_of X G a__law_pieces, k__law_pieces⟩
  have F__law_free := fun_mk (st := s__law_free) l__law_free c__law_free k__law_free
  have b__law_free := F__law_free.binds (ps := ["house", "aisle", "piece"]) fun _ _ _ _ _ _ us hl => match us, hl with | [_, _, _], _ => rfl
  have t__law_free : TopD l.prog w K mg base 1 "_law_free" ["house", "aisle", "piece"] (Sps (Rs__law_free ) (P__law_free ) (R__law_free )) := ⟨f__law_free, _, ok__law_free (P := l.prog) (w := w) (mg := mg) (base := base) F__law_free z_range z_all, b__law_free, PySem.W.mg_of X G a__law_free, k__law_free⟩
  have F__law_options := fun_mk (st := s__law_options) l__law_options c__law_options k__law_options
  have b__law_options := F__law_options.binds (ps := ["house", "task", "aisle", "stretch"]) fun _ _ _ _ _ _ us hl => match us, hl with | [_, _, _, _], _ => rfl
  have t__law_options : TopD l.prog w K mg base 5 "_law_options" ["house", "task", "aisle", "stretch"] (SpN (Rs__law_options ) (P__law_options ) (R__law_options )) := ⟨f__law_options, _, ok__law_options (P := l.prog) (w := w) (mg := mg) (base := base) F__law_options t__law_pieces z_sum t__law_free z_len z_int, b__law_options, PySem.W.mg_of X G a__law_options, k__law_options⟩
  have F__law_best := fun_mk (st := s__law_best) l__law_best c__law_best k__law_best
  have b__law_best := F__law_best.binds (ps := ["options"]) fun _ _ _ _ _ _ us hl => match us, hl with | [_], _ => rfl
  have t__law_best : TopD l.prog w K mg base 1 "_law_best" ["options"] (SpN (Rs__law_best ) (P__law_best ) (R__law_best )) := ⟨f__law_best, _, ok__law_best (P := l.prog) (w := w) (mg := mg) (base := base) F__law_best z_len, b__law_best, PySem.W.mg_of X G a__law_best, k__law_best⟩
  have F__law_even := fun_mk (st := s__law_even) l__law_even c__law_even k__law_even
  have b__law_even := F__law_even.binds (ps := ["house", "aisle"]) fun _ _ _ _ _ _ us hl => match us, hl with | [_, _], _ => rfl
  have t__law_even : TopD l.prog w K mg base 3 "_law_even" ["house", "aisle"] (Sps (Rs__law_even ) (P__law_even ) (R__law_even )) := ⟨f__law_even, _, ok__law_even (P := l.prog) (w := w) (mg := mg) (base := base) F__law_even t__law_crosses z_range z_int, b__law_even, PySem.W.mg_of X G a__law_even, k__law_even⟩
  have F__law_hangs := fun_mk (st := s__law_hangs) l__law_hangs c__law_hangs k__law_hangs
  have b__law_hangs := F__law_hangs.binds (ps := ["row", "inside", "low"]) fun _ _ _ _ _ _ us hl => match us, hl with | [_, _, _], _ => rfl
  have t__law_hangs : TopD l.prog w K mg base 1 "_law_hangs" ["row", "inside", "low"] (Sps (Rs__law_hangs ) (P__law_hangs ) (R__law_hangs )) := ⟨f__law_hangs, _, ok__law_hangs (P := l.prog) (w := w) (mg := mg) (base := base) F__law_hangs z_len z_range z_any z_all, b__law_hangs, PySem.W.mg_of X G a__law_hangs, k__law_hangs⟩
  have F__law_bounded := fun_mk (st := s__law_bounded) l__law_bounded c__law_bounded k__law_bounded
  have b__law_bounded := F__law_bounded.binds (ps := ["house", "task", "options"]) fun _ _ _ _ _ _ us hl => match us, hl with | [_, _, _], _ => rfl
  have t__law_bounded : TopD l.prog w K mg base 4 "_law_bounded" ["house", "task", "options"] (Sps (Rs__law_bounded ) (P__law_bounded ) (R__law_bounded )) := ⟨f__law_bounded, _, ok__law_bounded (P := l.prog) (w := w) (mg := mg) (base := base) F__law_bounded t__law_inside t__law_even t__law_hangs z_int z_sum, b__law_bounded, PySem.W.mg_of X G a__law_bounded, k__law_bounded⟩
  have F__option_without := fun_mk (st := s__option_without) l__option_without c__option_without k__option_without
  have b__option_without := F__option_without.binds (ps := ["low", "high", "piece"]) fun _ _ _ _ _ _ us hl => match us, hl with | [_, _, _], _ => rfl
  have t__option_without : TopD l.prog w K mg base 1 "_option_without" ["low", "high", "piece"] (spOw) := ⟨f__option_without, _, ok_optwo (P := l.prog) (w := w) (mg := mg) (base := base) F__option_without, b__option_without, PySem.W.mg_of X G a__option_without, k__option_without⟩
  have F_options_between := fun_mk (st := s_options_between) l_options_between c_options_between k_options_between
  have b_options_between := F_options_between.binds (ps := ["house", "aisle", "stretch", "inside"]) fun _ _ _ _ _ _ us hl => match us, hl with | [_, _, _, _], _ => rfl
  have t_options_between : TopD l.prog w K mg base 6 "options_between" ["house", "aisle", "stretch", "inside"] (spOb C TF) := ⟨f_options_between, _, ok_optbetween (P := l.prog) (w := w) (mg := mg) (base := base) F_options_between t__pieces_between.G t__pieces_between.b t__pieces_between.g t__pieces_between.kp t_is_free.G t_is_free.b t_is_free.g t_is_free.kp t_ends_of_stretch.G t_ends_of_stretch.b t_ends_of_stretch.g t_ends_of_stretch.kp t__option_without.G t__option_without.b t__option_without.g t__option_without.kp, b_options_between, PySem.W.mg_of X G a_options_between, k_options_between⟩
  have F_best_between := fun_mk (st := s_best_between) l_best_between c_best_between k_best_between
  have b_best_between := F_best_between.binds (ps := ["house", "aisle", "stretch", "inside"]) fun _ _ _ _ _ _ us hl => match us, hl with | [_, _, _, _], _ => rfl
  have t_best_between : TopD l.prog w K mg base 7 "best_between" ["house", "aisle", "stretch", "inside"] (spBb C TF) := ⟨f_best_between, _, ok_bestbetween (P := l.prog) (w := w) (mg := mg) (base := base) F_best_between t_options_between.G t_options_between.b t_options_between.g t_options_between.kp, b_best_between, PySem.W.mg_of X G a_best_between, k_best_between⟩
  have F_options_of := fun_mk (st := s_options_of) l_options_of c_options_of k_options_of
  have b_options_of := F_options_of.binds (ps := ["house", "task", "aisle", "stretch"]) fun _ _ _ _ _ _ us hl => match us, hl with | [_, _, _, _], _ => rfl
  have t_options_of : TopD l.prog w K mg base 7 "options_of" ["house", "task", "aisle", "stretch"] (spOo C CT CP CIT TF) := ⟨f_options_of, _, ok_options_of (P := l.prog) (w := w) (mg := mg) (base := base) F_options_of t_marks_inside.G t_marks_inside.b t_marks_inside.g t_marks_inside.kp t_options_between.G t_options_between.b t_options_between.g t_options_between.kp, b_options_of, PySem.W.mg_of X G a_options_of, k_options_of⟩
  have F_best_options := fun_mk (st := s_best_options) l_best_options c_best_options k_best_options
  have b_best_options := F_best_options.binds (ps := ["house", "task", "aisle", "stretch"]) fun _ _ _ _ _ _ us hl => match us, hl with | [_, _, _, _], _ => rfl
  have t_best_options : TopD l.prog w K mg base 8 "best_options" ["house", "task", "aisle", "stretch"] (spBo C CT CP CIT TF) := ⟨f_best_options, _, ok_best_options (P := l.prog) (w := w) (mg := mg) (base := base) F_best_options t_marks_inside.G t_marks_inside.b t_marks_inside.g t_marks_inside.kp t_best_between.G t_best_between.b t_best_between.g t_best_between.kp, b_best_options, PySem.W.mg_of X G a_best_options, k_best_options⟩
  exact ok_law C CT CP CIT TL TI TF (P := l.prog) (w := w) (mg := mg) (base := base) F_law t__law_numbers t__law_house t__law_task t__law_made z_range z_len t__law_options t_options_of t_best_options z_repr t__law_best z_int t__law_bounded
theorem tabB0 {base : Heap} {mg : Str → Option Value} {c P : Addr} (h : LamX.TabB base mg c P) : TabB base mg c P := ⟨h.code, h.bm, h.gP⟩
theorem tabG0 {H : Hp} {P : Addr} (h : H P = some (.tbl #[])) : TabG H P := ⟨#[], h, trivial⟩
theorem walk {l : PySem.W.OpenLaw} {q : Program} {loose : List Str} {XP : (Str → Option Value) → Heap → Prop} {YP : World → Heap → Prop} {d : DefRec} {K : Params → PySem.W.Frag} {c0 c1 c2 TI TL TF : Addr}
    (hn : l.most = some 63) (hdf : d.params.defaults = []) (hY : ∀ (w : World) (h : Heap), YP w h → (K w.params).In h) (hT : ∀ (w : World) (h : Heap), YP w h → ∀ P ∈ [TI, TL, TF], h.get? P = some (PySem.W.tabObj #[]))
    (n0 : ∀ w : World, (K w.params).lookup TI = none) (e0 : ∀ w : World, PySem.W.codeHdIn (K w.params) c0 TI = true)
    (n1 : ∀ w : World, (K w.params).lookup TL = none) (e1 : ∀ w : World, PySem.W.codeHdIn (K w.params) c1 TL = true)
    (n2 : ∀ w : World, (K w.params).lookup TF = none) (e2 : ∀ w : World, PySem.W.codeHdIn (K w.params) c2 TF = true)
    (F : ∀ (w : World) (mg : Str → Option Value) (fa : Addr) (h : Heap), (K w.params).In h → h.Ns mainGlobals mg → mg d.name = some (.ref fa) →
      ∃ fd : FuncData, (∀ (s : Shared) (u : Value), BindsTo s fd ⟨[u], []⟩ [("script", u)]) ∧
        ∀ base : Heap, (K w.params).In base → base.Ns mainGlobals mg → TabB base mg c0 TI → TabB base mg c1 TL → TabB base mg c2 TF → AskOk l.prog w (K w.params) mg base fa fd "script" (spLawT (K w.params) [TL, TI, TF])) :
    PySem.W.WalkO q loose XP YP l.row.toRowW d [] (fun f vs => PySem.call f vs) := by
  refine ask_walk (x := "script") hn hdf hY (fun w mg fa h Y KX G hmg => ?_)
  obtain ⟨fd, hb, hF⟩ := F w mg fa h KX G hmg
  refine ⟨fd, [(c0, TI), (c1, TL), (c2, TF)], spLawT (K w.params) [TL, TI, TF], fun p hp => ?_, hb, fun H a ns hl hH hS => ⟨a, ns, rfl, hS, hl, fun T hT => ?_, fun _ => rfl⟩, fun base b1 b2 T => hF base b1 b2 (tabB0 (T (c0, TI) (by simp))) (tabB0 (T (c1, TL) (by simp))) (tabB0 (T (c2, TF) (by simp)))⟩
  all_goals simp only [List.mem_cons, List.mem_nil_iff, or_false] at *
  · rcases hp with rfl | rfl | rfl
    · exact ⟨hT w h Y _ (by simp), n0 w, PySem.W.codeHd_of_K KX (e0 w)⟩
    · exact ⟨hT w h Y _ (by simp), n1 w, PySem.W.codeHd_of_K KX (e1 w)⟩
    · exact ⟨hT w h Y _ (by simp), n2 w, PySem.W.codeHd_of_K KX (e2 w)⟩
  · rcases hT with hT | hT | hT
    · rw [hT]; exact tabG0 (hH (c1, TL) (by simp))
    · rw [hT]; exact tabG0 (hH (c0, TI) (by simp))
    · rw [hT]; exact tabG0 (hH (c2, TF) (by simp))
end
end Pk
open PySem PySem.W PyProof.Rows
local macro_rules | `(tactic| o_head ($_ $k $a $e)) => `(tactic| o_head (kmHook $k $a $e [228, 378, 176]))
set_option maxRecDepth 100000 in
set_option maxHeartbeats 0 in
theorem PySem.Challenge.cw_pickaisle_k25_options_holds : PySem.Challenge.rw_pickaisle_k25_options.Holds := by
  w_on; o_law; k_head; (case hw => w_witness2)
  k_fill
  refine Pk.walk (l := PySem.Challenge.rw_pickaisle_k25_options) (c0 := 230) (c1 := 382) (c2 := 180) (TI := 228) (TL := 378) (TF := 176) rfl rfl (fun w h Y => km_in_of Y) (fun w h Y P hP => km_tabs_of Y P (by simp only [List.mem_cons, List.not_mem_nil, or_false] at hP ⊢; omega)) (fun w => by kernel_rfl) (fun w => by kernel_rfl) (fun w => by kernel_rfl) (fun w => by kernel_rfl) (fun w => by kernel_rfl) (fun w => by kernel_rfl) ?F
  case F =>
    intro w mg fa h KX G hmg
    refine' Pk.all_mk KX G hmg ?a_C ?pg_C ?hd_C ?po_C ?sa_C ?mk_C ?kc_C ?nplengths ?npgaps ?npcrosses ?nptop ?npclosed ?a_CI ?kpCI ?sbCI ?tyCI ?exCI ?c_LONGEST ?c_MOST_STRETCHES ?c_MOST_GAPS ?c_MOST_CLOSED ?z_abs ?z_all ?z_int ?z_len ?z_list ?z_max ?z_range ?z_sorted ?z_sum ?a_House___init__ ?i_House___init__ ?l_House___init__ ?c_House___init__ ?k_House___init__ ?a__are_long ?l__are_long ?c__are_long ?k__are_long ?a__cross_heights ?l__cross_heights ?c__cross_heights ?k__cross_heights ?a_House_is_link ?i_House_is_link ?l_House_is_link ?c_House_is_link ?k_House_is_link ?pa_House_lengths ?pg_House_lengths ?pt_House_lengths ?pr_House_lengths ?l_House_lengths ?c_House_lengths ?k_House_lengths ?a_House_crosses ?i_House_crosses ?l_House_crosses ?c_House_crosses ?k_House_crosses ?a_House_is_place ?i_House_is_place ?l_House_is_place ?c_House_is_place ?k_House_is_place ?a_House_is_cross ?i_House_is_cross ?l_House_is_cross ?c_House_is_cross ?k_House_is_cross ?a_House_is_closed ?i_House_is_closed ?l_House_is_closed ?c_House_is_closed ?k_House_is_closed ?a_CT ?pg_CT ?hd_CT ?po_CT ?sa_CT ?mk_CT ?kc_CT ?a_CIT ?kpCIT ?sbCIT ?tyCIT ?exCIT ?tstart ?tend ?tppicks ?c_MOST_PICKS ?z_set ?a_Task___init__ ?i_Task___init__ ?l_Task___init__ ?c_Task___init__ ?k_Task___init__ ?pa_Task_picks ?pg_Task_picks ?pt_Task_picks ?pr_Task_picks ?l_Task_picks ?c_Task_picks ?k_Task_picks ?a_CP ?kpCP ?sbCP ?tyCP ?a_Pe ?dcCP ?ssCP ?xlCP ?saCP ?noCP ?gaCP ?ggCP ?a_iCP ?tiCP ?l_iCP ?c_iCP ?k_iCP ?a_check_task ?l_check_task ?c_check_task ?k_check_task ?a__law_row ?l__law_row ?c__law_row ?k__law_row ?a__law_numbers ?l__law_numbers ?c__law_numbers ?k__law_numbers ?a__law_crosses ?l__law_crosses ?c__law_crosses ?k__law_crosses ?a__law_link ?l__law_link ?c__law_link ?k__law_link ?a__law_house ?l__law_house ?c__law_house ?k__law_house ?a__law_cross ?l__law_cross ?c__law_cross ?k__law_cross ?a__law_place ?l__law_place ?c__law_place ?k__law_place ?a__law_task ?l__law_task ?c__law_task ?k__law_task ?a__law_made ?l__law_made ?c__law_made ?k__law_made ?a_ends_of_stretch ?l_ends_of_stretch ?c_ends_of_stretch ?k_ends_of_stretch ?a_marks_inside ?l_marks_inside ?c_marks_inside ?k_marks_inside ?z_zip ?a__pieces_between ?l__pieces_between ?c__pieces_between ?k__pieces_between ?z_any ?a_is_free ?l_is_free ?c_is_free ?k_is_free ?a__law_inside ?l__law_inside ?c__law_inside ?k__law_inside ?a__law_pieces ?l__law_pieces ?c__law_pieces ?k__law_pieces ?a__law_free ?l__law_free ?c__law_free ?k__law_free ?a__law_options ?l__law_options ?c__law_options ?k__law_options ?a__law_best ?l__law_best ?c__law_best ?k__law_best ?a__law_even ?l__law_even ?c__law_even ?k__law_even ?a__law_hangs ?l__law_hangs ?c__law_hangs ?k__law_hangs ?a__law_bounded ?l__law_bounded ?c__law_bounded ?k__law_bounded ?a__option_without ?l__option_without ?c__option_without ?k__option_without ?a_options_between ?l_options_between ?c_options_between ?k_options_between ?a_best_between ?l_best_between ?c_best_between ?k_best_between ?a_options_of ?l_options_of ?c_options_of ?k_options_of ?a_best_options ?l_best_options ?c_best_options ?k_best_options ?z_repr ?a_law ?l_law ?c_law ?k_law
    (case a_C => k_is)
    (case pg_C => k_is)
    (case hd_C => k_is)
    (case po_C => k_is)
    (case sa_C => k_is)
    (case mk_C => k_is)
    (case kc_C => k_is)
    (case nplengths => k_is)
    (case npgaps => k_is)
    (case npcrosses => k_is)
    (case nptop => k_is)
    (case npclosed => k_is)
    (case a_CI => k_is)
    (case kpCI => k_is)
    (case sbCI => k_is)
    (case tyCI => k_is)
    (case exCI => k_exc)
    (case c_LONGEST => k_is)
    (case c_MOST_STRETCHES => k_is)
    (case c_MOST_GAPS => k_is)
    (case c_MOST_CLOSED => k_is)
    (case z_abs => k_is)
    (case z_all => k_is)
    (case z_int => k_is)
    (case z_len => k_is)
    (case z_list => k_is)
    (case z_max => k_is)
    (case z_range => k_is)
    (case z_sorted => k_is)
    (case z_sum => k_is)
    (case a_House___init__ => k_is)
    (case i_House___init__ => k_is)
    (case l_House___init__ => k_is)
    (case c_House___init__ => k_is)
    (case k_House___init__ => k_is)
    (case a__are_long => k_is)
    (case l__are_long => k_is)
    (case c__are_long => k_is)
    (case k__are_long => k_is)
    (case a__cross_heights => k_is)
    (case l__cross_heights => k_is)
    (case c__cross_heights => k_is)
    (case k__cross_heights => k_is)
    (case a_House_is_link => k_is)
    (case i_House_is_link => k_is)
    (case l_House_is_link => k_is)
    (case c_House_is_link => k_is)
    (case k_House_is_link => k_is)
    (case pa_House_lengths => k_is)
    (case pg_House_lengths => k_is)
    (case pt_House_lengths => k_is)
    (case pr_House_lengths => k_is)
    (case l_House_lengths => k_is)
    (case c_House_lengths => k_is)
    (case k_House_lengths => k_is)
    (case a_House_crosses => k_is)
    (case i_House_crosses => k_is)
    (case l_House_crosses => k_is)
    (case c_House_crosses => k_is)
    (case k_House_crosses => k_is)
    (case a_House_is_place => k_is)
    (case i_House_is_place => k_is)
    (case l_House_is_place => k_is)
    (case c_House_is_place => k_is)
    (case k_House_is_place => k_is)
    (case a_House_is_cross => k_is)
    (case i_House_is_cross => k_is)
    (case l_House_is_cross => k_is)
    (case c_House_is_cross => k_is)
    (case k_House_is_cross => k_is)
    (case a_House_is_closed => k_is)
    (case i_House_is_closed => k_is)
    (case l_House_is_closed => k_is)
    (case c_House_is_closed => k_is)
    (case k_House_is_closed => k_is)
    (case a_CT => k_is)
    (case pg_CT => k_is)
    (case hd_CT => k_is)
    (case po_CT => k_is)
    (case sa_CT => k_is)
    (case mk_CT => k_is)
    (case kc_CT => k_is)
    (case a_CIT => k_is)
    (case kpCIT => k_is)
    (case sbCIT => k_is)
    (case tyCIT => k_is)
    (case exCIT => k_exc)
    (case tstart => k_is)
    (case tend => k_is)
    (case tppicks => k_is)
    (case c_MOST_PICKS => k_is)
    (case z_set => k_is)
    (case a_Task___init__ => k_is)
    (case i_Task___init__ => k_is)
    (case l_Task___init__ => k_is)
    (case c_Task___init__ => k_is)
    (case k_Task___init__ => k_is)
    (case pa_Task_picks => k_is)
    (case pg_Task_picks => k_is)
    (case pt_Task_picks => k_is)
    (case pr_Task_picks => k_is)
    (case l_Task_picks => k_is)
    (case c_Task_picks => k_is)
    (case k_Task_picks => k_is)
    (case a_CP => k_is)
    (case kpCP => k_is)
    (case sbCP => k_is)
    (case tyCP => k_is)
    (case a_Pe => k_is)
    (case dcCP => k_is)
    (case ssCP => first | k_is | rfl)
    (case xlCP => k_is)
    (case saCP => k_is)
    (case noCP => k_is)
    (case gaCP => k_is)
    (case ggCP => k_is)
    (case a_iCP => k_is)
    (case tiCP => k_is)
    (case l_iCP => k_is)
    (case c_iCP => k_is)
    (case k_iCP => k_is)
    (case a_check_task => k_is)
    (case l_check_task => k_is)
    (case c_check_task => k_is)
    (case k_check_task => k_is)
    (case a__law_row => k_is)
    (case l__law_row => k_is)
    (case c__law_row => k_is)
    (case k__law_row => k_is)
    (case a__law_numbers => k_is)
    (case l__law_numbers => k_is)
    (case c__law_numbers => k_is)
    (case k__law_numbers => k_is)
    (case a__law_crosses => k_is)
    (case l__law_crosses => k_is)
    (case c__law_crosses => k_is)
    (case k__law_crosses => k_is)
    (case a__law_link => k_is)
    (case l__law_link => k_is)
    (case c__law_link => k_is)
    (case k__law_link => k_is)
    (case a__law_house => k_is)
    (case l__law_house => k_is)
    (case c__law_house => k_is)
    (case k__law_house => k_is)
    (case a__law_cross => k_is)
    (case l__law_cross => k_is)
    (case c__law_cross => k_is)
    (case k__law_cross => k_is)
    (case a__law_place => k_is)
    (case l__law_place => k_is)
    (case c__law_place => k_is)
    (case k__law_place => k_is)
    (case a__law_task => k_is)
    (case l__law_task => k_is)
    (case c__law_task => k_is)
    (case k__law_task => k_is)
    (case a__law_made => k_is)
    (case l__law_made => k_is)
    (case c__law_made => k_is)
    (case k__law_made => k_is)
    (case a_ends_of_stretch => k_is)
    (case l_ends_of_stretch => k_is)
    (case c_ends_of_stretch => k_is)
    (case k_ends_of_stretch => k_is)
    (case a_marks_inside => k_is)
    (case l_marks_inside => k_is)
    (case c_marks_inside => k_is)
    (case k_marks_inside => k_is)
    (case z_zip => k_is)
    (case a__pieces_between => k_is)
    (case l__pieces_between => k_is)
    (case c__pieces_between => k_is)
    (case k__pieces_between => k_is)
    (case z_any => k_is)
    (case a_is_free => k_is)
    (case l_is_free => k_is)
    (case c_is_free => k_is)
    (case k_is_free => k_is)
    (case a__law_inside => k_is)
    (case l__law_inside => k_is)
    (case c__law_inside => k_is)
    (case k__law_inside => k_is)
    (case a__law_pieces => k_is)
    (case l__law_pieces => k_is)
    (case c__law_pieces => k_is)
    (case k__law_pieces => k_is)
    (case a__law_free => k_is)
    (case l__law_free => k_is)
    (case c__law_free => k_is)
    (case k__law_free => k_is)
    (case a__law_options => k_is)
    (case l__law_options => k_is)
    (case c__law_options => k_is)
    (case k__law_options => k_is)
    (case a__law_best => k_is)
    (case l__law_best => k_is)
    (case c__law_best => k_is)
    (case k__law_best => k_is)
    (case a__law_even => k_is)
    (case l__law_even => k_is)
    (case c__law_even => k_is)
    (case k__law_even => k_is)
    (case a__law_hangs => k_is)
    (case l__law_hangs => k_is)
    (case c__law_hangs => k_is)
    (case k__law_hangs => k_is)
    (case a__law_bounded => k_is)
    (case l__law_bounded => k_is)
    (case c__law_bounded => k_is)
    (case k__law_bounded => k_is)
    (case a__option_without => k_is)
    (case l__option_without => k_is)
    (case c__option_without => k_is)
    (case k__option_without => k_is)
    (case a_options_between => k_is)
    (case l_options_between => k_is)
    (case c_options_between => k_is)
    (case k_options_between => k_is)
    (case a_best_between => k_is)
    (case l_best_between => k_is)
    (case c_best_between => k_is)
    (case k_best_between => k_is)
    (case a_options_of => k_is)
    (case l_options_of => k_is)
    (case c_options_of => k_is)
    (case k_options_of => k_is)
    (case a_best_options => k_is)
    (case l_best_options => k_is)
    (case c_best_options => k_is)
    (case k_best_options => k_is)
    (case z_repr => k_is)
    (case a_law => k_is)
    (case l_law => k_is)
    (case c_law => k_is)
    (case k_law => k_is)

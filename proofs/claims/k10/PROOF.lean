import PyProof.Rows.All
import Wide.All
import OpenK.AllK
import Wide.FinOn
import KE.KExcIs
import KE.SortData
import KE.KNestM
import PyProof.StrBlock2
import HandS.ForMost
import HandS.Deep
import HandS.TupSets
import HandS.SortRule
import HandS.ForExc
import HandS.ExcInit
import HandS.ExcIs
import HandS.ExcField
import HandS.ExcValue
import HandS.ExcOwn
import HandS.Property
import HandS.CallSlots
import HandS.Style
import HandS.IsInst
import HandS.Codes
import HandS.TupLen
import HandS.Small
import HandS.EndTab
import KE.DataMinMax
import HandS.Dict
import HandS.DictComp
import HandS.Comp
import HandS.Conv
import HandS.Text
import HandS.FStr
import HandS.Exc
import HandS.GenList
import HandS.Nested
import HandS.AnyAll
import HandS.TryOnly
import HandS.Words
import HandS.WordsExc
import HandS.SetFor
import HandS.Strs
import KE.KDictDisplayH
import HandS.Evl
import HandS.Iter
import KE.KItemsList
import HandS.ListItems
import PyProof.ReprBulk
import PyProof.ReprText
import PyProof.SetRoads
import HandS.Flow
import HandS.WrittenGet
import HandS.SuiteRaise
import HandS.RaiseFrom
import HandS.ExcInitHot
import HandS.Replace
import HandS.ReplaceLit
import PyProof.MeetsStr3
import PySem.Challenge.RW_pickaisle_k10_texts_of_tasks_and_walks_r
set_option Elab.async false
set_option linter.all false
set_option maxRecDepth 100000
set_option maxHeartbeats 8000000
namespace Pk
open PySem L2
/-- at a: an error of the class at D that is held; fs: its own attributes -/
def XvAt (H : Hp) (a D : Addr) (fs : List (Str × V)) : Prop :=
  (H a = some (ExO (.ref D) a) ∧ fs = []) ∨ ∃ d, H a = some (exo a D (some d)) ∧ H d = some (exd d fs)
theorem XvAt.same {H H' : Hp} {a D : Addr} {fs : List (Str × V)} (h : XvAt H a D fs) (k : Same H H') : XvAt H' a D fs := by
  rcases h with ⟨h, e⟩ | ⟨d, h, e⟩
  · exact .inl ⟨k _ _ h, e⟩
  · exact .inr ⟨d, k _ _ h, k _ _ e⟩
/-- __init__(self, v): self.f = v, of an own class of errors -/
def spXI (K : PySem.W.Frag) (C : Addr) (f : Str) : Sp := fun vs H Q _ => ∃ (a : Addr) (v : V), vs = [.ref a, v] ∧ OexC K C ∧ PySem.W.findIn K (.ref C) f = some none ∧ H a = some (exo a C none) ∧
  ∀ dx, H dx = none → dx ≠ a → Q .non (upd (upd H dx (exd dx [(f, v)])) a (exo a C (some dx)))
end Pk
namespace Pk
open PySem L2 PySem.Spec PyProof.Rows GenW GxR NdefX
/-- the generator's own frame -/
abbrev envG (X : Cx) (sc : Scope) (C : Addr) (cd : Value) : Env := genEnv sc (cloFrom X.env.cells sc.names []) C cd builtinsNs X.env
/-- and its surroundings; s0, H0: ahead of its frame; fp: the iterator's objects -/
abbrev cxG (X : Cx) (N : List Str) (sc : Scope) (B : Around) (s0 : Shared) (H0 : Hp) (cd : Value) (fp : List Addr) : Cx :=
  { X with
    A := B
    N := N
    s_0 := s0
    H_0 := H0
    env := envG X sc s0.heap.objs.size cd
    outer := X.stack
    stack := envG X sc s0.heap.objs.size cd :: X.stack
    ex := fp
    fn := fun _ => false
    calm := true
    pn := []
    xe := fun _ _ => False }
/-- what its scope must keep -/
structure GSc (env : Env) (sc : Scope) : Prop where
  kind : sc.kind = .function
  co : sc.isCoroutine = false
  cell : ∀ y ∈ sc.names, y.2 ≠ .cell
  dot : sc.names.lookup (".0" : Str) = some NameKind.local
  free : ∀ y ∈ sc.names, y.2 = .free → ∃ c, env.cells.lookup y.1 = some c
/-- the free names' slots: fr tells for each name its slot outside, none for an own one -/
def slotsG (fr : List (Option Nat)) (σ : L2.St) : L2.St := fr.map fun o => match o with
  | none => none
  | some j => (σ[j]?).join
structure GFr (X : Cx) (sc : Scope) (N : List Str) (fr : List (Option Nat)) : Prop where
  len : fr.length = N.length
  at_ : ∀ (i : Nat) (y : Str) (j : Nat), N[i]? = some y → fr[i]? = some (some j) → sc.names.lookup y = some .free ∧ X.N[j]? = some y ∧ (X.env.scope.names.lookup y = some .cell ∨ X.env.scope.names.lookup y = some .free)
theorem slotsG_some {fr : List (Option Nat)} {σ : L2.St} {i : Nat} {v : V} (h : (slotsG fr σ)[i]? = some (some v)) : ∃ j, fr[i]? = some (some j) ∧ σ[j]? = some (some v) := by
  unfold slotsG at h
  rw [List.getElem?_map] at h
  cases e : fr[i]? with
  | none => rw [e] at h; cases h
  | some o =>
    rw [e] at h
    cases o with
    | none => simp at h
    | some j =>
      refine ⟨j, rfl, ?_⟩
      have h2 : (σ[j]?).join = some v := by simpa using h
      cases q : σ[j]? with
      | none => rw [q] at h2; cases h2
      | some w => rw [q] at h2; cases w with
        | none => cases h2
        | some v' => cases h2; rfl
section
variable {X : Cx} {pins : List (Addr × Obj)} {σ : L2.St} {H : Hp} {s0 s5 : Shared}
/-- all stands that stood -/
theorem Inv.stood (I : Inv X pins σ H s0) (os : s5.os = s0.os) (k : ∀ b o, s0.heap.get? b = some o → s5.heap.get? b = some o) (hb : AllBare s5.gens) : Inv X pins σ H s5 :=
  I.call' (ch := []) os (Un.kept k) (I.hok.kept k) hb fun b z => absurd z (by simp)
theorem start_gen {N : List Str} {sc : Scope} {B : Around} {cd : Value} {fp : List Addr} {a : Addr} {o : Obj} {m : Str → Option Value}
    {fr : List (Option Nat)} (I : Inv X pins σ H s0) (S : GSc X.env sc) (FR : GFr X sc N fr) (hf : ∀ b ∈ fp, FpOk X pins H b ∧ b < s0.heap.objs.size) (hB : B.handled = none)
    (hfr : B.frames = some (envG X sc s0.heap.objs.size cd :: X.stack)) (os : s5.os = s0.os) (hb : AllBare s5.gens)
    (k : ∀ b u, s0.heap.get? b = some u → s5.heap.get? b = some u) (hn : s5.heap.Ns s0.heap.objs.size m)
    (ha : s0.heap.objs.size < a) (hao : s5.heap.get? a = some o) (hod : ∀ v, o.data ≠ .cell v) :
    Inv (cxG X N sc B s0 H cd fp) [(a, o)] (slotsG fr σ) H s5 := by
  have cm : ∀ {y c}, (cloFrom X.env.cells sc.names []).lookup y = some c → X.env.cells.lookup y = some c := fun {y c} e => clo_cm S.free e
  have nofs : ∀ b ∈ frs X.stack, b < s0.heap.objs.size := fun b hb => by
    rcases List.mem_cons.mp (I.stkSub b hb) with z | z
    · rw [z]; exact I.lt
    · obtain ⟨_, u, hu, _⟩ := I.funs.mem z
      exact Heap.lt_size hu
  refine ⟨⟨I.ok.mod, S.kind, I.ok.glob, rfl, Nat.le_refl _, fun y z c e1 e2 => I.ok.inj y z c (cm e1) (cm e2), fun y hy => ?_, fun y c z => ?_, fun _ => hB, hfr, .inr ⟨rfl, rfl⟩,
      fun b hb => ⟨Nat.ne_of_lt (hf b hb).2, fun y c e z => (hf b hb).1.2.2.2.2.1 y c (cm e) z⟩, I.bs, Nat.le_trans I.ok.bsz I.sz, fun b u e hb => ?_, fun b hb z => ?_, I.stack, I.stkFree⟩,
    os, hb, Un.kept k, ⟨m, hn, fun i y v h1 h2 => ?_⟩, fun y c e => ?_, I.hok.fresh (Nat.le_refl _), fun y c e => I.freeC y c (cm e), fun p hp => ?_, I.hok.kept k, ?_⟩
  · have hy : sc.names.lookup y = some .cell ∨ sc.names.lookup y = some .free := hy
    rcases hy with hy | hy
    · exact absurd rfl (S.cell _ (PySem.mem_of_lookup hy))
    · have hm := PySem.mem_of_lookup hy
      obtain ⟨c, hc⟩ := S.free _ hm rfl
      exact ⟨c, clo_has S.free hm hc⟩
  · exact absurd (show (false : Bool) = true from z) (by decide)
  · rcases (hf b hb).1.2.2.2.1 with z | z
    · exact I.ok.noex b u e z
    · exact absurd (Nat.lt_of_lt_of_le (Heap.lt_size e) (Nat.le_trans I.ok.bsz z)) (Nat.lt_irrefl _)
  · rcases List.mem_cons.mp (I.stkSub b z) with z | z
    · exact (hf b hb).1.2.1 z
    · exact (hf b hb).1.2.2.1 z
  · obtain ⟨j, e1, e2⟩ := slotsG_some h2
    obtain ⟨f1, f2, f3⟩ := FR.at_ i y j h1 e1
    obtain ⟨m0, _, hl⟩ := I.loc
    obtain ⟨u, r, lk⟩ := hl j y v f2 e2 (f3.elim (fun z => .inr (.inl z)) fun z => .inr (.inr z))
    refine fun _ => ⟨u, r, .inr ⟨.inr f1, ?_⟩⟩
    rcases lk with ⟨z, _⟩ | ⟨_, c, hc, hv⟩
    · have z : X.env.scope.names.lookup y = some .local := z
      rcases f3 with q | q <;> rw [q] at z <;> cases z
    · exact ⟨c, clo_has S.free (PySem.mem_of_lookup f1) hc, hv.keeps k⟩
  · obtain ⟨v, hv⟩ := I.cell y c (cm e)
    exact ⟨v, hv.keeps k⟩
  · have hp : p ∈ [(a, o)] := hp
    obtain rfl : p = (a, o) := by simpa using hp
    exact ⟨hao, I.hok.fresh (Nat.le_of_lt ha), Nat.ne_of_gt ha, fun z => absurd (Nat.lt_trans ha (nofs _ z)) (Nat.lt_irrefl _), hod⟩
  · show (slotsG fr σ).length = N.length
    unfold slotsG
    rw [List.length_map]
    exact FR.len
end
end Pk
namespace Pk
open PySem L2 PySem.Spec PyProof.Rows GenW GxR
/-- what it hands out; st: the answer at which the asker stops -/
def YG (Y : Cx) (pins : List (Addr × Obj)) (st : Bool) (Q : VK) : Protocol := fun _ _ v s kap =>
  ∃ σ' H' c, v = .bool c ∧ Inv Y pins σ' H' s ∧ (c = st → Q (.bl st) H') ∧
    (c ≠ st → ∀ s2 : Shared, s2.heap = s.heap → s2.os = s.os → AllBare s2.gens → kap (.send .none) s2)
def RG (Y : Cx) (pins : List (Addr × Obj)) (st : Bool) (Q : VK) : GenEnd := fun n s₀ r s₁ =>
  ((r = .ok (.ret .none) ∨ r = .ok .next) ∧ (fun (_ : Nat) (_ t : Shared) => ∃ σ' H', Inv Y pins σ' H' t ∧ Q (.bl (!st)) H') n s₀ s₁) ∨ ∃ e, r = .error e ∧ (fun (_ : Value) (_ : Shared) => False) e s₁
/-- the loop of the promise -/
def Turns (J : It) (g : TG) (te : TE) (st : Bool) (Q : VK) (W : Nat → Nat → L2.St → Hp → Prop) : Prop := ∀ i m σ H, W i m σ H →
  (J.stop i H ∧ Q (.bl (!st)) H) ∨ (J.go i H ∧ ∃ N : L2.St → Hp → Prop, (∀ σ' H', N σ' H' → ∃ m', m' < m ∧ W (i + 1) m' σ' H') ∧
    ∀ x H', J.yld i H x H' → g x σ H' fun σ2 H2 => te σ2 H2 fun y H3 => ∃ c, y = .bl c ∧ if c = st then Q (.bl st) H3 else N σ2 H3)
section
variable {Y : Cx} {A : Around} {tg elt iter : Expr} {sc : Scope} {pos : Pos} {it : Addr} {fp : List Addr} {tn : Nat → Heap → Prop} {J : It} {g : TG} {te : TE} {st : Bool} {Q : VK}
  {W : Nat → Nat → L2.St → Hp → Prop} {pins : List (Addr × Obj)}
theorem seg_turns (hc : Y.calm = true) (hco : Y.env.scope.isCoroutine = false)
    (hA : A.over (.compLoop (.GeneratorExp elt [⟨tg, iter, [], 0⟩] sc pos) 0 (.ref it) .none Y.env) [] = Y.A)
    (T : Turn Y.prog Y.w Y.K tg J fp it tn) (hg : PG Y tg g) (he : PE Y elt te) (hx : ∀ e s, Y.xe e s → False)
    (ff : ∀ b ∈ fp, ∀ H : Hp, H b = none → FpOk Y pins H b) (turn : Turns J g te st Q W) :
    ∀ (m n i : Nat) (σ : L2.St) (H : Hp) (s₀ s : Shared), m < n → Inv Y pins σ H s → tn i s.heap → (∀ b ∈ fp, H b = none) → W i m σ H →
      Seg (model Y.prog Y.w) A (RG Y pins st Q) (YG Y pins st Q) n s₀ (.compLoop (.GeneratorExp elt [⟨tg, iter, [], 0⟩] sc pos) 0 (.ref it) .none Y.env)
        ((model Y.prog Y.w).den (.compLoop (.GeneratorExp elt [⟨tg, iter, [], 0⟩] sc pos) 0 (.ref it) .none Y.env)) [] s := by
  intro m
  induction m using Nat.strongRecOn with
  | _ m ih =>
    intro n i σ H s₀ s hmn I ht hf hw
    have fpo : ∀ {H' : Hp}, (∀ b ∈ fp, H' b = none) → ∀ b ∈ fp, FpOk Y pins H' b := fun q b hb => ff b hb _ (q b hb)
    show Seg _ A _ _ n s₀ _ ((compTurn (.GeneratorExp elt [⟨tg, iter, [], 0⟩] sc pos) 0 (.ref it) .none Y.env).onRaise (leaving Y.env)) [] s
    rw [compTurn_gen, Sem.onRaise_eq_wrap]
    refine seg_bind_wrap (wpAny_standAt ?_)
    rcases turn i m σ H hw with ⟨hstop, q⟩ | ⟨go, N, hN, step⟩
    · refine seg_bind_wrap ?_
      rw [hA]
      refine wpAny_mono (T.done Y rfl rfl rfl hc i pins s σ H (fun _ _ => False) I (fpo hf) ht hstop) (fun r s4 h4 => ?_) fun _ _ e => e.elim
      obtain ⟨rfl, I4⟩ := h4
      exact seg_end (.ok .next) (.inl ⟨.inr rfl, σ, H, I4, q⟩)
    · refine seg_bind_wrap ?_
      rw [hA]
      refine wpAny_mono (T.item Y rfl rfl rfl hc i pins s σ H (fun _ _ => False) I (fpo hf) ht go) (fun r s4 h4 => ?_) fun _ _ e => e.elim
      obtain ⟨u, rfl, h4⟩ := h4
      refine seg_bind_wrap ?_
      rw [hA]
      refine wpAny_mono h4 (fun _ s5 h5 => ?_) fun _ _ e => e.elim
      obtain ⟨x, H5, I5, r5, y5, t5, f5⟩ := h5
      have I5' := I5.pinned (fpo f5) (T.obj _ _ t5)
      refine seg_bind_wrap ?_
      rw [hA]
      refine wpAny_mono (hg.run _ s5 σ H5 x u _ I5' r5 (step x H5 y5)) (fun _ s6 h6 => ?_) fun _ _ e => (hx _ _ e).elim
      obtain ⟨σ6, H6, I6, q6⟩ := h6
      simp only [List.forIn_nil]
      refine seg_bind_wrap (wpAny_pure ?_)
      simp only [if_true]
      have hy : ∀ v, yieldOut Y.env v = yieldValue v := fun v => by simp only [yieldOut, hco, Bool.false_eq_true, if_false]
      simp only [hy]
      rw [Sem.bind_eq_wrap', Sem.bind_eq_wrap', Sem.wrap_wrap, Sem.wrap_wrap]
      refine seg_wrap ?_
      rw [hA]
      refine wpAny_mono (he.run _ s6 σ6 H6 _ I6 q6) (fun y s7 h7 => ?_) fun _ _ e => (hx _ _ e).elim
      obtain ⟨v7, H7, I7, r7, c, rfl, q7⟩ := h7
      obtain rfl : y = .bool c := r7
      have J7 : Inv Y pins σ6 H7 s7 := I7.unpinned
      have t7 : tn (i + 1) s7.heap := T.keep _ _ _ t5 fun b hb o e => (I7.pin (b, o) (List.mem_append_right _ (List.mem_append_right _ (mem_pinsAt hb e)))).1
      have f7 : ∀ b ∈ fp, H7 b = none := fun b hb => by
        obtain ⟨o, e, _⟩ := T.obj _ _ t5 b hb
        exact (I7.pin (b, o) (List.mem_append_right _ (List.mem_append_right _ (mem_pinsAt hb e)))).2.1
      obtain ⟨k, rfl⟩ : ∃ k, n = k + 1 := ⟨n - 1, by omega⟩
      refine seg_at (seg_yield rfl rfl rfl ⟨σ6, H7, c, rfl, J7, fun e => ?_, fun e s2 eh eo eb => ?_⟩)
      · rw [if_pos e] at q7
        exact q7
      · rw [if_neg e] at q7
        obtain ⟨m', hm, w7⟩ := hN σ6 H7 q7
        exact seg_again rfl (ih m' hm k (i + 1) σ6 H7 s2 s2 (by omega) (Inv.stood J7 eo (fun b o z => by rw [eh]; exact z) eb) (by rw [eh]; exact t7) f7 w7)
/-- from its beginning -/
theorem seg_begins (hc : Y.calm = true) (hco : Y.env.scope.isCoroutine = false)
    (hA : A.over (.compLoop (.GeneratorExp elt [⟨tg, iter, [], 0⟩] sc pos) 0 (.ref it) .none Y.env) [] = Y.A)
    (T : Turn Y.prog Y.w Y.K tg J fp it tn) (hg : PG Y tg g) (he : PE Y elt te) (hx : ∀ e s, Y.xe e s → False)
    (ff : ∀ b ∈ fp, ∀ H : Hp, H b = none → FpOk Y pins H b) (turn : Turns J g te st Q W)
    (m n : Nat) (σ : L2.St) (H : Hp) (s₀ s : Shared) (hmn : m < n) (I : Inv Y pins σ H s) (ht : tn 0 s.heap) (hf : ∀ b ∈ fp, H b = none) (hw : W 0 m σ H) :
      Seg (model Y.prog Y.w) A (RG Y pins st Q) (YG Y pins st Q) n s₀ (.compStart (.GeneratorExp elt [⟨tg, iter, [], 0⟩] sc pos) 0 (.ref it) .none Y.env)
        ((model Y.prog Y.w).den (.compStart (.GeneratorExp elt [⟨tg, iter, [], 0⟩] sc pos) 0 (.ref it) .none Y.env)) [] s := by
  have rest := seg_turns hc hco hA T hg he hx ff turn m n 0 σ H s₀ s hmn I ht hf hw
  show Seg _ A _ _ n s₀ _ ((compStart (.GeneratorExp elt [⟨tg, iter, [], 0⟩] sc pos) 0 (.ref it) .none Y.env).onRaise (leaving Y.env)) [] s
  unfold compStart
  rw [Sem.onRaise_eq_wrap]
  show Seg _ A _ _ n s₀ _ ((ask >>= _).wrap _ _ _ _) [] s
  refine seg_bind_wrap (wpAny_askSetting ?_)
  split
  · exact seg_again rfl rest
  · refine seg_bind_wrap (wpAny_rule ?_)
    first
      | exact seg_bind_wrap (wpAny_standAt (seg_bind_wrap (T.self _ 0 s _ _ ht (seg_again rfl rest))))
      | (show Seg _ A _ _ n s₀ _ ((standAt iter.pos >>= _).wrap _ _ _ _) [] s
         exact seg_bind_wrap (wpAny_standAt (seg_bind_wrap (T.self _ 0 s _ _ ht (seg_again rfl rest)))))
end
end Pk
namespace Pk
open PySem L2 PySem.Spec PyProof.Rows GenW GxR
section
variable {Y : Cx} {A : Around} {st : Bool} {Q : VK} {pins : List (Addr × Obj)} {R : Result → Shared → Prop} {a : Addr} {g : Nat}
theorem all_asks (hh : A.handled = none) (hd : A.depth < recursionLimit) (hp : ∀ σ' H' t, Inv Y pins σ' H' t → t.heap.IsGen a g)
    (hend : ∀ σ' H' b t, Inv Y pins σ' H' t → Q (.bl b) H' → R (.ok (.ret (.bool b))) t) :
    ∀ (n : Nat) (s : Shared), s.heap.IsGen a g → s.heap.NoLimit →
      (∃ gs, s.gens[g]? = some gs ∧ gs.Goes (model Y.prog Y.w) A.in1.in1 (RG Y pins false Q) (YG Y pins false Q) n (.send .none) (s.setGen g .running)) →
      codeAny (model Y.prog Y.w) A (.builtin "all.loop" ⟨[.ref a], []⟩) R s := by
  intro n
  induction n with
  | zero =>
    intro s hg hl ⟨gs, hgs, hgo⟩
    refine codeAny_builtin F.entry_all_loop ?_
    rw [Around.under_plainId F.plain_all_loop _]
    show wpAny _ A.in1 (pyNext (.ref a) >>= _) _ _ s
    refine wpAny_bind (next_genG (A := A.in1) hh hl hd hg hgs hgo (fun v s₁ gs' hbare hv => ?_) (fun s₁ hf h' hk => ?_) fun e s₁ he => he.elim)
    · obtain ⟨σ', H', c, rfl, J, h1, h2⟩ := hv
      refine wpAny_bind (wpAny_holding (wpAny_truthy_bool ?_))
      refine wpAny_bind (wpAny_letGo ?_)
      cases c with
      | true => exact (h2 (by decide) _ rfl rfl J.bare).elim
      | false =>
        simp only [Bool.false_eq_true, if_false]
        refine wpAny_bind (wpAny_rule (wpAny_pure ?_))
        exact hend σ' H' false _ (Inv.stood (s5 := s₁.setGen g gs') J rfl (fun _ _ z => z) (allBare_setGen J.bare hbare)) (h1 rfl)
    · obtain ⟨σ', H', J, q⟩ := hf
      refine wpAny_bind (wpAny_rule (wpAny_pure ?_))
      exact hend σ' H' true _ (Inv.stood (s5 := { s₁.setGen g .finished with heap := h' }) J rfl hk (allBare_setGen J.bare rfl)) q
  | succ n ih =>
    intro s hg hl ⟨gs, hgs, hgo⟩
    have hgl : g < s.gens.size := (Array.getElem?_eq_some_iff.mp hgs).1
    refine codeAny_builtin F.entry_all_loop ?_
    rw [Around.under_plainId F.plain_all_loop _]
    show wpAny _ A.in1 (pyNext (.ref a) >>= _) _ _ s
    refine wpAny_bind (wpAny_gsz (n := g + 1) hgl (next_genG (A := A.in1) hh hl hd hg hgs hgo (fun v s₁ gs' hbare hv => ?_) (fun s₁ hf h' hk => ?_) fun e s₁ he => he.elim))
    · intro hsz
      obtain ⟨σ', H', c, rfl, J, h1, h2⟩ := hv
      have J2 : Inv Y pins σ' H' (s₁.setGen g gs') := Inv.stood J rfl (fun _ _ z => z) (allBare_setGen J.bare hbare)
      have hs1 : g < s₁.gens.size := by
        have q : (s₁.setGen g gs').gens.size = s₁.gens.size := setGen_size _ _ _
        have q2 : g + 1 ≤ (s₁.setGen g gs').gens.size := hsz
        omega
      refine wpAny_bind (wpAny_holding (wpAny_truthy_bool ?_))
      refine wpAny_bind (wpAny_letGo ?_)
      cases c with
      | true =>
        simp only [if_true]
        exact wpAny_pure ⟨plainId_quiet F.plain_all_loop _, ih _ (hp _ _ _ J2) J2.nolimit ⟨gs', setGen_at hs1, h2 (by decide) _ rfl rfl (allBare_setGen J2.bare rfl)⟩⟩
      | false =>
        simp only [Bool.false_eq_true, if_false]
        refine wpAny_bind (wpAny_rule (wpAny_pure ?_))
        exact hend σ' H' false _ J2 (h1 rfl)
    · intro hsz
      obtain ⟨σ', H', J, q⟩ := hf
      refine wpAny_bind (wpAny_rule (wpAny_pure ?_))
      exact hend σ' H' true _ (Inv.stood (s5 := { s₁.setGen g .finished with heap := h' }) J rfl hk (allBare_setGen J.bare rfl)) q
end
end Pk
namespace Pk
open PySem L2 PySem.Spec PyProof.Rows GenW GxR NdefX
/-- where the generator's code runs, asked from A -/
abbrev arG (A : Around) (tg elt iter : Expr) (sc : Scope) (pos : Pos) (it : Addr) (env : Env) : Around :=
  A.in1.in1.over (.compLoop (.GeneratorExp elt [⟨tg, iter, [], 0⟩] sc pos) 0 (.ref it) .none env) []
theorem arG_frames {A : Around} {tg elt iter : Expr} {sc : Scope} {pos : Pos} {it : Addr} {env : Env} {l : List Env} (h : A.frames = some l) : (arG A tg elt iter sc pos it env).frames = some (env :: l) := by
  obtain ⟨hd, d, f, gs, u⟩ := A
  obtain rfl : f = some l := h
  rfl
theorem arG_room {k : Nat} {A : Around} {tg elt iter : Expr} {sc : Scope} {pos : Pos} {it : Addr} {env : Env} (r : Room (k + 1) A) : Room k (arG A tg elt iter sc pos it env) :=
  ⟨r.hd, by have := r.dp; show A.depth + 0 + 1 + 3 * k + 5 < _; omega, by have := r.un; show A.units + 1 + 1 + 0 + 3 + 16 * k + 200 < _; omega⟩
/-- a generator stands at a and has handed out nothing -/
def GReady (X : Cx) (pins : List (Addr × Obj)) (σ : L2.St) (N : List Str) (sc : Scope) (st : Bool) (Q : VK) (a : Addr) (s5 : Shared) : Prop :=
  ∃ (g : Nat) (B : Around) (s0 : Shared) (H0 : Hp) (cd : Value) (fp : List Addr) (ps : List (Addr × Obj)) (n : Nat),
    s5.heap.IsGen a g ∧ s5.heap.NoLimit ∧ (∀ σ' H' t, Inv (cxG X N sc B s0 H0 cd fp) ps σ' H' t → t.heap.IsGen a g) ∧
    (∀ σ' H' t, Inv (cxG X N sc B s0 H0 cd fp) ps σ' H' t → Inv X pins σ H' t) ∧
    ∃ gs, s5.gens[g]? = some gs ∧ gs.Goes (model X.prog X.w) X.A.in1.in1 (RG (cxG X N sc B s0 H0 cd fp) ps st Q) (YG (cxG X N sc B s0 H0 cd fp) ps st Q) n (.send .none) (s5.setGen g .running)
/-- the answer: the element's readings, one after another -/
def tAns (st : Bool) (te : TE) : TS := fun D σ H => te σ H fun y H3 => ∃ c, y = .bl c ∧ if c = st then D.rt (.bl st) H3 else D.nx σ H3
def tGen (P : Addr) (fr : List (Option Nat)) (wi : TI) (g : TG) (te : TE) (st : Bool) : TE := fun σ H Q => wi σ H fun J H1 => TabG H1 P ∧ ∀ H2, Tabbed P H1 H2 →
  ∃ W : Nat → Nat → L2.St → Hp → Prop, (∃ m, W 0 m (slotsG fr σ) H2) ∧ ∀ i m σ H, W i m σ H →
    (J.stop i H ∧ (Ends.mk (fun _ H' => Q (.bl (!st)) H') Q (fun _ _ => False) (fun _ _ => False)).nx σ H) ∨ (J.go i H ∧ ∃ N : L2.St → Hp → Prop, (∀ σ' H', N σ' H' → ∃ m', m' < m ∧ W (i + 1) m' σ' H') ∧
      ∀ x H', J.yld i H x H' → g x σ H' fun σ2 H2 => tAns st te { (Ends.mk (fun _ H' => Q (.bl (!st)) H') Q (fun _ _ => False) (fun _ _ => False)) with nx := N, ct := N, bk := fun _ H' => Q (.bl (!st)) H' } σ2 H2)
section
variable {X : Cx} {pins : List (Addr × Obj)} {σ : L2.St} {H : Hp} {s : Shared}
theorem make_gen {c P : Addr} {tg elt iter : Expr} {gpos : Pos} {sc : Scope} {N : List Str} {fr : List (Option Nat)} {wi : TI} {g : TG} {te : TE} {k : Nat} {st : Bool} {Q : VK} {Q' : Value → Shared → Prop}
    (hr : Room (k + 1) X.A) (TB : TabB X.base X.mg c P) (hcode : X.env.code = .ref c) (S : GSc X.env sc) (FR : GFr X sc N fr) (hi : PI X tg iter wi)
    (hb : ∀ (B : Around) (s0 : Shared) (H0 : Hp) (cd : Value) (fp : List Addr), Room k B → PG (cxG X N sc B s0 H0 cd fp) tg g ∧ PE (cxG X N sc B s0 H0 cd fp) elt te)
    (hs : ∀ v, genFold iter X.env v = pure v) (I : Inv X pins σ H s) (h : tGen P fr wi g te st σ H Q)
    (hQ : ∀ a s5, GReady X pins σ N sc st Q a s5 → Q' (.ref a) s5) :
    wpAny (model X.prog X.w) X.A (eval (.GeneratorExp elt [⟨tg, iter, [], 0⟩] sc gpos) X.env) Q' X.xe s := by
  refine wpAny_GeneratorExp_make S.co (closure_ok S.free) S.cell S.dot S.kind (by have := hr.dp; omega) ?_ hs
  refine thn (hi.run pins s σ H _ I h) fun xv s1 h1 => thn h1 fun itv s2 h2 => ?_
  obtain ⟨it, fp, tn, J, H2, rfl, I2, T, t2, f2, ⟨ps, hP, htr⟩, hW⟩ := h2
  have hPs : s2.heap.get? P = some { cls := .none, data := .fields ps } := I2.hok P _ hP
  have cd : PySem.W.CodeHd s2.heap c P := TB.code.keeps fun b u e => I2.bk b u e
  refine ⟨I2.nolimit, ?_⟩
  have cont : ∀ (code : Value) (h3 : Heap) (tk : Nat) (ps' : Array Value), Heap.ExtBut P s2.heap h3 → s2.heap.objs.size ≤ h3.objs.size → h3.get? P = some { cls := .none, data := .fields ps' } → (∃ more, ps' = ps ++ more) → TriplesOk ps'.toList →
      wpAny (model X.prog X.w) X.A (builtinsFor X.env.globals X.env.builtins) (fun bi s₄ => ∀ h', h'.Ns s₄.heap.objs.size (fun y => if y = ".0" then some (Value.ref it) else none) →
        Heap.SameBut s₄.heap.objs.size (s₄.heap.push { cls := .type "frame", data := .dict #[] }) h' →
          Q' (.ref h'.objs.size) { s₄ with
            gens := s₄.gens.push (.fresh (.compStart (.GeneratorExp elt [⟨tg, iter, [], 0⟩] sc gpos) 0 (.ref it) .none (genEnv sc (cloFrom X.env.cells sc.names []) s₄.heap.objs.size code bi X.env))),
            toks := s₄.toks + 1 + 1 + 1,
            heap := h'.push { cls := .type "generator", data := .fields #[.int s₄.gens.size 0, .str "<genexpr>" (s₄.toks + 1), .str (X.env.qual ++ "<genexpr>") (s₄.toks + 1 + 1)] } }) X.xe { s2 with heap := h3, toks := tk } := by
    intro code h3 tk ps' hx3 hsz hP3 hmore ht3
    obtain ⟨more, rfl⟩ := hmore
    obtain ⟨bm, ob, e1, e2, e3, e4, e5, e6, e7, e8⟩ := TB.bm
    have keep3 : ∀ b u, b ≠ P → s2.heap.get? b = some u → h3.get? b = some u := fun b u z e => hx3 b u z e
    have I3 : Inv X pins σ (upd H2 P (.tbl (ps ++ more))) { s2 with heap := h3, toks := tk } := inv_tab (g' := s2.gens) (d' := s2.drawn) I2 hP keep3 hP3 I2.bare
    have TT : Tabbed P H2 (upd H2 P (.tbl (ps ++ more))) := ⟨⟨ps ++ more, upd_same, ht3⟩, fun b z => upd_ne z⟩
    refine wpAny_builtinsFor (m := X.mg) (by rw [I3.ok.glob]; exact I3.mod.glob.keeps I3.bk) e1 e2 (I3.bk _ _ e5) e6 e7 e8 ?_
    intro h' hn' hs'
    -- the new frame at C, the generator behind it
    have sz' : h'.objs.size = h3.objs.size + 1 := by rw [hs'.1, Heap.size_push]
    have keep' : ∀ b u, h3.get? b = some u → h'.get? b = some u := fun b u e => hs'.extBut b u (Nat.ne_of_lt (Heap.lt_size e)) (Heap.get?_push_of_some _ e)
    obtain ⟨W, ⟨m0, w0⟩, turn⟩ := hW _ TT
    have neP : ∀ b ∈ fp, b ≠ P := fun b hb z => by
      have q := (f2 b hb).1
      rw [z, hP] at q
      cases q
    have ltC : ∀ b ∈ fp, b < h3.objs.size := fun b hb => by
      obtain ⟨u, hu, _⟩ := T.obj _ _ t2 b hb
      exact Nat.lt_of_lt_of_le (Heap.lt_size hu) hsz
    have f3 : ∀ b ∈ fp, FpOk X pins (upd H2 P (.tbl (ps ++ more))) b := fun b hb => ⟨by rw [upd_ne (neP b hb)]; exact (f2 b hb).1, (f2 b hb).2⟩
    have aC : h3.objs.size < h'.objs.size := by rw [sz']; exact Nat.lt_succ_self _
    generalize hgo : ({ cls := .type "generator", data := .fields #[.int s2.gens.size 0, .str "<genexpr>" (tk + 1), .str (X.env.qual ++ "<genexpr>") (tk + 1 + 1)] } : Obj) = genO
    have isg : ∀ {h : Heap}, h.get? h'.objs.size = some genO → h.IsGen h'.objs.size s2.gens.size := fun {h} e => by
      subst hgo
      exact ⟨_, _, _, e, rfl, rfl, rfl⟩
    have atA : (h'.push genO).get? h'.objs.size = some genO := Heap.get?_push_size _ (by subst hgo; rfl)
    have keep5 : ∀ b u, h3.get? b = some u → (h'.push genO).get? b = some u := fun b u e => Heap.get?_push_of_some _ (keep' b u e)
    let B : Around := arG X.A tg elt iter sc gpos it (envG X sc h3.objs.size code)
    have rB : Room k B := arG_room hr
    have nofs : ∀ b ∈ fp, b ∉ frs X.stack := fun b hb z => by
      rcases List.mem_cons.mp (I3.stkSub b z) with q | q
      · exact (f2 b hb).2.1 q
      · exact (f2 b hb).2.2.1 q
    refine hQ _ _ ⟨s2.gens.size, B, { s2 with heap := h3, toks := tk }, upd H2 P (.tbl (ps ++ more)), code, fp, [(h'.objs.size, genO)], m0 + 1, isg atA, I3.nolimit.keeps keep5,
      fun σ' H' t J => isg (J.pin (h'.objs.size, genO) (by simp)).1, fun σ' H' t J => ?_, _, Array.getElem?_push_size .., rfl, ?_⟩
    · exact I3.call' (ch := fp) J.os J.base J.hok J.bare fun b hb => ⟨(f2 b hb).2.2.2.1, (f2 b hb).2.1, (f2 b hb).2.2.2.2.1, (f2 b hb).2.2.2.2.2⟩
    · have I5 := start_gen (N := N) (B := B) (cd := code) (fp := fp) (a := h'.objs.size) (o := genO) I3 S FR (fun b hb => ⟨f3 b hb, ltC b hb⟩) rB.hd (arG_frames I3.ok.frames)
        (s5 := { s2 with gens := s2.gens.push (.fresh (.compStart (.GeneratorExp elt [⟨tg, iter, [], 0⟩] sc gpos) 0 (.ref it) .none (envG X sc h3.objs.size code))), toks := tk + 1 + 1 + 1, heap := h'.push genO })
        rfl (I3.bare.push rfl) keep5 (hn'.push _) aC atA (by subst hgo; intro v z; cases z)
      have I6 := Inv.stood (s5 := Shared.setGen { s2 with gens := s2.gens.push (.fresh (.compStart (.GeneratorExp elt [⟨tg, iter, [], 0⟩] sc gpos) 0 (.ref it) .none (envG X sc h3.objs.size code))), toks := tk + 1 + 1 + 1, heap := h'.push genO } s2.gens.size .running) I5 rfl (fun _ _ e => e) (allBare_setGen I5.bare rfl)
      have hb' := hb B { s2 with heap := h3, toks := tk } (upd H2 P (.tbl (ps ++ more))) code fp rB
      refine seg_begins (Y := cxG X N sc B { s2 with heap := h3, toks := tk } (upd H2 P (.tbl (ps ++ more))) code fp) (A := X.A.in1.in1) (tn := tn) (J := J) rfl S.co rfl T hb'.1 hb'.2 (fun _ _ e => e)
        (fun b hb H' hn => ⟨hn, Nat.ne_of_lt (ltC b hb), nofs b hb, .inl hb, fun y e he => (f2 b hb).2.2.2.2.1 y e (clo_cm S.free he), fun p hp => ?_⟩) turn m0 (m0 + 1) _ _ _ _ (Nat.lt_succ_self _) I6
        (T.keep 0 _ _ t2 fun b hb o e => keep5 b o (keep3 b o (neP b hb) e)) (fun b hb => (f3 b hb).1) w0
      have hp : p ∈ [(h'.objs.size, genO)] := hp
      obtain rfl : p = (h'.objs.size, genO) := by simpa using hp
      exact Nat.ne_of_gt (Nat.lt_trans (ltC b hb) aC)
  cases hf : codeAmong gpos ps.toList with
  | none =>
    refine wpAny_genexprCodeX hcode (cd.code hPs htr) (cd.tab hPs) hf fun c' h' tk hx hge hlt hco' _ htab' _ => ?_
    obtain ⟨o1, vs, f1, tf, fl, tg', inF, tx, tt, op, _, _, _, _, _, _, _, _, _, htr', _⟩ := hco'
    exact cont _ h' tk _ hx (Nat.le_trans hge (Nat.le_of_lt hlt)) htab'.2 ⟨_, rfl⟩ htr'
  | some cv =>
    refine wpAny_genexprCode_hit hcode (cd.code hPs htr) hf ?_
    exact cont cv s2.heap s2.toks ps (Heap.ExtBut.refl _ _) (Nat.le_refl _) hPs ⟨#[], by simp⟩ htr
theorem pe_allG {c P : Addr} {tg elt iter : Expr} {p pos gpos : Pos} {sc : Scope} {N : List Str} {fr : List (Option Nat)} {wi : TI} {g : TG} {te : TE} {k : Nat}
    (hr : Room (k + 1) X.A) (hg : Gl X "all") (hm : X.mg "all" = none) (hbt : bootBuiltins "all" = some (.builtin "all")) (TB : TabB X.base X.mg c P) (hcode : X.env.code = .ref c) (S : GSc X.env sc) (FR : GFr X sc N fr) (hi : PI X tg iter wi)
    (hb : ∀ (B : Around) (s0 : Shared) (H0 : Hp) (cd : Value) (fp : List Addr), Room k B → PG (cxG X N sc B s0 H0 cd fp) tg g ∧ PE (cxG X N sc B s0 H0 cd fp) elt te)
    (hs : ∀ v, genFold iter X.env v = pure v)
    (he : starEach [.GeneratorExp elt [⟨tg, iter, [], 0⟩] sc gpos] X.env = (false, eval (.GeneratorExp elt [⟨tg, iter, [], 0⟩] sc gpos) X.env) :: starEach [] X.env := by rfl) :
    PE X (.Call (.Name "all" p) [.GeneratorExp elt [⟨tg, iter, [], 0⟩] sc gpos] [] pos) (tGen P fr wi g te false) := by
  refine ⟨fun pins s σ H Q I h => ?_⟩
  refine wpAny_Call_Name_kw (ld_blt I hg hm hbt ?_)
  refine PyProof.Rows.callWith_builtin1 ?_ he (by rfl)
  rw [he]
  show wpAny _ X.A (spliced ((false, eval (.GeneratorExp elt [⟨tg, iter, [], 0⟩] sc gpos) X.env) :: backTo pos (starEach [] X.env))) _ _ s
  refine Calls.spliced_cons (make_gen hr TB hcode S FR hi hb hs I h fun a s5 hG => ?_)
  refine Calls.spliced_nil ?_
  obtain ⟨n, B, s0, H0, cd, fp, ps, m, q1, q2, q3, q4, q5⟩ := hG
  refine call_function_tree F.kind_all F.plain_all F.entry_all (F.args_all1 _) ?_
  unfold Builtin.«all»
  refine wpAny_bind (m := oneArg "all" _) (wpAny_pure ?_)
  refine wpAny_bind (wpAny_pyIter_gen q1 ?_)
  refine wpAny_pure ⟨plainId_quiet F.plain_all_loop _, ?_⟩
  exact all_asks (Y := cxG X N sc B s0 H0 cd fp) hr.hd (by have := hr.dp; omega) q3 (fun σ' H' b t J q => ⟨.bl b, H', q4 σ' H' t J, rfl, q⟩) m s5 q1 q2 q5
end
end Pk
namespace Pk
open PySem L2
abbrev Pl := Int × Int
/-- v is a tuple that holds the place p -/
def Pr (H : Hp) (v : V) (p : Pl) : Prop := ∃ t, v = .ref t ∧ H t = some (.tup [.int p.1, .int p.2])
theorem Pr.same {H H' : Hp} {v : V} {p : Pl} (h : Pr H v p) (k : Same H H') : Pr H' v p := by
  obtain ⟨t, rfl, h⟩ := h
  exact ⟨t, rfl, k _ _ h⟩
inductive Prs (H : Hp) : List V → List Pl → Prop
  | nil : Prs H [] []
  | cons {v : V} {p : Pl} {vs : List V} {ps : List Pl} : Pr H v p → Prs H vs ps → Prs H (v :: vs) (p :: ps)
theorem Prs.same {H H' : Hp} {vs : List V} {ps : List Pl} (h : Prs H vs ps) (k : Same H H') : Prs H' vs ps := by
  induction h with
  | nil => exact .nil
  | cons a _ ih => exact .cons (a.same k) ih
theorem Prs.len {H : Hp} {vs : List V} {ps : List Pl} (h : Prs H vs ps) : vs.length = ps.length := by
  induction h with
  | nil => rfl
  | cons a _ ih => exact congrArg (· + 1) ih
theorem Prs.app {H : Hp} {vs us : List V} {ps qs : List Pl} (h : Prs H vs ps) (k : Prs H us qs) : Prs H (vs ++ us) (ps ++ qs) := by
  induction h with
  | nil => exact k
  | cons a _ ih => exact .cons a ih
theorem Prs.snoc {H : Hp} {vs : List V} {v : V} {ps : List Pl} {p : Pl} (h : Prs H vs ps) (k : Pr H v p) : Prs H (vs ++ [v]) (ps ++ [p]) := h.app (.cons k .nil)
theorem Prs.at {H : Hp} {vs : List V} {ps : List Pl} (h : Prs H vs ps) : ∀ {i : Nat} {v : V}, vs[i]? = some v → ∃ p, ps[i]? = some p ∧ Pr H v p := by
  induction h with
  | nil => intro i v e; cases e
  | cons a _ ih =>
    intro i v e
    cases i with
    | zero => cases e; exact ⟨_, rfl, a⟩
    | succ i => exact ih e
theorem Prs.take {H : Hp} {vs : List V} {ps : List Pl} (h : Prs H vs ps) : ∀ n, Prs H (vs.take n) (ps.take n) := by
  induction h with
  | nil => intro n; cases n <;> exact .nil
  | cons a _ ih => intro n; cases n with
    | zero => exact .nil
    | succ n => exact .cons a (ih n)
theorem Prs.drop {H : Hp} {vs : List V} {ps : List Pl} (h : Prs H vs ps) : ∀ n, Prs H (vs.drop n) (ps.drop n) := by
  induction h with
  | nil => intro n; cases n <;> exact .nil
  | cons a r ih => intro n; cases n with
    | zero => exact .cons a r
    | succ n => exact ih n
theorem Prs.mem {H : Hp} {vs : List V} {ps : List Pl} (h : Prs H vs ps) {v : V} (m : v ∈ vs) : ∃ p ∈ ps, Pr H v p := by
  induction h with
  | nil => cases m
  | cons a _ ih =>
    rcases List.mem_cons.mp m with e | m
    · subst e; exact ⟨_, List.mem_cons_self, a⟩
    · obtain ⟨p, hp, k⟩ := ih m
      exact ⟨p, List.mem_cons_of_mem _ hp, k⟩
def dP (p : Pl) : PyData := .tuple [.int p.1, .int p.2]
def dL (ps : List Pl) : PyData := .list (ps.map dP)
theorem Pr.dp {K : PySem.W.Frag} {H : Hp} {v : V} {p : Pl} (h : Pr H v p) : Dp K H v (dP p) := by
  obtain ⟨t, rfl, h⟩ := h
  exact .tup (SqT.of h) (.cons (.int _) (.cons (.int _) .nil))
theorem Prs.dps {K : PySem.W.Frag} {H : Hp} {vs : List V} {ps : List Pl} (h : Prs H vs ps) : DpAll K H vs (ps.map dP) := by
  induction h with
  | nil => exact .nil
  | cons a _ ih => exact .cons a.dp ih
theorem Prs.dl {K : PySem.W.Frag} {H : Hp} {l : Addr} {vs : List V} {ps : List Pl} (h : Prs H vs ps) (e : SqL K H l vs) : Dp K H (.ref l) (dL ps) := .lst e h.dps
theorem eqv_int (a b : Int) : PyData.eqv (.int a) (.int b) = decide (a = b) := by
  rw [PyData.eqv]
  rfl
theorem eqv_dP (p q : Pl) : PyData.eqv (dP p) (dP q) = decide (p = q) := by
  obtain ⟨a, b⟩ := p
  obtain ⟨c, d⟩ := q
  show PyData.eqvAll [.int a, .int b] [.int c, .int d] = _
  simp only [PyData.eqvAll, eqv_int, Prod.ext_iff, Bool.and_true, Bool.decide_and]
theorem lay_dPs : ∀ ps : List Pl, PyData.canLayAll0 (ps.map dP) = true
  | [] => rfl
  | _ :: ps => by
    show (true && PyData.canLayAll0 (ps.map dP)) = true
    rw [lay_dPs ps]
    rfl
theorem depth_dPs : ∀ ps : List Pl, PyData.depthAll (ps.map dP) ≤ 1
  | [] => by show 0 ≤ 1; omega
  | _ :: ps => by
    have ih := depth_dPs ps
    show max 1 (PyData.depthAll (ps.map dP)) ≤ 1
    omega
theorem sh_dP (p : Pl) : SeqAt.shaped (dP p) = true := rfl
theorem sh_dL (ps : List Pl) : SeqAt.shaped (dL ps) = true := by
  have h := depth_dPs ps
  unfold SeqAt.shaped dL
  rw [show PyData.canLay0 (.list (ps.map dP)) = PyData.canLayAll0 (ps.map dP) from rfl, lay_dPs]
  refine decide_eq_true ?_
  show PyData.depthAll (ps.map dP) + 1 ≤ 64
  omega
theorem any_dP (ps : List Pl) (p : Pl) : ((ps.map dP).any fun z => PyData.eqv z (dP p)) = decide (p ∈ ps) := by
  induction ps with
  | nil => simp
  | cons q ps ih =>
    rw [List.map_cons, List.any_cons, ih, eqv_dP]
    by_cases h1 : q = p
    · subst h1; simp
    · have h2 : ¬ p = q := fun z => h1 z.symm
      simp [h1, h2]
end Pk
namespace Pk
open PySem L2
def lp (p q : Pl) : Prop := p.1 < q.1 ∨ (p.1 = q.1 ∧ p.2 ≤ q.2)
instance : DecidableRel lp := fun p q => inferInstanceAs (Decidable (p.1 < q.1 ∨ (p.1 = q.1 ∧ p.2 ≤ q.2)))
theorem lp_trans {p q r : Pl} (h : lp p q) (k : lp q r) : lp p r := by unfold lp at *; omega
theorem lp_total (p q : Pl) : lp p q ∨ lp q p := by unfold lp; omega
theorem lp_anti {p q : Pl} (h : lp p q) (k : lp q p) : p = q := by
  unfold lp at *
  exact Prod.ext (by omega) (by omega)
def insP (p : Pl) : List Pl → List Pl
  | [] => [p]
  | q :: r => if lp p q then p :: q :: r else q :: insP p r
def sortP : List Pl → List Pl
  | [] => []
  | p :: r => insP p (sortP r)
theorem insP_perm (p : Pl) : ∀ r, (insP p r).Perm (p :: r)
  | [] => .refl _
  | q :: r => by
    unfold insP
    split
    · exact .refl _
    · exact ((insP_perm p r).cons q).trans (.swap p q r)
theorem sortP_perm : ∀ r, (sortP r).Perm r
  | [] => .nil
  | p :: r => (insP_perm p (sortP r)).trans ((sortP_perm r).cons p)
theorem insP_pw (p : Pl) : ∀ {r}, List.Pairwise lp r → (insP p r).Pairwise lp
  | [], _ => List.pairwise_singleton _ _
  | q :: r, h => by
    unfold insP
    have hq : ∀ {x}, x ∈ r → lp q x := fun m => List.rel_of_pairwise_cons h m
    split
    · rename_i c
      refine List.pairwise_cons.mpr ⟨fun x hx => ?_, h⟩
      rcases List.mem_cons.mp hx with e | hx
      · rw [e]; exact c
      · exact lp_trans c (hq hx)
    · rename_i c
      refine List.pairwise_cons.mpr ⟨fun x hx => ?_, insP_pw p (List.Pairwise.of_cons h)⟩
      rcases List.mem_cons.mp ((insP_perm p r).mem_iff.mp hx) with e | hx
      · rw [e]; exact (lp_total p q).resolve_left c
      · exact hq hx
theorem sortP_pw : ∀ r, (sortP r).Pairwise lp
  | [] => .nil
  | p :: r => insP_pw p (sortP_pw r)
theorem pw_uniq : ∀ {a b : List Pl}, a.Perm b → a.Pairwise lp → b.Pairwise lp → a = b
  | [], b, h, _, _ => h.nil_eq
  | p :: a, [], h, _, _ => absurd h.length_eq (by simp)
  | p :: a, q :: b, h, ha, hb => by
    have e : p = q := by
      rcases List.mem_cons.mp (h.mem_iff.mp List.mem_cons_self) with e | m
      · exact e
      · rcases List.mem_cons.mp (h.mem_iff.mpr List.mem_cons_self) with e | m'
        · exact e.symm
        · exact lp_anti (List.rel_of_pairwise_cons ha m') (List.rel_of_pairwise_cons hb m)
    subst e
    rw [pw_uniq ((List.perm_cons p).mp h) ha.of_cons hb.of_cons]
theorem sortP_of {a b : List Pl} (h : a.Perm b) (ha : a.Pairwise lp) : a = sortP b := pw_uniq (h.trans (sortP_perm b).symm) ha (sortP_pw b)
theorem sortP_congr {a b : List Pl} (h : a.Perm b) : sortP a = sortP b := sortP_of ((sortP_perm a).trans h) (sortP_pw a)
theorem sortP_mem {p : Pl} {r : List Pl} : p ∈ sortP r ↔ p ∈ r := (sortP_perm r).mem_iff
theorem sortP_len (r : List Pl) : (sortP r).length = r.length := (sortP_perm r).length_eq
theorem sortP_nd {r : List Pl} : (sortP r).Nodup ↔ r.Nodup := (sortP_perm r).nodup_iff
/-- each place once -/
def nub : List Pl → List Pl
  | [] => []
  | p :: r => if p ∈ r then nub r else p :: nub r
theorem nub_mem {p : Pl} : ∀ {r : List Pl}, p ∈ nub r ↔ p ∈ r
  | [] => Iff.rfl
  | q :: r => by
    unfold nub
    split
    · rename_i h
      rw [nub_mem (r := r), List.mem_cons]
      exact ⟨.inr, fun k => k.elim (fun e => by rw [e]; exact h) id⟩
    · rw [List.mem_cons, List.mem_cons, nub_mem (r := r)]
theorem nub_nd : ∀ r : List Pl, (nub r).Nodup
  | [] => .nil
  | p :: r => by
    unfold nub
    split
    · exact nub_nd r
    · rename_i h
      exact List.nodup_cons.mpr ⟨fun m => h (nub_mem.mp m), nub_nd r⟩
theorem nub_le : ∀ r : List Pl, (nub r).length ≤ r.length
  | [] => Nat.le_refl _
  | p :: r => by
    unfold nub
    have := nub_le r
    split
    · rw [List.length_cons]; omega
    · rw [List.length_cons, List.length_cons]; omega
theorem nub_lt : ∀ r : List Pl, (nub r).length < r.length ↔ ¬ r.Nodup
  | [] => by simp [nub]
  | p :: r => by
    have ih := nub_lt r
    have hl := nub_le r
    unfold nub
    rw [List.nodup_cons]
    split
    · rename_i h
      rw [List.length_cons]
      exact ⟨fun _ k => k.1 h, fun _ => by omega⟩
    · rename_i h
      rw [List.length_cons, List.length_cons, Nat.add_lt_add_iff_right, ih]
      exact ⟨fun k z => k z.2, fun k z => k ⟨h, z⟩⟩
/-- a set of places stands at a -/
def SetOf (P : Program) (w : World) (H : Hp) (a : Addr) (ps : List Pl) : Prop := ∃ L : List (Addr × List Int), H a = some (SetTO P w a L) ∧
  (∀ x ∈ L, ∃ p ∈ ps, x.2 = [p.1, p.2] ∧ H x.1 = some (.tup [.int p.1, .int p.2])) ∧ ∀ p ∈ ps, [p.1, p.2] ∈ L.map (·.2)
section
variable {X : Cx} {pins : List (Addr × Obj)} {σ : St} {H : Hp} {s : Shared}
def toP (x : Addr × List Int) : Pl := (x.2.getD 0 0, x.2.getD 1 0)
theorem setOf_list {P : Program} {w : World} {a : Addr} {ps : List Pl} {L : List (Addr × List Int)}
    (h1 : ∀ x ∈ L, ∃ p ∈ ps, x.2 = [p.1, p.2] ∧ H x.1 = some (.tup [.int p.1, .int p.2])) (h2 : ∀ p ∈ ps, [p.1, p.2] ∈ L.map (·.2)) (nd : (L.map (·.2)).Nodup) :
    (L.map toP).Nodup ∧ ∀ p, p ∈ L.map toP ↔ p ∈ ps := by
  constructor
  · refine List.pairwise_map.mpr (List.Pairwise.imp_of_mem (fun {x y} hx hy ne e => ?_) (List.pairwise_map.mp nd))
    obtain ⟨p, _, ep, _⟩ := h1 x hx
    obtain ⟨q, _, eq, _⟩ := h1 y hy
    unfold toP at e
    rw [ep, eq] at e
    apply ne
    rw [ep, eq]
    have e1 : p.1 = q.1 := (Prod.mk.inj e).1
    have e2 : p.2 = q.2 := (Prod.mk.inj e).2
    rw [e1, e2]
  · intro p
    constructor
    · intro m
      obtain ⟨x, hx, rfl⟩ := List.mem_map.mp m
      obtain ⟨p, hp, ep, _⟩ := h1 x hx
      unfold toP
      rw [ep]
      exact hp
    · intro m
      obtain ⟨x, hx, e⟩ := List.mem_map.mp (h2 p m)
      refine List.mem_map.mpr ⟨x, hx, ?_⟩
      unfold toP
      rw [e]
      rfl
/-- set(xs), xs a list of places -/
def rSetP (K : PySem.W.Frag) (P : Program) (w : World) : List V → Hp → VK → Prop := fun xs H Q => ∃ (l : Addr) (vs : List V) (ps : List Pl), xs = [.ref l] ∧ SqL K H l vs ∧ Prs H vs ps ∧ ps.length < 64 ∧
  ∀ (H' : Hp) (a : Addr), H a = none → Same H H' → SetOf P w H' a ps → Q (.ref a) H'
theorem prs_ks {K : PySem.W.Frag} {vs : List V} {ps : List Pl} (h : Prs H vs ps) : ∃ ks : List (Addr × List Int), vs = ks.map (fun p => V.ref p.1) ∧ (∀ x ∈ ks, ∃ p ∈ ps, x.2 = [p.1, p.2] ∧ H x.1 = some (.tup [.int p.1, .int p.2])) ∧ ks.map (·.2) = ps.map (fun p => [p.1, p.2]) := by
  induction h with
  | nil => exact ⟨[], rfl, fun x hx => (nomatch hx), rfl⟩
  | @cons v p vs ps a _ ih =>
    obtain ⟨t, rfl, ht⟩ := a
    obtain ⟨ks, e, k, m⟩ := ih
    refine ⟨(t, [p.1, p.2]) :: ks, by rw [e]; rfl, fun x hx => ?_, by rw [List.map_cons, m]; rfl⟩
    rcases List.mem_cons.mp hx with z | z
    · subst z
      exact ⟨p, List.mem_cons_self, rfl, ht⟩
    · obtain ⟨q, hq, r⟩ := k x z
      exact ⟨q, List.mem_cons_of_mem _ hq, r⟩
theorem cr_setP (hc : X.calm = true) (hu : X.A.units + 64 < cLine) : CallR X (.type "set") (rSetP X.K X.prog X.w) := by
  intro pins s σ H xs us Q I r h
  obtain ⟨l, vs, ps, rfl, hl, hp, hn, q⟩ := h
  obtain ⟨ks, rfl, hk, hm⟩ := prs_ks (K := X.K) hp
  refine cr_setOfT hc hu pins s σ H [.ref l] us Q I r ⟨l, ks, rfl, hl, fun x hx => ?_, ?_, fun a L ha h1 h2 => ?_⟩
  · obtain ⟨p, _, e, k⟩ := hk x hx
    rw [e]
    exact SqT.of k
  · have e := congrArg List.length hm
    rw [List.length_map, List.length_map] at e
    omega
  · have sm : Same H (upd H a (SetTO X.prog X.w a L)) := fun b o e => by
      rw [upd_ne (ne_of_none e ha)]
      exact e
    refine q _ a ha sm ⟨L, upd_same, fun x hx => ?_, fun p hp => ?_⟩
    · obtain ⟨p, hp, e, k⟩ := hk x (h1 x hx)
      exact ⟨p, hp, e, sm _ _ k⟩
    · have m : [p.1, p.2] ∈ ks.map (·.2) := by
        rw [hm]
        exact List.mem_map.mpr ⟨p, hp, rfl⟩
      obtain ⟨x, hx, e⟩ := List.mem_map.mp m
      rw [← e]
      exact h2 x hx
/-- len(s), s a set of places -/
theorem call_lenP : CallR X (.builtin "len") (fun xs H Q => ∃ (a : Addr) (ps : List Pl), xs = [.ref a] ∧ SetOf X.prog X.w H a ps ∧ Q (.int (nub ps).length) H) := by
  intro pins s σ H xs us Q I r h
  obtain ⟨a, ps, rfl, ⟨L, ha, h1, h2⟩, q⟩ := h
  rw [Vals.ref1 r]
  have R0 : SetT0 X.prog X.w s.heap a L := (I.hok a _ ha).1
  obtain ⟨es, ep, t, R⟩ := R0.full fun x hx => by
    obtain ⟨p, _, e, k⟩ := h1 x hx
    have z : SqT X.K H x.1 (x.2.map V.int) := by rw [e]; exact SqT.of k
    exact I.isT z
  obtain ⟨o, ho, hex, hd⟩ := R.ob
  obtain ⟨n1, n2⟩ := setOf_list (P := X.prog) (w := X.w) (a := a) h1 h2 R0.ex.choose_spec.choose_spec.choose_spec.2.2.2.1
  have hl : L.length = (nub ps).length := by
    have z : (L.map toP).Perm (nub ps) := (List.perm_ext_iff_of_nodup n1 (nub_nd ps)).mpr fun p => (n2 p).trans nub_mem.symm
    have z2 := z.length_eq
    rw [List.length_map] at z2
    exact z2
  have hsz := R.size
  have hfew := R.few
  refine call_len_set ho hex hd R.fits (by omega) ⟨.int (nub ps).length, H, I.tok _, ⟨_, by rw [hsz, hl]⟩, q⟩
end
end Pk
namespace Pk
open PySem L2 PyProof.Rows
/-- what place a value stands for -/
def plAt (H : Hp) (v : V) : Pl := match v with
  | .ref t => (match H t with
    | some (.tup [.int a, .int b]) => (a, b)
    | _ => (0, 0))
  | _ => (0, 0)
theorem plAt_of {H : Hp} {v : V} {p : Pl} (h : Pr H v p) : plAt H v = p := by
  obtain ⟨t, rfl, h⟩ := h
  show (match H t with
    | some (.tup [.int a, .int b]) => (a, b)
    | _ => (0, 0)) = p
  rw [h]
theorem prs_plAt {H : Hp} {vs : List V} {ps : List Pl} (h : Prs H vs ps) : vs.map (plAt H) = ps := by
  induction h with
  | nil => rfl
  | cons a _ ih => rw [List.map_cons, ih, plAt_of a]
theorem prs_of_mem {H : Hp} : ∀ {ys : List V}, (∀ y ∈ ys, ∃ p, Pr H y p) → Prs H ys (ys.map (plAt H))
  | [], _ => .nil
  | y :: ys, h => by
    obtain ⟨p, hp⟩ := h y List.mem_cons_self
    refine .cons ?_ (prs_of_mem fun z hz => h z (List.mem_cons_of_mem _ hz))
    rw [plAt_of hp]
    exact hp
theorem prs_perm {H : Hp} {xs ys : List V} {ps : List Pl} (h : Prs H xs ps) (m : ys.Perm xs) : Prs H ys (ys.map (plAt H)) ∧ (ys.map (plAt H)).Perm ps := by
  refine ⟨prs_of_mem fun y hy => ?_, ?_⟩
  · obtain ⟨p, _, k⟩ := h.mem (m.mem_iff.mp hy)
    exact ⟨p, k⟩
  · have e := m.map (plAt H)
    rw [prs_plAt h] at e
    exact e
def rSortP (K : PySem.W.Frag) : List V → Hp → VK → Prop := fun vs H Q => ∃ (a : Addr) (xs : List V) (ps : List Pl), vs = [.ref a] ∧ SqL K H a xs ∧ Prs H xs ps ∧
  ∀ (p : Addr) (ys : List V), H p = none → Prs H ys (sortP ps) → Q (.ref p) (upd H p (.lst ys))
section
variable {X : Cx}
theorem call_sortP : CallR X (.builtin "sorted") (rSortP X.K) := by
  intro pins s σ H vs us Q I r h
  obtain ⟨a, xs, ps, rfl, hs, hp, q⟩ := h
  refine cr_sortedPO pins s σ H [.ref a] us Q I r ⟨a, xs, plAt H, rfl, hs, fun x hx => ?_, fun ys p h1 h2 hn => ?_⟩
  · obtain ⟨p, _, t, e, k⟩ := hp.mem hx
    refine ⟨t, e, ?_⟩
    have z : plAt H x = p := plAt_of ⟨t, e, k⟩
    rw [z]
    exact k
  · obtain ⟨k1, k2⟩ := prs_perm hp h2.perm
    have e : ys.map (plAt H) = sortP ps := sortP_of k2 (List.pairwise_map.mpr (List.Pairwise.imp (fun {x y} z => by
      have z1 : SrtO.lexB (plAt H y) (plAt H x) = false := z
      have z2 := SrtO.lexB_no.mp z1
      unfold lp
      omega) h1))
    rw [e] at k1
    exact q p ys hn k1
end
end Pk
namespace Pk
open PySem L2 PySem.Spec PyProof.Rows
/-- the ends of a clause whose name stands in slot i: behind it the slot is empty -/
def asEnds (i : Nat) (D : Ends) : Ends := { nx := fun τ G => D.nx (τ.set i none) G, rt := D.rt, bk := fun τ G => D.bk (τ.set i none) G, ct := fun τ G => D.ct (τ.set i none) G }
abbrev Sui := Addr → Value → Option Addr → TS
/-- what the clauses wish of an error of the body -/
def wNext (K : PySem.W.Frag) (Wo : WX) (D : Ends) : List (Value × Option Nat × Sui) → WX
  | [] => Wo
  | (c, none, ts) :: more => fun cls d τ G => ∃ b, PySem.W.exmOne K cls c = some b ∧ (b = true → ∀ x, G x = none → ts x cls d D τ G) ∧ (b = false → wNext K Wo D more cls d τ G)
  | (c, some i, ts) :: more => fun cls d τ G => ∃ b, PySem.W.exmOne K cls c = some b ∧ (b = true → ∀ x, G x = none → ts x cls d (asEnds i D) (τ.set i (some (.ref x))) G) ∧ (b = false → wNext K Wo D more cls d τ G)
/-- try: the body's reading, its errors wished for as the clauses take them -/
def tTry (K : PySem.W.Frag) (Wo : WX) (l : List (Value × Option Nat × Sui)) (tb : WX → TS) : TS := fun D τ G => tb (wNext K Wo D l) D τ G
inductive Clauses (X : Cx) : List ExceptHandler → List (Value × Option Nat × Sui) → Prop
  | nil : Clauses X [] []
  | plain {x : Str} {c : Value} {ts : Sui} {s0 : Stmt} {su : List Stmt} {p1 p2 : Pos} {hs : List ExceptHandler} {l : List (Value × Option Nat × Sui)} (hc : Names X x c)
      (hsu : ∀ (a : Addr) (oe : Obj) (cls : Value) (d : Option Addr) (pn : List (Addr × Obj)), Zc cls d oe → (∃ vs, oe.data = .fields vs) → PSs (X.suite a ((a, oe) :: pn)) (s0 :: su) (ts a cls d)) (more : Clauses X hs l) :
      Clauses X (.ExceptHandler (some (.Name x p1)) none (s0 :: su) p2 :: hs) ((c, none, ts) :: l)
  | named {x n : Str} {i : Nat} {c : Value} {ts : Sui} {s0 : Stmt} {su : List Stmt} {p1 p2 : Pos} {hs : List ExceptHandler} {l : List (Value × Option Nat × Sui)} (hN : X.N.Nodup) (hi : X.N[i]? = some n) (hn : X.env.kindOf n = some .local) (hc : Names X x c)
      (hsu : ∀ (a : Addr) (oe : Obj) (cls : Value) (d : Option Addr) (pn : List (Addr × Obj)), Zc cls d oe → (∃ vs, oe.data = .fields vs) → PSs (X.suite a ((a, oe) :: pn)) (s0 :: su) (ts a cls d)) (more : Clauses X hs l) :
      Clauses X (.ExceptHandler (some (.Name x p1)) (some n) (s0 :: su) p2 :: hs) ((c, some i, ts) :: l)
section
variable {X : Cx} {body : List Stmt} {c0 : ExceptHandler} {cs : List ExceptHandler} {l : List (Value × Option Nat × Sui)} {pos : Pos} {tb : WX → TS} {Wo : WX}
theorem ps_try_next (hst : X.stack = X.env :: X.outer) (hfm : X.env.frame = some X.env.locals) (tk : Takes X Wo)
    (hbody : ∀ (W : WX) (pn : List (Addr × Obj)) (xe : Value → Shared → Prop), Takes (X.tr pn xe) W → PassesOwn (model X.prog X.w) X.A X.env xe → PSs (X.tr pn xe) body (tb W))
    (hcs : Clauses X (c0 :: cs) l) : PS X (.Try body (c0 :: cs) [] [] pos) (tTry X.K Wo l tb) := by
  refine ⟨fun pins s τ G D I hw => ?_⟩
  have kk := I.ok
  have hfrs : X.A.frames = some (X.env :: X.outer) := by rw [kk.frames, hst]
  let M := model X.prog X.w
  refine wpAny_Try_except ?_
  refine wpAny_mono ((hbody (wNext X.K Wo D l) (X.pn ++ pins) (fun e s₁ => wpAny M X.A (noteFrame e X.env) (fun _ s₂ => wpAny M X.A (setFlight e none) (fun _ s₃ => wpAny M X.A (handleBy e X.env (c0 :: cs)) (SP X pins D) X.xe s₃) X.xe s₂) X.xe s₁)
    (fun u s' xx => ?_) PassesOwn.looking).run [] s τ G D (I.toTry _) hw) (fun fl s1 hsp => ?_) (fun e s1 he => he)
  · obtain ⟨a, B, sI, pins', τ', G', cls, d, rfl, J0, nb, up, sky, na, hos, hag, wish⟩ := xx
    have J : Inv X pins τ' G' sI := J0.ofTry kk
    have sk : Sky B (X.env :: X.outer) a (Zc cls d) X.env.locals s'.heap := hst ▸ sky
    show wpAny M X.A (noteFrame (.ref a) X.env) _ _ _
    refine Sky.land Zc.steady hfrs hfm sk fun h3 fl3 up3 => ?_
    have J3 : Inv X pins τ' G' { s' with heap := h3 } := J.landed nb fl3.1 (up.trans up3) hos hag
    obtain ⟨oe3, vs3, he3, hz3, hd3⟩ := fl3.there
    have nfr : a ∉ frs (X.env :: X.outer) := fun hm => by
      obtain ⟨_, o', e', hnf⟩ := fl3.2.2.1.mem hm
      rw [he3] at e'
      cases e'
      exact hnf _ hd3
    have nL : a ≠ X.env.locals := fun z => nfr (List.mem_filterMap.mpr ⟨X.env, List.mem_cons_self, by rw [hfm, z]⟩)
    have nF : a ∉ X.fs := fun hm => by
      obtain ⟨e, he, q⟩ := List.mem_filterMap.mp hm
      exact nfr (List.mem_filterMap.mpr ⟨e, List.mem_cons_of_mem _ he, q⟩)
    have S3 := J3.suite he3 hd3 na nL nF
    have LT : PySem.W.Looks M h3 (typeOf (.ref a)) cls := fun A Q E s k q => wpAny_typeOf_ref (k _ _ he3) (by rw [hz3.1]; exact q)
    have test : ∀ {x : Str} {c : Value} {p1 : Pos} {Q : Value → Shared → Prop} {E : Value → Shared → Prop}, Names X x c → Q c { s' with heap := h3 } → wpAny M (X.A.mark (some (.ref a))) (eval (.Name x p1) X.env) Q E { s' with heap := h3 } :=
      fun {x c p1 Q E} hc q => by
        obtain ⟨hg, hdbg, hm | ⟨hm, hv, hnn⟩⟩ := hc
        · exact ld_glob (X := X.suite a ((a, oe3) :: (X.pn ++ pins))) S3 hg hm q hdbg
        · exact ld_blt (X := X.suite a ((a, oe3) :: (X.pn ++ pins))) S3 hg hm hv q hnn hdbg
    have each : ∀ {hs : List ExceptHandler} {l' : List (Value × Option Nat × Sui)}, Clauses X hs l' → wNext X.K Wo D l' cls d τ' G' → wpAny M X.A (handleBy (.ref a) X.env hs) (SP X pins D) X.xe { s' with heap := h3 } := by
      intro hs l' hk
      induction hk with
      | nil =>
        intro wish
        refine wpAny_handleBy_nil ?_
        obtain ⟨k1, k2, k3, oe, vs, T, oT, ts', he, hz, hd, hf1, hr⟩ := id fl3
        unfold PySem.passOn
        refine wpAny_bind (wpAny_field he hd hf1 ?_)
        rw [if_neg (show ¬ ((Value.ref T == Value.none) = true) from by simp)]
        have out : wpAny M X.A (setFlight (.ref a) X.env.frame) (fun _ s4 => wpAny M X.A (throw (.ref a) : Sem Flow) (SP X pins D) X.xe s4) X.xe { s' with heap := h3 } := by
          rw [hfm]
          refine HandSPX.setFlight_upZ fl3 fun h4 hh4 up4 => wpAny_throw (tk _ _ ?_)
          exact ⟨a, B, sI, pins, τ', G', cls, d, rfl, J, nb, (up.trans up3).trans up4, .inr (.inr (hst ▸ hh4)), na, hos, hag, wish⟩
        first
          | exact wpAny_bind (wpAny_pure (wpAny_bind out))
          | exact wpAny_bind out
      | plain hc hsu more ih =>
        intro wish
        obtain ⟨b, hb1, yes, no⟩ := wish
        refine wpAny_handleBy_cons (codeAny_handlers_test ?_) (by intro q; cases q)
        refine test hc ((PySem.W.exm_one (M := M) J3.kIn LT hb1).here ?_)
        cases b with
        | false => exact ih (no rfl)
        | true =>
          refine codeAny_handlers_suite (HandSPX.lands_againZ fl3 fun h4 fl4 up4 => ?_)
          have J4 : Inv X pins τ' G' { s' with heap := h4 } := J.landed nb fl4.1 ((up.trans up3).trans up4) hos hag
          obtain ⟨oe4, vs4, he4, hz4, hd4⟩ := fl4.there
          refine wpAny_mono ((hsu a oe4 cls d (X.pn ++ pins) hz4 ⟨_, hd4⟩).run [] _ _ G' _ (J4.suite he4 hd4 na nL nF) (yes rfl a na)) (fun f s6 hsp => ?_) (fun _ _ z => z.elim)
          cases f with
          | ret u =>
            obtain ⟨v6, τ6, G6, S6, r6, q6⟩ := hsp
            exact ⟨v6, τ6, G6, S6.unsuite kk, r6, q6⟩
          | next =>
            obtain ⟨τ6, G6, S6, q6⟩ := hsp
            exact ⟨τ6, G6, S6.unsuite kk, q6⟩
          | brk =>
            obtain ⟨τ6, G6, S6, q6⟩ := hsp
            exact ⟨τ6, G6, S6.unsuite kk, q6⟩
          | cont =>
            obtain ⟨τ6, G6, S6, q6⟩ := hsp
            exact ⟨τ6, G6, S6.unsuite kk, q6⟩
      | named hN hi hn hc hsu more ih =>
        intro wish
        obtain ⟨b, hb1, yes, no⟩ := wish
        refine wpAny_handleBy_cons (codeAny_handlers_test ?_) (by intro q; cases q)
        refine test hc ((PySem.W.exm_one (M := M) J3.kIn LT hb1).here ?_)
        cases b with
        | false => exact ih (no rfl)
        | true =>
          refine codeAny_handlers_suite_as (HandSPX.lands_againZ fl3 fun h4 fl4 up4 => ?_)
          have J4 : Inv X pins τ' G' { s' with heap := h4 } := J.landed nb fl4.1 ((up.trans up3).trans up4) hos hag
          obtain ⟨oe4, vs4, he4, hz4, hd4⟩ := fl4.there
          refine store_ok (X := X.suite a ((a, oe4) :: (X.pn ++ pins))) (v := .ref a) (J4.suite he4 hd4 na nL nF) hN hi (.inl hn) rfl (fun s5 S5 => ?_) (.inr hn)
          refine wpAny_mono ((hsu a oe4 cls d (X.pn ++ pins) hz4 ⟨_, hd4⟩).run [] s5 _ G' _ S5 (yes rfl a na)) (fun f s6 hsp => ?_) (fun _ _ z => z.elim)
          cases f with
          | ret u =>
            obtain ⟨v6, τ6, G6, S6, r6, q6⟩ := hsp
            exact gone_ok (S6.unsuite kk) hN hi hn fun s7 J7 => ⟨v6, _, G6, J7, r6, q6⟩
          | next =>
            obtain ⟨τ6, G6, S6, q6⟩ := hsp
            exact gone_ok (S6.unsuite kk) hN hi hn fun s7 J7 => ⟨_, G6, J7, q6⟩
          | brk =>
            obtain ⟨τ6, G6, S6, q6⟩ := hsp
            exact gone_ok (S6.unsuite kk) hN hi hn fun s7 J7 => ⟨_, G6, J7, q6⟩
          | cont =>
            obtain ⟨τ6, G6, S6, q6⟩ := hsp
            exact gone_ok (S6.unsuite kk) hN hi hn fun s7 J7 => ⟨_, G6, J7, q6⟩
    exact each hcs wish
  · cases fl with
    | ret u =>
      obtain ⟨v, τ', G', J', r, q⟩ := hsp
      exact ⟨v, τ', G', J'.ofTry kk, r, q⟩
    | next =>
      obtain ⟨τ', G', J', q⟩ := hsp
      exact wpAny_execs_nil ⟨τ', G', J'.ofTry kk, q⟩
    | brk =>
      obtain ⟨τ', G', J', q⟩ := hsp
      exact ⟨τ', G', J'.ofTry kk, q⟩
    | cont =>
      obtain ⟨τ', G', J', q⟩ := hsp
      exact ⟨τ', G', J'.ofTry kk, q⟩
end
end Pk
namespace Pk
open PySem L2 PySem.Spec PyProof.Rows
section
variable {X : Cx} {CX : CXT} {k : Nat} {C f : Addr} {fd : FuncData} {ps : List Str} {sp : Sp} {E : L2.St → XK} {x m : Str} {p pos apos : Pos} {o e : Expr} {es : List Expr} {ta : TE} {t : TA}
def tMethS (C : Addr) (m : Str) (sp : Sp) (E : L2.St → XK) (ta : TE) (t : TA) : TE := fun τ G Q => ta τ G fun x G1 => ∃ a dx fs, x = .ref a ∧ G1 a = some (.ins C dx fs) ∧ fs.lookup m = none ∧ t τ G1 fun vs G2 => sp (x :: vs) G2 Q (E τ)
theorem pe_methS {pl : Sem Bool} (ho : PE X o ta) (c : Cls X.K C) (hm : Meth X.K C m f) (F : FnOk X.prog X.w X.K X.mg X.base CX k f fd ps sp) (hr : Room k X.A) (hb : Binds X.K fd ps []) (hx : ∀ τ, PassesAt CX X τ (E τ)) (ha : PA X (e :: es) t)
    (h1 : starEach (e :: es) X.env = (false, eval e X.env) :: starEach es X.env := by rfl) (h2 : (backTo pos (starEach es X.env)).any (·.1) = false := by rfl)
    (h3 : eval (.Call (.Attribute o m apos) (e :: es) [] pos) X.env = (do
      let recv ← eval o X.env
      standAt apos.atName
      let (g, first) ← holding [recv] (getMethod recv m pl)
      callWith pos g first (backTo pos (starEach (e :: es) X.env)) (backToKw pos (keywordEach [] X.env))) := by rfl) :
    PE X (.Call (.Attribute o m apos) (e :: es) [] pos) (tMethS C m sp E ta t) := by
  refine ⟨fun pins s τ G Q I h => PySem.W.methodCall_KW (pl := pl) (thn (ho.run pins s τ G _ I h) fun u s1 hh => ?_) h3⟩
  obtain ⟨y, G1, I1, ry, a, dx, fs, rfl, ea, l, q⟩ := hh
  obtain rfl : u = Value.ref a := ry
  refine getmeth_ok I1 ea c hm l (PySem.W.callWith_K (first := [.ref a]) (h₀ := X.base) I.ok.mod.kin hm.kp (thn (ha.run pos pins s1 τ G1 _ I1 q) fun us s2 hh => ?_) h1 h2)
  obtain ⟨vs, G2, I2, r, q2⟩ := hh
  refine ⟨I2.kIn, run_fnSD (dvs := []) (ds := []) (E := E) (us := .ref a :: us) (vs := .ref a :: vs) F hr hb .nil (hx τ) I2 (.cons rfl r) ?_⟩
  rw [List.append_nil]
  exact q2
end
theorem Pr.over {H : Hp} {m : Addr} {zs ws : List V} {v : V} {p : Pl} (h : Pr H v p) (hm : H m = some (.lst zs)) : Pr (upd H m (.lst ws)) v p := by
  obtain ⟨t, rfl, h⟩ := h
  exact ⟨t, rfl, by rw [upd_ne (ne_of h hm (by intro z; cases z))]; exact h⟩
theorem Prs.over {H : Hp} {m : Addr} {zs ws vs : List V} {ps : List Pl} (h : Prs H vs ps) (hm : H m = some (.lst zs)) : Prs (upd H m (.lst ws)) vs ps := by
  induction h with
  | nil => exact .nil
  | cons a _ ih => exact .cons (a.over hm) ih
theorem Same.over {H0 H : Hp} {m : Addr} {o : HO} (k : Same H0 H) (n : H0 m = none) : Same H0 (upd H m o) := fun b u e => by
  rw [upd_ne (ne_of_none e n)]
  exact k b u e
end Pk
namespace Pk
open PySem L2 PySem.Spec PyProof.Rows
abbrev Tk := List L2.Key
/-- v is a tuple that holds k -/
def Kr (H : Hp) (v : V) (k : Tk) : Prop := ∃ t, v = .ref t ∧ H t = some (.tup (k.map kV))
theorem Kr.same {H H' : Hp} {v : V} {k : Tk} (h : Kr H v k) (z : Same H H') : Kr H' v k := by
  obtain ⟨t, rfl, h⟩ := h
  exact ⟨t, rfl, z _ _ h⟩
theorem Kr.over {H : Hp} {m : Addr} {zs ws : List V} {v : V} {k : Tk} (h : Kr H v k) (hm : H m = some (.lst zs)) : Kr (upd H m (.lst ws)) v k := by
  obtain ⟨t, rfl, h⟩ := h
  refine ⟨t, rfl, ?_⟩
  rw [upd_ne (ne_of h hm fun z => nomatch z)]
  exact h
inductive Krs (H : Hp) : List V → List Tk → Prop
  | nil : Krs H [] []
  | cons {v : V} {k : Tk} {vs : List V} {ks : List Tk} : Kr H v k → Krs H vs ks → Krs H (v :: vs) (k :: ks)
section
variable {H H' : Hp} {vs us : List V} {ks ls : List Tk}
theorem Krs.same (h : Krs H vs ks) (z : Same H H') : Krs H' vs ks := by
  induction h with
  | nil => exact .nil
  | cons a _ ih => exact .cons (a.same z) ih
theorem Krs.over {m : Addr} {zs ws : List V} (h : Krs H vs ks) (hm : H m = some (.lst zs)) : Krs (upd H m (.lst ws)) vs ks := by
  induction h with
  | nil => exact .nil
  | cons a _ ih => exact .cons (a.over hm) ih
theorem Krs.len (h : Krs H vs ks) : vs.length = ks.length := by
  induction h with
  | nil => rfl
  | cons a _ ih => exact congrArg (· + 1) ih
theorem Krs.app (h : Krs H vs ks) (g : Krs H us ls) : Krs H (vs ++ us) (ks ++ ls) := by
  induction h with
  | nil => exact g
  | cons a _ ih => exact .cons a ih
theorem Krs.snoc {v : V} {k : Tk} (h : Krs H vs ks) (g : Kr H v k) : Krs H (vs ++ [v]) (ks ++ [k]) := h.app (.cons g .nil)
theorem Krs.at (h : Krs H vs ks) : ∀ {i : Nat} {v : V}, vs[i]? = some v → ∃ k, ks[i]? = some k ∧ Kr H v k := by
  induction h with
  | nil => intro i v e; cases e
  | cons a _ ih =>
    intro i v e
    cases i with
    | zero => cases e; exact ⟨_, rfl, a⟩
    | succ i => exact ih e
theorem Krs.mem (h : Krs H vs ks) {v : V} (m : v ∈ vs) : ∃ k ∈ ks, Kr H v k := by
  induction h with
  | nil => cases m
  | cons a _ ih =>
    rcases List.mem_cons.mp m with e | m
    · subst e; exact ⟨_, List.mem_cons_self, a⟩
    · obtain ⟨k, hk, q⟩ := ih m
      exact ⟨k, List.mem_cons_of_mem _ hk, q⟩
/-- by their addresses -/
theorem Krs.split (h : Krs H vs ks) : ∃ L : List (Addr × Tk), vs = L.map (fun p => V.ref p.1) ∧ ks = L.map (·.2) ∧ ∀ p ∈ L, H p.1 = some (.tup (p.2.map kV)) := by
  induction h with
  | nil => exact ⟨[], rfl, rfl, fun p z => nomatch z⟩
  | cons a _ ih =>
    obtain ⟨t, rfl, e⟩ := a
    obtain ⟨L, rfl, rfl, q⟩ := ih
    refine ⟨(t, _) :: L, rfl, rfl, fun p hp => ?_⟩
    rcases List.mem_cons.mp hp with rfl | hp
    · exact e
    · exact q p hp
end
def kd : L2.Key → PyData
  | .inl i => .int i
  | .inr x => .str x
def dK (k : Tk) : PyData := .tuple (k.map kd)
def dKs (ks : List Tk) : PyData := .list (ks.map dK)
instance (k : Tk) (ks : List Tk) : Decidable (k ∈ ks) := decidable_of_iff (ks.any (fun q => decide (q = k)) = true) (by simp)
theorem dp_keys {K : PySem.W.Frag} {H : Hp} : ∀ k : Tk, DpAll K H (k.map kV) (k.map kd)
  | [] => .nil
  | .inl i :: k => .cons (.int i) (dp_keys k)
  | .inr x :: k => .cons (.str x) (dp_keys k)
theorem Kr.dp {K : PySem.W.Frag} {H : Hp} {v : V} {k : Tk} (h : Kr H v k) : Dp K H v (dK k) := by
  obtain ⟨t, rfl, h⟩ := h
  exact .tup (SqT.of h) (dp_keys k)
theorem Krs.dps {K : PySem.W.Frag} {H : Hp} {vs : List V} {ks : List Tk} (h : Krs H vs ks) : DpAll K H vs (ks.map dK) := by
  induction h with
  | nil => exact .nil
  | cons a _ ih => exact .cons a.dp ih
theorem Krs.dl {K : PySem.W.Frag} {H : Hp} {l : Addr} {vs : List V} {ks : List Tk} (h : Krs H vs ks) (e : SqL K H l vs) : Dp K H (.ref l) (dKs ks) := .lst e h.dps
end Pk
namespace Pk
open PySem L2 PySem.Spec PyProof.Rows GxR NdefX
structure Kp (H H' : Hp) : Prop where
  at_ : ∀ b o, H b = some o → (∀ ps, o ≠ .tbl ps) → H' b = some o
  tab : ∀ P, TabG H P → TabG H' P
theorem kpS {H H' : Hp} (h : Same H H') : Kp H H' := ⟨fun b o e _ => h b o e, fun P ⟨ps, e, t⟩ => ⟨ps, h _ _ e, t⟩⟩
theorem Kp.refl (H : Hp) : Kp H H := kpS (Same.refl H)
theorem Kp.trans {H H1 H2 : Hp} (a : Kp H H1) (b : Kp H1 H2) : Kp H H2 := ⟨fun c o e n => b.at_ c o (a.at_ c o e n) n, fun P h => b.tab P (a.tab P h)⟩
theorem Tabbed.kp {P : Addr} {H H' : Hp} (h : Tabbed P H H') (t : TabG H P) : Kp H H' := by
  obtain ⟨ps, e0, t0⟩ := t
  refine ⟨fun b o e n => ?_, fun P' ⟨qs, e, t'⟩ => ?_⟩
  · rw [h.2 b fun z => by rw [z, e0] at e; exact n ps (Option.some.inj e).symm]
    exact e
  · by_cases z : P' = P
    · rw [z]
      exact h.1
    · exact ⟨qs, by rw [h.2 _ z]; exact e, t'⟩
section
variable {H H' : Hp}
theorem Kp.ins (k : Kp H H') {b C dx : Addr} {fs : List (Str × V)} (e : H b = some (.ins C dx fs)) : H' b = some (.ins C dx fs) := k.at_ _ _ e fun _ z => nomatch z
theorem Kp.lst (k : Kp H H') {b : Addr} {xs : List V} (e : H b = some (.lst xs)) : H' b = some (.lst xs) := k.at_ _ _ e fun _ z => nomatch z
theorem Kp.tup (k : Kp H H') {b : Addr} {xs : List V} (e : H b = some (.tup xs)) : H' b = some (.tup xs) := k.at_ _ _ e fun _ z => nomatch z
theorem Kp.dT (k : Kp H H') {b : Addr} {kvs : List (Tk × V)} (e : H b = some (.dT kvs)) : H' b = some (.dT kvs) := k.at_ _ _ e fun _ z => nomatch z
theorem Kp.frz (k : Kp H H') {b : Addr} {o : Obj} {u : HO} (e : H b = some (.frz o u)) : H' b = some (.frz o u) := k.at_ _ _ e fun _ z => nomatch z
theorem Kp.seq {K : PySem.W.Frag} (k : Kp H H') {a : Addr} {xs : List V} (h : SqL K H a xs) : SqL K H' a xs := by
  rcases h with (h | ⟨o, h⟩) | h
  · exact .inl (.inl (k.lst h))
  · exact .inl (.inr ⟨o, k.frz h⟩)
  · exact .inr h
theorem Kp.free (k : Kp H H') {l : Addr} (h : H' l = none) : H l = none ∨ ∃ ps, H l = some (.tbl ps) := by
  cases q : H l with
  | none => exact .inl rfl
  | some o =>
    by_cases t : ∃ ps, o = .tbl ps
    · obtain ⟨ps, rfl⟩ := t
      exact .inr ⟨ps, rfl⟩
    · rw [k.at_ _ _ q fun ps z => t ⟨ps, z⟩] at h
      cases h
theorem Kr.kp {v : V} {x : Tk} (h : Kr H v x) (k : Kp H H') : Kr H' v x := by
  obtain ⟨t, rfl, h⟩ := h
  exact ⟨t, rfl, k.tup h⟩
theorem Krs.kp {vs : List V} {ks : List Tk} (h : Krs H vs ks) (k : Kp H H') : Krs H' vs ks := by
  induction h with
  | nil => exact .nil
  | cons a _ ih => exact .cons (a.kp k) ih
theorem Pr.kp {v : V} {p : Pl} (h : Pr H v p) (k : Kp H H') : Pr H' v p := by
  obtain ⟨t, rfl, h⟩ := h
  exact ⟨t, rfl, k.tup h⟩
theorem Prs.kp {vs : List V} {ps : List Pl} (h : Prs H vs ps) (k : Kp H H') : Prs H' vs ps := by
  induction h with
  | nil => exact .nil
  | cons a _ ih => exact .cons (a.kp k) ih
end
structure FunC (K : PySem.W.Frag) (x qual : Str) (st : Stmt) (f c : Addr) (fd : FuncData) : Prop where
  ex : ∃ (oc : Value) (od : Option Addr) (kV doc pm : Value) (an : Option Addr) (ct : Value) (osl : Array (Option Value)),
    fd = PySem.W.fnOf x qual (defArgs st) (defBody st) (defScope st) .none kV doc pm an (.ref c) ct ∧ K.lookup f = some ⟨oc, od, .func fd, osl⟩ ∧ PySem.W.codeIn K (.ref c) qual = true
  kp : PySem.W.keepIn K (.ref f) = true
section
variable {P : Program} {w : World} {K : PySem.W.Frag} {mg : Str → Option Value} {base : Heap}
theorem FunC.ok {x qual : Str} {st : Stmt} {f c : Addr} {fd : FuncData} {N ps : List Str} {k : Nat} {sp : Sp} (F : FunC K x qual st f c fd) (S : FnScope N ps (defScope st)) (len : ∀ vs H Q E, sp vs H Q E → vs.length = ps.length)
    (hbody : ∀ (A : Around) (outer : List Env) (s : Shared) (H : Hp) (vs : List V) (Q : VK) (E : XK), Room k (A.deeper (envOfC qual (defScope st) s.heap.objs.size f (.ref c))) → sp vs H Q E →
      ∃ t, PSs (cxOf CX0 P w K mg base N qual (defScope st) f (.ref c) A outer s H E).nox (defBody st) t ∧ t { nx := fun _ H' => Q .non H', rt := Q } (start N vs) H) : FnOk P w K mg base CX0 (k + 1) f fd ps sp := by
  obtain ⟨oc, od, kV, doc, pm, an, ct, osl, rfl, lk, hcd⟩ := F.ex
  refine fn_of lk hcd S len fun A outer s H vs Q E hr h => ?_
  obtain ⟨t, z, q⟩ := hbody A outer s H vs Q E hr h
  exact ⟨t, z.nox, q⟩
theorem FunC.okX {x qual : Str} {st : Stmt} {f c : Addr} {fd : FuncData} {N ps : List Str} {k : Nat} {sp : Sp} (F : FunC K x qual st f c fd) (S : FnScope N ps (defScope st)) (len : ∀ vs H Q E, sp vs H Q E → vs.length = ps.length)
    (hbody : ∀ (A : Around) (outer : List Env) (s : Shared) (H : Hp) (vs : List V) (Q : VK) (E : XK), Room k (A.deeper (envOfC qual (defScope st) s.heap.objs.size f (.ref c))) → sp vs H Q E →
      ∃ t, PSs (cxOf (L2.CX P w) P w K mg base N qual (defScope st) f (.ref c) A outer s H E) (defBody st) t ∧ t { nx := fun _ H' => Q .non H', rt := Q } (start N vs) H) : FnOk P w K mg base (L2.CX P w) (k + 1) f fd ps sp := by
  obtain ⟨oc, od, kV, doc, pm, an, ct, osl, rfl, lk, hcd⟩ := F.ex
  exact fn_of lk hcd S len fun A outer s H vs Q E hr h => hbody A outer s H vs Q E hr h
end
def gscC (outer sc : Scope) : Bool := (match sc.kind with | .function => true | _ => false) && !sc.isCoroutine && (match sc.names.lookup (".0" : Str) with | some .local => true | _ => false) &&
  (sc.names.all fun y => match y.2 with
    | .cell => false
    | .free => (match outer.names.lookup y.1 with | some .cell => true | _ => false)
    | _ => true)
theorem gsc_by {env : Env} {outer sc : Scope} (ho : env.scope = outer) (hc : env.cells = cellsFrom (env.locals + 1) env.scope.names []) (h : gscC outer sc = true) : GSc env sc := by
  subst ho
  unfold gscC at h
  simp only [Bool.and_eq_true, List.all_eq_true] at h
  obtain ⟨⟨⟨h1, h2⟩, h3⟩, h4⟩ := h
  refine ⟨?_, by simpa using h2, fun y hy e => ?_, ?_, fun y hy e => ?_⟩
  · split at h1
    · assumption
    · cases h1
  · have q := h4 y hy
    rw [e] at q
    cases q
  · split at h3
    · assumption
    · cases h3
  · have q := h4 y hy
    rw [e] at q
    have q2 : (match env.scope.names.lookup y.1 with | some .cell => true | _ => false) = true := q
    split at q2
    · rename_i z
      rw [hc]
      exact cell_has z
    · cases q2
def gfrC (XN : List Str) (outer sc : Scope) (N : List Str) (fr : List (Option Nat)) : Bool := decide (fr.length = N.length) && ((N.zip fr).all fun p => match p.2 with
  | none => true
  | some j => (match sc.names.lookup p.1 with | some .free => true | _ => false) && decide (XN[j]? = some p.1) && (match outer.names.lookup p.1 with | some .cell => true | _ => false))
theorem gfr_by {X : Cx} {outer sc : Scope} {XN N : List Str} {fr : List (Option Nat)} (ho : X.env.scope = outer) (hn : X.N = XN) (h : gfrC XN outer sc N fr = true) : GFr X sc N fr := by
  subst ho hn
  unfold gfrC at h
  simp only [Bool.and_eq_true, List.all_eq_true, decide_eq_true_eq] at h
  obtain ⟨h1, h2⟩ := h
  refine ⟨h1, fun i y j e1 e2 => ?_⟩
  have m : (y, some j) ∈ N.zip fr := by
    refine List.mem_of_getElem? (i := i) ?_
    rw [List.getElem?_zip_eq_some]
    exact ⟨e1, e2⟩
  have q := h2 _ m
  simp only [Bool.and_eq_true, decide_eq_true_eq] at q
  obtain ⟨⟨q1, q2⟩, q3⟩ := q
  refine ⟨?_, q2, .inl ?_⟩
  · split at q1
    · assumption
    · cases q1
  · split at q3
    · assumption
    · cases q3
end Pk
namespace Pk
open PySem L2 PySem.Spec PyProof.Rows GxR NdefX
/-- a relation of a value in a heap, kept as heaps grow -/
structure Rel where
  p : Hp → V → Prop
  mn : ∀ {H H' : Hp} {v : V}, Kp H H' → p H v → p H' v
/-- what an object that is being changed is -/
structure Own where
  p : Hp → HO → Prop
  mn : ∀ {H H' : Hp} {o : HO}, Kp H H' → p H o → p H' o
  ok : ∀ {H : Hp} {o : HO}, p H o → Mut (some o)
inductive Slot where
  | any
  | fz (R : Rel)
  | own (C : Own)
/-- where one stands: the heap at the start, facts of the heap, what is hidden, the slots -/
structure Ct where
  hs : Hp
  h0 : Hp
  om : Addr → Prop
  g : List Slot
abbrev Ct.set (c : Ct) (i : Nat) (s : Slot) : Ct := { c with g := c.g.set i s }
abbrev Ct.at (c : Ct) (g : List Slot) : Ct := { c with g := g }
def isOwn (g : List Slot) (σ : L2.St) (a : Addr) : Prop := ∃ (i : Nat) (C : Own), g[i]? = some (.own C) ∧ σ[i]? = some (some (.ref a))
open Classical in
/-- the heap without these -/
noncomputable def less (H : Hp) (M : Addr → Prop) : Hp := fun a => if M a then none else H a
noncomputable abbrev bas (c : Ct) (σ : L2.St) (H : Hp) : Hp := less H fun a => isOwn c.g σ a ∨ c.om a
theorem less_in {H : Hp} {M : Addr → Prop} {a : Addr} (h : M a) : less H M a = none := if_pos h
theorem less_out {H : Hp} {M : Addr → Prop} {a : Addr} (h : ¬ M a) : less H M a = H a := if_neg h
theorem less_some {H : Hp} {M : Addr → Prop} {a : Addr} {o : HO} (e : less H M a = some o) : ¬ M a ∧ H a = some o := by
  by_cases h : M a
  · rw [less_in h] at e
    cases e
  · rw [less_out h] at e
    exact ⟨h, e⟩
theorem bas_in {c : Ct} {σ : L2.St} {H : Hp} {a : Addr} (h : isOwn c.g σ a ∨ c.om a) : bas c σ H a = none := if_pos h
theorem bas_out {c : Ct} {σ : L2.St} {H : Hp} {a : Addr} (h : ¬ (isOwn c.g σ a ∨ c.om a)) : bas c σ H a = H a := if_neg h
theorem kp_of {H H' : Hp} (h : ∀ b o, H b = some o → H' b = some o) : Kp H H' := kpS h
theorem kp_less {H : Hp} {M : Addr → Prop} : Kp (less H M) H := kp_of fun b o e => (less_some e).2
theorem less_kp {H H' : Hp} {M : Addr → Prop} (k : Kp H H') : Kp (less H M) (less H' M) := by
  refine ⟨fun b o e n => ?_, fun P ⟨ps, e, t⟩ => ?_⟩
  · obtain ⟨h, e⟩ := less_some e
    rw [less_out h]
    exact k.at_ b o e n
  · obtain ⟨h, e⟩ := less_some e
    obtain ⟨qs, e', t'⟩ := k.tab P ⟨ps, e, t⟩
    exact ⟨qs, by rw [less_out h]; exact e', t'⟩
/-- less is hidden: more stands -/
theorem less_mono {H : Hp} {M M' : Addr → Prop} (h : ∀ a, M' a → M a) : Kp (less H M) (less H M') := kp_of fun b o e => by
  obtain ⟨n, e⟩ := less_some e
  rw [less_out fun z => n (h b z)]
  exact e
theorem kp_new {H : Hp} {p : Addr} {o : HO} (n : H p = none) : Kp H (upd H p o) := kp_of fun b u e => by
  rw [upd_ne (ne_of_none e n)]
  exact e
/-- new behind the heap at the start -/
def Fre (hs : Hp) (p : Addr) : Prop := (∀ o, hs p = some o → ∃ ps, o = .tbl ps) ∧ ¬ TabG hs p
theorem Fre.of {hs H : Hp} {p : Addr} (k : Kp hs H) (n : H p = none) : Fre hs p := by
  refine ⟨fun o e => ?_, fun t => ?_⟩
  · by_cases z : ∃ ps, o = .tbl ps
    · exact z
    · have := k.at_ p o e fun ps q => z ⟨ps, q⟩
      rw [n] at this
      cases this
  · obtain ⟨ps, e, _⟩ := k.tab p t
    rw [n] at e
    cases e
theorem Fre.upd {hs H : Hp} {p : Addr} {o : HO} (f : Fre hs p) (k : Kp hs H) : Kp hs (upd H p o) := by
  refine ⟨fun b u e n => ?_, fun P t => ?_⟩
  · have hb : b ≠ p := fun z => by
      subst z
      obtain ⟨ps, z⟩ := f.1 u e
      exact n ps z
    rw [upd_ne hb]
    exact k.at_ b u e n
  · have hb : P ≠ p := fun z => by
      subst z
      exact f.2 t
    obtain ⟨qs, e, t'⟩ := k.tab P t
    exact ⟨qs, by rw [upd_ne hb]; exact e, t'⟩
/-- the slots hold what they should -/
structure Sta (c : Ct) (σ : L2.St) (H : Hp) : Prop where
  len : σ.length = c.g.length
  fz : ∀ (i : Nat) (R : Rel), c.g[i]? = some (.fz R) → ∃ v, σ[i]? = some (some v) ∧ R.p (bas c σ H) v
  own : ∀ (i : Nat) (C : Own), c.g[i]? = some (.own C) → ∃ p o, σ[i]? = some (some (.ref p)) ∧ H p = some o ∧ C.p (bas c σ H) o ∧ Fre c.hs p ∧ ¬ c.om p
  ne : ∀ (i j : Nat) (C C' : Own) (p : Addr), c.g[i]? = some (.own C) → c.g[j]? = some (.own C') → σ[i]? = some (some (.ref p)) → σ[j]? = some (some (.ref p)) → i = j
  k0 : Kp c.h0 (bas c σ H)
  ks : Kp c.hs H
  hid : ∀ a, c.om a → ∃ o, H a = some o ∧ Mut (some o)
theorem notTbl {o : HO} (h : Mut (some o)) : ∀ ps, o ≠ .tbl ps := fun ps e => by
  subst e
  exact h
/-- a heap that grows -/
theorem Sta.kp {c : Ct} {σ : L2.St} {H H' : Hp} (h : Sta c σ H) (k : Kp H H') : Sta c σ H' := by
  have kb : Kp (bas c σ H) (bas c σ H') := less_kp k
  refine ⟨h.len, fun i R e => ?_, fun i C e => ?_, h.ne, h.k0.trans kb, h.ks.trans k, fun a z => ?_⟩
  · obtain ⟨v, e1, e2⟩ := h.fz i R e
    exact ⟨v, e1, R.mn kb e2⟩
  · obtain ⟨p, o, e1, e2, e3, e4, e5⟩ := h.own i C e
    exact ⟨p, o, e1, k.at_ p o e2 (notTbl (C.ok e3)), C.mn kb e3, e4, e5⟩
  · obtain ⟨o, e, m⟩ := h.hid a z
    exact ⟨o, k.at_ a o e (notTbl m), m⟩
theorem Sta.kb {c : Ct} {σ : L2.St} {H H' : Hp} (h : Sta c σ H) (k : Kp H H') : Kp (bas c σ H) (bas c σ H') := less_kp k
/-- what is new is not hidden -/
theorem Sta.free {c : Ct} {σ : L2.St} {H : Hp} (h : Sta c σ H) {p : Addr} (n : H p = none) : ¬ (isOwn c.g σ p ∨ c.om p) := by
  rintro (⟨i, C, e1, e2⟩ | z)
  · obtain ⟨q, o, e3, e4, _⟩ := h.own i C e1
    rw [e2] at e3
    cases e3
    rw [n] at e4
    cases e4
  · obtain ⟨o, e, _⟩ := h.hid p z
    rw [n] at e
    cases e
theorem getset {α : Type} {l : List α} {i j : Nat} {a b : α} (h : (l.set i a)[j]? = some b) : (j = i ∧ b = a) ∨ (j ≠ i ∧ l[j]? = some b) := by
  by_cases e : i = j
  · subst e
    left
    rw [List.getElem?_set] at h
    simp only [if_pos rfl, ite_true] at h
    split at h
    · cases h
      exact ⟨rfl, rfl⟩
    · cases h
  · right
    rw [List.getElem?_set_ne e] at h
    exact ⟨fun z => e z.symm, h⟩
theorem setget {α : Type} {l : List α} {i : Nat} {a : α} (h : i < l.length) : (l.set i a)[i]? = some a := by
  rw [List.getElem?_set]
  simp [h]
/-- a name holds a value that stays -/
theorem Sta.set {c : Ct} {σ : L2.St} {H : Hp} (h : Sta c σ H) {i : Nat} {R : Rel} {v : V} (hi : i < c.g.length) (hv : R.p (bas c σ H) v) :
    Sta (c.set i (.fz R)) (σ.set i (some v)) H ∧ Kp (bas c σ H) (bas (c.set i (.fz R)) (σ.set i (some v)) H) := by
  have back : ∀ {j : Nat} {C : Own}, (c.g.set i (.fz R))[j]? = some (.own C) → j ≠ i ∧ c.g[j]? = some (.own C) := fun {j C} e => by
    rcases getset e with ⟨_, z⟩ | z
    · cases z
    · exact z
  have kb : Kp (bas c σ H) (bas (c.set i (.fz R)) (σ.set i (some v)) H) := less_mono fun a => by
    rintro (⟨j, C, e1, e2⟩ | z)
    · obtain ⟨n, e1⟩ := back e1
      rw [List.getElem?_set_ne fun z => n z.symm] at e2
      exact .inl ⟨j, C, e1, e2⟩
    · exact .inr z
  refine ⟨⟨by rw [List.length_set, List.length_set]; exact h.len, fun j S e => ?_, fun j C e => ?_, fun j k C C' p e1 e2 e3 e4 => ?_, h.k0.trans kb, h.ks, h.hid⟩, kb⟩
  · rcases getset e with ⟨rfl, z⟩ | ⟨n, z⟩
    · cases z
      exact ⟨v, setget (by rw [h.len]; exact hi), R.mn kb hv⟩
    · obtain ⟨u, e1, e2⟩ := h.fz j S z
      exact ⟨u, by rw [List.getElem?_set_ne fun z => n z.symm]; exact e1, S.mn kb e2⟩
  · obtain ⟨n, z⟩ := back e
    obtain ⟨p, o, e1, e2, e3, e4, e5⟩ := h.own j C z
    exact ⟨p, o, by rw [List.getElem?_set_ne fun z => n z.symm]; exact e1, e2, C.mn kb e3, e4, e5⟩
  · obtain ⟨n1, e1⟩ := back e1
    obtain ⟨n2, e2⟩ := back e2
    rw [List.getElem?_set_ne fun z => n1 z.symm] at e3
    rw [List.getElem?_set_ne fun z => n2 z.symm] at e4
    exact h.ne j k C C' p e1 e2 e3 e4
/-- a slot of which nothing more is said -/
theorem Sta.drop {c : Ct} {σ : L2.St} {H : Hp} (h : Sta c σ H) (i : Nat) (o : Option V) : Sta (c.set i .any) (σ.set i o) H ∧ Kp (bas c σ H) (bas (c.set i .any) (σ.set i o) H) := by
  have back : ∀ {j : Nat} {s : Slot}, s ≠ .any → (c.g.set i .any)[j]? = some s → j ≠ i ∧ c.g[j]? = some s := fun {j s} ns e => by
    rcases getset e with ⟨_, z⟩ | z
    · exact absurd z ns
    · exact z
  have kb : Kp (bas c σ H) (bas (c.set i .any) (σ.set i o) H) := less_mono fun a => by
    rintro (⟨j, C, e1, e2⟩ | z)
    · obtain ⟨n, e1⟩ := back (by intro z; cases z) e1
      rw [List.getElem?_set_ne fun z => n z.symm] at e2
      exact .inl ⟨j, C, e1, e2⟩
    · exact .inr z
  refine ⟨⟨by rw [List.length_set, List.length_set]; exact h.len, fun j S e => ?_, fun j C e => ?_, fun j k C C' p e1 e2 e3 e4 => ?_, h.k0.trans kb, h.ks, h.hid⟩, kb⟩
  · obtain ⟨n, z⟩ := back (by intro z; cases z) e
    obtain ⟨u, e1, e2⟩ := h.fz j S z
    exact ⟨u, by rw [List.getElem?_set_ne fun z => n z.symm]; exact e1, S.mn kb e2⟩
  · obtain ⟨n, z⟩ := back (by intro z; cases z) e
    obtain ⟨p, u, e1, e2, e3, e4, e5⟩ := h.own j C z
    exact ⟨p, u, by rw [List.getElem?_set_ne fun z => n z.symm]; exact e1, e2, C.mn kb e3, e4, e5⟩
  · obtain ⟨n1, e1⟩ := back (by intro z; cases z) e1
    obtain ⟨n2, e2⟩ := back (by intro z; cases z) e2
    rw [List.getElem?_set_ne fun z => n1 z.symm] at e3
    rw [List.getElem?_set_ne fun z => n2 z.symm] at e4
    exact h.ne j k C C' p e1 e2 e3 e4
theorem setsame {α : Type} {l : List α} {i : Nat} {a : α} (h : l[i]? = some a) : l.set i a = l := by
  refine List.ext_getElem? fun j => ?_
  by_cases e : i = j
  · subst e
    obtain ⟨hi, _⟩ := List.getElem?_eq_some_iff.mp h
    rw [setget hi, h]
  · rw [List.getElem?_set_ne e]
/-- a name holds a new object that is going to be changed -/
theorem Sta.new {c : Ct} {σ : L2.St} {H : Hp} (h : Sta c σ H) {i : Nat} {C : Own} {p : Addr} {o : HO} (hi : i < c.g.length) (n : H p = none) (hv : C.p (bas c σ H) o) :
    Sta (c.set i (.own C)) (σ.set i (some (.ref p))) (upd H p o) ∧ Kp (bas c σ H) (bas (c.set i (.own C)) (σ.set i (some (.ref p))) (upd H p o)) := by
  have hf := h.free n
  have kb : Kp (bas c σ H) (bas (c.set i (.own C)) (σ.set i (some (.ref p))) (upd H p o)) := kp_of fun b u e => by
    obtain ⟨nb, e⟩ := less_some e
    have bp : b ≠ p := ne_of_none e n
    rw [bas_out, upd_ne bp]
    · exact e
    · rintro (⟨j, C', e1, e2⟩ | z)
      · by_cases ji : j = i
        · subst ji
          rw [setget (by rw [h.len]; exact hi)] at e2
          cases e2
          exact bp rfl
        · rcases getset e1 with ⟨z, _⟩ | ⟨_, z⟩
          · exact ji z
          · rw [List.getElem?_set_ne fun z => ji z.symm] at e2
            exact nb (.inl ⟨j, C', z, e2⟩)
      · exact nb (.inr z)
  have old : ∀ {j : Nat} {C' : Own} {q : Addr}, c.g[j]? = some (.own C') → σ[j]? = some (some (.ref q)) → q ≠ p := fun {j C' q} e1 e2 z => hf (.inl ⟨j, C', e1, by rw [← z]; exact e2⟩)
  refine ⟨⟨by rw [List.length_set, List.length_set]; exact h.len, fun j S e => ?_, fun j C' e => ?_, fun j k C1 C2 q e1 e2 e3 e4 => ?_, h.k0.trans kb, h.ks.trans (kp_new n), fun a z => ?_⟩, kb⟩
  · rcases getset e with ⟨_, z⟩ | ⟨nj, z⟩
    · cases z
    · obtain ⟨u, e1, e2⟩ := h.fz j S z
      exact ⟨u, by rw [List.getElem?_set_ne fun z => nj z.symm]; exact e1, S.mn kb e2⟩
  · rcases getset e with ⟨rfl, z⟩ | ⟨nj, z⟩
    · cases z
      exact ⟨p, o, setget (by rw [h.len]; exact hi), upd_same, C.mn kb hv, .of h.ks n, fun z => hf (.inr z)⟩
    · obtain ⟨q, u, e1, e2, e3, e4, e5⟩ := h.own j C' z
      exact ⟨q, u, by rw [List.getElem?_set_ne fun z => nj z.symm]; exact e1, by rw [upd_ne (old z e1)]; exact e2, C'.mn kb e3, e4, e5⟩
  · rcases getset e1 with ⟨rfl, z⟩ | ⟨nj, z⟩ <;> rcases getset e2 with ⟨rfl, y⟩ | ⟨nk, y⟩
    · rfl
    · rw [setget (by rw [h.len]; exact hi)] at e3
      cases e3
      rw [List.getElem?_set_ne fun z => nk z.symm] at e4
      exact absurd rfl (old y e4)
    · rw [setget (by rw [h.len]; exact hi)] at e4
      cases e4
      rw [List.getElem?_set_ne fun z => nj z.symm] at e3
      exact absurd rfl (old z e3)
    · rw [List.getElem?_set_ne fun z => nj z.symm] at e3
      rw [List.getElem?_set_ne fun z => nk z.symm] at e4
      exact h.ne j k C1 C2 q z y e3 e4
  · obtain ⟨u, e, m⟩ := h.hid a z
    exact ⟨u, by rw [upd_ne (ne_of_none e n)]; exact e, m⟩
/-- the object at a name is changed -/
theorem Sta.mut {c : Ct} {σ : L2.St} {H : Hp} (h : Sta c σ H) {i : Nat} {C C' : Own} {p : Addr} {o : HO} (e : c.g[i]? = some (.own C)) (es : σ[i]? = some (some (.ref p))) (hv : C'.p (bas c σ H) o) :
    Sta (c.set i (.own C')) σ (upd H p o) ∧ bas (c.set i (.own C')) σ (upd H p o) = bas c σ H := by
  have hi : i < c.g.length := (List.getElem?_eq_some_iff.mp e).1
  obtain ⟨p', o0, e1, e2, e3, e4, e5⟩ := h.own i C e
  rw [es] at e1
  cases e1
  have own' : ∀ a, isOwn (c.g.set i (.own C')) σ a ↔ isOwn c.g σ a := fun a => by
    constructor
    · rintro ⟨j, C1, q1, q2⟩
      rcases getset q1 with ⟨rfl, z⟩ | ⟨_, z⟩
      · exact ⟨j, C, e, q2⟩
      · exact ⟨j, C1, z, q2⟩
    · rintro ⟨j, C1, q1, q2⟩
      by_cases ji : j = i
      · subst ji
        exact ⟨j, C', setget hi, q2⟩
      · exact ⟨j, C1, by rw [List.getElem?_set_ne fun z => ji z.symm]; exact q1, q2⟩
  have hp : isOwn c.g σ p := ⟨i, C, e, es⟩
  have eb : bas (c.set i (.own C')) σ (upd H p o) = bas c σ H := by
    funext a
    by_cases m : isOwn c.g σ a ∨ c.om a
    · rw [bas_in m]
      exact bas_in (c := c.set i (.own C')) (m.elim (fun z => .inl ((own' a).mpr z)) .inr)
    · rw [bas_out m]
      refine (bas_out (c := c.set i (.own C')) fun z => m (z.elim (fun y => .inl ((own' a).mp y)) .inr)).trans (upd_ne ?_)
      intro z
      subst z
      exact m (.inl hp)
  refine ⟨⟨by show _ = (c.g.set i (.own C')).length; rw [List.length_set]; exact h.len, fun j S q => ?_, fun j C1 q => ?_, fun j k C1 C2 q q1 q2 q3 q4 => ?_, by rw [eb]; exact h.k0, e4.upd h.ks, fun a z => ?_⟩, eb⟩
  · rcases getset q with ⟨_, z⟩ | ⟨_, z⟩
    · cases z
    · obtain ⟨u, q1, q2⟩ := h.fz j S z
      exact ⟨u, q1, by rw [eb]; exact q2⟩
  · rcases getset q with ⟨rfl, z⟩ | ⟨nj, z⟩
    · cases z
      exact ⟨p, o, es, upd_same, by rw [eb]; exact hv, e4, e5⟩
    · obtain ⟨q, u, q1, q2, q3, q4, q5⟩ := h.own j C1 z
      refine ⟨q, u, q1, ?_, by rw [eb]; exact q3, q4, q5⟩
      rw [upd_ne fun y => ?_]
      · exact q2
      · subst y
        exact nj (h.ne j i C1 C q z e q1 es)
  · have f : ∀ {j : Nat} {D : Own}, (c.g.set i (.own C'))[j]? = some (.own D) → ∃ D', c.g[j]? = some (.own D') := fun {j D} y => by
      rcases getset y with ⟨rfl, _⟩ | ⟨_, z⟩
      · exact ⟨C, e⟩
      · exact ⟨D, z⟩
    obtain ⟨D1, y1⟩ := f q1
    obtain ⟨D2, y2⟩ := f q2
    exact h.ne j k D1 D2 q y1 y2 q3 q4
  · obtain ⟨u, y, m⟩ := h.hid a z
    refine ⟨u, ?_, m⟩
    rw [upd_ne fun x => ?_]
    · exact y
    · subst x
      exact e5 z
/-- what was changed now stays -/
theorem Sta.fix {c : Ct} {σ : L2.St} {H : Hp} (h : Sta c σ H) {i : Nat} {C : Own} {R : Rel} (e : c.g[i]? = some (.own C)) (k : ∀ B p o, B p = some o → C.p B o → R.p B (.ref p)) :
    Sta (c.set i (.fz R)) σ H ∧ Kp (bas c σ H) (bas (c.set i (.fz R)) σ H) := by
  have hi : i < c.g.length := (List.getElem?_eq_some_iff.mp e).1
  obtain ⟨p, o, e1, e2, e3, e4, e5⟩ := h.own i C e
  have back : ∀ {j : Nat} {C' : Own}, (c.g.set i (.fz R))[j]? = some (.own C') → j ≠ i ∧ c.g[j]? = some (.own C') := fun {j C'} e => by
    rcases getset e with ⟨_, z⟩ | z
    · cases z
    · exact z
  have kb : Kp (bas c σ H) (bas (c.set i (.fz R)) σ H) := less_mono fun a => by
    rintro (⟨j, C', q1, q2⟩ | z)
    · exact .inl ⟨j, C', (back q1).2, q2⟩
    · exact .inr z
  have hb : bas (c.set i (.fz R)) σ H p = some o := by
    rw [bas_out]
    · exact e2
    · rintro (⟨j, C', q1, q2⟩ | z)
      · obtain ⟨n, q1⟩ := back q1
        exact n (h.ne j i C' C p q1 e q2 e1)
      · exact e5 z
  refine ⟨⟨by show _ = (c.g.set i (.fz R)).length; rw [List.length_set]; exact h.len, fun j S q => ?_, fun j C1 q => ?_, fun j k C1 C2 q q1 q2 q3 q4 => h.ne j k C1 C2 q (back q1).2 (back q2).2 q3 q4, h.k0.trans kb, h.ks, h.hid⟩, kb⟩
  · rcases getset q with ⟨rfl, z⟩ | ⟨_, z⟩
    · cases z
      exact ⟨.ref p, e1, k _ _ _ hb (C.mn kb e3)⟩
    · obtain ⟨u, q1, q2⟩ := h.fz j S z
      exact ⟨u, q1, S.mn kb q2⟩
  · obtain ⟨q, u, q1, q2, q3, q4, q5⟩ := h.own j C1 (back q).2
    exact ⟨q, u, q1, q2, C1.mn kb q3, q4, q5⟩
/-- more is known of the heap -/
theorem Sta.h0 {c : Ct} {σ : L2.St} {H : Hp} (h : Sta c σ H) {h1 : Hp} (k : Kp h1 (bas c σ H)) : Sta { c with h0 := h1 } σ H := ⟨h.len, h.fz, h.own, h.ne, k, h.ks, h.hid⟩
end Pk
namespace Pk
open PySem L2 PySem.Spec PyProof.Rows GxR NdefX
mutual
inductive Dt (H : Hp) : V → PyData → Prop
  | non : Dt H .non .none
  | bl (b : Bool) : Dt H (.bl b) (.bool b)
  | int (i : Int) : Dt H (.int i) (.int i)
  | str (x : Str) : Dt H (.str x) (.str x)
  | lst {a : Addr} {xs : List V} {ds : List PyData} : H a = some (.lst xs) → DtAll H xs ds → Dt H (.ref a) (.list ds)
  | tup {a : Addr} {xs : List V} {ds : List PyData} : H a = some (.tup xs) → DtAll H xs ds → Dt H (.ref a) (.tuple ds)
  | dT {a : Addr} {kvs : List (Tk × V)} {ds : List (PyData × PyData)} : H a = some (.dT kvs) → DtKv H dK kvs ds → Dt H (.ref a) (.dict ds)
  | dK {a : Addr} {kvs : List (L2.Key × V)} {ds : List (PyData × PyData)} : H a = some (.dK kvs) → DtKk H kvs ds → Dt H (.ref a) (.dict ds)
inductive DtAll (H : Hp) : List V → List PyData → Prop
  | nil : DtAll H [] []
  | cons {v : V} {vs : List V} {d : PyData} {ds : List PyData} : Dt H v d → DtAll H vs ds → DtAll H (v :: vs) (d :: ds)
inductive DtKv (H : Hp) : (Tk → PyData) → List (Tk × V) → List (PyData × PyData) → Prop
  | nil {f : Tk → PyData} : DtKv H f [] []
  | cons {f : Tk → PyData} {k : Tk} {v : V} {vs : List (Tk × V)} {d : PyData} {ds : List (PyData × PyData)} : Dt H v d → DtKv H f vs ds → DtKv H f ((k, v) :: vs) ((f k, d) :: ds)
inductive DtKk (H : Hp) : List (L2.Key × V) → List (PyData × PyData) → Prop
  | nil : DtKk H [] []
  | cons {k : L2.Key} {v : V} {vs : List (L2.Key × V)} {d : PyData} {ds : List (PyData × PyData)} : Dt H v d → DtKk H vs ds → DtKk H ((k, v) :: vs) ((kd k, d) :: ds)
end
section
variable {H H' : Hp}
mutual
theorem Dt.kp (k : Kp H H') : ∀ {v : V} {d : PyData}, Dt H v d → Dt H' v d
  | _, _, .non => .non
  | _, _, .bl b => .bl b
  | _, _, .int i => .int i
  | _, _, .str x => .str x
  | _, _, .lst e a => .lst (k.lst e) (DtAll.kp k a)
  | _, _, .tup e a => .tup (k.tup e) (DtAll.kp k a)
  | _, _, .dT e a => .dT (k.dT e) (DtKv.kp k a)
  | _, _, .dK e a => .dK (k.at_ _ _ e fun _ z => nomatch z) (DtKk.kp k a)
theorem DtAll.kp (k : Kp H H') : ∀ {vs : List V} {ds : List PyData}, DtAll H vs ds → DtAll H' vs ds
  | _, _, .nil => .nil
  | _, _, .cons a b => .cons (Dt.kp k a) (DtAll.kp k b)
theorem DtKv.kp (k : Kp H H') : ∀ {f : Tk → PyData} {vs : List (Tk × V)} {ds : List (PyData × PyData)}, DtKv H f vs ds → DtKv H' f vs ds
  | _, _, _, .nil => .nil
  | _, _, _, .cons a b => .cons (Dt.kp k a) (DtKv.kp k b)
theorem DtKk.kp (k : Kp H H') : ∀ {vs : List (L2.Key × V)} {ds : List (PyData × PyData)}, DtKk H vs ds → DtKk H' vs ds
  | _, _, .nil => .nil
  | _, _, .cons a b => .cons (Dt.kp k a) (DtKk.kp k b)
end
end
mutual
/-- data without lists and dicts -/
def flat : PyData → Bool
  | .list _ => false
  | .dict _ => false
  | .tuple ds => flats ds
  | _ => true
def flats : List PyData → Bool
  | [] => true
  | d :: ds => flat d && flats ds
end
section
variable {H : Hp} {M : Addr → Prop} (hM : ∀ a, M a → ∃ o, H a = some o ∧ Mut (some o))
include hM
mutual
theorem Dt.less : ∀ {v : V} {d : PyData}, Dt H v d → flat d = true → Dt (less H M) v d
  | _, _, .non, _ => .non
  | _, _, .bl b, _ => .bl b
  | _, _, .int i, _ => .int i
  | _, _, .str x, _ => .str x
  | _, _, .lst _ _, h => by cases h
  | _, _, .dT _ _, h => by cases h
  | _, _, .dK _ _, h => by cases h
  | _, .tuple ds, .tup (a := a) e q, h => by
    refine .tup ?_ (DtAll.less q h)
    rw [less_out]
    · exact e
    · intro z
      obtain ⟨o, e1, e2⟩ := hM a z
      rw [e] at e1
      cases e1
      exact e2
theorem DtAll.less : ∀ {vs : List V} {ds : List PyData}, DtAll H vs ds → flats ds = true → DtAll (less H M) vs ds
  | _, _, .nil, _ => .nil
  | _, d :: ds, .cons a b, h => by
    have h' : (flat d && flats ds) = true := h
    rw [Bool.and_eq_true] at h'
    exact .cons (Dt.less a h'.1) (DtAll.less b h'.2)
end
end
section
variable {H : Hp} {K : PySem.W.Frag}
mutual
/-- no dict within -/
def nod : PyData → Bool
  | .dict _ => false
  | .tuple ds => nods ds
  | .list ds => nods ds
  | _ => true
def nods : List PyData → Bool
  | [] => true
  | d :: ds => nod d && nods ds
end
mutual
theorem Dt.dp : ∀ {v : V} {d : PyData}, Dt H v d → nod d = true → Dp K H v d
  | _, _, .non, _ => .non
  | _, _, .bl b, _ => .bl b
  | _, _, .int i, _ => .int i
  | _, _, .str x, _ => .str x
  | _, .list ds, .lst e q, h => .lst (SqL.of e) (DtAll.dp q h)
  | _, _, .dT _ _, h => by cases h
  | _, _, .dK _ _, h => by cases h
  | _, .tuple ds, .tup (a := a) e q, h => .tup (SqT.of e) (DtAll.dp q h)
theorem DtAll.dp : ∀ {vs : List V} {ds : List PyData}, DtAll H vs ds → nods ds = true → DpAll K H vs ds
  | _, _, .nil, _ => .nil
  | _, d :: ds, .cons a b, h => by
    have h' : (nod d && nods ds) = true := h
    rw [Bool.and_eq_true] at h'
    exact .cons (Dt.dp a h'.1) (DtAll.dp b h'.2)
end
theorem DtAll.len : ∀ {vs : List V} {ds : List PyData}, DtAll H vs ds → vs.length = ds.length
  | _, _, .nil => rfl
  | _, _, .cons _ b => congrArg (· + 1) b.len
theorem DtAll.app : ∀ {vs us : List V} {ds es : List PyData}, DtAll H vs ds → DtAll H us es → DtAll H (vs ++ us) (ds ++ es)
  | _, _, _, _, .nil, h => h
  | _, _, _, _, .cons a b, h => .cons a (b.app h)
theorem DtAll.at {vs : List V} {ds : List PyData} (h : DtAll H vs ds) : ∀ {i : Nat} {d : PyData}, ds[i]? = some d → ∃ v, vs[i]? = some v ∧ Dt H v d := by
  induction vs generalizing ds with
  | nil => cases h; intro i d e; cases e
  | cons v vs ih =>
    cases h with
    | cons a b =>
      intro i d e
      cases i with
      | zero => cases e; exact ⟨_, rfl, a⟩
      | succ i => exact ih b e
theorem DtAll.at' {vs : List V} {ds : List PyData} (h : DtAll H vs ds) : ∀ {i : Nat} {v : V}, vs[i]? = some v → ∃ d, ds[i]? = some d ∧ Dt H v d := by
  induction vs generalizing ds with
  | nil => intro i d e; cases e
  | cons v vs ih =>
    cases h with
    | cons a b =>
      intro i d e
      cases i with
      | zero => cases e; exact ⟨_, rfl, a⟩
      | succ i => exact ih b e
theorem DtAll.atI {vs : List V} {ds : List PyData} (h : DtAll H vs ds) {i : Int} {d : PyData} (e : L2.atI ds i = some d) : ∃ v, L2.atI vs i = some v ∧ Dt H v d := by
  unfold L2.atI at *
  rw [← h.len] at e
  cases q : ixN vs.length i with
  | none => rw [q] at e; cases e
  | some j => rw [q] at e; exact h.at e
theorem DtAll.take {vs : List V} {ds : List PyData} (h : DtAll H vs ds) : ∀ n, DtAll H (vs.take n) (ds.take n) := by
  induction vs generalizing ds with
  | nil => cases h; intro n; simp only [List.take_nil]; exact .nil
  | cons v vs ih =>
    cases h with
    | cons a b =>
      intro n
      cases n with
      | zero => exact .nil
      | succ n => exact .cons a (ih b n)
theorem DtAll.drop {vs : List V} {ds : List PyData} (h : DtAll H vs ds) : ∀ n, DtAll H (vs.drop n) (ds.drop n) := by
  induction vs generalizing ds with
  | nil => cases h; intro n; simp only [List.drop_nil]; exact .nil
  | cons v vs ih =>
    cases h with
    | cons a b =>
      intro n
      cases n with
      | zero => exact .cons a b
      | succ n => exact ih b n
end
/-- the slice of a list -/
def cutD (xs : List PyData) (lo hi : Option Int) : List PyData := (xs.drop (HT.sIx xs.length 0 lo)).take (HT.sIx xs.length xs.length hi - HT.sIx xs.length 0 lo)
theorem DtAll.cut {H : Hp} {vs : List V} {ds : List PyData} (h : DtAll H vs ds) (lo hi : Option Int) : DtAll H (cutV vs lo hi) (cutD ds lo hi) := by
  unfold cutV cutD
  rw [h.len]
  exact (h.drop _).take _
/-- data of a type, by its picture -/
def RD (d : PyData) : Rel := ⟨fun H v => Dt H v d, fun k h => h.kp k⟩
/-- a list that is being changed -/
def OL (ds : List PyData) : Own := ⟨fun H o => ∃ vs, o = .lst vs ∧ DtAll H vs ds, fun k ⟨vs, e, h⟩ => ⟨vs, e, h.kp k⟩, fun ⟨vs, e, _⟩ => by subst e; exact trivial⟩
theorem OL.fix {ds : List PyData} {B : Hp} {p : Addr} {o : HO} (e : B p = some o) (h : (OL ds).p B o) : (RD (.list ds)).p B (.ref p) := by
  obtain ⟨vs, rfl, h⟩ := h
  exact .lst e h
noncomputable def msk (b : Bool) (c : Ct) (σ : L2.St) : Addr → Prop := fun a => b = true ∧ (isOwn c.g σ a ∨ c.om a)
noncomputable abbrev hb (b : Bool) (c : Ct) (σ : L2.St) (H : Hp) : Hp := less H (msk b c σ)
theorem hb_t {c : Ct} {σ : L2.St} {H : Hp} : hb true c σ H = bas c σ H := by
  funext a
  by_cases h : isOwn c.g σ a ∨ c.om a
  · rw [bas_in h]
    exact less_in ⟨rfl, h⟩
  · rw [bas_out h]
    exact less_out fun z => h z.2
theorem hb_f {c : Ct} {σ : L2.St} {H : Hp} : hb false c σ H = H := by
  funext a
  exact less_out fun z => Bool.false_ne_true z.1
theorem hb_kp {b : Bool} {c : Ct} {σ : L2.St} {H H' : Hp} (k : Kp H H') : Kp (hb b c σ H) (hb b c σ H') := less_kp k
theorem bas_hb {b : Bool} {c : Ct} {σ : L2.St} {H : Hp} : Kp (bas c σ H) (hb b c σ H) := less_mono fun _ z => z.2
/-- what is hidden stands, and is of those that may change -/
theorem Sta.hides {c : Ct} {σ : L2.St} {H : Hp} (h : Sta c σ H) {b : Bool} (a : Addr) (m : msk b c σ a) : ∃ o, H a = some o ∧ Mut (some o) := by
  rcases m.2 with ⟨i, C, e1, e2⟩ | z
  · obtain ⟨p, o, e3, e4, e5, _⟩ := h.own i C e1
    rw [e2] at e3
    cases e3
    exact ⟨o, e4, C.ok e5⟩
  · exact h.hid a z
/-- a value's reading: it gives a value as R says, in the heap (false), in the heap without what is being changed (true) -/
def E (b : Bool) (c : Ct) (t : TE) (R : Rel) : Prop := ∀ σ H, Sta c σ H → ∀ Q : VK, (∀ H' v, Kp H H' → R.p (hb b c σ H') v → Q v H') → t σ H Q
def ET (c : Ct) (t : TT) (b : Bool) : Prop := ∀ σ H, Sta c σ H → ∀ Q : Bool → Hp → Prop, (∀ H', Kp H H' → Q b H') → t σ H Q
def Rok : List Rel → Hp → List V → Prop
  | [], _, vs => vs = []
  | R :: Rs, H, vs => ∃ v r, vs = v :: r ∧ R.p H v ∧ Rok Rs H r
theorem Rok.kp {H H' : Hp} (k : Kp H H') : ∀ {Rs : List Rel} {vs : List V}, Rok Rs H vs → Rok Rs H' vs
  | [], _, h => h
  | R :: _, _, ⟨v, r, e, h1, h2⟩ => ⟨v, r, e, R.mn k h1, Rok.kp k h2⟩
def EA (b : Bool) (c : Ct) (t : TA) (Rs : List Rel) : Prop := ∀ σ H, Sta c σ H → ∀ Q : List V → Hp → Prop, (∀ H' vs, Kp H H' → Rok Rs (hb b c σ H') vs → Q vs H') → t σ H Q
/-- a list whose items stay, itself perhaps among what is being changed -/
def EI (c : Ct) (t : TE) (ds : List PyData) : Prop := ∀ σ H, Sta c σ H → ∀ Q : VK, (∀ H' a vs, Kp H H' → H' a = some (.lst vs) → DtAll (bas c σ H') vs ds → Q (.ref a) H') → t σ H Q
section
variable {b : Bool} {c : Ct} {R S : Rel} {t ta tb tc : TE} {d e : PyData}
theorem E.low (h : E true c t R) : E b c t R := fun σ H s Q q => h σ H s Q fun H' v k r => q H' v k (R.mn (by rw [hb_t]; exact bas_hb) r)
theorem E.imp (h : E b c t R) (k : ∀ H v, R.p H v → S.p H v) : E b c t S := fun σ H s Q q => h σ H s Q fun H' v k' r => q H' v k' (k _ _ r)
theorem E.eq (h : E b c t (RD d)) (z : d = e) : E b c t (RD e) := z ▸ h
theorem E.flat (h : E false c t (RD d)) (f : flat d = true) : E b c t (RD d) := fun σ H s Q q => h σ H s Q fun H' v k r => by
  rw [hb_f] at r
  exact q H' v k (Dt.less (fun a m => (s.kp k).hides a m) r f)
theorem ET.eq {t : TT} {a a' : Bool} (h : ET c t a) (z : a = a') : ET c t a' := z ▸ h
theorem e_var {i : Nat} (h : c.g[i]? = some (.fz R)) : E b c (tVar i) R := fun σ H s Q q => by
  obtain ⟨v, e, r⟩ := s.fz i R h
  exact ⟨v, e, q H v (Kp.refl _) (R.mn bas_hb r)⟩
/-- a list that is being changed, read -/
theorem e_own {i : Nat} {ds : List PyData} (h : c.g[i]? = some (.own (OL ds))) : E false c (tVar i) (RD (.list ds)) := fun σ H s Q q => by
  obtain ⟨p, o, e1, e2, ⟨vs, rfl, a⟩, _⟩ := s.own i _ h
  refine ⟨.ref p, e1, q H _ (Kp.refl _) ?_⟩
  rw [hb_f]
  exact .lst e2 (a.kp kp_less)
theorem i_of {ds : List PyData} (h : E true c t (RD (.list ds))) : EI c t ds := fun σ H s Q q => h σ H s Q fun H' v k r => by
  rw [hb_t] at r
  cases r with
  | lst e a => exact q H' _ _ k (less_some e).2 a
theorem e_int {i : Int} : E b c (tC (.int i)) (RD (.int i)) := fun σ H s Q q => q H _ (Kp.refl _) (.int i)
theorem e_str {x : Str} : E b c (tC (.str x)) (RD (.str x)) := fun σ H s Q q => q H _ (Kp.refl _) (.str x)
/-- an operation on values: M is hidden from it -/
def Hd (H : Hp) (M : Addr → Prop) : Prop := ∀ a, M a → ∃ o, H a = some o ∧ Mut (some o)
def O2 (r : R2) (R1 R2 R : Rel) : Prop := ∀ H M x y, Hd H M → R1.p (less H M) x → R2.p (less H M) y → ∀ Q : VK, (∀ H' v, Kp H H' → R.p (less H' M) v → Q v H') → r x y H Q
def On (r : List V → Hp → VK → Prop) (Rs : List Rel) (R : Rel) : Prop := ∀ H M vs, Hd H M → Rok Rs (less H M) vs → ∀ Q : VK, (∀ H' v, Kp H H' → R.p (less H' M) v → Q v H') → r vs H Q
theorem e_op {r : R2} {R1 R2 : Rel} (o : O2 r R1 R2 R) (ha : E b c ta R1) (hc : E b c tb R2) : E b c (tOp r ta tb) R := fun σ H s Q q =>
  ha σ H s _ fun H1 x k1 r1 => hc σ H1 (s.kp k1) _ fun H2 y k2 r2 => o H2 (msk b c σ) x y (fun a m => ((s.kp k1).kp k2).hides a m) (R1.mn (hb_kp k2) r1) r2 Q fun H' v k r => q H' v ((k1.trans k2).trans k) r
theorem a_nil : EA b c tNil [] := fun σ H s Q q => q H [] (Kp.refl _) rfl
theorem a_cons {u : TA} {Rs : List Rel} (ha : E b c t R) (hr : EA b c u Rs) : EA b c (tCons t u) (R :: Rs) := fun σ H s Q q =>
  ha σ H s _ fun H1 x k1 r1 => hr σ H1 (s.kp k1) _ fun H2 vs k2 r2 => q H2 _ (k1.trans k2) ⟨x, vs, rfl, R.mn (hb_kp k2) r1, r2⟩
theorem e_cb {r : List V → Hp → VK → Prop} {u : TA} {Rs : List Rel} (o : On r Rs R) (ha : EA b c u Rs) : E b c (tCB r u) R := fun σ H s Q q =>
  ha σ H s _ fun H1 vs k1 r1 => o H1 (msk b c σ) vs (fun a m => (s.kp k1).hides a m) r1 Q fun H' v k r => q H' v (k1.trans k) r
theorem o_I0 {g : Int → Int → Int} {i j : Int} : O2 (rI0 fun i j => .int (g i j)) (RD (.int i)) (RD (.int j)) (RD (.int (g i j))) := fun H M x y _ r1 r2 Q q => by
  cases r1
  cases r2
  exact ⟨i, j, rfl, rfl, q H _ (Kp.refl _) (.int _)⟩
theorem o_I {C : Int → Int → Prop} {g : Int → Int → Int} {i j : Int} (h : C i j) : O2 (rI C fun i j => .int (g i j)) (RD (.int i)) (RD (.int j)) (RD (.int (g i j))) := fun H M x y _ r1 r2 Q q => by
  cases r1
  cases r2
  exact ⟨i, j, rfl, rfl, h, q H _ (Kp.refl _) (.int _)⟩
theorem o_add {i j : Int} : O2 (rI0 fun i j => .int (i + j)) (RD (.int i)) (RD (.int j)) (RD (.int (i + j))) := o_I0
theorem o_sub {i j : Int} : O2 (rI0 fun i j => .int (i - j)) (RD (.int i)) (RD (.int j)) (RD (.int (i - j))) := o_I0
theorem o_cmpI0 {g : Int → Int → Bool} {i j : Int} : O2 (rI0 fun i j => .bl (g i j)) (RD (.int i)) (RD (.int j)) (RD (.bool (g i j))) := fun H M x y _ r1 r2 Q q => by
  cases r1
  cases r2
  exact ⟨i, j, rfl, rfl, q H _ (Kp.refl _) (.bl _)⟩
theorem o_eqI {i j : Int} : O2 rEq (RD (.int i)) (RD (.int j)) (RD (.bool (decide (i = j)))) := fun H M x y _ r1 r2 Q q => by
  cases r1
  cases r2
  refine ⟨rfl, q H _ (Kp.refl _) ?_⟩
  rw [show decide (V.int i = V.int j) = decide (i = j) by simp]
  exact .bl _
theorem o_neI {i j : Int} : O2 rNe (RD (.int i)) (RD (.int j)) (RD (.bool (!decide (i = j)))) := fun H M x y _ r1 r2 Q q => by
  cases r1
  cases r2
  refine ⟨rfl, q H _ (Kp.refl _) ?_⟩
  rw [show decide (V.int i = V.int j) = decide (i = j) by simp]
  exact .bl _
theorem t_T {x : Bool} (h : E false c t (RD (.bool x))) : ET c (tTest t) x := fun σ H s Q q => h σ H s _ fun H' v k r => by
  cases r
  exact ⟨x, rfl, q H' k⟩
theorem t_and {t u : TT} {x y : Bool} (h : ET c t x) (g : x = true → ET c u y) : ET c (tAnd t u) (x && y) := fun σ H s Q q => h σ H s _ fun H1 k1 => by
  cases x with
  | false => rw [if_neg Bool.false_ne_true]; exact q H1 k1
  | true => rw [if_pos rfl]; exact g rfl σ H1 (s.kp k1) Q fun H2 k2 => q H2 (k1.trans k2)
theorem t_or {t u : TT} {x y : Bool} (h : ET c t x) (g : x = false → ET c u y) : ET c (tOr t u) (x || y) := fun σ H s Q q => h σ H s _ fun H1 k1 => by
  cases x with
  | true => rw [if_pos rfl]; exact q H1 k1
  | false => rw [if_neg Bool.false_ne_true]; exact g rfl σ H1 (s.kp k1) Q fun H2 k2 => q H2 (k1.trans k2)
theorem e_and {x y : Bool} (h : E false c ta (RD (.bool x))) (g : x = true → E false c tb (RD (.bool y))) : E b c (tAndV ta tb) (RD (.bool (x && y))) := E.flat (fun σ H s Q q => h σ H s _ fun H1 v k1 r => by
  cases r
  refine ⟨x, rfl, ?_⟩
  cases x with
  | false => rw [if_neg Bool.false_ne_true]; exact q H1 _ k1 (.bl _)
  | true => rw [if_pos rfl]; exact g rfl σ H1 (s.kp k1) Q fun H2 v k2 r => q H2 v (k1.trans k2) r) rfl
end
end Pk
namespace Pk
open PySem L2 PySem.Spec PyProof.Rows GxR NdefX
/-- the picture of a type's things: told apart by ==, of depth n at most, laid out where P -/
structure Enc {α : Type} [DecidableEq α] (f : α → PyData) (n : Nat) (P : α → Prop) : Prop where
  eqv : ∀ a b, PyData.eqv (f a) (f b) = decide (a = b)
  lay : ∀ a, P a → (f a).canLay0 = true
  dep : ∀ a, (f a).depth ≤ n
  nod : ∀ a, Pk.nod (f a) = true
theorem layAll {α : Type} {f : α → PyData} {P : α → Prop} (h : ∀ a, P a → (f a).canLay0 = true) : ∀ xs : List α, (∀ a ∈ xs, P a) → PyData.canLayAll0 (xs.map f) = true
  | [], _ => rfl
  | x :: xs, k => by
    show (PyData.canLay0 (f x) && PyData.canLayAll0 (xs.map f)) = true
    rw [h x (k x (.head _)), layAll h xs fun a m => k a (.tail _ m)]
    rfl
theorem depAll {α : Type} {f : α → PyData} {n : Nat} (h : ∀ a, (f a).depth ≤ n) : ∀ xs : List α, PyData.depthAll (xs.map f) ≤ n
  | [] => Nat.zero_le _
  | x :: xs => by
    show max (PyData.depth (f x)) (PyData.depthAll (xs.map f)) ≤ n
    exact Nat.max_le.mpr ⟨h x, depAll h xs⟩
theorem nodAll {α : Type} {f : α → PyData} (h : ∀ a, Pk.nod (f a) = true) : ∀ xs : List α, nods (xs.map f) = true
  | [] => rfl
  | x :: xs => by
    show (Pk.nod (f x) && nods (xs.map f)) = true
    rw [h x, nodAll h xs]
    rfl
theorem eqvAllE {α : Type} [DecidableEq α] {f : α → PyData} (h : ∀ a b, PyData.eqv (f a) (f b) = decide (a = b)) : ∀ xs ys : List α, PyData.eqvAll (xs.map f) (ys.map f) = decide (xs = ys)
  | [], [] => rfl
  | [], _ :: _ => rfl
  | _ :: _, [] => rfl
  | x :: xs, y :: ys => by
    show (PyData.eqv (f x) (f y) && PyData.eqvAll (xs.map f) (ys.map f)) = decide (x :: xs = y :: ys)
    rw [h x y, eqvAllE h xs ys]
    by_cases e : x = y <;> by_cases k : xs = ys <;> simp [e, k]
theorem enc_int : Enc PyData.int 0 (fun _ => True) := ⟨eqv_int, fun _ _ => rfl, fun _ => Nat.zero_le _, fun _ => rfl⟩
theorem enc_str : Enc PyData.str 0 (fun x => PyData.strOk x = true) := ⟨fun a b => by
  show (a == b) = decide (a = b)
  exact Bool.eq_iff_iff.mpr (by simp), fun _ h => h, fun _ => Nat.zero_le _, fun _ => rfl⟩
section
variable {α β γ : Type} [DecidableEq α] [DecidableEq β] [DecidableEq γ] {f : α → PyData} {g : β → PyData} {k : γ → PyData} {n m l : Nat} {P : α → Prop} {S : β → Prop} {T : γ → Prop}
theorem Enc.imp {P' : α → Prop} (h : Enc f n P) (e : ∀ a, P' a → P a) : Enc f n P' := ⟨h.eqv, fun a k => h.lay a (e a k), h.dep, h.nod⟩
theorem enc_list (h : Enc f n P) : Enc (fun xs : List α => .list (xs.map f)) (n + 1) (fun xs => ∀ a ∈ xs, P a) :=
  ⟨fun a b => eqvAllE h.eqv a b, fun xs q => layAll h.lay xs q, fun xs => Nat.succ_le_succ (depAll h.dep xs), fun xs => nodAll h.nod xs⟩
theorem enc_pair (h : Enc f n P) (q : Enc g n S) : Enc (fun p : α × β => .tuple [f p.1, g p.2]) (n + 1) (fun p => P p.1 ∧ S p.2) := by
  refine ⟨fun a b => ?_, fun a z => ?_, fun a => ?_, fun a => ?_⟩
  · show (PyData.eqv (f a.1) (f b.1) && (PyData.eqv (g a.2) (g b.2) && true)) = _
    rw [h.eqv, q.eqv, Bool.and_true, Bool.eq_iff_iff]
    simp [Prod.ext_iff]
  · show (PyData.canLay0 (f a.1) && (PyData.canLay0 (g a.2) && true)) = true
    rw [h.lay _ z.1, q.lay _ z.2]
    rfl
  · show max (PyData.depth (f a.1)) (max (PyData.depth (g a.2)) 0) + 1 ≤ n + 1
    have := h.dep a.1
    have := q.dep a.2
    omega
  · show (Pk.nod (f a.1) && (Pk.nod (g a.2) && true)) = true
    rw [h.nod, q.nod]
    rfl
theorem enc_trip (h : Enc f n P) (q : Enc g n S) (r : Enc k n T) : Enc (fun p : α × β × γ => .tuple [f p.1, g p.2.1, k p.2.2]) (n + 1) (fun p => P p.1 ∧ S p.2.1 ∧ T p.2.2) := by
  refine ⟨fun a b => ?_, fun a z => ?_, fun a => ?_, fun a => ?_⟩
  · show (PyData.eqv (f a.1) (f b.1) && (PyData.eqv (g a.2.1) (g b.2.1) && (PyData.eqv (k a.2.2) (k b.2.2) && true))) = _
    rw [h.eqv, q.eqv, r.eqv, Bool.and_true, Bool.eq_iff_iff]
    simp [Prod.ext_iff]
  · show (PyData.canLay0 (f a.1) && (PyData.canLay0 (g a.2.1) && (PyData.canLay0 (k a.2.2) && true))) = true
    rw [h.lay _ z.1, q.lay _ z.2.1, r.lay _ z.2.2]
    rfl
  · show max (PyData.depth (f a.1)) (max (PyData.depth (g a.2.1)) (max (PyData.depth (k a.2.2)) 0)) + 1 ≤ n + 1
    have := h.dep a.1
    have := q.dep a.2.1
    have := r.dep a.2.2
    omega
  · show (Pk.nod (f a.1) && (Pk.nod (g a.2.1) && (Pk.nod (k a.2.2) && true))) = true
    rw [h.nod, q.nod, r.nod]
    rfl
theorem Enc.shaped (h : Enc f n P) (hn : n ≤ 64) {a : α} (q : P a) : SeqAt.shaped (f a) = true := by
  unfold SeqAt.shaped
  rw [h.lay a q, Bool.true_and]
  exact decide_eq_true (Nat.le_trans (h.dep a) hn)
theorem dec_bl {p : Prop} (i j : Decidable p) (u : Bool → Bool) {H : Hp} : Dt H (.bl (u (@decide p i))) (.bool (u (@decide p j))) := by
  cases Subsingleton.elim i j
  exact .bl _
theorem any_enc (h : Enc f n P) (xs : List α) (a : α) : ((xs.map f).any fun z => PyData.eqv z (f a)) = decide (a ∈ xs) := by
  induction xs with
  | nil => rfl
  | cons x xs ih =>
    rw [List.map_cons, List.any_cons, ih, h.eqv]
    by_cases e : x = a
    · subst e
      simp
    · rw [decide_eq_false e, Bool.false_or, Bool.eq_iff_iff, decide_eq_true_iff, decide_eq_true_iff, List.mem_cons]
      exact ⟨.inr, fun z => z.elim (fun y => absurd y.symm e) id⟩
theorem o_niE {K : PySem.W.Frag} (h : Enc f n P) (hn : n ≤ 63) {a : α} {xs : List α} {hd : Decidable (a ∈ xs)} (qa : P a) (qb : ∀ x ∈ xs, P x) : O2 (rNotInD K) (RD (f a)) (RD (.list (xs.map f))) (RD (.bool (!@decide (a ∈ xs) hd))) := fun H M x y _ r1 r2 Q q => by
  have hl := enc_list h
  refine ⟨f a, xs.map f, (Dt.kp kp_less r1).dp (h.nod a), (Dt.kp kp_less r2).dp (hl.nod xs), h.shaped (by omega) qa, hl.shaped (by omega) qb, q H _ (Kp.refl _) ?_⟩
  rw [any_enc h]
  exact dec_bl _ _ not
end
theorem new_at {H : Hp} {M : Addr → Prop} (h : Hd H M) {p : Addr} {o : HO} (n : H p = none) : less (upd H p o) M = upd (less H M) p o := by
  have np : ¬ M p := fun z => by
    obtain ⟨o, e, _⟩ := h p z
    rw [n] at e
    cases e
  funext a
  by_cases e : a = p
  · subst e
    rw [upd_same, less_out np, upd_same]
  · rw [upd_ne e]
    by_cases m : M a
    · rw [less_in m, less_in m]
    · rw [less_out m, less_out m, upd_ne e]
theorem hb_new {b : Bool} {c : Ct} {σ : L2.St} {H : Hp} (s : Sta c σ H) {p : Addr} {o : HO} (n : H p = none) : hb b c σ (upd H p o) = upd (hb b c σ H) p o := new_at (fun a m => s.hides a m) n
theorem less_none {H : Hp} {M : Addr → Prop} {p : Addr} (n : H p = none) : less H M p = none := by
  by_cases m : M p
  · exact less_in m
  · rw [less_out m]
    exact n
section
variable {b : Bool} {c : Ct} {R S : Rel} {t ta tb tc : TE} {d e : PyData}
/-- a reading gives a new object -/
def EN (c : Ct) (t : TE) (C : Own) : Prop := ∀ σ H, Sta c σ H → ∀ Q : VK, (∀ H' p o, Kp H H' → H' p = none → C.p (bas c σ H') o → Q (.ref p) (upd H' p o)) → t σ H Q
theorem n_e {ds : List PyData} (h : EN c t (OL ds)) : E b c t (RD (.list ds)) := fun σ H s Q q => h σ H s Q fun H' p o k n ⟨vs, e, a⟩ => by
  subst e
  refine q _ _ (k.trans (kp_new n)) ?_
  rw [hb_new (s.kp k) n]
  exact .lst upd_same ((a.kp bas_hb).kp (kp_new (less_none n)))
theorem i_n {ds : List PyData} (h : EN c t (OL ds)) : EI c t ds := i_of (n_e h)
/-- the values of arguments that are data -/
def EM (b : Bool) (c : Ct) (t : TA) (ds : List PyData) : Prop := ∀ σ H, Sta c σ H → ∀ Q : List V → Hp → Prop, (∀ H' vs, Kp H H' → DtAll (hb b c σ H') vs ds → Q vs H') → t σ H Q
theorem m_nil : EM b c tNil [] := fun σ H s Q q => q H [] (Kp.refl _) .nil
theorem m_cons {u : TA} {ds : List PyData} (ha : E b c t (RD d)) (hr : EM b c u ds) : EM b c (tCons t u) (d :: ds) := fun σ H s Q q =>
  ha σ H s _ fun H1 x k1 r1 => hr σ H1 (s.kp k1) _ fun H2 vs k2 r2 => q H2 _ (k1.trans k2) (.cons (Dt.kp (hb_kp k2) r1) r2)
theorem e_tup {u : TA} {ds : List PyData} (h : EM b c u ds) (l : Nat.ble ds.length sizeLine = true := by rfl) : E b c (tTup u) (RD (.tuple ds)) := fun σ H s Q q =>
  h σ H s _ fun H1 vs k1 r1 => ⟨by rw [r1.len]; exact Nat.le_of_ble_eq_true l, fun p n => q _ _ (k1.trans (kp_new n)) (by
    rw [hb_new (s.kp k1) n]
    exact .tup upd_same (r1.kp (kp_new (less_none n))))⟩
theorem n_lst {u : TA} {ds : List PyData} (h : EM true c u ds) (l : Nat.ble ds.length sizeLine = true := by rfl) : EN c (tLst u) (OL ds) := fun σ H s Q q =>
  h σ H s _ fun H1 vs k1 r1 => ⟨by rw [r1.len]; exact Nat.le_of_ble_eq_true l, fun p n => q H1 p _ k1 n ⟨vs, rfl, by rw [← hb_t]; exact r1⟩⟩
theorem o_ixL {K : PySem.W.Frag} {ds : List PyData} {i : Int} {d : PyData} (h : atI ds i = some d) : O2 (rIxL K) (RD (.list ds)) (RD (.int i)) (RD d) := fun H M x y _ r1 r2 Q q => by
  cases r2
  cases r1 with
  | lst e a =>
    obtain ⟨v, h1, h2⟩ := a.atI h
    exact ⟨_, _, i, v, rfl, rfl, SqL.of (less_some e).2, h1, q H _ (Kp.refl _) h2⟩
def EO (c : Ct) (t : TO) (o : Option Int) : Prop := ∀ σ H, Sta c σ H → ∀ Q : Option Int → Hp → Prop, (∀ H', Kp H H' → Q o H') → t σ H Q
theorem p_none : EO c tNoPart none := fun σ H s Q q => q H (Kp.refl _)
theorem p_some {i : Int} (h : E false c t (RD (.int i))) : EO c (tPart t) (some i) := fun σ H s Q q => h σ H s _ fun H1 x k r => by
  cases r
  exact ⟨i, rfl, q H1 k⟩
theorem n_sl {K : PySem.W.Frag} {ds : List PyData} {lo hi : Option Int} {tl th : TO} (h : EI c t ds) (hl : EO c tl lo) (hh : EO c th hi) : EN c (tSl (rSlL K) t tl th) (OL (cutD ds lo hi)) := fun σ H s Q q =>
  h σ H s _ fun H1 a vs k1 e1 r1 => hl σ H1 (s.kp k1) _ fun H2 k2 => hh σ H2 ((s.kp k1).kp k2) _ fun H3 k3 =>
    ⟨a, vs, rfl, SqL.of ((k2.trans k3).lst e1), fun p n => q H3 p _ ((k1.trans k2).trans k3) n ⟨_, rfl, (r1.kp ((s.kp k1).kb (k2.trans k3))).cut lo hi⟩⟩
theorem n_cat {ds es : List PyData} (h : EI c ta ds) (g : EI c tb es) (l : ds.length + es.length ≤ sizeLine) : EN c (tOp rCat ta tb) (OL (ds ++ es)) := fun σ H s Q q =>
  h σ H s _ fun H1 a vs k1 e1 r1 => g σ H1 (s.kp k1) _ fun H2 a2 ws k2 e2 r2 =>
    ⟨a, a2, vs, ws, rfl, rfl, k2.lst e1, e2, by rw [r1.len, r2.len]; exact l, fun p n => q H2 p _ (k1.trans k2) n ⟨_, rfl, (r1.kp ((s.kp k1).kb k2)).app r2⟩⟩
theorem o_lenL {K : PySem.W.Frag} {ds : List PyData} : On (fun xs H Q => ∃ x n, xs = [x] ∧ LenV K x H n ∧ Q (.int n) H) [RD (.list ds)] (RD (.int ds.length)) := fun H M vs _ r Q q => by
  obtain ⟨v, r', rfl, h1, rfl⟩ := r
  cases h1 with
  | lst e a => exact ⟨_, _, rfl, .inl ⟨_, SqL.of (less_some e).2, rfl⟩, by rw [a.len]; exact q H _ (Kp.refl _) (.int _)⟩
theorem o_int {i : Int} : On (fun xs H Q => (∃ i, xs = [.int i] ∧ Q (.int i) H) ∨ ∃ k, xs = [.bl k] ∧ Q (.int (if k then 1 else 0)) H) [RD (.int i)] (RD (.int i)) := fun H M vs _ r Q q => by
  obtain ⟨v, r', rfl, h1, rfl⟩ := r
  cases h1
  exact .inl ⟨_, rfl, q H _ (Kp.refl _) (.int _)⟩
theorem o_max2 {i j : Int} : On (fun xs H Q => ∃ i j, xs = [.int i, .int j] ∧ Q (.int (if j > i then j else i)) H) [RD (.int i), RD (.int j)] (RD (.int (max i j))) := fun H M vs _ r Q q => by
  obtain ⟨v, r', rfl, h1, u, r'', rfl, h2, rfl⟩ := r
  cases h1
  cases h2
  refine ⟨_, _, rfl, q H _ (Kp.refl _) ?_⟩
  rw [show (if j > i then j else i) = max i j by split <;> omega]
  exact .int _
end
end Pk
namespace Pk
open PySem L2 PySem.Spec PyProof.Rows GxR NdefX
def notOwn : Option Slot → Bool
  | some (.own _) => false
  | _ => true
theorem bas_iff {c c' : Ct} {σ σ' : L2.St} {H H' : Hp} (h : ∀ a, (isOwn c.g σ a ∨ c.om a) ↔ (isOwn c'.g σ' a ∨ c'.om a)) (e : ∀ a, ¬ (isOwn c.g σ a ∨ c.om a) → H a = H' a) : bas c σ H = bas c' σ' H' := by
  funext a
  by_cases m : isOwn c.g σ a ∨ c.om a
  · rw [bas_in m, bas_in ((h a).mp m)]
  · rw [bas_out m, bas_out fun z => m ((h a).mpr z)]
    exact e a m
theorem own_set {g : List Slot} {σ : L2.St} {i : Nat} {s : Slot} {o : Option V} (h : notOwn g[i]? = true) (hs : notOwn (some s) = true) (a : Addr) : isOwn (g.set i s) (σ.set i o) a ↔ isOwn g σ a := by
  constructor
  · rintro ⟨j, C, e1, e2⟩
    rcases getset e1 with ⟨_, z⟩ | ⟨n, z⟩
    · rw [← z] at hs
      cases hs
    · rw [List.getElem?_set_ne fun z => n z.symm] at e2
      exact ⟨j, C, z, e2⟩
  · rintro ⟨j, C, e1, e2⟩
    have n : i ≠ j := fun z => by
      subst z
      rw [e1] at h
      cases h
    exact ⟨j, C, by rw [List.getElem?_set_ne n]; exact e1, by rw [List.getElem?_set_ne n]; exact e2⟩
theorem wipe_set {σ : L2.St} {i : Nat} {o : Option V} : ∀ {vs : List Nat}, i ∈ vs → wipe (σ.set i o) vs = wipe σ vs
  | v :: vs, h => by
    show (wipe (σ.set i o) vs).set v none = (wipe σ vs).set v none
    by_cases m : i ∈ vs
    · rw [wipe_set m]
    · have e : i = v := by
        rcases List.mem_cons.mp h with z | z
        · exact z
        · exact absurd z m
      subst e
      have : ∀ (ws : List Nat), i ∉ ws → wipe (σ.set i o) ws = (wipe σ ws).set i o := fun ws => by
        induction ws with
        | nil => intro _; rfl
        | cons w ws ih =>
          intro q
          show (wipe (σ.set i o) ws).set w none = ((wipe σ ws).set w none).set i o
          rw [ih fun z => q (.tail _ z), List.set_comm _ _ (fun z => q (by rw [z]; exact .head _))]
      rw [this vs m, List.set_set]
theorem wipe_wipe {σ : L2.St} : ∀ {vs ws : List Nat}, (∀ i ∈ vs, i ∈ ws) → wipe (wipe σ vs) ws = wipe σ ws
  | [], _, _ => rfl
  | v :: vs, ws, h => by
    show wipe ((wipe σ vs).set v none) ws = wipe σ ws
    rw [wipe_set (h v (.head _)), wipe_wipe fun i m => h i (.tail _ m)]
theorem own_wipe {g : List Slot} {σ : L2.St} : ∀ {vs : List Nat}, (∀ i ∈ vs, g[i]? = some .any) → ∀ a, isOwn g (wipe σ vs) a ↔ isOwn g σ a
  | [], _, _ => Iff.rfl
  | v :: vs, h, a => by
    have e := h v (.head _)
    have := own_set (σ := wipe σ vs) (o := none) (s := .any) (by rw [e]; rfl) rfl a
    rw [setsame e] at this
    exact this.trans (own_wipe (fun i m => h i (.tail _ m)) a)
theorem Sta.wipe {c : Ct} {σ : L2.St} {H : Hp} (s : Sta c σ H) : ∀ {vs : List Nat}, (∀ i ∈ vs, c.g[i]? = some .any) → Sta c (wipe σ vs) H
  | [], _ => s
  | v :: vs, h => by
    have q := ((s.wipe (vs := vs) fun i m => h i (.tail _ m)).drop v none).1
    rw [show c.set v .any = c by unfold Ct.set; rw [setsame (h v (.head _))]] at q
    exact q
/-- a target takes a value: the slots are then g', those at `is` new -/
def EG (c : Ct) (g : TG) (R : Rel) (g' : List Slot) (is : List Nat) : Prop := ∀ σ H v, Sta c σ H → R.p (bas c σ H) v → ∀ Q : L2.St → Hp → Prop,
  (∀ σ', Sta (c.at g') σ' H → (∀ H', bas (c.at g') σ' H' = bas c σ H') → (∀ vs, (∀ i ∈ is, i ∈ vs) → wipe σ' vs = wipe σ vs) → Q σ' H) → g v σ H Q
def EGs (c : Ct) (u : TGs) (ds : List PyData) (g' : List Slot) (is : List Nat) : Prop := ∀ σ H vs, Sta c σ H → DtAll (bas c σ H) vs ds → ∀ Q : L2.St → Hp → Prop,
  (∀ σ', Sta (c.at g') σ' H → (∀ H', bas (c.at g') σ' H' = bas c σ H') → (∀ vs, (∀ i ∈ is, i ∈ vs) → wipe σ' vs = wipe σ vs) → Q σ' H) → u vs σ H Q
section
variable {c : Ct} {R : Rel} {g1 g2 : List Slot} {is js : List Nat} {d : PyData} {ds : List PyData}
theorem g_name {i : Nat} (hi : Nat.blt i c.g.length = true := by rfl) (hn : notOwn c.g[i]? = true := by rfl) : EG c (gName i) R (c.g.set i (.fz R)) [i] := fun σ H v s r Q q => by
  have hi' : i < c.g.length := by simpa using hi
  refine q _ (s.set hi' r).1 (fun H' => ?_) fun vs h => wipe_set (h i (.head _))
  exact bas_iff (fun a => or_congr (own_set hn rfl a) Iff.rfl) fun _ _ => rfl
theorem gs_nil : EGs c gNil [] c.g [] := fun σ H vs s r Q q => by
  cases r
  exact ⟨rfl, q σ s (fun _ => rfl) fun _ _ => rfl⟩
theorem gs_cons {t : TG} {u : TGs} (h : EG c t (RD d) g1 is) (k : EGs (c.at g1) u ds g2 js) : EGs c (gCons t u) (d :: ds) g2 (is ++ js) := fun σ H vs s r Q q => by
  cases r with
  | cons a b =>
    refine ⟨_, _, rfl, h σ H _ s a _ fun σ1 s1 e1 w1 => k σ1 H _ s1 (by rw [e1]; exact b) Q fun σ2 s2 e2 w2 => q σ2 s2 (fun H' => (e2 H').trans (e1 H')) fun vs hv => ?_⟩
    exact (w2 vs fun i m => hv i (List.mem_append_right _ m)).trans (w1 vs fun i m => hv i (List.mem_append_left _ m))
theorem g_tup {K : PySem.W.Frag} {n : Nat} {u : TGs} (h : EGs c u ds g1 is) (e : ds.length = n := by rfl) : EG c (gTup K n u) (RD (.tuple ds)) g1 is := fun σ H v s r Q q => by
  cases r with
  | tup e1 a => exact ⟨_, _, rfl, SqT.of (less_some e1).2, by rw [a.len]; exact e, h σ H _ s a Q q⟩
end
/-- a new object is hidden -/
theorem Sta.hide {c : Ct} {σ : L2.St} {H : Hp} (s : Sta c σ H) {p : Addr} {o : HO} (n : H p = none) (m : Mut (some o)) :
    Sta ⟨c.hs, c.h0, fun a => c.om a ∨ a = p, c.g⟩ σ (upd H p o) ∧ bas ⟨c.hs, c.h0, fun a => c.om a ∨ a = p, c.g⟩ σ (upd H p o) = bas c σ H := by
  have eb : bas ⟨c.hs, c.h0, fun a => c.om a ∨ a = p, c.g⟩ σ (upd H p o) = bas c σ H := by
    funext a
    by_cases e : a = p
    · subst e
      rw [bas_in (c := ⟨c.hs, c.h0, fun b => c.om b ∨ b = a, c.g⟩) (.inr (.inr rfl)), bas_out (s.free n), n]
    · by_cases z : isOwn c.g σ a ∨ c.om a
      · rw [bas_in z]
        exact bas_in (c := ⟨c.hs, c.h0, fun b => c.om b ∨ b = p, c.g⟩) (z.elim .inl fun y => .inr (.inl y))
      · rw [bas_out z]
        refine (bas_out (c := ⟨c.hs, c.h0, fun b => c.om b ∨ b = p, c.g⟩) fun y => z (y.elim .inl fun x => x.elim .inr fun w => absurd w e)).trans (upd_ne e)
  refine ⟨⟨s.len, fun i R e => by rw [eb]; exact s.fz i R e, fun i C e => ?_, s.ne, by rw [eb]; exact s.k0, s.ks.trans (kp_new n), fun a z => ?_⟩, eb⟩
  · obtain ⟨q, u, e1, e2, e3, e4, e5⟩ := s.own i C e
    have qp : q ≠ p := ne_of_none e2 n
    exact ⟨q, u, e1, by rw [upd_ne qp]; exact e2, by rw [eb]; exact e3, e4, fun y => y.elim e5 qp⟩
  · rcases z with z | z
    · obtain ⟨u, e, k⟩ := s.hid a z
      exact ⟨u, by rw [upd_ne (ne_of_none e n)]; exact e, k⟩
    · subst z
      exact ⟨o, upd_same, m⟩
/-- a hidden object is changed -/
theorem Sta.hmut {c : Ct} {σ : L2.St} {H : Hp} (s : Sta c σ H) {p : Addr} {o : HO} (hp : c.om p) (f : Fre c.hs p) (m : Mut (some o)) : Sta c σ (upd H p o) ∧ bas c σ (upd H p o) = bas c σ H := by
  have eb : bas c σ (upd H p o) = bas c σ H := bas_iff (fun _ => Iff.rfl) fun a z => upd_ne fun e => z (.inr (e ▸ hp))
  refine ⟨⟨s.len, fun i R e => by rw [eb]; exact s.fz i R e, fun i C e => ?_, s.ne, by rw [eb]; exact s.k0, f.upd s.ks, fun a z => ?_⟩, eb⟩
  · obtain ⟨q, u, e1, e2, e3, e4, e5⟩ := s.own i C e
    exact ⟨q, u, e1, by rw [upd_ne fun z => e5 (by rw [z]; exact hp)]; exact e2, by rw [eb]; exact e3, e4, e5⟩
  · obtain ⟨u, e, k⟩ := s.hid a z
    by_cases y : a = p
    · subst y
      exact ⟨o, upd_same, m⟩
    · exact ⟨u, by rw [upd_ne y]; exact e, k⟩
noncomputable def wo (H : Hp) (p : Addr) : Hp := less H fun a => a = p
theorem wo_at {H : Hp} {p : Addr} : wo H p p = none := if_pos rfl
theorem wo_ne {H : Hp} {p a : Addr} (h : ¬ a = p) : wo H p a = H a := if_neg h
theorem wo_kp {H H' : Hp} {p : Addr} (k : Kp H H') : Kp (wo H p) (wo H' p) := less_kp k
theorem upd_less {H : Hp} {p : Addr} {o : HO} (e : H p = some o) : upd (wo H p) p o = H := by
  funext a
  by_cases z : a = p
  · subst z
    rw [upd_same, e]
  · rw [upd_ne z, wo_ne z]
theorem bas_less {c : Ct} {σ : L2.St} {H : Hp} {p : Addr} : bas c σ (wo H p) = bas ⟨c.hs, c.h0, fun a => c.om a ∨ a = p, c.g⟩ σ H := by
  funext a
  by_cases z : isOwn c.g σ a ∨ c.om a
  · rw [bas_in z]
    exact (bas_in (c := ⟨c.hs, c.h0, fun b => c.om b ∨ b = p, c.g⟩) (z.elim .inl fun y => .inr (.inl y))).symm
  · rw [bas_out z]
    by_cases e : a = p
    · subst e
      rw [wo_at]
      exact (bas_in (c := ⟨c.hs, c.h0, fun b => c.om b ∨ b = a, c.g⟩) (.inr (.inr rfl))).symm
    · rw [wo_ne e]
      exact (bas_out (c := ⟨c.hs, c.h0, fun b => c.om b ∨ b = p, c.g⟩) fun y => z (y.elim .inl fun x => x.elim .inr fun w => absurd w e)).symm
theorem less_upd {H : Hp} {p : Addr} {o : HO} : wo (upd H p o) p = wo H p := by
  funext a
  by_cases z : a = p
  · subst z
    rw [wo_at, wo_at]
  · rw [wo_ne z, wo_ne z, upd_ne z]
/-- what a comprehension keeps -/
structure Kc (c : Ct) (σ : L2.St) (H1 : Hp) (D : Addr) (ds : List PyData) (H : Hp) : Prop where
  ex : ∃ acc, H D = some (.lst acc) ∧ DtAll (bas ⟨c.hs, c.h0, fun a => c.om a ∨ a = D, c.g⟩ σ H) acc ds
  st : Sta ⟨c.hs, c.h0, fun a => c.om a ∨ a = D, c.g⟩ σ H
  kp : Kp H1 (wo H D)
theorem Kc.grow {c : Ct} {σ : L2.St} {H1 H H' : Hp} {D : Addr} {ds : List PyData} (h : Kc c σ H1 D ds H) (k : Kp H H') : Kc c σ H1 D ds H' := by
  obtain ⟨acc, e, a⟩ := h.ex
  exact ⟨⟨acc, k.lst e, a.kp (h.st.kb k)⟩, h.st.kp k, h.kp.trans (wo_kp k)⟩
theorem Kc.put {c : Ct} {σ : L2.St} {H1 H : Hp} {D : Addr} {acc : List V} {ds : List PyData} {y : V} {d : PyData} (h : Kc c σ H1 D ds H) (f : Fre c.hs D) (e : H D = some (.lst acc)) (r : Dt (bas ⟨c.hs, c.h0, fun a => c.om a ∨ a = D, c.g⟩ σ H) y d) :
    Kc c σ H1 D (ds ++ [d]) (upd H D (.lst (acc ++ [y]))) := by
  obtain ⟨acc', e', a⟩ := h.ex
  rw [e] at e'
  cases e'
  obtain ⟨s, eb⟩ := h.st.hmut (p := D) (o := .lst (acc ++ [y])) (.inr rfl) f trivial
  exact ⟨⟨_, upd_same, by rw [eb]; exact a.app (.cons r .nil)⟩, s, by rw [less_upd]; exact h.kp⟩
theorem ft_succ {α : Type} {p : α → Bool} {f : α → PyData} {xs : List α} {i : Nat} {x : α} (h : xs[i]? = some x) : ((xs.take (i + 1)).filter p).map f = ((xs.take i).filter p).map f ++ (if p x = true then [f x] else []) := by
  have hi : i < xs.length := (List.getElem?_eq_some_iff.mp h).1
  have e : xs[i] = x := (List.getElem?_eq_some_iff.mp h).2
  rw [List.take_succ_eq_append_getElem hi, e, List.filter_append, List.map_append]
  congr 1
  cases hp : p x <;> simp [hp]
section
variable {c : Ct} {K : PySem.W.Frag} {α : Type} {xs : List α} {enc : α → PyData} {G : α → List Slot} {is vs : List Nat} {p : α → Bool} {f : α → PyData} {tl te : TE} {tt : TT} {g : TG}
theorem lc_len {xs : List α} {p : α → Bool} {f : α → PyData} {i n : Nat} (h : xs.length ≤ n) : (((xs.take i).filter p).map f).length ≤ n := by
  rw [List.length_map]
  refine Nat.le_trans (List.length_filter_le _ _) (Nat.le_trans ?_ h)
  rw [List.length_take]
  omega
/-- [e for i in range(..) if t] -/
theorem n_lcR {lo : Int} {n : Nat} {G : Int → List Slot} {p : Int → Bool} {f : Int → PyData} {wi : TI} (hs : ∀ σ H, Sta c σ H → ∀ R : It → Hp → Prop, (∀ H', Kp H H' → R (Itr lo n) H') → wi σ H R) (hw : ∀ i ∈ vs, c.g[i]? = some .any) (his : ∀ i ∈ is, i ∈ vs)
    (hg : ∀ om, ∀ k : Nat, k < n → EG ⟨c.hs, c.h0, om, c.g⟩ g (RD (.int (lo + k))) (G (lo + k)) is) (ht : ∀ om, ∀ k : Nat, k < n → ET ⟨c.hs, c.h0, om, G (lo + k)⟩ tt (p (lo + k)))
    (he : ∀ om, ∀ k : Nat, k < n → p (lo + k) = true → E true ⟨c.hs, c.h0, om, G (lo + k)⟩ te (RD (f (lo + k)))) (hl : n < sizeLine) :
    EN c (tLc wi g tt te vs) (OL ((((List.range n).map fun k : Nat => lo + (k : Int)).filter p).map f)) := fun σ H s Q q => by
  refine hs σ H s _ fun H1 k1 D nD => ?_
  have s1 := s.kp k1
  have fD : Fre c.hs D := .of s1.ks nD
  have sw := s1.wipe hw
  have ew : ∀ H', bas c (wipe σ vs) H' = bas c σ H' := fun H' => bas_iff (fun a => or_congr (own_wipe hw a) Iff.rfl) fun _ _ => rfl
  have at_ : ∀ {i : Nat}, i < n → ((List.range n).map fun k : Nat => lo + (k : Int))[i]? = some (lo + (i : Int)) := fun {i} hi => by
    rw [List.getElem?_map, List.getElem?_range hi]
    rfl
  have hln : ((List.range n).map fun k : Nat => lo + (k : Int)).length = n := by rw [List.length_map, List.length_range]
  generalize hX : ((List.range n).map fun k : Nat => lo + (k : Int)) = X at *
  refine lc_range (lo := lo) (n := n) (fun i H' => Kc c (wipe σ vs) H1 D (((X.take i).filter p).map f) H') ?_ ?_ ?_
  · obtain ⟨sh, eb⟩ := sw.hide (o := .lst []) nD trivial
    exact ⟨⟨[], upd_same, by simpa using DtAll.nil⟩, sh, by rw [less_upd]; exact kp_of fun b o e => by rw [wo_ne (ne_of_none e nD)]; exact e⟩
  · intro i H' hi h
    have ex := at_ hi
    refine hg _ i hi _ H' _ h.st (.int _) _ fun σ2 s2 e2 w2 => ⟨(w2 vs his).trans (wipe_wipe fun _ m => m), ht _ i hi σ2 H' s2 _ fun H3 k3 => ?_⟩
    cases hp : p (lo + (i : Int)) with
    | false =>
      rw [if_neg Bool.false_ne_true, ft_succ ex, hp, if_neg Bool.false_ne_true, List.append_nil]
      exact h.grow k3
    | true =>
      rw [if_pos rfl]
      refine he _ i hi hp σ2 H3 (s2.kp k3) _ fun H4 y k4 r4 => ?_
      have h4 := (h.grow k3).grow k4
      obtain ⟨acc, ea, aa⟩ := h4.ex
      refine ⟨acc, ea, ?_, ?_⟩
      · have := lc_len (xs := X) (p := p) (f := f) (i := i) (n := n) (by omega)
        rw [aa.len]
        omega
      · rw [ft_succ ex, hp, if_pos rfl]
        refine h4.put fD ea ?_
        rw [hb_t] at r4
        rw [← e2]
        exact r4
  · intro H' h
    obtain ⟨acc, ea, aa⟩ := h.ex
    rw [← upd_less ea]
    refine q _ D _ (k1.trans h.kp) wo_at ⟨acc, rfl, ?_⟩
    rw [← ew, bas_less]
    rw [← hln, List.take_length] at aa
    exact aa
end
/-- what a range walks -/
def EW (c : Ct) (wi : TI) (lo : Int) (n : Nat) : Prop := ∀ σ H, Sta c σ H → ∀ R : It → Hp → Prop, (∀ H', Kp H H' → R (Itr lo n) H') → wi σ H R
section
variable {c : Ct} {t ta tb : TE}
theorem w_rng1 {j : Int} (h : E false c t (RD (.int j))) (b : -(2 ^ 62) ≤ j ∧ j < 2 ^ 62) : EW c (iRng1 (tCons t tNil)) 0 j.toNat := fun σ H s R q => h σ H s _ fun H1 v k r => by
  cases r
  exact ⟨j, rfl, b.1, b.2, q H1 k⟩
end
end Pk
namespace Pk
open PySem L2 PySem.Spec PyProof.Rows GxR NdefX
/-- what is wanted holds wherever the slots hold what they should -/
def WC (c : Ct) (k : L2.St → Hp → Prop) : Prop := ∀ σ H, Sta c σ H → k σ H
/-- one of these holds -/
def Nx (c : Ct) (I : List Slot → Prop) : L2.St → Hp → Prop := fun σ H => ∃ g, I g ∧ Sta (c.at g) σ H
section
variable {c : Ct} {R S : Rel} {C : Own} {t te tl : TE} {tt : TT} {g : TG} {i : Nat} {D : Ends} {k : L2.St → Hp → Prop} {a u : TS} {K : PySem.W.Frag}
theorem s_of {I : List Slot → Prop} {hs h0 : Hp} {om : Addr → Prop} {gs : List Slot} (h : I gs) : WC ⟨hs, h0, om, gs⟩ (Nx ⟨hs, h0, om, []⟩ I) := fun σ H s => ⟨gs, h, s⟩
theorem s_seq (h : WC c (a { D with nx := u D })) : WC c (tSeq a u D) := h
theorem s_pass (h : WC c D.nx) : WC c (tNext D) := h
theorem s_set (h : E true c te R) (q : WC (c.set i (.fz R)) D.nx) (hi : Nat.blt i c.g.length = true := by rfl) : WC c (tAsg te (gName i) D) := fun σ H s => h σ H s _ fun H' v kp r => by
  rw [hb_t] at r
  exact q _ H' ((s.kp kp).set (by simpa using hi) r).1
theorem s_new (h : EN c te C) (q : WC (c.set i (.own C)) D.nx) (hi : Nat.blt i c.g.length = true := by rfl) : WC c (tAsg te (gName i) D) := fun σ H s => h σ H s _ fun H' p o kp n r =>
  q _ _ ((s.kp kp).new (by simpa using hi) n r).1
theorem s_if {x : Bool} (h : ET c tt x) (ha : x = true → WC c (a D)) (hb : x = false → WC c (u D)) : WC c (tIfS tt a u D) := fun σ H s => h σ H s _ fun H' kp => by
  cases x with
  | true => rw [if_pos rfl]; exact ha rfl σ H' (s.kp kp)
  | false => rw [if_neg Bool.false_ne_true]; exact hb rfl σ H' (s.kp kp)
theorem s_ret (h : E true c te R) (q : ∀ H' v, Kp c.hs H' → R.p (less H' c.om) v → D.rt v H') : WC c (tRet te D) := fun σ H s => h σ H s _ fun H' v kp r => by
  rw [hb_t] at r
  exact q H' v (s.ks.trans kp) (R.mn (less_mono fun _ z => .inr z) r)
/-- what was changed now stays -/
theorem s_fix (e : c.g[i]? = some (.own C)) (z : ∀ B p o, B p = some o → C.p B o → R.p B (.ref p)) (q : WC (c.set i (.fz R)) k) : WC c k := fun σ H s => q σ H (s.fix e z).1
theorem s_fixL {ds : List PyData} (i : Nat) (e : c.g[i]? = some (.own (OL ds))) (q : WC (c.set i (.fz (RD (.list ds)))) k) : WC c k := s_fix e (fun _ _ _ => OL.fix) q
/-- nothing more is said of a slot -/
theorem s_drop (i : Nat) (q : WC (c.set i .any) k) : WC c k := fun σ H s => by
  cases e : σ[i]? with
  | none =>
    have := (s.drop i none).1
    rw [List.set_eq_of_length_le (List.getElem?_eq_none_iff.mp e)] at this
    exact q σ H this
  | some o =>
    have := (s.drop i o).1
    rw [setsame e] at this
    exact q σ H this
/-- l.append(e), l being changed -/
theorem s_app {d : PyData} {ds : List PyData} (e : c.g[i]? = some (.own (OL ds))) (h : E true c te (RD d)) (l : ds.length < sizeLine) (q : WC (c.set i (.own (OL (ds ++ [d])))) D.nx) :
    WC c (tDrop (tBM K "list" rAppend (tVar i) (tCons te tNil)) D) := fun σ H s => by
  obtain ⟨p, o, e1, e2, ⟨vs, rfl, a⟩, _⟩ := s.own i _ e
  refine ⟨.ref p, e1, .inl ⟨rfl, vs, SqL.of e2⟩, h σ H s _ fun H1 v kp r => ⟨p, vs, v, rfl, rfl, kp.lst e2, by rw [a.len]; exact l, ?_⟩⟩
  rw [hb_t] at r
  exact q σ _ ((s.kp kp).mut (C' := OL (ds ++ [d])) e e1 ⟨_, rfl, (a.kp (s.kb kp)).app (.cons r .nil)⟩).1
end
section
variable {c : Ct} {tl : TE} {wi : TI} {g : TG} {D : Ends} {tb : TS} {K : PySem.W.Frag} {tt : TT}
abbrev inL (hs h1 : Hp) (om : Addr → Prop) (I : List Slot → Prop) (D : Ends) : Ends := { D with nx := Nx ⟨hs, h1, om, []⟩ I, ct := Nx ⟨hs, h1, om, []⟩ I, bk := D.nx }
theorem s_for {α : Type} {xs : List α} {enc : α → PyData} (I : Nat → List Slot → Prop) (hs : E true c tl (RD (.list (xs.map enc)))) (h0 : I 0 c.g)
    (hb : ∀ h1 i x gs, Kp c.h0 h1 → xs[i]? = some x → I i gs → ∃ g' is, EG ⟨c.hs, h1, c.om, gs⟩ g (RD (enc x)) g' is ∧ WC ⟨c.hs, h1, c.om, g'⟩ (tb (inL c.hs h1 c.om (I (i + 1)) D)))
    (hd : ∀ gs, I xs.length gs → WC (c.at gs) D.nx) : WC c (tFor (iList K tl) g tb D) := fun σ H s => hs σ H s _ fun H1 v k1 r1 => by
  rw [hb_t] at r1
  have s1 := s.kp k1
  cases r1 with
  | @lst a0 vs0 _ e a =>
    refine ⟨a0, rfl, ⟨vs0, SqL.of (less_some e).2⟩, ?_⟩
    have hl := a.len
    rw [List.length_map] at hl
    refine for_list (K := K) (a := a0) (xs := vs0) (fun i σ' H' => Nx ⟨c.hs, bas c σ H1, c.om, []⟩ (I i) σ' H') ⟨c.g, h0, s1.h0 (Kp.refl _)⟩ ?_ ?_ ?_
    · rintro i σ' H' _ ⟨gs, _, s'⟩
      exact SqL.of (less_some (s'.k0.lst e)).2
    · rintro i v σ' H' hv ⟨gs, hi, s'⟩
      obtain ⟨d, hd', rd⟩ := a.at' hv
      rw [List.getElem?_map] at hd'
      obtain ⟨x, ex, rfl⟩ := Option.map_eq_some_iff.mp hd'
      obtain ⟨g', is, hg, hw⟩ := hb (bas c σ H1) i x gs s1.k0 ex hi
      exact hg σ' H' v s' (rd.kp s'.k0) _ fun σ2 s2 _ _ => hw σ2 H' s2
    · rintro σ' H' ⟨gs, hi, s'⟩
      rw [hl] at hi
      exact hd gs hi σ' H' (s'.h0 (s1.k0.trans s'.k0))
theorem s_rng {lo : Int} {n : Nat} (I : Nat → List Slot → Prop) (hs : EW c wi lo n) (h0 : I 0 c.g)
    (hb : ∀ i gs, i < n → I i gs → ∃ g' is, EG (c.at gs) g (RD (.int (lo + (i : Int)))) g' is ∧ WC (c.at g') (tb (inL c.hs c.h0 c.om (I (i + 1)) D)))
    (hd : ∀ gs, I n gs → WC (c.at gs) D.nx) : WC c (tFor wi g tb D) := fun σ H s => hs σ H s _ fun H1 k1 => by
  refine for_range (fun i σ' H' => Nx ⟨c.hs, c.h0, c.om, []⟩ (I i) σ' H') ⟨c.g, h0, s.kp k1⟩ ?_ ?_
  · rintro i σ' H' hi ⟨gs, hg, s'⟩
    obtain ⟨g', is, hg', hw⟩ := hb i gs hi hg
    exact hg' σ' H' _ s' (.int _) _ fun σ2 s2 _ _ => hw σ2 H' s2
  · rintro σ' H' ⟨gs, hg, s'⟩
    exact hd gs hg σ' H' s'
end
/-- for arguments that are as Rs says, and P: a value as R says -/
def Sps {α : Type} (Rs : α → List Rel) (P : α → Hp → Prop) (R : α → Rel) : Sp := fun vs H Q _ => ∃ (a : α) (om : Addr → Prop), Hd H om ∧ Rok (Rs a) (less H om) vs ∧ P a (less H om) ∧ ∀ H' v, Kp H H' → (R a).p (less H' om) v → Q v H'
/-- a promise serves such arguments -/
def Sok (sp : Sp) (Rs : List Rel) (P : Hp → Prop) (R : Rel) : Prop := ∀ H om vs, Hd H om → Rok Rs (less H om) vs → P (less H om) → ∀ (Q : VK) (E : XK), (∀ H' v, Kp H H' → R.p (less H' om) v → Q v H') → sp vs H Q E
theorem sok_sps {α : Type} {Rs : α → List Rel} {P : α → Hp → Prop} {R : α → Rel} (a : α) : Sok (Sps Rs P R) (Rs a) (P a) (R a) := fun H om vs ho hr hp Q E q => ⟨a, om, ho, hr, hp, q⟩
section
variable {b : Bool} {c : Ct} {R R0 : Rel} {Rs : List Rel} {P : Hp → Prop} {sp : Sp} {te : TE} {ta : TA} {E' : XK} {C : Addr} {m : Str}
theorem Sta.hd {σ : L2.St} {H : Hp} (s : Sta c σ H) : Hd H (msk b c σ) := fun a m => s.hides a m
theorem c_call (hsp : Sok sp Rs P R) (ha : EA b c ta Rs) (hp : ∀ H, Kp c.h0 H → P H) : E b c (tCall sp [] E' ta) R := fun σ H s Q q => ha σ H s _ fun H1 vs k1 r1 => by
  rw [List.append_nil]
  exact hsp H1 (msk b c σ) vs (s.kp k1).hd r1 (hp _ ((s.kp k1).k0.trans bas_hb)) Q E' fun H' v k r => q H' v (k1.trans k) r
end
/-- the slots at the start of a def -/
def slots0 (Rs : List Rel) (n : Nat) : List Slot := Rs.map .fz ++ List.replicate (n - Rs.length) .any
theorem Rok.len : ∀ {Rs : List Rel} {H : Hp} {vs : List V}, Rok Rs H vs → vs.length = Rs.length
  | [], _, _, h => by rw [show _ = [] from h]; rfl
  | _ :: Rs, _, _, ⟨v, r, e, _, h⟩ => by rw [e]; exact congrArg (· + 1) h.len
theorem Rok.at : ∀ {Rs : List Rel} {H : Hp} {vs : List V}, Rok Rs H vs → ∀ {i : Nat} {R : Rel}, Rs[i]? = some R → ∃ v, vs[i]? = some v ∧ R.p H v
  | [], _, _, _, i, _, e => by simp at e
  | _ :: Rs, _, _, ⟨v, r, rfl, h1, h2⟩, 0, _, e => by cases e; exact ⟨v, rfl, h1⟩
  | _ :: Rs, _, _, ⟨v, r, rfl, h1, h2⟩, i + 1, _, e => h2.at e
theorem no_own {Rs : List Rel} {n : Nat} {i : Nat} {C : Own} : (slots0 Rs n)[i]? ≠ some (.own C) := fun e => by
  unfold slots0 at e
  have m := List.mem_of_getElem? e
  rcases List.mem_append.mp m with z | z
  · obtain ⟨R, _, q⟩ := List.mem_map.mp z
    cases q
  · cases (List.eq_of_mem_replicate z)
theorem sta_start {H : Hp} {om : Addr → Prop} {Rs : List Rel} {N : List Str} {vs : List V} (ho : Hd H om) (h : Rok Rs (less H om) vs) : Sta ⟨H, less H om, om, slots0 Rs N.length⟩ (L2.start N vs) H := by
  have hl := h.len
  have eb : bas ⟨H, less H om, om, slots0 Rs N.length⟩ (L2.start N vs) H = less H om := by
    funext a
    by_cases m : om a
    · rw [less_in m]
      exact bas_in (c := ⟨H, less H om, om, slots0 Rs N.length⟩) (.inr m)
    · rw [less_out m]
      exact bas_out (c := ⟨H, less H om, om, slots0 Rs N.length⟩) fun z => z.elim (fun ⟨i, C, e, _⟩ => no_own e) m
  refine ⟨?_, fun i R e => ?_, fun i C e => absurd e no_own, fun i j C _ _ e => absurd e no_own, by rw [eb]; exact Kp.refl _, Kp.refl _, ho⟩
  · show (vs.map some ++ List.replicate (N.length - vs.length) none).length = (Rs.map Slot.fz ++ List.replicate (N.length - Rs.length) Slot.any).length
    rw [List.length_append, List.length_append, List.length_map, List.length_map, List.length_replicate, List.length_replicate, hl]
  · rw [eb]
    have e : (Rs.map Slot.fz ++ List.replicate (N.length - Rs.length) Slot.any)[i]? = some (.fz R) := e
    by_cases hi : i < Rs.length
    · rw [List.getElem?_append_left (by rw [List.length_map]; exact hi), List.getElem?_map] at e
      obtain ⟨R', e1, e2⟩ := Option.map_eq_some_iff.mp e
      cases e2
      obtain ⟨v, e3, e4⟩ := h.at e1
      refine ⟨v, ?_, e4⟩
      show (vs.map some ++ List.replicate (N.length - vs.length) none)[i]? = _
      rw [List.getElem?_append_left (by rw [List.length_map, hl]; exact hi), List.getElem?_map, e3]
      rfl
    · rw [List.getElem?_append_right (by rw [List.length_map]; omega)] at e
      cases (List.eq_of_mem_replicate (List.mem_of_getElem? e))
end Pk
namespace Pk
open PySem L2 PySem.Spec PyProof.Rows GxR NdefX
abbrev eL {α : Type} (f : α → PyData) : List α → PyData := fun xs => .list (xs.map f)
abbrev eTL {α : Type} (f : α → PyData) : List α → PyData := fun xs => .tuple (xs.map f)
abbrev eT3 {α β γ : Type} (f : α → PyData) (g : β → PyData) (k : γ → PyData) : α × β × γ → PyData := fun p => .tuple [f p.1, g p.2.1, k p.2.2]
abbrev dLk : Str × Int × Int → PyData := fun c => .tuple [.str c.1, .int c.2.1, .int c.2.2]
theorem enc_P : Enc dP 1 (fun p : Pl => True ∧ True) := enc_pair enc_int enc_int
theorem enc_Lk : Enc dLk 1 (fun c : Str × Int × Int => PyData.strOk c.1 = true ∧ True ∧ True) := enc_trip enc_str enc_int enc_int
/-- the item at i, counted from the end if i is negative -/
def ix {α : Type} [Inhabited α] (xs : List α) (i : Int) : α := (atI xs i).getD default
theorem atI_in {α : Type} {xs : List α} {i : Int} (h : -(xs.length : Int) ≤ i ∧ i < xs.length) : ∃ a, atI xs i = some a := by
  unfold atI ixN
  by_cases h0 : 0 ≤ i
  · rw [if_pos h0, if_pos h.2]
    show ∃ a, xs[i.toNat]? = some a
    exact ⟨_, List.getElem?_eq_getElem (by omega)⟩
  · rw [if_neg h0, if_pos h.1]
    show ∃ a, xs[(i + xs.length).toNat]? = some a
    exact ⟨_, List.getElem?_eq_getElem (by omega)⟩
theorem atI_map {α β : Type} (f : α → β) (xs : List α) (i : Int) : atI (xs.map f) i = (atI xs i).map f := by
  unfold atI
  rw [List.length_map]
  cases ixN xs.length i with
  | none => rfl
  | some j => exact List.getElem?_map ..
theorem ix_some {α : Type} [Inhabited α] {xs : List α} {i : Int} (h : -(xs.length : Int) ≤ i ∧ i < xs.length) : atI xs i = some (ix xs i) := by
  obtain ⟨a, e⟩ := atI_in h
  unfold ix
  rw [e]
  rfl
theorem ix_at {α : Type} [Inhabited α] {enc : α → PyData} {xs : List α} {i : Int} (h : -(xs.length : Int) ≤ i ∧ i < xs.length) : atI (xs.map enc) i = some (enc (ix xs i)) := by
  rw [atI_map, ix_some h]
  rfl
theorem ix_nat {α : Type} [Inhabited α] {xs : List α} {j : Nat} {a : α} (h : xs[j]? = some a) : ix xs (j : Int) = a := by
  unfold ix
  rw [atI_nat h]
  rfl
def cutL {α : Type} (xs : List α) (lo hi : Option Int) : List α := (xs.drop (HT.sIx xs.length 0 lo)).take (HT.sIx xs.length xs.length hi - HT.sIx xs.length 0 lo)
theorem cutD_map {α : Type} (f : α → PyData) (xs : List α) (lo hi : Option Int) : cutD (xs.map f) lo hi = (cutL xs lo hi).map f := by
  unfold cutD cutL
  rw [List.length_map, List.map_take, List.map_drop]
def rgI (lo : Int) (n : Nat) : List Int := (List.range n).map fun k : Nat => lo + (k : Int)
section
variable {b : Bool} {c : Ct} {α β γ : Type} {t ta tb tc te tl : TE} {K : PySem.W.Frag} {R S : Rel} {d e : PyData}
theorem EN.eqL {ds es : List PyData} (h : EN c t (OL ds)) (e : ds = es) : EN c t (OL es) := e ▸ h
theorem n_catM {xs ys : List α} {enc : α → PyData} (h : EI c ta (xs.map enc)) (g : EI c tb (ys.map enc)) (l : xs.length + ys.length ≤ 16777216) : EN c (tOp rCat ta tb) (OL ((xs ++ ys).map enc)) :=
  (n_cat h g (by rw [List.length_map, List.length_map]; exact l)).eqL (List.map_append ..).symm
theorem n_lstM {xs : List α} {enc : α → PyData} {u : TA} (h : EM true c u (xs.map enc)) (l : Nat.ble (xs.map enc).length sizeLine = true := by rfl) : EN c (tLst u) (OL (xs.map enc)) := n_lst h l
theorem n_slM {xs : List α} {enc : α → PyData} {lo hi : Option Int} {tl th : TO} (h : EI c t (xs.map enc)) (hl : EO c tl lo) (hh : EO c th hi) : EN c (tSl (rSlL K) t tl th) (OL ((cutL xs lo hi).map enc)) :=
  (n_sl h hl hh).eqL (cutD_map _ _ _ _)
theorem o_lenM {xs : List α} {enc : α → PyData} : On (fun xs H Q => ∃ x n, xs = [x] ∧ LenV K x H n ∧ Q (.int n) H) [RD (.list (xs.map enc))] (RD (.int xs.length)) := by
  have := o_lenL (K := K) (ds := xs.map enc)
  rw [List.length_map] at this
  exact this
theorem t_yes : ET c tYes true := fun σ H s Q q => q H (Kp.refl _)
theorem mulL {i j : Int} (h1 : -(2 ^ 64) < i) (h2 : i < 2 ^ 64) : CMul i j := .inl ⟨h1, h2⟩
theorem o_mul {i j : Int} (h : CMul i j) : O2 (rI CMul fun i j => .int (i * j)) (RD (.int i)) (RD (.int j)) (RD (.int (i * j))) := o_I h
theorem o_mod {i j : Int} (h : 0 < j) : O2 (rI (fun _ j => 0 < j) fun i j => .int (i % j)) (RD (.int i)) (RD (.int j)) (RD (.int (i % j))) := o_I (C := fun _ j => 0 < j) h
theorem o_div {i j : Int} (h : 0 < j ∧ j < 1073741824) : O2 (rI CDiv fun i j => .int (i / j)) (RD (.int i)) (RD (.int j)) (RD (.int (i / j))) := o_I h
theorem o_cats {x y : Str} (h : x.length + y.length ≤ sizeLine) : O2 (fun x y H Q => ∃ i j, x = .str i ∧ y = .str j ∧ i.length + j.length ≤ sizeLine ∧ Q (.str (i ++ j)) H) (RD (.str x)) (RD (.str y)) (RD (.str (x ++ y))) := fun H M u v _ r1 r2 Q q => by
  cases r1
  cases r2
  exact ⟨x, y, rfl, rfl, h, q H _ (Kp.refl _) (.str _)⟩
theorem DtAll.ints {H : Hp} : ∀ {vs : List V} {ns : List Int}, DtAll H vs (ns.map PyData.int) → vs = ns.map V.int
  | [], [], _ => rfl
  | [], _ :: _, h => by cases h
  | _ :: _, [], h => by cases h
  | v :: vs, x :: ns, .cons a r => by
    cases a
    rw [r.ints]
    rfl
theorem DtAll.ofInts {H : Hp} : ∀ ns : List Int, DtAll H (ns.map V.int) (ns.map PyData.int)
  | [] => .nil
  | n :: ns => .cons (.int n) (DtAll.ofInts ns)
theorem o_sum {ns : List Int} : On (rSum K) [RD (.list (ns.map PyData.int))] (RD (.int ns.sum)) := fun H M vs _ r Q q => by
  obtain ⟨v, r', rfl, h1, rfl⟩ := r
  cases h1 with
  | lst e a => exact ⟨_, ns, rfl, by rw [← a.ints]; exact SqL.of (less_some e).2, q H _ (Kp.refl _) (.int _)⟩
section
variable {xs : List α} {enc : α → PyData} {G : α → List Slot} {is vs : List Nat} {p : α → Bool} {h : α → β} {encB : β → PyData} {tt : TT} {g : TG}
def anyAt (g : List Slot) (vs : List Nat) : Bool := vs.all fun i => match g[i]? with
  | some .any => true
  | _ => false
theorem anyAt_of {g : List Slot} {vs : List Nat} (h : anyAt g vs = true) : ∀ i ∈ vs, g[i]? = some .any := fun i m => by
  have := List.all_eq_true.mp h i m
  cases e : g[i]? with
  | none => rw [e] at this; cases this
  | some s =>
    rw [e] at this
    cases s with
    | any => rfl
    | fz R => cases this
    | own C => cases this
end
section
variable {lo : Int} {n : Nat} {G : Int → List Slot} {is vs : List Nat} {p : Int → Bool} {h : Int → β} {encB : β → PyData} {tt : TT} {g : TG} {wi : TI}
theorem n_lcRM (hs : EW c wi lo n) (hw : anyAt c.g vs = true) (his : ∀ i ∈ is, i ∈ vs)
    (hg : ∀ om, ∀ k : Int, (lo ≤ k ∧ k < lo + n) → EG ⟨c.hs, c.h0, om, c.g⟩ g (RD (.int k)) (G k) is) (ht : ∀ om, ∀ k : Int, (lo ≤ k ∧ k < lo + n) → ET ⟨c.hs, c.h0, om, G k⟩ tt (p k))
    (he : ∀ om, ∀ k : Int, (lo ≤ k ∧ k < lo + n) → p k = true → E true ⟨c.hs, c.h0, om, G k⟩ te (RD (encB (h k)))) (hl : n < 16777216) : EN c (tLc wi g tt te vs) (OL ((((rgI lo n).filter p).map h).map encB)) :=
  (n_lcR (f := fun x => encB (h x)) hs (anyAt_of hw) his (fun om k m => hg om _ (by omega)) (fun om k m => ht om _ (by omega)) (fun om k m q => he om _ (by omega) q) hl).eqL (by rw [List.map_map]; rfl)
theorem n_lcRM1 (hs : EW c wi lo n) (hw : anyAt c.g vs = true) (his : ∀ i ∈ is, i ∈ vs)
    (hg : ∀ om, ∀ k : Int, (lo ≤ k ∧ k < lo + n) → EG ⟨c.hs, c.h0, om, c.g⟩ g (RD (.int k)) (G k) is)
    (he : ∀ om, ∀ k : Int, (lo ≤ k ∧ k < lo + n) → True → E true ⟨c.hs, c.h0, om, G k⟩ te (RD (encB (h k)))) (hl : n < 16777216) : EN c (tLc wi g tYes te vs) (OL (((rgI lo n).map h).map encB)) :=
  (n_lcRM (p := fun _ => true) hs hw his hg (fun _ _ _ => t_yes) (fun om x m _ => he om x m trivial) hl).eqL (by rw [List.filter_eq_self.mpr (fun _ _ => rfl)])
end
theorem s_appM {i : Nat} {D : Ends} {xs : List α} {enc : α → PyData} {a : α} (e : c.g[i]? = some (.own (OL (xs.map enc)))) (h : E true c te (RD (enc a))) (l : xs.length < 16777216) (q : WC (c.set i (.own (OL ((xs ++ [a]).map enc)))) D.nx) :
    WC c (tDrop (tBM K "list" rAppend (tVar i) (tCons te tNil)) D) := s_app e h (by rw [List.length_map]; exact l) (by rw [List.map_append] at q; exact q)
theorem s_fixM {i : Nat} {xs : List α} {enc : α → PyData} {k : L2.St → Hp → Prop} (e : c.g[i]? = some (.own (OL (xs.map enc)))) (q : WC (c.set i (.fz (RD (.list (xs.map enc))))) k) : WC c k := s_fixL i e q
end
end Pk
namespace Pk
open PySem PySem.Spec PyProof.Rows L2
abbrev zObj (f0 : Value) (g : Bool) (TI TO : Addr) : Obj := { cls := .type "zip", dict := none, data := .fields #[f0, .bool g, .bool false, .ref TI, .ref TO], slots := #[] }
/-- a zip in the midst of its walk; the tuple that it gave last still stands -/
structure ZS (h : Heap) (z TI TO i1 i2 l1 l2 : Addr) (i : Nat) (xs ys : Array Value) : Prop where
  ob : h.get? z = some (zObj .none false TI TO) ∨ ∃ (T : Addr) (o : Obj) (g : Bool), h.get? z = some (zObj (rawInt T) g TI TO) ∧ h.get? T = some o ∧ T ≠ z ∧ T ≠ TO ∧ T ≠ i1 ∧ T ≠ i2
  ti : IsPair h TI (.ref i1) (.ref i2)
  to_ : ∃ a b, IsPair h TO a b
  it1 : h.IsListIter i1 l1 i
  it2 : h.IsListIter i2 l2 i
  ls1 : h.IsList l1 xs
  ls2 : h.IsList l2 ys
section
variable {P : Program} {w : World} {A : Around} {E : Value → Shared → Prop} {s : Shared} {z TI TO i1 i2 l1 l2 : Addr} {i : Nat} {xs ys : Array Value}
theorem ZS.over {h h' : Heap} {n : Addr} (S : ZS h z TI TO i1 i2 l1 l2 i xs ys) (k : ∀ b u, b ≠ n → h.get? b = some u → h'.get? b = some u) (nz : z ≠ n) (nI : TI ≠ n) (nO : TO ≠ n) (n1 : i1 ≠ n) (n2 : i2 ≠ n) (m1 : l1 ≠ n) (m2 : l2 ≠ n)
    (nT : ∀ (T : Addr) (g : Bool), h.get? z = some (zObj (rawInt T) g TI TO) → T ≠ n) : ZS h' z TI TO i1 i2 l1 l2 i xs ys := by
  refine ⟨?_, k _ _ nI S.ti, ?_, S.it1.at fun o e => k _ o n1 e, S.it2.at fun o e => k _ o n2 e, S.ls1.at fun o e => k _ o m1 e, S.ls2.at fun o e => k _ o m2 e⟩
  · rcases S.ob with e | ⟨T, o, g, e, q, r⟩
    · exact .inl (k _ _ nz e)
    · exact .inr ⟨T, o, g, k _ _ nz e, k _ _ (nT T g e) q, r⟩
  · obtain ⟨a, b, e⟩ := S.to_
    exact ⟨a, b, k _ _ nO e⟩
/-- the pairs that were laid -/
structure Laid (h : Heap) (lo : Addr) (xs ys : Array Value) (as : List Addr) : Prop where
  rise : as.Pairwise (· < ·)
  above : ∀ a ∈ as, lo < a
  prs : ∀ (j : Nat) (a : Addr), as[j]? = some a → ∃ x y, xs[j]? = some x ∧ ys[j]? = some y ∧ IsPair h a x y
theorem Laid.there {h : Heap} {lo : Addr} {as : List Addr} (L : Laid h lo xs ys as) {a : Addr} (ha : a ∈ as) : a < h.objs.size := by
  obtain ⟨j, hj⟩ := List.mem_iff_getElem?.mp ha
  obtain ⟨_, _, _, _, e⟩ := L.prs j a hj
  exact Heap.lt_size e
section
variable {R : Result → Shared → Prop} {S : Addr}
theorem ZS.type {h : Heap} (S : ZS h z TI TO i1 i2 l1 l2 i xs ys) : ∃ o, h.get? z = some o ∧ o.cls = .type "zip" := by
  rcases S.ob with e | ⟨T, o, g, e, _⟩
  · exact ⟨_, e, rfl⟩
  · exact ⟨_, e, rfl⟩
/-- a fresh zip -/
structure Z0 (h : Heap) (z TI TO i1 i2 l1 l2 : Addr) (xs ys : Array Value) : Prop where
  ob : h.get? z = some (zObj .none false TI TO)
  zs : ZS h z TI TO i1 i2 l1 l2 0 xs ys
theorem Z0.over {h h' : Heap} {n : Addr} (S : Z0 h z TI TO i1 i2 l1 l2 xs ys) (k : ∀ b u, b ≠ n → h.get? b = some u → h'.get? b = some u) (nz : z ≠ n) (nI : TI ≠ n) (nO : TO ≠ n) (n1 : i1 ≠ n) (n2 : i2 ≠ n) (m1 : l1 ≠ n) (m2 : l2 ≠ n) : Z0 h' z TI TO i1 i2 l1 l2 xs ys := by
  refine ⟨k _ _ nz S.ob, S.zs.over k nz nI nO n1 n2 m1 m2 fun T g e => ?_⟩
  rw [S.ob] at e
  have q := congrArg Obj.data (Option.some.inj e)
  injection q with q
  have q2 := congrArg (fun v : Array Value => v[0]?) q
  simp [rawInt] at q2
end
end
end Pk
namespace Pk
open PySem PySem.Spec PyProof.Rows L2 GxR NdefX
theorem DtAll.zip {H : Hp} : ∀ {ts : List Addr} {ds es : List PyData}, ts.length = ds.length → es.length = ds.length → (∀ (j : Nat) (t : Addr) (d e : PyData), ts[j]? = some t → ds[j]? = some d → es[j]? = some e → ∃ x y, H t = some (.tup [x, y]) ∧ Dt H x d ∧ Dt H y e) → DtAll H (ts.map V.ref) ((ds.zip es).map fun p => .tuple [p.1, p.2])
  | [], [], [], _, _, _ => .nil
  | [], _ :: _, _, h, _, _ => by cases h
  | _ :: _, [], _, h, _, _ => by cases h
  | _, [], _ :: _, _, h, _ => by cases h
  | _, _ :: _, [], _, h, _ => by cases h
  | t :: ts, d :: ds, e :: es, h1, h2, f => by
    obtain ⟨x, y, q, r1, r2⟩ := f 0 t d e rfl rfl rfl
    exact .cons (.tup q (.cons r1 (.cons r2 .nil))) (DtAll.zip (Nat.succ.inj h1) (Nat.succ.inj h2) fun j t' d' e' a b c => f (j + 1) t' d' e' a b c)
end Pk
namespace Pk
open PySem L2 PySem.Spec PyProof.Rows GxR NdefX
def SpN {α : Type} (Rs : α → List Rel) (P : α → Hp → Prop) (C : α → Own) : Sp := fun vs H Q _ => ∃ (a : α) (om : Addr → Prop), Hd H om ∧ Rok (Rs a) (less H om) vs ∧ P a (less H om) ∧
  ∀ H' p o, Kp H H' → H' p = none → (C a).p (less H' om) o → Q (.ref p) (upd H' p o)
def Skn (sp : Sp) (Rs : List Rel) (P : Hp → Prop) (C : Own) : Prop := ∀ H om vs, Hd H om → Rok Rs (less H om) vs → P (less H om) → ∀ (Q : VK) (E : XK), (∀ H' p o, Kp H H' → H' p = none → C.p (less H' om) o → Q (.ref p) (upd H' p o)) → sp vs H Q E
theorem skn_spn {α : Type} {Rs : α → List Rel} {P : α → Hp → Prop} {C : α → Own} (a : α) : Skn (SpN Rs P C) (Rs a) (P a) (C a) := fun H om vs ho hr hp Q E q => ⟨a, om, ho, hr, hp, q⟩
/-- a result of which it is told that it is one of these -/
def SpX {α β : Type} (Rs : α → List Rel) (P : α → Hp → Prop) (R : β → Rel) (G : α → β → Prop) : Sp := fun vs H Q _ => ∃ (a : α) (om : Addr → Prop), Hd H om ∧ Rok (Rs a) (less H om) vs ∧ P a (less H om) ∧ ∀ H' v y, Kp H H' → G a y → (R y).p (less H' om) v → Q v H'
def Skx {β : Type} (sp : Sp) (Rs : List Rel) (P : Hp → Prop) (R : β → Rel) (G : β → Prop) : Prop := ∀ H om vs, Hd H om → Rok Rs (less H om) vs → P (less H om) → ∀ (Q : VK) (E : XK), (∀ H' v y, Kp H H' → G y → (R y).p (less H' om) v → Q v H') → sp vs H Q E
theorem skx_spx {α β : Type} {Rs : α → List Rel} {P : α → Hp → Prop} {R : β → Rel} {G : α → β → Prop} (a : α) : Skx (SpX Rs P R G) (Rs a) (P a) R (G a) := fun H om vs ho hr hp Q E q => ⟨a, om, ho, hr, hp, q⟩
/-- a reading gives a value of which it is told that it is one of these -/
def EX {β : Type} (c : Ct) (t : TE) (R : β → Rel) (G : β → Prop) : Prop := ∀ σ H, Sta c σ H → ∀ Q : VK, (∀ H' v y, Kp H H' → G y → (R y).p (bas c σ H') v → Q v H') → t σ H Q
section
variable {b : Bool} {c : Ct} {R R0 : Rel} {C : Own} {Rs : List Rel} {P : Hp → Prop} {sp : Sp} {te : TE} {ta : TA} {E' : XK} {Cl : Addr} {m : Str} {D : Ends} {i : Nat}
theorem n_call (hsp : Skn sp Rs P C) (ha : EA true c ta Rs) (hp : ∀ H, Kp c.h0 H → P H) : EN c (tCall sp [] E' ta) C := fun σ H s Q q => ha σ H s _ fun H1 vs k1 r1 => by
  rw [List.append_nil]
  refine hsp H1 (msk true c σ) vs (s.kp k1).hd r1 (hp _ ((s.kp k1).k0.trans bas_hb)) Q E' fun H' p o k n r => q H' p o (k1.trans k) n ?_
  rw [← hb_t]
  exact r
theorem x_call {β : Type} {R : β → Rel} {G : β → Prop} (hsp : Skx sp Rs P R G) (ha : EA true c ta Rs) (hp : ∀ H, Kp c.h0 H → P H) : EX c (tCall sp [] E' ta) R G := fun σ H s Q q => ha σ H s _ fun H1 vs k1 r1 => by
  rw [List.append_nil]
  refine hsp H1 (msk true c σ) vs (s.kp k1).hd r1 (hp _ ((s.kp k1).k0.trans bas_hb)) Q E' fun H' v y k g r => q H' v y (k1.trans k) g ?_
  rw [← hb_t]
  exact r
theorem s_setX {β : Type} {R : β → Rel} {G : β → Prop} (h : EX c te R G) (q : ∀ y, G y → WC (c.set i (.fz (R y))) D.nx) (hi : Nat.blt i c.g.length = true := by rfl) : WC c (tAsg te (gName i) D) := fun σ H s => h σ H s _ fun H' v y kp g r => 
  q y g _ H' ((s.kp kp).set (by simpa using hi) r).1
theorem s_asgX {β : Type} {R : β → Rel} {G : β → Prop} {g : TG} {g' : β → List Slot} {is : List Nat} (h : EX c te R G) (hg : ∀ y, G y → EG c g (R y) (g' y) is) (q : ∀ y, G y → WC (c.at (g' y)) D.nx) : WC c (tAsg te g D) := fun σ H s => h σ H s _ fun H' v y kp gd r =>
  hg y gd σ H' v (s.kp kp) r _ fun σ' s' _ _ => q y gd σ' H' s'
theorem s_retX {β : Type} {R : β → Rel} {G : β → Prop} (h : EX c te R G) (q : ∀ H' v y, Kp c.hs H' → G y → (R y).p (less H' c.om) v → D.rt v H') : WC c (tRet te D) := fun σ H s => h σ H s _ fun H' v y kp g r => q H' v y (s.ks.trans kp) g ((R y).mn (less_mono fun _ z => .inr z) r)
theorem ex_e {β : Type} {R : β → Rel} {G : β → Prop} (y : β) (h : E true c te (R y)) (g : G y) : EX c te R G := fun σ H s Q q => h σ H s _ fun H' v k r => q H' v y k g (by rw [← hb_t]; exact r)
/-- a new object is handed back -/
theorem s_retNew (h : EN c te C) (q : ∀ H' p o, Kp c.hs H' → H' p = none → C.p (less H' c.om) o → D.rt (.ref p) (upd H' p o)) : WC c (tRet te D) := fun σ H s => h σ H s _ fun H' p o kp n r => q H' p o (s.ks.trans kp) n (C.mn (less_mono fun _ z => .inr z) r)
end
section
variable {P : Program} {w : World} {K : PySem.W.Frag} {mg : Str → Option Value} {base : Heap} {x qual : Str} {st : Stmt} {f c : Addr} {fd : FuncData} {N ps : List Str} {k : Nat} {α β : Type} {Rs : α → List Rel} {Pr : α → Hp → Prop} {C : α → Own} {R : β → Rel} {G : α → β → Prop}
theorem fn_okN (F : Fun K x qual st f fd) (S : FnScope N ps (defScope st)) (hl : ∀ a, (Rs a).length = ps.length)
    (hbody : ∀ (cdv : Value) (A : Around) (outer : List Env) (s : Shared) (H : Hp) (E : XK), Room k (A.deeper (envOfC qual (defScope st) s.heap.objs.size f cdv)) →
      ∃ t, PSs (cxOf CX0 P w K mg base N qual (defScope st) f cdv A outer s H E).nox (defBody st) t ∧ ∀ (a : α) (hs : Hp) (om : Addr → Prop) (Q : VK), Pr a (less hs om) → (∀ H' p o, Kp hs H' → H' p = none → (C a).p (less H' om) o → Q (.ref p) (upd H' p o)) → WC ⟨hs, less hs om, om, slots0 (Rs a) N.length⟩ (t { nx := fun _ H' => Q .non H', rt := Q })) :
    FnOk P w K mg base CX0 (k + 1) f fd ps (SpN Rs Pr C) := by
  refine F.ok S (fun vs H Q E h => ?_) (fun cdv A outer s H vs Q E hr h => ?_)
  · obtain ⟨a, om, ho, hr, _⟩ := h
    rw [hr.len, hl]
  · obtain ⟨a, om, ho, hR, hP, q⟩ := h
    obtain ⟨t, ht, hw⟩ := hbody cdv A outer s H E hr
    exact ⟨t, ht, hw a H om Q hP q _ _ (sta_start ho hR)⟩
theorem fn_okX (F : Fun K x qual st f fd) (S : FnScope N ps (defScope st)) (hl : ∀ a, (Rs a).length = ps.length)
    (hbody : ∀ (cdv : Value) (A : Around) (outer : List Env) (s : Shared) (H : Hp) (E : XK), Room k (A.deeper (envOfC qual (defScope st) s.heap.objs.size f cdv)) →
      ∃ t, PSs (cxOf CX0 P w K mg base N qual (defScope st) f cdv A outer s H E).nox (defBody st) t ∧ ∀ (a : α) (hs : Hp) (om : Addr → Prop) (Q : VK), Pr a (less hs om) → (∀ H' v y, Kp hs H' → G a y → (R y).p (less H' om) v → Q v H') → WC ⟨hs, less hs om, om, slots0 (Rs a) N.length⟩ (t { nx := fun _ H' => Q .non H', rt := Q })) :
    FnOk P w K mg base CX0 (k + 1) f fd ps (SpX Rs Pr R G) := by
  refine F.ok S (fun vs H Q E h => ?_) (fun cdv A outer s H vs Q E hr h => ?_)
  · obtain ⟨a, om, ho, hr, _⟩ := h
    rw [hr.len, hl]
  · obtain ⟨a, om, ho, hR, hP, q⟩ := h
    obtain ⟨t, ht, hw⟩ := hbody cdv A outer s H E hr
    exact ⟨t, ht, hw a H om Q hP q _ _ (sta_start ho hR)⟩
end
/-- a list of the script's numbers, locked -/
def RScr (K : PySem.W.Frag) (ns : List Int) : Rel := ⟨fun H v => ∃ a, v = .ref a ∧ SqL K H a (ns.map V.int), fun k ⟨a, e, h⟩ => ⟨a, e, k.seq h⟩⟩
end Pk
namespace Pk
open PySem L2 PySem.Spec PyProof.Rows GxR NdefX
def noOwn (g : List Slot) : Bool := g.all fun s => notOwn (some s)
theorem bas_all {hs h0 : Hp} {g : List Slot} {σ : L2.St} {H : Hp} (h : noOwn g = true) : bas ⟨hs, h0, fun _ => False, g⟩ σ H = H := by
  funext a
  refine bas_out ?_
  rintro (⟨i, C, e, _⟩ | z)
  · have := List.all_eq_true.mp h _ (List.mem_of_getElem? e)
    cases this
  · exact z
theorem less_no {H : Hp} : less H (fun _ => False) = H := by
  funext a
  exact less_out id
/-- promises told of the whole heap -/
def Skx0 {β : Type} (sp : Sp) (Rs : List Rel) (P : Hp → Prop) (R : β → Rel) (G : β → Prop) : Prop := ∀ H vs, Rok Rs H vs → P H → ∀ (Q : VK) (E : XK), (∀ H' v y, Kp H H' → G y → (R y).p H' v → Q v H') → sp vs H Q E
section
variable {hs h0 : Hp} {g : List Slot} {R : Rel} {C : Own} {Rs : List Rel} {P : Hp → Prop} {sp : Sp} {te : TE} {ta : TA} {E' : XK} {Cl : Addr} {m : Str} {D : Ends}
theorem x_call0 {β : Type} {R : β → Rel} {G : β → Prop} (hsp : Skx0 sp Rs P R G) (ha : EA true ⟨hs, h0, fun _ => False, g⟩ ta Rs) (hp : ∀ H, Kp h0 H → P H) (no : noOwn g = true := by rfl) : EX ⟨hs, h0, fun _ => False, g⟩ (tCall sp [] E' ta) R G := fun σ H s Q q => ha σ H s _ fun H1 vs k1 r1 => by
  rw [List.append_nil]
  rw [hb_t, bas_all no] at r1
  have k0 := (s.kp k1).k0
  rw [bas_all no] at k0
  refine hsp H1 vs r1 (hp _ k0) Q E' fun H' v y k gd r => q H' v y (k1.trans k) gd ?_
  rw [bas_all no]
  exact r
end
section
variable {P : Program} {w : World} {K : PySem.W.Frag} {mg : Str → Option Value} {base : Heap} {x qual : Str} {st : Stmt} {f c : Addr} {fd : FuncData} {N ps : List Str} {k : Nat}
/-- a law: for each script, with these tables, True -/
def spLawT (K : PySem.W.Frag) (Ts : List Addr) : Sp := fun vs H Q _ => ∃ (a : Addr) (ns : List Int), vs = [.ref a] ∧ SqL K H a (ns.map V.int) ∧ ns.length ≤ 63 ∧ (∀ T ∈ Ts, TabG H T) ∧ ∀ H', Q (.bl true) H'
theorem fn_okL {Ts : List Addr} (F : Fun K x qual st f fd) (S : FnScope N ["script"] (defScope st))
    (hbody : ∀ (cdv : Value) (A : Around) (outer : List Env) (s : Shared) (H : Hp) (E : XK), Room k (A.deeper (envOfC qual (defScope st) s.heap.objs.size f cdv)) →
      ∃ t, PSs (cxOf CX0 P w K mg base N qual (defScope st) f cdv A outer s H E).nox (defBody st) t ∧ ∀ (ns : List Int) (hs : Hp) (Q : VK), ns.length ≤ 63 → (∀ T ∈ Ts, TabG hs T) → (∀ H', Q (.bl true) H') → WC ⟨hs, hs, fun _ => False, slots0 [RScr K ns] N.length⟩ (t { nx := fun _ H' => Q .non H', rt := Q })) :
    FnOk P w K mg base CX0 (k + 1) f fd ["script"] (spLawT K Ts) := by
  refine F.ok S (fun vs H Q E h => ?_) (fun cdv A outer s H vs Q E hr h => ?_)
  · obtain ⟨a, ns, rfl, _⟩ := h
    rfl
  · obtain ⟨a, ns, rfl, hS, hl, hT, q⟩ := h
    obtain ⟨t, ht, hw⟩ := hbody cdv A outer s H E hr
    have z := sta_start (H := H) (om := fun _ => False) (Rs := [RScr K ns]) (N := N) (vs := [.ref a]) (fun _ z => z.elim) ⟨_, _, rfl, ⟨a, rfl, by rw [less_no]; exact hS⟩, rfl⟩
    rw [less_no] at z
    exact ⟨t, ht, hw ns H Q hl hT q _ _ z⟩
end
end Pk
namespace L2
open PySem PySem.Spec PyProof.Rows
section
variable {P : Program} {w : World} {A : Around} {E : Value → Shared → Prop} {s : Shared} {a x : Addr} {L : List (Addr × List Int)} {es : Array (Int × Value)} {ep : Nat} {t : SetTable} {k : List Int}
/-- what a search needs of the set -/
structure Seek (P : Program) (w : World) (h : Heap) (a : Addr) (L : List (Addr × List Int)) (es : Array (Int × Value)) (ep : Nat) (t : SetTable) : Prop where
  ob : ∃ o, h.get? a = some o ∧ o.ExactSet ∧ o.data = .set es ep t
  row : ∀ {i : Nat} {p : Addr × List Int}, L[i]? = some p → es[i]? = some (thash P w p.2, Value.ref p.1)
  all : es.toList = rowsOf P w L
  tab : TabOk t (L.map fun p => thash P w p.2)
  tup : ∀ p ∈ L, IsT P w h p.2 p.1
  room : L.length * 5 < t.mask * 3
theorem Seek.of (R : SetTR P w s.heap a L es ep t) : Seek P w s.heap a L es ep t := ⟨R.ob, fun h => R.entry h, R.rows, R.tab, R.tup, R.room⟩
variable {K : Nat} {Q : SetFound → Shared → Prop}
end
end L2
namespace Pk
open PySem L2 PySem.Spec PyProof.Rows GxR NdefX
section
variable {P : Program} {w : World} {K : PySem.W.Frag} {c : Ct} {b : Bool} {ta : TE} {ps : List Pl}
theorem SetOf.kp {H H' : Hp} {a : Addr} (h : SetOf P w H a ps) (k : Kp H H') : SetOf P w H' a ps := by
  obtain ⟨L, h1, h2, h3⟩ := h
  refine ⟨L, k.at_ _ _ h1 (fun _ z => nomatch z), fun x hx => ?_, h3⟩
  obtain ⟨p, m, e, z⟩ := h2 x hx
  exact ⟨p, m, e, k.tup z⟩
end
end Pk
namespace Pk
open PySem L2 PySem.Spec PyProof.Rows GxR NdefX
section
variable {c : Ct} {wi : TI} {ta : TA} {tl te ti : TE} {tt : TT} {g : TG} {D : Ends} {tb : TS} {K : PySem.W.Frag} {α β : Type} {xs : List α} {ys : List β} {R : α → Rel} {f : α → PyData} {h : β → PyData}
theorem DtAll.set {H : Hp} {vs : List V} {ds : List PyData} (h : DtAll H vs ds) : ∀ {j : Nat} {v : V} {d : PyData}, Dt H v d → DtAll H (vs.set j v) (ds.set j d) := by
  induction vs generalizing ds with
  | nil => cases h; intro j v d _; exact .nil
  | cons u vs ih =>
    cases h with
    | cons a b =>
      intro j v d r
      cases j with
      | zero => exact .cons r b
      | succ j => exact .cons a (ih b r)
end
/-- a tuple of numbers, written or made -/
def RTI (K : PySem.W.Frag) (ns : List Int) : Rel := ⟨fun H v => ∃ a, v = .ref a ∧ SqT K H a (ns.map V.int), fun k ⟨a, e, h⟩ => ⟨a, e, by
  rcases h with (h | ⟨o, h⟩) | h
  · exact .inl (.inl (k.tup h))
  · exact .inl (.inr ⟨o, k.at_ _ _ h fun _ z => nomatch z⟩)
  · exact .inr h⟩⟩
theorem RTI.dp {K : PySem.W.Frag} {ns : List Int} {H : Hp} {v : V} (h : (RTI K ns).p H v) : Dp K H v (.tuple (ns.map PyData.int)) := by
  obtain ⟨a, rfl, h⟩ := h
  refine .tup h ?_
  clear h
  induction ns with
  | nil => exact .nil
  | cons n ns ih => exact .cons (.int n) ih
end Pk
namespace Pk
open PySem L2 PySem.Spec PyProof.Rows
section
variable {P : Program} {w : World} {K : PySem.W.Frag} {mg : Str → Option Value} {base : Heap}
/-- a def whose errors were made where nothing was handled -/
theorem fun_okN {x qual : Str} {st : Stmt} {f : Addr} {fd : FuncData} {N ps : List Str} {k : Nat} {sp : Sp} (F : Fun K x qual st f fd) (S : FnScope N ps (defScope st))
    (len : ∀ vs H Q E, sp vs H Q E → vs.length = ps.length)
    (hbody : ∀ (cd : Value) (A : Around) (outs : List Env) (s : Shared) (H : Hp) (vs : List V) (Q : VK) (E : XK), Room k (A.deeper (envOfC qual (defScope st) s.heap.objs.size f cd)) → sp vs H Q E →
      ∃ t, PSs (cxOf (L2N.CX P w) P w K mg base N qual (defScope st) f cd A outs s H E) (defBody st) t ∧ t { nx := fun _ G => Q .non G, rt := Q } (start N vs) H) :
    FnOk P w K mg base (L2N.CX P w) (k + 1) f fd ps sp := by
  obtain ⟨_, _, _, _, _, _, cd, _, _, rfl, look, code⟩ := F.ex
  exact fn_of look code S len fun A outs s H vs Q E hr z => hbody cd A outs s H vs Q E hr z
/-- the same, called while an exception is handled -/
theorem fun_okH {x qual : Str} {st : Stmt} {f : Addr} {fd : FuncData} {N ps : List Str} {k : Nat} {sp : Sp} {CX : CXT} (F : Fun K x qual st f fd) (S : FnScope N ps (defScope st))
    (len : ∀ vs H Q E, sp vs H Q E → vs.length = ps.length)
    (hbody : ∀ (cd : Value) (A : Around) (outs : List Env) (s : Shared) (H : Hp) (vs : List V) (Q : VK) (E : XK) (p : Addr × Obj), L2H.Hot1 A p → L2H.RoomH k (A.deeper (envOfC qual (defScope st) s.heap.objs.size f cd)) → sp vs H Q E →
      ∃ t, PSs (L2H.cxH CX P w K mg base N qual (defScope st) f cd A outs s H E p) (defBody st) t ∧ t { nx := fun _ G => Q .non G, rt := Q } (start N vs) H) :
    L2H.FnH P w K mg base CX (k + 1) f fd ps sp := by
  obtain ⟨_, _, _, _, _, _, cd, _, _, rfl, look, code⟩ := F.ex
  exact L2H.fn_ofH look code S len fun A outs s H vs Q E p hot hr z => hbody cd A outs s H vs Q E p hot hr z
end
/-- an own error with a field is made where nothing is handled; its context is None -/
theorem pmkN_oex {X : Cx} {CX : CXT} {x : Str} {e : Expr} {es : List Expr} {ta : TA} {p pos : Pos} {C fI : Addr} {k : Nat} {fd : FuncData} {ps : List Str} {sp : Sp} (T : OexC X.K C)
    (iC : PySem.W.findIn X.K (.ref C) "__init__" = some (some (.ref fI))) (tI : PySem.W.typeIn X.K (.ref fI) = some (.type "function"))
    (F1 : FnOk X.prog X.w X.K X.mg X.base CX k fI fd ps sp) (room : Room (k + 1) X.A) (hb : Binds X.K fd ps []) (lets : Passes CX X (fun _ _ _ => False)) (hg : Gl X x) (hm : X.mg x = some (.ref C)) (ha : PA X (e :: es) ta)
    (hdb : (x == ("__debug__" : Str)) = false := by decide) (he : starEach (e :: es) X.env = (false, eval e X.env) :: starEach es X.env := by rfl) (hpl : (backTo pos (starEach es X.env)).any (·.1) = false := by rfl) :
    L2N.PMk X (.Call (.Name x p) (e :: es) [] pos) (tMkO C sp [] ta) := by
  intro pins s τ G Wish I want
  obtain ⟨_, _, _, _, bm, _, _, _, _, _, _, _, _, _, _, hC, hbm⟩ := T.cls
  refine wpAny_Call_Name_kw (ld_glob I hg hm ?_ hdb)
  refine PySem.W.callWith_K (h₀ := X.base) I.ok.mod.kin T.kC (thn (ha.run pos pins s τ G _ I want) fun us s1 got => ?_) he hpl
  obtain ⟨vs, G1, I1, rel, few, wish1⟩ := got
  refine ⟨I1.kIn, ?_⟩
  show wpAny _ _ (call (.ref C) us) _ _ _
  obtain ⟨hp, g, dr, tk, os⟩ := s1
  have up1 : hp.objs.size ≤ hp.objs.size + 1 := Nat.le_succ _
  have fresh : G1 (hp.objs.size + 1) = none := I1.hok.fresh up1
  have asks := wish1 (hp.objs.size + 1) fresh
  rw [List.append_nil] at asks
  have stays : ∀ b o, hp.get? b = some o → ((hp.push (PySem.W.kdv_tup us)).push (PySem.HandSPX.excO C hp.objs.size)).get? b = some o := fun b o z => Heap.get?_push_of_some _ (Heap.get?_push_of_some _ z)
  have lies : ((hp.push (PySem.W.kdv_tup us)).push (PySem.HandSPX.excO C hp.objs.size)).get? (hp.objs.size + 1) = some (PySem.HandSPX.excO C hp.objs.size) := by heap_get
  have J := I1.laid (t' := tk) (a := hp.objs.size + 1) (o := exo (hp.objs.size + 1) C none) (h' := (hp.push (PySem.W.kdv_tup us)).push (PySem.HandSPX.excO C hp.objs.size)) stays up1 (exo_ok lies)
  have rel2 : Vals (V.ref (hp.objs.size + 1) :: vs) (Value.ref (hp.objs.size + 1) :: us) := .cons rfl rel
  have many : (Value.ref (hp.objs.size + 1) :: us ++ []).length = ps.length := by
    have z := rel2.length
    rw [F1.len _ _ _ _ asks] at z
    rw [List.append_nil]
    exact z.symm
  have few2 : us.length ≤ sizeLine := by
    rw [← Paired.length rel, sizeLine_eq]
    omega
  have bound := hb _ (Value.ref (hp.objs.size + 1) :: us) J.kIn many
  rw [List.append_nil] at bound
  refine wpAny_call (PySem.HandSPX.call_own F.excBase_ValueError (fun Y => PySem.HandSPX.refsVE_contains Y bm hbm) (I1.kIn _ _ hC) (PySem.W.looks_findIn I1.kIn iC) (fun self => PySem.W.bind_fn I1.kIn self tI) few2
    (codeAny_mono (F1.run _ X.stack _ _ ⟨Value.ref (hp.objs.size + 1) :: us, []⟩ (Value.ref (hp.objs.size + 1) :: us) _ _ (fun _ _ _ => False) (room.make C us []) (J.env0.make C us []) bound rel2 asks) fun r s' told => ?_))
  cases r with
  | error er => exact lets pins τ _ _ er s' J told
  | ok fl =>
    cases fl with
    | ret u =>
      obtain ⟨v, G2, os2, bare2, un2, hok2, rv, ev, d, fs, ea, ed, hd1, wish2⟩ := told
      subst ev
      obtain ⟨h2, g2, d2, t2, os'⟩ := s'
      obtain ⟨t0, B, J2, keeps, none2, obj2, na⟩ := mk_end0 (d2 := d2) (t2 := t2) I1 up1 stays un2 hok2 os2 bare2 ea ed hd1
      exact ⟨rv, hp.objs.size + 1, _, _, ⟨B, g2, d2, t2, os'⟩, _, .ref C, some d, rfl, J2, keeps, none2, obj2, ⟨rfl, rfl, fun vs hv => by cases hv; rfl⟩, rfl, rfl, na, rfl, bare2, raises_own T.exC T.tyC, wish2⟩
    | next => exact False.elim told
    | brk => exact False.elim told
    | cont => exact False.elim told
/-- what is wished of an error of the body -/
def wPair (K : PySem.W.Frag) (cs : List Value) (ts : Sui) (Wo : WX) (D : Ends) : WX := fun cls d τ G =>
  ∃ b, PySem.W.exmAny K cls cs = some b ∧ (b = true → ∀ a, G a = none → ts a cls d D τ G) ∧ (b = false → Wo cls d τ G)
def wOut (K : PySem.W.Frag) (cs : List Value) (Wo : WX) : WX := fun cls d τ G => PySem.W.exmAny K cls cs = some false ∧ Wo cls d τ G
section
variable {X : Cx} {x1 x2 : Str} {c1 c2 : Value} {body suite : List Stmt} {b₀ : Stmt} {n1 n2 n3 pos pos' : Pos} {kk : Nat} {tb : WX → TS} {ts : Sui} {Wo : WX}
theorem flying_push {h B : Heap} {l : List Env} {a : Addr} {Z : Obj → Prop} {o : Obj} (x : HandSPX.FlyingZ B l a Z h) : HandSPX.FlyingZ B l a Z (h.push o) := by
  obtain ⟨y1, y2, y3, oe, vs, T, oT, us, he, hz, hd, g1, gn, gT, hT, hdT, g3⟩ := x
  have up : ∀ {b q}, h.get? b = some q → (h.push o).get? b = some q := fun z => Heap.get?_push_of_some _ z
  exact ⟨fun b q z => up (y1 b q z), y2, y3.of_keeps fun b q z _ => ⟨q, up z, rfl⟩, oe, vs, T, oT, us, up he, hz, hd, g1, gn, gT, up hT, hdT, g3⟩
theorem ps_try_pair (hst : X.stack = X.env :: X.outer) (hfm : X.env.frame = some X.env.locals) (k1 : Names X x1 c1) (k2 : Names X x2 c2) (own : ∀ hd : Option Value, PassesOwnAt (model X.prog X.w) (X.A.mark hd) X.A X.env X.xe) (tk : Takes X Wo)
    (hb : ∀ (W : WX) (pn : List (Addr × Obj)) (xe : Value → Shared → Prop), L2N.Takes (X.tr pn xe) W → Takes (X.tr pn xe) (wOut X.K [c1, c2] Wo) → PassesOwn (model X.prog X.w) X.A X.env xe → PSs (X.tr pn xe) body (tb W))
    (hsu : ∀ (a : Addr) (oe : Obj) (cls : Value) (d : Option Addr) (pn : List (Addr × Obj)), L2N.Zn cls d oe → (∃ vs, oe.data = .fields vs) → Takes (L2H.suiteX X a ((a, oe) :: pn)) Wo → L2H.HotC (L2H.suiteX X a ((a, oe) :: pn)) →
      PSs (L2H.suiteX X a ((a, oe) :: pn)) (b₀ :: suite) (ts a cls d)) :
    PS X (.Try body [.ExceptHandler (some (.Tuple [.Name x1 n1, .Name x2 n2] kk n3)) none (b₀ :: suite) pos'] [] [] pos) (fun D τ G => tb (wPair X.K [c1, c2] ts Wo D) D τ G) := by
  refine ⟨fun pins s τ G D I hw => ?_⟩
  have okX := I.ok
  have frs0 : X.A.frames = some (X.env :: X.outer) := by rw [okX.frames, hst]
  let M := model X.prog X.w
  have apart : ∀ {B h : Heap} {a : Addr} {o : Obj} {vs : Array Value}, h.FunFrames B (X.env :: X.outer) → h.get? a = some o → o.data = .fields vs → a ∉ frs (X.env :: X.outer) := fun {B h a o vs} ff z dd hm => by
    obtain ⟨_, o', z', hnf⟩ := ff.mem hm
    rw [z] at z'
    cases z'
    exact hnf _ dd
  have goesOn : ∀ {a : Addr} {B : Heap} {sI s' : Shared} {τ' : L2.St} {G' : Hp} {cls : Value} {d : Option Addr} {h3 : Heap}, Inv X pins τ' G' sI → (∀ b o, sI.heap.get? b = some o → b ∉ frs X.stack → B.get? b = some o) → sI.heap.UpToSlots h3 →
      HandSPX.FlyingZ B (X.env :: X.outer) a (Zc cls d) h3 → G' a = none → s'.os = sI.os → AllBare s'.gens → Wo cls d τ' G' → wpAny M X.A (handleBy (.ref a) X.env []) (SP X pins D) X.xe { s' with heap := h3 } := by
    intro a B sI s' τ' G' cls d h3 J nb up fl na hos hag wo
    refine wpAny_handleBy_nil ?_
    obtain ⟨_, _, _, oe, vs, T, oT, us, he, hz, hd, g1, _⟩ := id fl
    unfold PySem.passOn
    refine wpAny_bind (wpAny_field he hd g1 ?_)
    rw [if_neg (show ¬ ((Value.ref T == Value.none) = true) from by simp)]
    have out : wpAny M X.A (setFlight (.ref a) X.env.frame) (fun _ s4 => wpAny M X.A (throw (.ref a) : Sem Flow) (SP X pins D) X.xe s4) X.xe { s' with heap := h3 } := by
      rw [hfm]
      refine HandSPX.setFlight_upZ fl fun h4 hh4 up4 => wpAny_throw (tk _ _ ?_)
      exact ⟨a, B, sI, pins, τ', G', cls, d, rfl, J, nb, up.trans up4, .inr (.inr (by rw [hst]; exact hh4)), na, hos, hag, wo⟩
    first
      | exact wpAny_bind (wpAny_pure (wpAny_bind out))
      | exact wpAny_bind out
  have named : ∀ {x : Str} {c : Value} {np : Pos} {a : Addr} {oe : Obj} {τ' : L2.St} {G' : Hp} {s5 : Shared} {Q : Value → Shared → Prop} {E : Value → Shared → Prop}, Names X x c → Inv (X.suite a ((a, oe) :: (X.pn ++ pins))) [] τ' G' s5 → Q c s5 →
      wpAny M (X.A.mark (some (.ref a))) (eval (.Name x np) X.env) Q E s5 := fun {x c np a oe τ' G' s5 Q E} hc S5 q => by
    obtain ⟨hg, hdbg, hm | ⟨hm, hv, hnn⟩⟩ := hc
    · exact ld_glob (X := X.suite a ((a, oe) :: (X.pn ++ pins))) S5 hg hm q hdbg
    · exact ld_blt (X := X.suite a ((a, oe) :: (X.pn ++ pins))) S5 hg hm hv q hnn hdbg
  refine wpAny_Try_except ?_
  refine wpAny_mono ((hb (wPair X.K [c1, c2] ts Wo D) (X.pn ++ pins) (fun e s₁ => wpAny M X.A (noteFrame e X.env) (fun _ s₂ => wpAny M X.A (setFlight e none) (fun _ s₃ =>
    wpAny M X.A (handleBy e X.env [.ExceptHandler (some (.Tuple [.Name x1 n1, .Name x2 n2] kk n3)) none (b₀ :: suite) pos']) (SP X pins D) X.xe s₃) X.xe s₂) X.xe s₁) (fun u s' xx => ?_) (fun u s' xx => ?_) PassesOwn.looking).run [] s τ G D (I.toTry _) hw) (fun fl s1 hsp => ?_) (fun e s1 z => z)
  · obtain ⟨a, B, sI, pins', τ', G', cls, d, rfl, J0, nb, up, sky, na, hos, hag, b, hb1, yes, no⟩ := xx
    have J : Inv X pins τ' G' sI := J0.ofTry okX
    have sk : Sky B (X.env :: X.outer) a (L2N.Zn cls d) X.env.locals s'.heap := hst ▸ sky
    show wpAny M X.A (noteFrame (.ref a) X.env) _ _ _
    refine L2N.Sky.land L2N.Zn.steady frs0 hfm sk fun h3 fl3 up3 => ?_
    have J3 : Inv X pins τ' G' { s' with heap := h3 } := J.landed nb fl3.1 (up.trans up3) hos hag
    obtain ⟨oe3, vs3, he3, hz3, hd3⟩ := fl3.there
    have nfr := apart fl3.2.2.1 he3 hd3
    have nL : a ≠ X.env.locals := fun z => nfr (List.mem_filterMap.mpr ⟨X.env, List.mem_cons_self, by rw [hfm, z]⟩)
    have nF : a ∉ X.fs := fun hm => by
      obtain ⟨e, he, q⟩ := List.mem_filterMap.mp hm
      exact nfr (List.mem_filterMap.mpr ⟨e, List.mem_cons_of_mem _ he, q⟩)
    have S3 := J3.suite he3 hd3 na nL nF
    refine wpAny_handleBy_cons (codeAny_handlers_test ?_) (by intro q; cases q)
    refine wpAny_Tuple (wpAny_items_cons (named k1 S3 (wpAny_items_cons (named k2 S3 (wpAny_items_nil ⟨by size_fits, ?_⟩)))))
    have kp : ∀ q o, h3.get? q = some o → (h3.push { cls := .type "tuple", data := .seq [c1, c2].toArray }).get? q = some o := fun _ _ z => Heap.get?_push_of_some _ z
    have LT : PySem.W.Looks M (h3.push { cls := .type "tuple", data := .seq [c1, c2].toArray }) (typeOf (.ref a)) cls := fun A Q E s k q => wpAny_typeOf_ref (k _ _ (kp _ _ he3)) (by rw [hz3.1]; exact q)
    have KI := J3.kIn.keeps kp
    refine (PySem.W.exm_tup2 KI LT (Heap.get?_push_size h3 rfl) hb1).here ?_
    have fl5 := flying_push (o := { cls := .type "tuple", data := .seq [c1, c2].toArray }) fl3
    have up5 : h3.UpToSlots (h3.push { cls := .type "tuple", data := .seq [c1, c2].toArray }) := fun b o z _ => ⟨o.slots, kp b _ z⟩
    cases b with
    | true =>
      refine codeAny_handlers_suite ?_
      refine HandSPX.lands_againZ fl5 fun h4 fl4 up4 => ?_
      have J4 : Inv X pins τ' G' { s' with heap := h4 } := J.landed nb fl4.1 (((up.trans up3).trans up5).trans up4) hos hag
      obtain ⟨oe4, vs4, he4, hz4, hd4⟩ := fl4.there
      have S4 := J4.suite he4 hd4 na nL nF
      have tkS : Takes (L2H.suiteX X a ((a, oe4) :: (X.pn ++ pins))) Wo := fun u2 s2 y => by
        obtain ⟨a2, B2, sI2, pn2, τ2, G2, cls2, d2, e2, I2, nb2, up2, sky2, na2, os2, ag2, w2⟩ := y
        exact tk u2 s2 ⟨a2, B2, sI2, pins, τ2, G2, cls2, d2, e2, L2H.unsuiteX I2 okX, nb2, up2, sky2, na2, os2, ag2, w2⟩
      have hot : L2H.HotC (L2H.suiteX X a ((a, oe4) :: (X.pn ++ pins))) := ⟨(a, oe4), ⟨rfl, vs4, hd4, hz4.2.2 vs4 hd4⟩, List.mem_cons_self⟩
      refine wpAny_mono ((hsu a oe4 cls d (X.pn ++ pins) hz4 ⟨_, hd4⟩ tkS hot).run [] _ _ G' _ (L2H.suiteX_of S4) (yes rfl a na)) (fun f s6 hsp => ?_) (fun e6 s6 z => own (some (.ref a)) e6 s6 z)
      cases f with
      | next =>
        obtain ⟨τ6, G6, S6, q6⟩ := hsp
        exact ⟨_, _, L2H.unsuiteX S6 okX, q6⟩
      | brk =>
        obtain ⟨τ6, G6, S6, q6⟩ := hsp
        exact ⟨_, _, L2H.unsuiteX S6 okX, q6⟩
      | cont =>
        obtain ⟨τ6, G6, S6, q6⟩ := hsp
        exact ⟨_, _, L2H.unsuiteX S6 okX, q6⟩
      | ret u =>
        obtain ⟨v6, τ6, G6, S6, r6, q6⟩ := hsp
        exact ⟨_, _, _, L2H.unsuiteX S6 okX, r6, q6⟩
    | false =>
      show wpAny M X.A (handleBy (.ref a) X.env []) _ _ _
      exact goesOn J nb ((up.trans up3).trans up5) (L2H.flyingZ_imp (fun o z => z.zc) fl5) na hos hag (no rfl)
  · obtain ⟨a, B, sI, pins', τ', G', cls, d, rfl, J0, nb, up, sky, na, hos, hag, hb1, no⟩ := xx
    have J : Inv X pins τ' G' sI := J0.ofTry okX
    have sk : Sky B (X.env :: X.outer) a (Zc cls d) X.env.locals s'.heap := hst ▸ sky
    show wpAny M X.A (noteFrame (.ref a) X.env) _ _ _
    refine Sky.land Zc.steady frs0 hfm sk fun h3 fl3 up3 => ?_
    have J3 : Inv X pins τ' G' { s' with heap := h3 } := J.landed nb fl3.1 (up.trans up3) hos hag
    obtain ⟨oe3, vs3, he3, hz3, hd3⟩ := fl3.there
    have nfr := apart fl3.2.2.1 he3 hd3
    have nL : a ≠ X.env.locals := fun z => nfr (List.mem_filterMap.mpr ⟨X.env, List.mem_cons_self, by rw [hfm, z]⟩)
    have nF : a ∉ X.fs := fun hm => by
      obtain ⟨e, he, q⟩ := List.mem_filterMap.mp hm
      exact nfr (List.mem_filterMap.mpr ⟨e, List.mem_cons_of_mem _ he, q⟩)
    have S3 := J3.suite he3 hd3 na nL nF
    refine wpAny_handleBy_cons (codeAny_handlers_test ?_) (by intro q; cases q)
    refine wpAny_Tuple (wpAny_items_cons (named k1 S3 (wpAny_items_cons (named k2 S3 (wpAny_items_nil ⟨by size_fits, ?_⟩)))))
    have kp : ∀ q o, h3.get? q = some o → (h3.push { cls := .type "tuple", data := .seq [c1, c2].toArray }).get? q = some o := fun _ _ z => Heap.get?_push_of_some _ z
    have LT : PySem.W.Looks M (h3.push { cls := .type "tuple", data := .seq [c1, c2].toArray }) (typeOf (.ref a)) cls := fun A Q E s k q => wpAny_typeOf_ref (k _ _ (kp _ _ he3)) (by rw [hz3.1]; exact q)
    have KI := J3.kIn.keeps kp
    refine (PySem.W.exm_tup2 KI LT (Heap.get?_push_size h3 rfl) hb1).here ?_
    have up5 : h3.UpToSlots (h3.push { cls := .type "tuple", data := .seq [c1, c2].toArray }) := fun b o z _ => ⟨o.slots, kp b _ z⟩
    show wpAny M X.A (handleBy (.ref a) X.env []) _ _ _
    exact goesOn J nb ((up.trans up3).trans up5) (flying_push fl3) na hos hag no
  · cases fl with
    | next =>
      obtain ⟨τ', G', J', q⟩ := hsp
      exact wpAny_execs_nil ⟨τ', G', J'.ofTry okX, q⟩
    | brk =>
      obtain ⟨τ', G', J', q⟩ := hsp
      exact ⟨τ', G', J'.ofTry okX, q⟩
    | cont =>
      obtain ⟨τ', G', J', q⟩ := hsp
      exact ⟨τ', G', J'.ofTry okX, q⟩
    | ret u =>
      obtain ⟨v, τ', G', J', r, q⟩ := hsp
      exact ⟨v, τ', G', J'.ofTry okX, r, q⟩
end
end Pk
namespace Pk
open PySem L2 PySem.Spec PyProof.Rows SX PySem.Builtin PySem.Builtin.Str
theorem cut_one {p q : List Nat} {c : Nat} (hp : c ∉ p) : ∃ i, occurrences (S (p ++ c :: q)) (S [c]) 0 (S (p ++ c :: q)).length 1 = [i] ∧ strSub (S (p ++ c :: q)) 0 i = S p ∧ strSub (S (p ++ c :: q)) (i + 1) (S (p ++ c :: q)).length = S q := by
  have pa : TL.par [c] [] (p ++ ([c] ++ q)) = some ([] ++ p, q) := TL.par_part1 hp
  have e := partition_some (a := p ++ c :: q) (b := [c]) (by simp) pa
  have le := StrLaws.occ_length_le (S (p ++ c :: q)) (S [c]) 0 (S (p ++ c :: q)).length 1
  unfold Txt.partition at e
  cases h : occurrences (S (p ++ c :: q)) (S [c]) 0 (S (p ++ c :: q)).length 1 with
  | nil =>
    rw [h] at e
    have e2 := congrArg (fun x : Str × Str × Str => x.2.1) e
    have e2 : Str.empty = S [c] := e2
    have := congrArg Str.length e2
    rw [S_len] at this
    cases this
  | cons i r =>
    rw [h] at e le
    have rn : r = [] := by cases r with | nil => rfl | cons _ _ => simp at le
    subst rn
    refine ⟨i, rfl, ?_, ?_⟩
    · exact congrArg (fun x : Str × Str × Str => x.1) e
    · exact congrArg (fun x : Str × Str × Str => x.2.2) e
theorem glued_two (z p q : List Nat) : glued (S z) [S p, S q] = S (p ++ z ++ q) := by
  unfold glued
  simp [S]
section
variable {prog : Program} {w : World} {A : Around} {E : Value → Shared → Prop} {s : Shared} {t u v k : Tok} {Q : Value → Shared → Prop} {p q z : List Nat} {c : Nat}
theorem replace_first (hu : u ≠ 0) (hv : v ≠ 0) (huv : u ≠ v) (hp : c ∉ p) (hz : z ≠ [c]) (hb : (p ++ c :: q).length + z.length ≤ 1000000)
    (fin : ∀ t' k', Q (.str (S (p ++ z ++ q)) t') { s with toks := k' }) : wpAny (model prog w) A (call (.builtin "str.replace") [.str (S (p ++ c :: q)) t, .str (S [c]) u, .str (S z) v, .int 1 k]) Q E s := by
  obtain ⟨i, ho, h1, h2⟩ := cut_one (q := q) hp
  have hyz : (S [c] == S z) = false := by
    rw [S_beq_eq]
    exact decide_eq_false fun e => hz e.symm
  have hl : tooLong ((S (p ++ c :: q)).length + [i].length * (S z).length) = false := by
    unfold tooLong
    rw [S_len, S_len]
    have : (1000000 : Nat) < sizeLine := by decide
    exact decide_eq_false (by simp only [List.length_singleton]; omega)
  have pb : partsBetween (S (p ++ c :: q)) [i] 1 = [S p, S q] := by
    unfold partsBetween
    show [strSub _ 0 i, strSub _ (i + 1) _] = _
    rw [h1, h2]
  have g : Gives («str.replace» ⟨[.str (S (p ++ c :: q)) t, .str (S [c]) u, .str (S z) v, .int 1 k], []⟩) (.str (S (p ++ z ++ q))) := by
    have hk := countLimit_int "str.replace" 1 k ((S (p ++ c :: q)).length + 1) (by decide)
    show Gives (do
      let limit ← countLimit "str.replace" (some (.int 1 k)) ((S (p ++ c :: q)).length + 1)
      if ((occurrences (S (p ++ c :: q)) (S [c]) 0 (S (p ++ c :: q)).length limit).isEmpty || ((S [c]).length == 0 && (S z).length == 0)) = true then (do rule "str.replace.nothing"; ret (.str (S (p ++ c :: q)) t)) else
          (do let same ← isSame (.str (S [c]) u) (.str (S z) v)
              if same = true then (do rule "str.replace.old-is-new"; ret (.str (S (p ++ c :: q)) t)) else
              if tooLong ((S (p ++ c :: q)).length + (occurrences (S (p ++ c :: q)) (S [c]) 0 (S (p ++ c :: q)).length limit).length * (S z).length) = true then unsupported "str.replace:memory" else
              retStr (glued (S z) (partsBetween (S (p ++ c :: q)) (occurrences (S (p ++ c :: q)) (S [c]) 0 (S (p ++ c :: q)).length limit) (S [c]).length)))) _
    rw [hk]
    have e1 : (if (1 : Int) < 0 then (S (p ++ c :: q)).length + 1 else (1 : Int).toNat) = 1 := rfl
    rw [e1]
    show Gives (if ((occurrences (S (p ++ c :: q)) (S [c]) 0 (S (p ++ c :: q)).length 1).isEmpty || ((S [c]).length == 0 && (S z).length == 0)) = true then (do rule "str.replace.nothing"; ret (.str (S (p ++ c :: q)) t)) else
          (do let same ← isSame (.str (S [c]) u) (.str (S z) v)
              if same = true then (do rule "str.replace.old-is-new"; ret (.str (S (p ++ c :: q)) t)) else
              if tooLong ((S (p ++ c :: q)).length + (occurrences (S (p ++ c :: q)) (S [c]) 0 (S (p ++ c :: q)).length 1).length * (S z).length) = true then unsupported "str.replace:memory" else
              retStr (glued (S z) (partsBetween (S (p ++ c :: q)) (occurrences (S (p ++ c :: q)) (S [c]) 0 (S (p ++ c :: q)).length 1) (S [c]).length)))) _
    rw [ho, isSame_str_other (S [c]) (S z) u v (by simp [hu, hv]) (by simp [huv]) hyz, hl]
    rw [show (S [c]).length = 1 from rfl, pb, glued_two]
    exact .of_eq rfl
  refine call_gives PySem.F.slot_str_replace (typeIs_str _ _ _) PySem.F.entry_str_replace (PySem.F.args_str_replace_4 _ _ _ _) g ?_
  exact ⟨by rw [S_len]; exact Nat.le_trans (show (p ++ z ++ q).length ≤ 1000001 from by simp only [List.length_append, List.length_cons] at hb ⊢; omega) (by decide), fin _ _⟩
end
end Pk
namespace Pk
open PySem L2 PySem.Spec PyProof.Rows SX
section
variable {X : Cx} {o e : Expr} {es : List Expr} {to : TE} {ta : TA} {j0 j1 j2 : Nat} {c0 c1 c2 apos pos : Pos} {c : Nat} {z : List Nat}
def tRepl1 (to : TE) (c : Nat) (z : List Nat) : TE := fun σ H Q => to σ H fun v H1 => ∃ p q : List Nat, v = .str (S (p ++ c :: q)) ∧ c ∉ p ∧ (p ++ c :: q).length + z.length ≤ 1000000 ∧ Q (.str (S (p ++ z ++ q))) H1
theorem call_meth3 {prog : Program} {w : World} {A : Around} {E : Value → Shared → Prop} {s : Shared} {env : Env} {o e1 e2 e3 : Expr} {name : Str} {apos pos : Pos} {Q : Value → Shared → Prop}
    (hbase : attributeBase o name env (eval o env) = eval o env) (hs : starEach [e1, e2, e3] env = [(false, eval e1 env), (false, eval e2 env), (false, eval e3 env)]) (hline : (apos.endLine == pos.line) = true)
    (h : wpAny (model prog w) A (eval o env) (fun ov s1 => MethodOnS prog w A E name ov pos [(false, eval e1 env), (false, eval e2 env), (false, eval e3 env)] Q s1) E s) :
    wpAny (model prog w) A (eval (.Call (.Attribute o name apos) [e1, e2, e3] [] pos) env) Q E s := by
  refine wpAny_Call_method_lateS hbase (by rw [hs]; rfl) hline ?_
  rw [hs]
  exact h
theorem pet_repl1 {y0 z0 : Str} (ho : PE X o to) (ey : y0 = S [c]) (ez : z0 = S z) (hz : z ≠ [c])
    (hst : starEach [.Constant (.str y0) j0 c0, .Constant (.str z0) j1 c1, .Constant (.int 1) j2 c2] X.env = [(false, eval (.Constant (.str y0) j0 c0) X.env), (false, eval (.Constant (.str z0) j1 c1) X.env), (false, eval (.Constant (.int 1) j2 c2) X.env)] := by rfl)
    (hbase : attributeBase o "replace" X.env (eval o X.env) = eval o X.env := by rfl) (hline : (apos.endLine == pos.line) = true := by rfl) :
    PET X (.Call (.Attribute o "replace" apos) [.Constant (.str y0) j0 c0, .Constant (.str z0) j1 c1, .Constant (.int 1) j2 c2] [] pos) (tRepl1 to c z) := by
  intro pins s σ H Q h0 I h
  subst ey ez
  refine call_meth3 hbase hst hline (wpAny_mono (PySem.wpAny_toks (ho.run pins s σ H _ I h)) (fun v s1 q => ?_) fun _ _ z => z.2)
  obtain ⟨hk, v', H1, I1, r1, p, q2, e1, hp, hb, qq⟩ := q
  subst e1
  obtain ⟨tx, e2⟩ := r1
  subst e2
  refine ⟨"str", _, PySem.F.plainAttrs_str, PySem.F.slot_str_replace, PySem.F.type_str_replace, typeIs_str _ _ _, (fun _ e => nomatch e), Calls.callWith_builtin rfl (Calls.evalArgs_plain (Calls.spliced_cons ?_))⟩
  refine Calls.Constant_str (Calls.spliced_cons (Calls.Constant_str (Calls.spliced_cons (wpAny_Constant_int (Calls.spliced_nil ?_)))))
  exact replace_first (by show s1.toks ≠ 0; omega) (by show s1.toks + 1 ≠ 0; omega) (by show s1.toks ≠ s1.toks + 1; omega) hp hz hb fun t' k => ⟨.str (S (p ++ z ++ q2)), H1, I1.tok k, ⟨t', rfl⟩, qq⟩
theorem pet_of {te : TE} (h : PE X e te) : PET X e te := fun pins s σ H Q _ I q => h.run pins s σ H Q I q
/-- a written list that begins with a written text -/
theorem pe_lst0 {y0 : Str} (h : PAT X es ta) (hs : starEach (.Constant (.str y0) j0 c0 :: es) X.env = (false, eval (.Constant (.str y0) j0 c0) X.env) :: starEach es X.env := by rfl) : PE X (.List (.Constant (.str y0) j0 c0 :: es) pos) (tLst (tCons (tC (.str y0)) ta)) := by
  refine ⟨fun pins s σ H Q I hq => ?_⟩
  refine wpAny_List_spliced ?_
  rw [hs]
  show wpAny _ _ (spliced ((false, eval (.Constant (.str y0) j0 c0) X.env) :: backTo pos (starEach es X.env))) _ _ s
  refine Calls.spliced_cons (Calls.Constant_str (thn (h pos pins { s with toks := s.toks + 1 } σ H _ (by show 1 ≤ s.toks + 1; omega) (I.tok _) hq) fun us s1 got => ?_))
  obtain ⟨xs, H1, I1, r, z, q⟩ := got
  have r2 : Vals (V.str y0 :: xs) (Value.str y0 s.toks :: us) := .cons ⟨_, rfl⟩ r
  refine ⟨by rw [← r2.length]; exact z, ?_⟩
  have hf : H1 s1.heap.objs.size = none := I1.hok.fresh (Nat.le_refl _)
  refine ⟨.ref s1.heap.objs.size, upd H1 s1.heap.objs.size (.lst (.str y0 :: xs)), I1.laid (t' := s1.toks) (fun b u e => Heap.get?_push_of_some _ e) (Nat.le_refl _) ?_, rfl, q _ hf⟩
  exact ⟨z, _, 0, r2, Heap.get?_push_size _ rfl⟩
end
end Pk
namespace Pk
open PySem L2 PySem.Spec PyProof.Rows SX
theorem starts_S (a b : List Nat) : Txt.startswith (S a) (S b) = (a.take b.length == b) := by
  unfold Txt.startswith
  rw [StrLaws.subAt_eq, S_len, S_len, List.drop_zero, Nat.zero_add]
  show (decide (b.length ≤ a.length) && ((a.take (S b).length) == b)) = _
  rw [S_len]
  by_cases h : a.take b.length = b
  · rw [h, beq_self_eq_true, Bool.and_true]
    refine decide_eq_true ?_
    have e := congrArg List.length h
    rw [List.length_take] at e
    omega
  · rw [beq_false_of_ne h, Bool.and_false]
theorem digit_asc {c : Nat} (h : c < 128) : Unicode.isDigit c = (decide (48 ≤ c) && decide (c ≤ 57)) := by
  have k : ∀ n : Fin 128, Unicode.isDigit n.val = (decide (48 ≤ n.val) && decide (n.val ≤ 57)) := by decide +kernel
  exact k ⟨c, h⟩
/-- of signs below 128 -/
def asc (z : Str) : Prop := ∀ c ∈ TL.tl z, c < 128
theorem isdigit_S {a : List Nat} (h : ∀ c ∈ a, c < 128) : Txt.isdigit (S a) = (decide (a ≠ []) && a.all fun c => decide (48 ≤ c) && decide (c ≤ 57)) := by
  unfold Txt.isdigit
  rw [S_len]
  have e : (S a).cps.all Unicode.isDigit = a.all fun c => decide (48 ≤ c) && decide (c ≤ 57) := by
    show a.toArray.all Unicode.isDigit = _
    rw [List.all_toArray]
    induction a with
    | nil => rfl
    | cons x xs ih =>
      rw [List.all_cons, List.all_cons, digit_asc (h x List.mem_cons_self), ih fun c hc => h c (List.mem_cons_of_mem _ hc)]
  rw [e]
  cases a with
  | nil => rfl
  | cons x xs => rfl
/-- has the word the form of a number -/
def isNum (z : Str) : Bool := Txt.isdigit z && decide (z.length ≤ 4) && (decide (z = S [48]) || !Txt.startswith z (S [48]))
/-- the number that it writes -/
def numV (z : Str) : Int := ((NumText.digitsVal (TL.tl z) : Nat) : Int)
theorem isNum_int {z : Str} (ha : asc z) (h : isNum z = true) : intText? z = some (numV z) ∧ z.length ≤ 640 := by
  unfold isNum at h
  rw [Bool.and_eq_true, Bool.and_eq_true] at h
  obtain ⟨⟨h1, h2⟩, _⟩ := h
  have h2' := of_decide_eq_true h2
  rw [show z = S (TL.tl z) from (S_tl z).symm, isdigit_S ha, Bool.and_eq_true] at h1
  refine ⟨?_, by omega⟩
  have q := int_S h1.2 (of_decide_eq_true h1.1) (by rw [← TL.len_tl]; omega)
  rw [S_tl] at q
  exact q
/-- the codes of a number's text -/
def dg (n : Int) : List Nat := TL.numL n.toNat
theorem dg_str {n : Int} (h : 0 ≤ n) : (Str.ofString (toString n)) = S (dg n) := by
  obtain ⟨k, rfl⟩ := Int.eq_ofNat_of_zero_le h
  exact num_S k
theorem dg_digit {n : Int} : ∀ c ∈ dg n, 48 ≤ c ∧ c ≤ 57 := fun c h => TL.numL_digits _ c h
theorem dg_ne (n : Int) : dg n ≠ [] := TL.numL_ne _
theorem dg_len {n : Int} {k : Nat} (hk : 0 < k) (h1 : n < 10 ^ k) : (dg n).length ≤ k := by
  refine TL.numL_len hk ?_
  have : (n.toNat : Int) < 10 ^ k ∨ n < 0 := by omega
  rcases this with h | h
  · exact_mod_cast h
  · rw [Int.toNat_of_nonpos (by omega)]
    exact Nat.pow_pos (by decide)
theorem numL_head : ∀ n : Nat, 0 < n → ∃ c r, TL.numL n = c :: r ∧ 49 ≤ c := by
  intro n
  induction n using Nat.strongRecOn with
  | _ n ih =>
    intro h
    by_cases h10 : n < 10
    · exact ⟨48 + n, [], TL.numL_lt h10, by omega⟩
    · obtain ⟨c, r, e, hc⟩ := ih (n / 10) (by omega) (by omega)
      exact ⟨c, r ++ [48 + n % 10], by rw [TL.numL_step (by omega), e]; rfl, hc⟩
theorem asc_S {a : List Nat} (h : ∀ c ∈ a, c < 128) : asc (S a) := h
theorem asc_dg (n : Int) : asc (S (dg n)) := fun c h => by
  have := dg_digit c h
  omega
theorem isNum_dg {n : Int} (h0 : 0 ≤ n) (h1 : n < 10000) : isNum (S (dg n)) = true ∧ numV (S (dg n)) = n := by
  constructor
  · unfold isNum
    have a1 : Txt.isdigit (S (dg n)) = true := by
      rw [isdigit_S (asc_dg n), decide_eq_true (dg_ne n), Bool.true_and, List.all_eq_true]
      intro c hc
      obtain ⟨x, y⟩ := dg_digit c hc
      rw [decide_eq_true x, decide_eq_true y]
      rfl
    have a2 : (dg n).length ≤ 4 := dg_len (by decide) (by simpa using h1)
    rw [a1, S_len, decide_eq_true a2, Bool.and_self, Bool.true_and]
    by_cases hz : n = 0
    · subst hz
      have : dg 0 = [48] := by
        unfold dg
        exact TL.numL_lt (by decide)
      rw [this, decide_eq_true rfl]
      rfl
    · obtain ⟨c, r, e, hc⟩ := numL_head n.toNat (by omega)
      have : dg n = c :: r := e
      rw [starts_S, this]
      have : (([c] : List Nat) == [48]) = false := by
        refine beq_false_of_ne fun z => ?_
        injection z with z
        omega
      show (_ || !(([c] : List Nat) == [48])) = true
      rw [this]
      exact Bool.or_true _
  · unfold numV dg
    show ((NumText.digitsVal (TL.numL n.toNat) : Nat) : Int) = n
    rw [TL.numL_val]
    omega
theorem mem_joinL {c : Nat} {sep : List Nat} : ∀ {ps : List (List Nat)}, c ∈ TL.joinL sep ps → c ∈ sep ∨ ∃ p ∈ ps, c ∈ p
  | [], h => by cases h
  | [p], h => .inr ⟨p, List.mem_singleton.mpr rfl, h⟩
  | p :: q :: r, h => by
    have h' : c ∈ p ++ (sep ++ TL.joinL sep (q :: r)) := h
    rcases List.mem_append.mp h' with z | z
    · exact .inr ⟨p, List.mem_cons_self, z⟩
    · rcases List.mem_append.mp z with z | z
      · exact .inl z
      · rcases mem_joinL z with z | ⟨x, hx, z⟩
        · exact .inl z
        · exact .inr ⟨x, List.mem_cons_of_mem _ hx, z⟩
theorem joinL_len {sep : List Nat} {m : Nat} (hs : sep.length ≤ m) : ∀ {ps : List (List Nat)}, (∀ p ∈ ps, p.length ≤ m) → (TL.joinL sep ps).length ≤ 2 * m * ps.length
  | [], _ => Nat.le_refl _
  | [p], h => by
    have := h p (List.mem_singleton.mpr rfl)
    show p.length ≤ 2 * m * 1
    omega
  | p :: q :: r, h => by
    have h1 := h p List.mem_cons_self
    have h2 := joinL_len hs (ps := q :: r) fun x hx => h x (List.mem_cons_of_mem _ hx)
    show (p ++ (sep ++ TL.joinL sep (q :: r))).length ≤ 2 * m * ((q :: r).length + 1)
    rw [List.length_append, List.length_append, Nat.mul_add]
    omega
theorem sum_len {m : Nat} : ∀ {ps : List (List Nat)}, (∀ p ∈ ps, p.length ≤ m) → ((ps.map S).map (·.length)).sum ≤ m * ps.length
  | [], _ => Nat.le_refl _
  | p :: ps, h => by
    have h1 := h p List.mem_cons_self
    have h2 := sum_len (ps := ps) fun x hx => h x (List.mem_cons_of_mem _ hx)
    rw [List.map_cons, List.map_cons, List.sum_cons, S_len, List.length_cons, Nat.mul_add]
    omega
theorem split_joinL {c : Nat} (hc : c < 256) {ps : List (List Nat)} (hne : ps ≠ []) (h : ∀ p ∈ ps, c ∉ p) : Txt.split (S (TL.joinL [c] ps)) (S [c]) = ps.map S := by
  rw [split_S (by simp) (by simpa using hc), spl_join hne h]
theorem spl_mem {sep : List Nat} : ∀ (l : List Nat) (k : Nat) (acc p : List Nat), p ∈ TL.spl sep k acc l → ∀ c ∈ p, c ∈ acc ∨ c ∈ l := by
  intro l
  induction l with
  | nil =>
    intro k acc p h c hc
    rw [TL.spl_nil, List.mem_singleton] at h
    rw [h] at hc
    exact .inl hc
  | cons x r ih =>
    intro k acc p h c hc
    cases k with
    | succ k =>
      have h' : p ∈ TL.spl sep k acc r := h
      rcases ih k acc p h' c hc with z | z
      · exact .inl z
      · exact .inr (List.mem_cons_of_mem _ z)
    | zero =>
      cases hp : TL.pre sep (x :: r) with
      | true =>
        rw [TL.spl_hit hp, List.mem_cons] at h
        rcases h with h | h
        · rw [h] at hc
          exact .inl hc
        · rcases ih _ _ p h c hc with z | z
          · cases z
          · exact .inr (List.mem_cons_of_mem _ z)
      | false =>
        rw [TL.spl_miss hp] at h
        rcases ih _ _ p h c hc with z | z
        · rcases List.mem_append.mp z with z | z
          · exact .inl z
          · rw [List.mem_singleton] at z
            rw [z]
            exact .inr List.mem_cons_self
        · exact .inr (List.mem_cons_of_mem _ z)
theorem asc_split {z p : Str} {c : Nat} (hc : c < 256) (ha : asc z) (h : p ∈ Txt.split z (S [c])) : asc p := by
  rw [show z = S (TL.tl z) from (S_tl z).symm, split_S (by simp) (by simpa using hc), List.mem_map] at h
  obtain ⟨q, hq, rfl⟩ := h
  exact fun x hx => (spl_mem _ _ _ _ hq x hx).elim (fun z => nomatch z) fun z => ha x z
def dS (xs : List Str) : PyData := .list (xs.map PyData.str)
theorem eqv_str (a b : Str) : PyData.eqv (.str a) (.str b) = decide (a = b) := by
  rw [PyData.eqv]
  by_cases h : a = b
  · subst h
    simp
  · simp [h]
theorem eqvAll_str : ∀ xs ys : List Str, PyData.eqvAll (xs.map PyData.str) (ys.map PyData.str) = decide (xs = ys)
  | [], [] => by simp [PyData.eqvAll]
  | [], _ :: _ => by simp [PyData.eqvAll]
  | _ :: _, [] => by simp [PyData.eqvAll]
  | x :: xs, y :: ys => by
    simp only [List.map_cons, PyData.eqvAll, eqv_str, eqvAll_str xs ys, List.cons.injEq]
    by_cases h1 : x = y <;> by_cases h2 : xs = ys <;> simp [h1, h2]
theorem eqv_dS (xs ys : List Str) : PyData.eqv (dS xs) (dS ys) = decide (xs = ys) := by
  unfold dS
  rw [PyData.eqv, eqvAll_str]
theorem dps_S {K : PySem.W.Frag} {H : Hp} : ∀ xs : List Str, DpAll K H (xs.map V.str) (xs.map PyData.str)
  | [] => .nil
  | x :: xs => .cons (.str x) (dps_S xs)
theorem dp_S {K : PySem.W.Frag} {H : Hp} {l : Addr} {xs : List Str} (h : SqL K H l (xs.map V.str)) : Dp K H (.ref l) (dS xs) := .lst h (dps_S xs)
theorem lay_asc {x : Str} (h : asc x) : PyData.canLay0 (.str x) = true := by
  show x.cps.all (fun c => decide (c < 0x110000)) = true
  rw [← Array.all_toList, List.all_eq_true]
  intro c hc
  have := h c hc
  exact decide_eq_true (by omega)
theorem lay_dS : ∀ xs : List Str, (∀ x ∈ xs, asc x) → PyData.canLayAll0 (xs.map PyData.str) = true
  | [], _ => rfl
  | x :: xs, h => by
    show (PyData.canLay0 (.str x) && PyData.canLayAll0 (xs.map PyData.str)) = true
    rw [lay_dS xs fun y hy => h y (List.mem_cons_of_mem _ hy), lay_asc (h x List.mem_cons_self)]
    rfl
theorem depth_dS : ∀ xs : List Str, PyData.depthAll (xs.map PyData.str) ≤ 1
  | [] => by show 0 ≤ 1; omega
  | _ :: xs => by
    have ih := depth_dS xs
    show max 0 (PyData.depthAll (xs.map PyData.str)) ≤ 1
    omega
theorem sh_dS {xs : List Str} (hk : ∀ x ∈ xs, asc x) : SeqAt.shaped (dS xs) = true := by
  have h := depth_dS xs
  unfold SeqAt.shaped dS
  rw [show PyData.canLay0 (.list (xs.map PyData.str)) = PyData.canLayAll0 (xs.map PyData.str) from rfl, lay_dS xs hk]
  refine decide_eq_true ?_
  show PyData.depthAll (xs.map PyData.str) + 1 ≤ 64
  omega
theorem cut_from (xs : List V) (m : Nat) : cutV xs (some (m : Int)) none = xs.drop m := by
  unfold cutV
  rw [HT.sIx_none, HT.sIx_nat]
  rcases Nat.le_total m xs.length with h | h
  · rw [Nat.min_eq_left h, List.take_of_length_le (by rw [List.length_drop]; omega)]
  · rw [Nat.min_eq_right h, Nat.sub_self, List.take_zero, List.drop_eq_nil_of_le h]
end Pk
namespace Pk
open PySem L2
def topS (i : Nat) : Stmt := PySem.Challenge.pw_pickaisle_k10_texts_of_tasks_and_walks_r.main.body.getD i (.Pass ⟨0, 0, 0, 0⟩)
abbrev s_PickTaken___init__ : Stmt := inClass (topS 5) 0
theorem sc_PickTaken___init__ : FnScope ["self", "place"] ["self", "place"] (defScope s_PickTaken___init__) := ⟨rfl, rfl, rfl, by decide +kernel, rfl, by decide +kernel, by decide +kernel⟩
abbrev s_InvalidNotation___init__ : Stmt := inClass (topS 6) 0
theorem sc_InvalidNotation___init__ : FnScope ["self", "line"] ["self", "line"] (defScope s_InvalidNotation___init__) := ⟨rfl, rfl, rfl, by decide +kernel, rfl, by decide +kernel, by decide +kernel⟩
abbrev s_Task___init__ : Stmt := inClass (topS 9) 0
theorem sc_Task___init__ : FnScope ["self", "start", "end", "picks"] ["self", "start", "end", "picks"] (defScope s_Task___init__) := ⟨rfl, rfl, rfl, by decide +kernel, rfl, by decide +kernel, by decide +kernel⟩
abbrev s_Task_picks : Stmt := inClass (topS 9) 1
theorem sc_Task_picks : FnScope ["self"] ["self"] (defScope s_Task_picks) := ⟨rfl, rfl, rfl, by decide +kernel, rfl, by decide +kernel, by decide +kernel⟩
abbrev s_Task_has_pick : Stmt := inClass (topS 9) 3
theorem sc_Task_has_pick : FnScope ["self", "place"] ["self", "place"] (defScope s_Task_has_pick) := ⟨rfl, rfl, rfl, by decide +kernel, rfl, by decide +kernel, by decide +kernel⟩
abbrev s_Task_with_pick : Stmt := inClass (topS 9) 4
theorem sc_Task_with_pick : FnScope ["self", "place"] ["self", "place"] (defScope s_Task_with_pick) := ⟨rfl, rfl, rfl, by decide +kernel, rfl, by decide +kernel, by decide +kernel⟩
abbrev s_format_task : Stmt := topS 13
theorem sc_format_task : FnScope ["task", "lines", "pick"] ["task"] (defScope s_format_task) := ⟨rfl, rfl, rfl, by decide +kernel, rfl, by decide +kernel, by decide +kernel⟩
abbrev s_format_walk : Stmt := topS 14
theorem sc_format_walk : FnScope ["walk", "aisle", "height"] ["walk"] (defScope s_format_walk) := ⟨rfl, rfl, rfl, by decide +kernel, rfl, by decide +kernel, by decide +kernel⟩
abbrev s_parse_task : Stmt := topS 15
theorem sc_parse_task : FnScope ["text", "lines", "start", "end", "task", "number"] ["text"] (defScope s_parse_task) := ⟨rfl, rfl, rfl, by decide +kernel, rfl, by decide +kernel, by decide +kernel⟩
abbrev s_parse_walk : Stmt := topS 16
theorem sc_parse_walk : FnScope ["text", "walk", "word", "numbers"] ["text"] (defScope s_parse_walk) := ⟨rfl, rfl, rfl, by decide +kernel, rfl, by decide +kernel, by decide +kernel⟩
abbrev s__row : Stmt := topS 17
theorem sc__row : FnScope ["head", "numbers", "number"] ["head", "numbers"] (defScope s__row) := ⟨rfl, rfl, rfl, by decide +kernel, rfl, by decide +kernel, by decide +kernel⟩
abbrev s_is_number : Stmt := topS 18
theorem sc_is_number : FnScope ["word"] ["word"] (defScope s_is_number) := ⟨rfl, rfl, rfl, by decide +kernel, rfl, by decide +kernel, by decide +kernel⟩
abbrev s__numbers_of : Stmt := topS 19
theorem sc__numbers_of : FnScope ["words", "number", "word"] ["words", "number"] (defScope s__numbers_of) := ⟨rfl, rfl, rfl, by decide +kernel, rfl, by decide +kernel, by decide +kernel⟩
abbrev s__numbers_in : Stmt := topS 20
theorem sc__numbers_in : FnScope ["lines", "number", "head", "words"] ["lines", "number", "head"] (defScope s__numbers_in) := ⟨rfl, rfl, rfl, by decide +kernel, rfl, by decide +kernel, by decide +kernel⟩
abbrev s__place_in : Stmt := topS 21
theorem sc__place_in : FnScope ["lines", "number", "word", "numbers"] ["lines", "number", "word"] (defScope s__place_in) := ⟨rfl, rfl, rfl, by decide +kernel, rfl, by decide +kernel, by decide +kernel⟩
abbrev s__task_with_line : Stmt := topS 22
theorem sc__task_with_line : FnScope ["task", "lines", "number", "pick"] ["task", "lines", "number"] (defScope s__task_with_line) := ⟨rfl, rfl, rfl, by decide +kernel, rfl, by decide +kernel, by decide +kernel⟩
abbrev s__law_row : Stmt := topS 24
theorem sc__law_row : FnScope ["cell", "many", "row", "rest", "state", "k"] ["cell", "many"] (defScope s__law_row) := ⟨rfl, rfl, rfl, by decide +kernel, rfl, by decide +kernel, by decide +kernel⟩
abbrev s__law_numbers : Stmt := topS 25
theorem sc__law_numbers : FnScope ["script", "many", "cells", "each", "numbers", "cell", "number"] ["script", "many"] (defScope s__law_numbers) := ⟨rfl, rfl, rfl, by decide +kernel, rfl, by decide +kernel, by decide +kernel⟩
abbrev s__law_parts : Stmt := topS 26
theorem sc__law_parts : FnScope ["numbers", "at", "most", "lengths", "gaps", "closed", "k", "aisle", "spot", "link"] ["numbers", "at"] (defScope s__law_parts) := ⟨rfl, rfl, rfl, by decide +kernel, rfl, by decide +kernel, by decide +kernel⟩
abbrev s__law_crosses : Stmt := topS 27
theorem sc__law_crosses : FnScope ["lengths", "k"] ["lengths"] (defScope s__law_crosses) := ⟨rfl, rfl, rfl, by decide +kernel, rfl, by decide +kernel, by decide +kernel⟩
abbrev s__law_aims : Stmt := topS 28
theorem sc__law_aims : FnScope ["numbers", "at", "lengths", "gaps", "many", "crosses", "start", "end", "picks", "k", "place"] ["numbers", "at", "lengths", "gaps", "many"] (defScope s__law_aims) := ⟨rfl, rfl, rfl, by decide +kernel, rfl, by decide +kernel, by decide +kernel⟩
abbrev s__law_told : Stmt := topS 29
theorem sc__law_told : FnScope ["kind", "text", "error"] ["kind", "text"] (defScope s__law_told) := ⟨rfl, rfl, rfl, by decide +kernel, rfl, by decide +kernel, by decide +kernel⟩
abbrev s__law_spoilt : Stmt := topS 30
theorem sc__law_spoilt : FnScope ["line", "parts", "word", "rest", "bad"] ["line"] (defScope s__law_spoilt) := ⟨rfl, rfl, rfl, by decide +kernel, rfl, by decide +kernel, by decide +kernel⟩
abbrev s_law : Stmt := topS 31
theorem sc_law : FnScope ["script", "numbers", "lengths", "gaps", "closed", "start", "end", "picks", "good", "lines", "at", "line", "many", "walk", "text", "k"] ["script"] (defScope s_law) := ⟨rfl, rfl, rfl, by decide +kernel, rfl, by decide +kernel, by decide +kernel⟩
theorem same_upd {H : Hp} {p : Addr} {o : HO} (h : H p = none) : Same H (upd H p o) := fun b x e => by
  rw [upd_ne (ne_of_none e h)]
  exact e
/-- a list of numbers below 1009 -/
def Small (ns : List Int) : Prop := ∀ n ∈ ns, 0 ≤ n ∧ n < 1009
theorem Small.nil : Small [] := fun _ h => nomatch h
theorem Small.snoc {ns : List Int} (h : Small ns) {n : Int} (h0 : 0 ≤ n) (h1 : n < 1009) : Small (ns ++ [n]) := fun k hk => by
  rcases List.mem_append.mp hk with z | z
  · exact h k z
  · rw [List.mem_singleton] at z
    subst z
    exact ⟨h0, h1⟩
theorem small1e7 {n : Nat} (h : n ≤ 100000) : n < sizeLine := Nat.lt_of_le_of_lt h (by decide)
section
local macro_rules | `(tactic| walk_at "rd1") => `(tactic| first
  | (refine Exists.intro _ (And.intro rfl ?_))
  | (refine ⟨_, _, rfl, rfl, ?_⟩)
  | (refine Or.inl (Exists.intro _ (And.intro rfl ?_)))
  | (refine ⟨_, _, _, rfl, rfl, by assumption, by assumption, ?_⟩)
  | (refine And.intro (Or.inl ⟨rfl, _, SqL.of (by assumption)⟩) ?_)
  | (refine And.intro (by (first | omega | (dsimp only; omega) | (constructor <;> omega) | (refine Or.inl ?_; constructor <;> omega) | (refine Or.inr ?_; constructor <;> omega) | exact ⟨by decide, by decide, by decide⟩)) ?_))
local macro_rules | `(tactic| walk_at "rd") => `(tactic| repeat walk_at "rd1")
variable {P : Program} {w : World} {K : PySem.W.Frag} {mg : Str → Option Value} {base : Heap}
/-- the names of built-ins that no def of the text hides -/
structure DrawTxt (mg : Str → Option Value) (fR : Addr) : Prop where
  abs : mg "abs" = none
  int : mg "int" = none
  range : mg "range" = none
  len : mg "len" = none
  max : mg "max" = none
  row : mg "_law_row" = some (.ref fR)
/-- a row of numbers: a new list of as many numbers as asked, each from 0 to 1008 -/
def spRow : Sp := fun vs H Q _ => ∃ (c : Int) (m : Nat), vs = [.int c, .int m] ∧ m ≤ 1000 ∧
  ∀ (H' : Hp) (p : Addr) (ns : List Int), Same H H' → H p = none → H' p = some (.lst (ns.map V.int)) → ns.length = m → Small ns → Q (.ref p) H'
theorem ok_row {f fR : Addr} {fd : FuncData} {k : Nat} (F : Fun K "_law_row" "_law_row" s__law_row f fd) (T : DrawTxt mg fR) : FnOk P w K mg base CX0 (k + 1) f fd ["cell", "many"] spRow := by
  refine F.ok sc__law_row (fun vs H Q E h => ?_) (fun cdv A outer s H vs Q E hr h => ?_)
  · obtain ⟨c, m, rfl, _⟩ := h
    rfl
  · obtain ⟨c, m, rfl, hm, q⟩ := h
    have nd := sc__law_row.nd
    refine ⟨_, pss_cons (ps_set (i := 2) nd rfl (.inl rfl) (pe_lst pa_nil))
      (pss_cons (ps_set (i := 3) nd rfl (.inl rfl) pe_int)
      (pss_cons (ps_if (pt_cmpR op_ge (pe_callB call_abs (by rfl) T.abs (by decide +kernel) (pa_cons (pv 0) pa_nil)) (pe_op op_pow pe_int pe_int) (nomark _))
          (pss_one (ps_set (i := 3) nd rfl (.inl rfl) (pe_callB call_abs (by rfl) T.abs (by decide +kernel) (pa_cons (pv 0) pa_nil)))) pss_nil)
      (pss_cons (ps_set (i := 4) nd rfl (.inl rfl) (pe_op op_mod (pe_callTy call_int1 (by rfl) T.int (by decide +kernel) (pa_cons (pe_callB call_abs (by rfl) T.abs (by decide +kernel) (pa_cons (pv 0) pa_nil)) pa_nil)) pe_int))
      (pss_cons (ps_for PassesOwn.never rfl (pi_range1 rfl T.range (pa_cons (pv 1) pa_nil)) (pg_name (i := 5) nd rfl (.inl rfl))
        (pss_cons (ps_set (i := 4) nd rfl (.inl rfl) (pe_op op_mod (pe_callTy call_int1 (by rfl) T.int (by decide +kernel)
            (pa_cons (pe_op op_add (pe_op op_mul (pe_op op_add (pv 4) pe_int) pe_int) (pe_op op_mul pe_int (pv 5))) pa_nil)) pe_int))
        (pss_one (ps_if (pt_cmpR op_gt (pv 3) pe_int (nomark _))
          (pss_cons (ps_expr (pe_bm PySem.F.plainAttrs_list PySem.F.slot_list_append PySem.F.type_list_append mt_append (pv 2)
              (pa_cons (pe_op op_mod (pe_callTy call_int1 (by rfl) T.int (by decide +kernel) (pa_cons (pv 3) pa_nil)) pe_int) pa_nil)))
            (pss_one (ps_set (i := 3) nd rfl (.inl rfl) (pe_op op_fdiv (pv 3) pe_int))))
          (pss_one (ps_expr (pe_bm PySem.F.plainAttrs_list PySem.F.slot_list_append PySem.F.type_list_append mt_append (pv 2)
              (pa_cons (pe_op op_mod (pe_callTy call_int1 (by rfl) T.int (by decide +kernel) (pa_cons (pe_op op_fdiv (pv 4) pe_int) pa_nil)) pe_int) pa_nil))))))))
      (pss_one (ps_ret (pv 2))))))), ?_⟩
    refine ⟨Nat.zero_le _, fun r nr => ?_⟩
    have s1 : Same H (upd H r (.lst [])) := same_upd nr
    walk_at "rd"
    refine ite2 (fun hc => ?_) (fun hc => ?_)
    all_goals
      walk_at "rd"
      refine for_range (lo := 0) (n := m) (fun i σ H' => ∃ (ns : List Int) (rst st : Int) (vk : Option V), σ = [some (.int c), some (.int m), some (.ref r), some (.int rst), some (.int st), vk] ∧ Same H H' ∧ H' r = some (.lst (ns.map V.int)) ∧ ns.length = i ∧ Small ns ∧ 0 ≤ st ∧ st < 2147483647)
        ⟨[], _, _, none, rfl, s1, upd_same, rfl, Small.nil, Int.emod_nonneg _ (by decide), Int.emod_lt_of_pos _ (by decide)⟩ ?_ ?_
      · rintro i σ H' hi ⟨ns, rst, st, vk, rfl, sm, hrow, hl, hs, h0, h1⟩
        have hlen : (ns.map V.int).length < sizeLine := by
          rw [List.length_map]
          exact small1e7 (by omega)
        walk_at "rd"
        refine ite2 (fun hc2 => ?_) (fun hc2 => ?_)
        · walk_at "rd"
          refine ⟨ns ++ [rst % 1009], _, _, _, rfl, fun b o e => ?_, ?_, ?_, hs.snoc (Int.emod_nonneg _ (by decide)) (Int.emod_lt_of_pos _ (by decide)), Int.emod_nonneg _ (by decide), Int.emod_lt_of_pos _ (by decide)⟩
          · rw [upd_ne (ne_of_none e nr)]
            exact sm b o e
          · rw [upd_same, List.map_append]
            rfl
          · rw [List.length_append, hl]
            rfl
        · walk_at "rd"
          refine ⟨ns ++ [((st + 1) * 48271 + 69621 * (0 + (i : Int))) % 2147483647 / 2048 % 1009], _, _, _, rfl, fun b o e => ?_, ?_, ?_, hs.snoc (Int.emod_nonneg _ (by decide)) (Int.emod_lt_of_pos _ (by decide)), Int.emod_nonneg _ (by decide), Int.emod_lt_of_pos _ (by decide)⟩
          · rw [upd_ne (ne_of_none e nr)]
            exact sm b o e
          · rw [upd_same, List.map_append]
            rfl
          · rw [List.length_append, hl]
            rfl
      · rintro σ H' ⟨ns, rst, st, vk, rfl, sm, hrow, hl, hs, h0, h1⟩
        exact ⟨_, rfl, q H' r ns sm nr hrow hl hs⟩
/-- as many numbers as asked, drawn from the script: a new list, each from 0 to 1008 -/
def spNumbers (K : PySem.W.Frag) : Sp := fun vs H Q _ => ∃ (a : Addr) (xs : List Int) (m : Nat), vs = [.ref a, .int m] ∧ SqL K H a (xs.map V.int) ∧ xs.length ≤ 63 ∧ m ≤ 200 ∧
  ∀ (H' : Hp) (p : Addr) (ns : List Int), Same H H' → H p = none → H' p = some (.lst (ns.map V.int)) → ns.length = m → Small ns → Q (.ref p) H'
theorem cut_all (xs : List V) (h : xs.length ≤ 63) : cutV xs none (some 63) = xs := by
  unfold cutV
  rw [show HT.sIx xs.length xs.length (some 63) = min 63 xs.length from HT.sIx_nat xs.length xs.length 63, HT.sIx_none, List.drop_zero, Nat.sub_zero, Nat.min_eq_right h, List.take_length]
theorem cut_to (xs : List V) (m : Nat) : cutV xs none (some (m : Int)) = xs.take m := by
  unfold cutV
  rw [HT.sIx_nat, HT.sIx_none, List.drop_zero, Nat.sub_zero]
  rcases Nat.le_total m xs.length with h | h
  · rw [Nat.min_eq_left h]
  · rw [Nat.min_eq_right h, List.take_length, List.take_of_length_le h]
def lenAt (H : Hp) (p : Addr) : Nat := match H p with
  | some (.lst xs) => xs.length
  | _ => 0
theorem lenAt_of {H : Hp} {p : Addr} {xs : List V} (h : H p = some (.lst xs)) : lenAt H p = xs.length := by
  unfold lenAt
  rw [h]
theorem each_nat (m n : Nat) (hm : m ≤ 200) : ∃ e : Nat, 1 + (m : Int).fdiv (if (n : Int) > 1 then (n : Int) else 1) = (e : Int) ∧ e ≤ 201 := by
  have hp : 0 < (if (n : Int) > 1 then (n : Int) else 1) := by split <;> omega
  have e1 : (m : Int).fdiv (if (n : Int) > 1 then (n : Int) else 1) = (m : Int) / (if (n : Int) > 1 then (n : Int) else 1) := Int.fdiv_eq_ediv_of_nonneg _ (Int.le_of_lt hp)
  have h0 : 0 ≤ (m : Int) / (if (n : Int) > 1 then (n : Int) else 1) := Int.ediv_nonneg (by omega) (Int.le_of_lt hp)
  have h1 : (m : Int) / (if (n : Int) > 1 then (n : Int) else 1) ≤ m := Int.ediv_le_self _ (by omega)
  rw [e1]
  exact ⟨(1 + (m : Int) / (if (n : Int) > 1 then (n : Int) else 1)).toNat, by omega, by omega⟩
theorem ok_numbers {f fR : Addr} {fd fdR : FuncData} (F : Fun K "_law_numbers" "_law_numbers" s__law_numbers f fd) (T : DrawTxt mg fR) (FR : Fun K "_law_row" "_law_row" s__law_row fR fdR) (bR : Binds K fdR ["cell", "many"] []) :
    FnOk P w K mg base CX0 2 f fd ["script", "many"] (spNumbers K) := by
  have GR : FnOk P w K mg base CX0 1 fR fdR ["cell", "many"] spRow := ok_row FR T
  refine F.ok sc__law_numbers (fun vs H Q E h => ?_) (fun cdv A outer s H vs Q E hr h => ?_)
  · obtain ⟨a, xs, m, rfl, _⟩ := h
    rfl
  · obtain ⟨a, xs, m, rfl, hS, hx, hm, q⟩ := h
    have nd := sc__law_numbers.nd
    refine ⟨_, pss_cons (ps_set (i := 2) nd rfl (.inl rfl) (pe_slice sl_list (pv 0) po_none (po_some pe_int)))
      (pss_cons (ps_set (i := 3) nd rfl (.inl rfl) (pe_op op_add pe_int (pe_op op_fdivN (pv 1) (pe_callB (call_max2 rfl) (by rfl) T.max (by decide +kernel)
          (pa_cons pe_int (pa_cons (pe_callB call_len (by rfl) T.len (by decide +kernel) (pa_cons (pv 2) pa_nil)) pa_nil))))))
      (pss_cons (ps_set (i := 4) nd rfl (.inl rfl) (pe_lst pa_nil))
      (pss_cons (ps_for PassesOwn.never rfl (pi_list (pv 2)) (pg_name (i := 5) nd rfl (.inl rfl))
        (pss_one (ps_for PassesOwn.never rfl (pi_list (pe_call GR hr (by rfl) T.row FR.kp bR .nil pass0 (pa_cons (pv 5) (pa_cons (pv 3) pa_nil)))) (pg_name (i := 6) nd rfl (.inl rfl))
          (pss_one (ps_expr (pe_bm PySem.F.plainAttrs_list PySem.F.slot_list_append PySem.F.type_list_append mt_append (pv 4) (pa_cons (pv 6) pa_nil)))))))
      (pss_cons (ps_while PassesOwn.never (pt_cmpR op_lt (pe_callB call_len (by rfl) T.len (by decide +kernel) (pa_cons (pv 4) pa_nil)) (pv 1) (nomark _))
        (pss_one (ps_expr (pe_bm PySem.F.plainAttrs_list PySem.F.slot_list_append PySem.F.type_list_append mt_append (pv 4) (pa_cons pe_int pa_nil)))))
      (pss_one (ps_ret (pe_slice sl_list (pv 4) po_none (po_some (pv 1))))))))), ?_⟩
    refine ⟨_, rfl, _, rfl, a, _, rfl, hS, fun c nc => ?_⟩
    rw [cut_all _ (by rw [List.length_map]; exact hx)]
    have s1 : Same H (upd H c (.lst (xs.map V.int))) := same_upd nc
    refine ⟨_, rfl, _, rfl, _, _, rfl, .inl ⟨_, SqL.of upd_same, rfl⟩, _, _, rfl, _, _, rfl, rfl, ?_, ?_⟩
    · constructor
      · rw [List.length_map]
        split <;> omega
      · rw [List.length_map]
        split <;> omega
    refine ⟨_, _, rfl, rfl, ?_⟩
    dsimp only
    obtain ⟨e, he, hle⟩ := each_nat m (List.map V.int xs).length hm
    rw [he]
    refine ⟨Nat.zero_le _, fun b nb => ?_⟩
    have s2 : Same (upd H c (.lst (xs.map V.int))) (upd (upd H c (.lst (xs.map V.int))) b (.lst [])) := same_upd nb
    have nbc : c ≠ b := ne_of_none upd_same nb
    have nb0 : H b = none := s1.free nb
    -- for cell in cells
    refine ⟨_, rfl, c, rfl, ⟨_, SqL.of (s2 _ _ upd_same)⟩, for_list (K := K) (a := c) (xs := xs.map V.int) (fun i σ H' => ∃ (ns : List Int) (v5 v6 : Option V), σ = [some (.ref a), some (.int m), some (.ref c), some (.int e), some (.ref b), v5, v6] ∧ Same H H' ∧ H' c = some (.lst (xs.map V.int)) ∧ H' b = some (.lst (ns.map V.int)) ∧ ns.length ≤ i * 201 ∧ Small ns)
      ⟨[], none, none, rfl, s1.trans s2, s2 _ _ upd_same, upd_same, Nat.zero_le _, Small.nil⟩ (fun i σ H' _ ⟨_, _, _, _, _, hc, _⟩ => SqL.of hc) ?_ ?_⟩
    · rintro i y σ H' hi ⟨ns, v5, v6, rfl, sm, hc, hb, hl, hs⟩
      obtain ⟨z, hz, rfl⟩ : ∃ z, xs[i]? = some z ∧ y = V.int z := by
        rw [List.getElem?_map] at hi
        cases e : xs[i]? with
        | none =>
          rw [e] at hi
          cases hi
        | some z =>
          rw [e] at hi
          exact ⟨z, rfl, (Option.some.inj hi).symm⟩
      have hil : i < xs.length := (List.getElem?_eq_some_iff.mp hz).1
      -- for number in _law_row(cell, each)
      refine ⟨_, rfl, _, rfl, z, e, rfl, by omega, fun H2 r rs s3 nr hr2 hrl hrs => ?_⟩
      refine ⟨r, rfl, ⟨_, SqL.of hr2⟩, for_list (K := K) (a := r) (xs := rs.map V.int) (fun j σ H3 => ∃ (ms : List Int) (v6 : Option V), σ = [some (.ref a), some (.int m), some (.ref c), some (.int e), some (.ref b), some (.int z), v6] ∧ Same H H3 ∧ H3 r = some (.lst (rs.map V.int)) ∧ H3 c = some (.lst (xs.map V.int)) ∧ H3 b = some (.lst (ms.map V.int)) ∧ ms.length = ns.length + j ∧ Small ms)
        ⟨ns, v6, rfl, sm.trans s3, hr2, s3 _ _ hc, s3 _ _ hb, rfl, hs⟩ (fun j σ H3 _ ⟨_, _, _, _, h, _⟩ => SqL.of h) ?_ ?_⟩
      · rintro j y σ H3 hj ⟨ms, v6, rfl, sm3, hr3, hc3, hb3, hl3, hs3⟩
        obtain ⟨n, hn, rfl⟩ : ∃ n, rs[j]? = some n ∧ y = V.int n := by
          rw [List.getElem?_map] at hj
          cases e : rs[j]? with
          | none =>
            rw [e] at hj
            cases hj
          | some z =>
            rw [e] at hj
            exact ⟨z, rfl, (Option.some.inj hj).symm⟩
        have hjl : j < rs.length := (List.getElem?_eq_some_iff.mp hn).1
        have hb3l : (ms.map V.int).length < sizeLine := by
          rw [List.length_map]
          exact small1e7 (by omega)
        have nrb : r ≠ b := fun z => by
          rw [z] at nr
          rw [nr] at hb
          cases hb
        obtain ⟨g0, g1⟩ := hrs n (List.mem_of_getElem? hn)
        walk_at "rd"
        refine ⟨ms ++ [n], _, rfl, fun d o e => ?_, by rw [upd_ne nrb]; exact hr3, by rw [upd_ne nbc]; exact hc3, ?_, ?_, hs3.snoc g0 g1⟩
        · rw [upd_ne (ne_of_none e nb0)]
          exact sm3 d o e
        · rw [upd_same, List.map_append]
          rfl
        · rw [List.length_append, hl3]
          rfl
      · rintro σ H3 ⟨ms, v6, rfl, sm3, hr3, hc3, hb3, hl3, hs3⟩
        rw [List.length_map] at hl3
        exact ⟨ms, _, _, rfl, sm3, hc3, hb3, by rw [Nat.succ_mul]; omega, hs3⟩
    · rintro σ H' ⟨ns, v5, v6, rfl, sm, hc, hb, hl, hs⟩
      rw [List.length_map] at hl
      -- while len(numbers) < many
      refine while_by (fun σ H' => ∃ ns : List Int, σ = [some (.ref a), some (.int m), some (.ref c), some (.int e), some (.ref b), v5, v6] ∧ Same H H' ∧ H' b = some (.lst (ns.map V.int)) ∧ Small ns) (fun _ H' => m - lenAt H' b)
        ⟨ns, rfl, sm, hb, hs⟩ ?_ ?_
      · rintro σ H' ⟨ns, rfl, sm, hb, hs⟩
        refine ⟨_, rfl, _, _, rfl, .inl ⟨_, SqL.of hb, rfl⟩, _, rfl, _, _, rfl, rfl, _, rfl, ?_⟩
        rw [List.length_map]
        refine ite2 (fun hlt => ?_) (fun hlt => ?_)
        · have hlt' : ns.length < m := by
            have := of_decide_eq_true hlt
            omega
          have hbl : (ns.map V.int).length < sizeLine := by
            rw [List.length_map]
            exact small1e7 (by omega)
          walk_at "rd"
          refine ⟨⟨ns ++ [0], rfl, fun d o e => ?_, ?_, hs.snoc (by decide) (by decide)⟩, ?_⟩
          · rw [upd_ne (ne_of_none e nb0)]
            exact sm d o e
          · rw [upd_same, List.map_append]
            rfl
          · rw [lenAt_of upd_same, lenAt_of hb, List.length_append, List.length_map]
            show m - (ns.length + 1) < m - ns.length
            omega
        · have hge : m ≤ ns.length := by
            have : ¬ ((ns.length : Int) < (m : Int)) := fun z => hlt (decide_eq_true z)
            omega
          refine ⟨_, rfl, _, rfl, _, rfl, b, _, rfl, SqL.of hb, fun p np => ?_⟩
          rw [cut_to, ← List.map_take]
          refine q _ p (ns.take m) (fun d o e => ?_) (sm.free np) upd_same (by rw [List.length_take]; omega) (fun n hn => hs n (List.mem_of_mem_take hn))
          rw [upd_ne (ne_of_none (sm d o e) np)]
          exact sm d o e
      · rintro σ H Q Q' h ⟨v, e1, x, n, e2, l, u, e3, i, j, ei, ej, k, ek, q⟩
        exact ⟨v, e1, x, n, e2, l, u, e3, i, j, ei, ej, k, ek, h _ _ q⟩
end
theorem made {H : Hp} {a : Addr} {o : HO} (h : H a = none) : ∃ H', upd H a o = H' ∧ Same H H' ∧ H' a = some o := ⟨_, rfl, same_upd h, upd_same⟩
theorem ks1 : ¬ (("start" : Str) = "end") := by decide +kernel
theorem ks2 : ¬ (("start" : Str) = "_picks") := by decide +kernel
theorem ks3 : ¬ (("end" : Str) = "_picks") := by decide +kernel
def tf (a b : V) (l : Addr) : List (Str × V) := putF "_picks" (.ref l) (putF "end" b (putF "start" a []))
theorem tf_len2 (a b : V) : (putF "end" b (putF "start" a ([] : List (Str × V)))).length = 2 := by
  show (if ("start" : Str) = "end" then [(("start" : Str), b)] else (("start" : Str), a) :: putF "end" b []).length = 2
  rw [if_neg ks1]
  rfl
theorem tf_start (a b : V) (l : Addr) : (tf a b l).lookup ("start" : Str) = some a := by
  unfold tf
  rw [lookup_putF, if_neg ks2, lookup_putF, if_neg ks1, lookup_putF, if_pos rfl]
theorem tf_end (a b : V) (l : Addr) : (tf a b l).lookup ("end" : Str) = some b := by
  unfold tf
  rw [lookup_putF, if_neg ks3, lookup_putF, if_pos rfl]
theorem tf_picks (a b : V) (l : Addr) : (tf a b l).lookup ("_picks" : Str) = some (.ref l) := by
  unfold tf
  rw [lookup_putF, if_pos rfl]
theorem tf_no (a b : V) (l : Addr) {m : Str} (h1 : ¬ m = "start") (h2 : ¬ m = "end") (h3 : ¬ m = "_picks") : (tf a b l).lookup m = none := by
  unfold tf
  rw [lookup_putF, if_neg h3, lookup_putF, if_neg h2, lookup_putF, if_neg h1]
  rfl
/-- a task stands at p: its start, its end, its picks in order -/
def TaskAt (C : Addr) (H : Hp) (p : Addr) (st en : Pl) (ps : List Pl) : Prop := ∃ (dx l : Addr) (a b : V) (xs : List V),
  H p = some (.ins C dx (tf a b l)) ∧ Pr H a st ∧ Pr H b en ∧ H l = some (.lst xs) ∧ Prs H xs ps ∧ ps.Pairwise lp ∧ ps.Nodup ∧ ps.length ≤ 60
theorem TaskAt.same {C : Addr} {H H' : Hp} {p : Addr} {st en : Pl} {ps : List Pl} (h : TaskAt C H p st en ps) (k : Same H H') : TaskAt C H' p st en ps := by
  obtain ⟨dx, l, a, b, xs, h1, h2, h3, h4, h5, h6⟩ := h
  exact ⟨dx, l, a, b, xs, k _ _ h1, h2.same k, h3.same k, k _ _ h4, h5.same k, h6⟩
theorem TaskAt.over {C : Addr} {H : Hp} {p m : Addr} {st en : Pl} {ps : List Pl} {zs ws : List V} (h : TaskAt C H p st en ps) (hm : H m = some (.lst zs)) (hn : ∀ dx a b r, H p = some (.ins C dx (tf a b r)) → r ≠ m) : TaskAt C (upd H m (.lst ws)) p st en ps := by
  obtain ⟨dx, l, a, b, xs, h1, h2, h3, h4, h5, h6⟩ := h
  exact ⟨dx, l, a, b, xs, by rw [upd_ne (ne_of h1 hm (by intro z; cases z))]; exact h1, h2.over hm, h3.over hm, by rw [upd_ne (hn _ _ _ _ h1)]; exact h4, h5.over hm, h6⟩
/-- what the top has left of the class of tasks and of its errors -/
structure TaskTxt (K : PySem.W.Frag) (mg : Str → Option Value) (C CI : Addr) : Prop where
  cl : Cls K C
  nS : NoAttr K C "start"
  nE : NoAttr K C "end"
  nP : NoAttr K C "_picks"
  mgC : mg "Task" = some (.ref C)
  len : mg "len" = none
  set : mg "set" = none
  sorted : mg "sorted" = none
  list : mg "list" = none
  most : ∃ t, mg "MOST_PICKS" = some (.int 60 t)
  gI : mg "InvalidTask" = some (.ref CI)
  kI : PySem.W.keepIn K (.ref CI) = true
  xI : PySem.W.excIn K CI [.type "ValueError", .type "Exception", .type "BaseException", .type "object"] "ValueError.__new__" = true
  bI : PySem.W.subIn K (.ref CI) (.type "BaseException") = some true
  tI : PySem.W.typeIn K (.ref CI) = some (.type "type")
section
variable {P : Program} {w : World} {K : PySem.W.Frag} {mg : Str → Option Value} {base : Heap}
/-- all but what is at p is as it was -/
def But (p : Addr) (H H' : Hp) : Prop := ∀ b o, H b = some o → b ≠ p → H' b = some o
def spTask (K : PySem.W.Frag) (C CI : Addr) : Sp := fun vs H Q E => ∃ (p dx l : Addr) (a b : V) (st en : Pl) (xs : List V) (ps : List Pl), vs = [.ref p, a, b, .ref l] ∧ H p = some (.ins C dx []) ∧ Pr H a st ∧ Pr H b en ∧
  SqL K H l xs ∧ Prs H xs ps ∧ ps.length ≤ 1000 ∧
  (ps.length ≤ 60 → ps.Nodup → ∀ H', TaskAt C H' p st en (sortP ps) → But p H H' → (∀ dx a b r, H' p = some (.ins C dx (tf a b r)) → H r = none) → Q .non H') ∧
  (¬ (ps.length ≤ 60 ∧ ps.Nodup) → ∀ H', Same H H' → E (.ref CI) none H')
theorem ok_task {f C CI : Addr} {fd : FuncData} (F : Fun K "__init__" "Task.__init__" s_Task___init__ f fd) (T : TaskTxt K mg C CI) : FnOk P w K mg base (L2.CX P w) 2 f fd ["self", "start", "end", "picks"] (spTask K C CI) := by
  refine F.okX sc_Task___init__ (fun vs H Q E h => ?_) (fun cdv A outer s H vs Q E hr h => ?_)
  · obtain ⟨p, dx, l, a, b, st, en, xs, ps, rfl, _⟩ := h
    rfl
  · obtain ⟨p, dx, l, a, b, st, en, xs, ps, rfl, hp, ha, hb, hl, hx, hn, q, e⟩ := h
    obtain ⟨t, hmost⟩ := T.most
    have hxl := hx.len
    refine ⟨_, (pss_cons (ps_if (pt_cmpR op_gt (pe_callB call_len (by rfl) T.len (by decide +kernel) (pa_cons (pv 3) pa_nil)) (pe_glob (v := .int 60) rfl hmost ⟨_, rfl⟩) (nomark _)) (pss_one (ps_raise rfl (takes_of rfl rfl rfl rfl) (pmk_own PySem.F.excBase_ValueError T.xI T.gI T.kI (raises_own T.bI T.tI) rfl))) pss_nil)
      (pss_cons (ps_if (pt_cmpR op_lt (pe_callB call_lenP (by rfl) T.len (by decide +kernel) (pa_cons (pe_callTy (cr_setP rfl hr.units) (by rfl) T.set (by decide +kernel) (pa_cons (pv 3) pa_nil)) pa_nil)) (pe_callB call_len (by rfl) T.len (by decide +kernel) (pa_cons (pv 3) pa_nil)) (nomark _)) (pss_one (ps_raise rfl (takes_of rfl rfl rfl rfl) (pmk_own PySem.F.excBase_ValueError T.xI T.gI T.kI (raises_own T.bI T.tI) rfl))) pss_nil)
      (pss_cons (ps_fld (pv 0) (pv 1) rfl)
      (pss_cons (ps_fld (pv 0) (pv 2) rfl)
      (pss_one (ps_fld (pv 0) (pe_callB call_sortP (by rfl) T.sorted (by decide +kernel) (pa_cons (pv 3) pa_nil)) rfl)))))), ?_⟩
    -- len(picks) > MOST_PICKS
    refine ⟨_, rfl, _, _, rfl, .inl ⟨_, hl, rfl⟩, _, _, rfl, rfl, _, rfl, ?_⟩
    refine ite2 (fun hc => ?_) (fun hc => ?_)
    · have hc' := of_decide_eq_true hc
      exact e (fun z => by omega) H (Same.refl _)
    · have hc' : ps.length ≤ 60 := by
        have : ¬ ((60 : Int) < (xs.length : Int)) := fun z => hc (decide_eq_true z)
        omega
      -- len(set(picks)) < len(picks)
      refine ⟨_, rfl, l, xs, ps, rfl, hl, hx, by omega, fun H1 s0 ns0 k1 hs0 => ⟨s0, ps, rfl, hs0, _, rfl, _, _, rfl, .inl ⟨_, k1.seq hl, rfl⟩, _, _, rfl, rfl, _, rfl, ?_⟩⟩
      refine ite2 (fun hd => ?_) (fun hd => ?_)
      · have hd' := of_decide_eq_true hd
        exact e (fun z => (nub_lt ps).mp (by omega) z.2) H1 k1
      · have hnd : ps.Nodup := by
          have z : ¬ (((nub ps).length : Int) < (xs.length : Int)) := fun z => hd (decide_eq_true z)
          exact Decidable.byContradiction fun y => z (by have := (nub_lt ps).mpr y; omega)
        -- self.start, self.end, self._picks
        have hp1 := k1 _ _ hp
        refine ⟨_, rfl, _, rfl, p, C, dx, [], rfl, hp1, T.cl, T.nS, (by show 0 < 1000; decide), ?_⟩
        refine ⟨_, rfl, _, rfl, p, C, dx, _, rfl, upd_same, T.cl, T.nE, (by show 1 < 1000; decide), ?_⟩
        have hl' : SqL K (upd (upd H1 p (.ins C dx (putF "start" a []))) p (.ins C dx (putF "end" b (putF "start" a [])))) l xs := by
          rcases k1.seq hl with (h | ⟨o, h⟩) | h
          · exact .inl (.inl (by rw [upd_ne (ne_of hp1 h (by intro z; cases z)).symm, upd_ne (ne_of hp1 h (by intro z; cases z)).symm]; exact h))
          · exact .inl (.inr ⟨o, by rw [upd_ne (ne_of hp1 h (by intro z; cases z)).symm, upd_ne (ne_of hp1 h (by intro z; cases z)).symm]; exact h⟩)
          · exact .inr h
        have keep : ∀ c o, H1 c = some o → c ≠ p → (upd (upd H1 p (.ins C dx (putF "start" a []))) p (.ins C dx (putF "end" b (putF "start" a [])))) c = some o := fun c o h n => by
          rw [upd_ne n, upd_ne n]
          exact h
        have tupne : ∀ {v : V} {z : Pl}, Pr H1 v z → Pr (upd (upd H1 p (.ins C dx (putF "start" a []))) p (.ins C dx (putF "end" b (putF "start" a [])))) v z := fun {v z} h => by
          obtain ⟨t, rfl, h⟩ := h
          exact ⟨t, rfl, keep _ _ h (ne_of hp1 h (by intro z; cases z)).symm⟩
        have prsne : ∀ {vs : List V} {zs : List Pl}, Prs H1 vs zs → Prs (upd (upd H1 p (.ins C dx (putF "start" a []))) p (.ins C dx (putF "end" b (putF "start" a [])))) vs zs := fun h => by
          induction h with
          | nil => exact .nil
          | cons x _ ih => exact .cons (tupne x) ih
        refine ⟨_, rfl, l, xs, ps, rfl, hl', prsne (hx.same k1), fun r ys nr hys => ⟨_, rfl, p, C, dx, putF "end" b (putF "start" a []), rfl, ?_, T.cl, T.nP, ?_, ?_⟩⟩
        · rw [upd_ne (ne_of_none upd_same nr)]
          exact upd_same
        · rw [tf_len2]
          decide
        · have npr : p ≠ r := ne_of_none upd_same nr
          have sm : But p H1 (upd (upd (upd (upd H1 p (.ins C dx (putF "start" a []))) p (.ins C dx (putF "end" b (putF "start" a [])))) r (.lst ys)) p (.ins C dx (tf a b r))) := fun c o h n => by
            rw [upd_ne n, upd_ne (ne_of_none (keep c o h n) nr)]
            exact keep c o h n
          have back : ∀ {c : Addr} {xs : List V}, (upd (upd (upd H1 p (.ins C dx (putF "start" a []))) p (.ins C dx (putF "end" b (putF "start" a [])))) r (.lst ys)) c = some (.tup xs) →
              (upd (upd (upd (upd H1 p (.ins C dx (putF "start" a []))) p (.ins C dx (putF "end" b (putF "start" a [])))) r (.lst ys)) p (.ins C dx (tf a b r))) c = some (.tup xs) := fun {c xs} h => by
            rw [upd_ne (show c ≠ p from fun z => by rw [z, upd_ne npr, upd_same] at h; cases h)]
            exact h
          have pr1 : ∀ {v : V} {z : Pl}, Pr (upd (upd H1 p (.ins C dx (putF "start" a []))) p (.ins C dx (putF "end" b (putF "start" a [])))) v z → Pr (upd (upd (upd (upd H1 p (.ins C dx (putF "start" a []))) p (.ins C dx (putF "end" b (putF "start" a [])))) r (.lst ys)) p (.ins C dx (tf a b r))) v z := fun {v z} h => by
            obtain ⟨t, rfl, h⟩ := h
            exact ⟨t, rfl, back (by rw [upd_ne (ne_of_none h nr)]; exact h)⟩
          have pr2 : ∀ {vs : List V} {zs : List Pl}, Prs (upd (upd H1 p (.ins C dx (putF "start" a []))) p (.ins C dx (putF "end" b (putF "start" a [])))) vs zs → Prs (upd (upd (upd (upd H1 p (.ins C dx (putF "start" a []))) p (.ins C dx (putF "end" b (putF "start" a [])))) r (.lst ys)) p (.ins C dx (tf a b r))) vs zs := fun h => by
            induction h with
            | nil => exact .nil
            | cons x _ ih => exact .cons (pr1 x) ih
          refine q hc' hnd _ ⟨dx, r, a, b, ys, upd_same, pr1 (tupne (ha.same k1)), pr1 (tupne (hb.same k1)), ?_, pr2 hys, sortP_pw ps, sortP_nd.mpr hnd, by rw [sortP_len]; exact hc'⟩ (fun c o h n => sm c o (k1 _ _ h) n) fun dx' a' b' r' z => ?_
          · rw [upd_ne npr.symm]
            exact upd_same
          · rw [upd_same] at z
            have z2 := Option.some.inj z
            injection z2 with _ _ z3
            have z4 := tf_picks a b r
            have z6 : tf a b r = tf a' b' r' := z3
            rw [z6, tf_picks] at z4
            have z5 : r' = r := V.ref.inj (Option.some.inj z4)
            subst z5
            rw [upd_ne npr.symm, upd_ne npr.symm] at nr
            exact k1.free nr
theorem room65 {k : Nat} {A : Around} (r : Room k A) : A.units + 65 < cLine := by
  have := r.un
  omega
def spPicks (C : Addr) : Sp := fun vs H Q _ => ∃ (p : Addr) (st en : Pl) (ps : List Pl), vs = [.ref p] ∧ TaskAt C H p st en ps ∧
  ∀ (r : Addr) (xs : List V), H r = none → Prs H xs ps → Q (.ref r) (upd H r (.lst xs))
theorem ok_picks {f C CI : Addr} {fd : FuncData} (F : Fun K "picks" "Task.picks" s_Task_picks f fd) (T : TaskTxt K mg C CI) : FnOk P w K mg base CX0 1 f fd ["self"] (spPicks C) := by
  refine F.ok sc_Task_picks (fun vs H Q E h => ?_) (fun cdv A outer s H vs Q E hr h => ?_)
  · obtain ⟨p, st, en, ps, rfl, _⟩ := h
    rfl
  · obtain ⟨p, st, en, ps, rfl, ⟨dx, l, a, b, xs, h1, h2, h3, h4, h5, _⟩, q⟩ := h
    exact ⟨_, (pss_one (ps_ret (pe_callTy call_list_of (by rfl) T.list (by decide +kernel) (pa_cons (pe_fld (pv 0) rfl) pa_nil)))), _, rfl, p, C, dx, _, _, rfl, h1, T.cl, T.nP, tf_picks _ _ _, l, xs, rfl, .inl (SqL.of h4), fun r nr => q r xs nr h5⟩
def spHas (C : Addr) : Sp := fun vs H Q _ => ∃ (p : Addr) (v : V) (st en z : Pl) (ps : List Pl), vs = [.ref p, v] ∧ TaskAt C H p st en ps ∧ Pr H v z ∧ Q (.bl (decide (z ∈ ps))) H
theorem ok_has {f C CI : Addr} {fd : FuncData} (F : Fun K "has_pick" "Task.has_pick" s_Task_has_pick f fd) (T : TaskTxt K mg C CI) : FnOk P w K mg base CX0 1 f fd ["self", "place"] (spHas C) := by
  refine F.ok sc_Task_has_pick (fun vs H Q E h => ?_) (fun cdv A outer s H vs Q E hr h => ?_)
  · obtain ⟨p, v, st, en, z, ps, rfl, _⟩ := h
    rfl
  · obtain ⟨p, v, st, en, z, ps, rfl, ⟨dx, l, a, b, xs, h1, h2, h3, h4, h5, _⟩, hv, q⟩ := h
    refine ⟨_, (pss_one (ps_ret (pe_cmpR (op_inD (room65 hr)) (pv 1) (pe_fld (pv 0) rfl) (by rfl)))), ?_⟩
    refine ⟨_, rfl, _, rfl, p, C, dx, _, _, rfl, h1, T.cl, T.nP, tf_picks _ _ _, dP z, ps.map dP, hv.dp, h5.dl (SqL.of h4), sh_dP z, sh_dL ps, ?_⟩
    rw [any_dP]
    exact q
/-- an object of the class made: the heap as it is handed to __init__ -/
theorem mkSame {H : Hp} {x dx : Addr} {o u : HO} (n : H x = none) (m : H dx = none) : Same H (upd (upd H dx u) x o) := fun b o e => by
  rw [upd_ne (ne_of_none e n), upd_ne (ne_of_none e m)]
  exact e
theorem mkBut {H H' : Hp} {x dx : Addr} {o u : HO} (n : H x = none) (m : H dx = none) (k : But x (upd (upd H dx u) x o) H') : Same H H' := fun b o e => k b o (mkSame n m b o e) (ne_of_none e n)
/-- behind raise X(v), X a class with one attribute f -/
theorem raised {H : Hp} {a d C : Addr} {f : Str} {v : V} (ha : H a = none) (hd : (upd H a (exo a C none)) d = none) (hne : d ≠ a) :
    (upd (upd (upd H a (exo a C none)) d (exd d [(f, v)])) a (exo a C (some d))) a = some (exo a C (some d)) ∧ (upd (upd (upd H a (exo a C none)) d (exd d [(f, v)])) a (exo a C (some d))) d = some (exd d [(f, v)]) ∧ H d = none ∧
    Same H (upd (del (upd (upd (upd H a (exo a C none)) d (exd d [(f, v)])) a (exo a C (some d))) a) d (.xd [(f, v)])) := by
  have hdn : H d = none := by
    rw [upd_ne hne] at hd
    exact hd
  refine ⟨upd_same, by rw [upd_ne hne, upd_same], hdn, fun b o e => ?_⟩
  have h1 : b ≠ a := ne_of_none e ha
  have h2 : b ≠ d := ne_of_none e hdn
  rw [upd_ne h2, del_ne h1, upd_ne h1, upd_ne h2, upd_ne h1]
  exact e
/-- the errors of the changes: PickTaken, UnknownPick (with their __init__), TooLarge -/
structure ChgTxt (K : PySem.W.Frag) (mg : Str → Option Value) (CT CL fT : Addr) : Prop where
  gT : mg "PickTaken" = some (.ref CT)
  oT : OexC K CT
  nT : PySem.W.findIn K (.ref CT) "place" = some none
  iT : PySem.W.findIn K (.ref CT) "__init__" = some (some (.ref fT))
  yT : PySem.W.typeIn K (.ref fT) = some (.type "function")
  gL : mg "TooLarge" = some (.ref CL)
  kL : PySem.W.keepIn K (.ref CL) = true
  xL : PySem.W.excIn K CL [.type "ValueError", .type "Exception", .type "BaseException", .type "object"] "ValueError.__new__" = true
  bL : PySem.W.subIn K (.ref CL) (.type "BaseException") = some true
  tL : PySem.W.typeIn K (.ref CL) = some (.type "type")
theorem ok_taken {f C : Addr} {fd : FuncData} (F : Fun K "__init__" "PickTaken.__init__" s_PickTaken___init__ f fd) : FnOk P w K mg base CX0 1 f fd ["self", "place"] (spXI K C "place") := by
  refine F.ok sc_PickTaken___init__ (fun vs H Q E h => ?_) (fun cdv A outer s H vs Q E hr h => ?_)
  · obtain ⟨a, v, rfl, _⟩ := h
    rfl
  · obtain ⟨a, v, rfl, T, hno, ha, q⟩ := h
    exact ⟨_, pss_one (ps_ost (pv 0) (pv 1)), v, rfl, _, rfl, a, C, rfl, T, hno, .inl ⟨ha, q⟩⟩
def spWith (C CT CL : Addr) : Sp := fun vs H Q E => ∃ (p : Addr) (v : V) (st en z : Pl) (ps : List Pl), vs = [.ref p, v] ∧ TaskAt C H p st en ps ∧ Pr H v z ∧
  (z ∈ ps → ∀ (H' : Hp) (d : Addr), Same H H' → H' d = some (.xd [("place", v)]) → E (.ref CT) (some d) H') ∧
  (z ∉ ps → 60 ≤ ps.length → ∀ H' : Hp, Same H H' → E (.ref CL) none H') ∧
  (z ∉ ps → ps.length < 60 → ∀ (H' : Hp) (r : Addr), Same H H' → H r = none → TaskAt C H' r st en (sortP (ps ++ [z])) → Q (.ref r) H')
/-- start, end and picks, as a tuple -/
def dT (st en : Pl) (ps : List Pl) : PyData := .tuple [dP st, dP en, dL ps]
end
open SX
section
open GxR NdefX PySem.Spec PyProof.Rows
variable {P : Program} {w : World} {K : PySem.W.Frag} {mg : Str → Option Value} {base : Heap}
/-- a line's codes -/
def rowL (hd : List Nat) (ns : List Int) : List Nat := TL.joinL [32] (hd :: ns.map dg)
/-- names of built-ins that no def hides, a constant -/
structure NoteTop (mg : Str → Option Value) : Prop where
  str : mg "str" = none
  len : mg "len" = none
  all : mg "all" = none
  int : mg "int" = none
  range : mg "range" = none
  digits : ∃ t, mg "MOST_DIGITS" = some (.int 4 t)
/-- the error of notation -/
structure NotTxt (K : PySem.W.Frag) (mg : Str → Option Value) (CN fN : Addr) : Prop where
  g : mg "InvalidNotation" = some (.ref CN)
  o : OexC K CN
  n : PySem.W.findIn K (.ref CN) "line" = some none
  i : PySem.W.findIn K (.ref CN) "__init__" = some (some (.ref fN))
  y : PySem.W.typeIn K (.ref fN) = some (.type "function")
theorem ok_notinit {f C : Addr} {fd : FuncData} (F : Fun K "__init__" "InvalidNotation.__init__" s_InvalidNotation___init__ f fd) : FnOk P w K mg base CX0 1 f fd ["self", "line"] (spXI K C "line") := by
  refine F.ok sc_InvalidNotation___init__ (fun vs H Q E h => ?_) (fun cdv A outer s H vs Q E hr h => ?_)
  · obtain ⟨a, v, rfl, _⟩ := h
    rfl
  · obtain ⟨a, v, rfl, T, hno, ha, q⟩ := h
    exact ⟨_, pss_one (ps_ost (pv 0) (pv 1)), v, rfl, _, rfl, a, C, rfl, T, hno, .inl ⟨ha, q⟩⟩
theorem sp_S : (" " : Str) = S [32] := by decide +kernel
theorem nl_S : ("\n" : Str) = S [10] := by decide +kernel
theorem co_S : (":" : Str) = S [58] := by decide +kernel
theorem ze_S : ("0" : Str) = S [48] := by decide +kernel
theorem small_log {n : Int} (h0 : 0 ≤ n) (h1 : n < 100000) : n.natAbs.log2 < 1920 := by
  by_cases h : n.natAbs = 0
  · rw [h]
    decide
  · rw [Nat.log2_lt h]
    have h2 : n.natAbs < 2 ^ 17 := by omega
    exact Nat.lt_of_lt_of_le h2 (Nat.pow_le_pow_right (by decide) (by decide))
def spRowT : Sp := fun vs H Q _ => ∃ (hd : List Nat) (t : Addr) (ns : List Int), vs = [.str (S hd), .ref t] ∧ H t = some (.tup (ns.map V.int)) ∧ (∀ n ∈ ns, 0 ≤ n ∧ n < 100000) ∧ hd.length ≤ 1000 ∧ ns.length ≤ 1000 ∧
  ∀ H', Same H H' → Q (.str (S (rowL hd ns))) H'
theorem ok_rowT {f : Addr} {fd : FuncData} (F : Fun K "_row" "_row" s__row f fd) (T : NoteTop mg) : FnOk P w K mg base CX0 1 f fd ["head", "numbers"] spRowT := by
  refine F.ok sc__row (fun vs H Q E h => ?_) (fun cdv A outer s H vs Q E hr h => ?_)
  · obtain ⟨hd, t, ns, rfl, _⟩ := h
    rfl
  · obtain ⟨hd, t, ns, rfl, ht, hb, hl1, hl2, q⟩ := h
    have nd := sc__row.nd
    refine ⟨_, (pss_one (ps_ret (pe_join pe_str (pe_op op_cat (pe_lst (pa_cons (pv 0) pa_nil)) (pe_lc (own := [("number", 2)]) (g := gName 2) (tt := tYes) rfl nd (pi_tup (pv 1)) (blkOk_by (N := ["head", "numbers", "number"]) (sc := defScope s__row) (by decide +kernel)) (fun _ _ _ _ _ => pg_name (i := 2) nd rfl (Or.inl rfl)) (fun _ _ _ _ _ => pts_nil) (fun _ _ _ _ _ => (pe_callTy call_str_int (by rfl) T.str (by decide +kernel) (pa_cons (pv 2) pa_nil)))))))), ?_⟩
    refine ⟨⟨_, rfl⟩, _, rfl, (by show 1 ≤ sizeLine; decide), fun m nm => ?_⟩
    obtain ⟨H1, e1, k1, g1⟩ := made (o := .lst [.str (S hd)]) nm
    rw [e1]
    refine ⟨_, rfl, t, rfl, ⟨_, SqT.of (k1 _ _ ht)⟩, fun D hD => ?_⟩
    have hz : 100000 < sizeLine := by decide
    refine lc_tup (K := K) (a := t) (xs := ns.map V.int) (fun i H' => Same H1 H' ∧ H' D = some (.lst ((((ns.take i).map dg).map S).map V.str))) ?_ ?_ ?_ ?_
    · exact ⟨same_upd hD, upd_same⟩
    · rintro i H' _ ⟨k, _⟩
      exact SqT.of (k _ _ (k1 _ _ ht))
    · rintro i x H' hx ⟨k, hd'⟩
      rw [List.getElem?_map] at hx
      cases hn : ns[i]? with
      | none => rw [hn] at hx; cases hx
      | some n =>
        rw [hn] at hx
        cases hx
        obtain ⟨b0, b1⟩ := hb n (List.mem_of_getElem? hn)
        have hil : i < ns.length := (List.getElem?_eq_some_iff.mp hn).1
        refine ⟨rfl, _, rfl, _, rfl, small_log b0 b1, _, hd', ?_, ?_, ?_⟩
        · rw [List.length_map, List.length_map, List.length_map, List.length_take]
          omega
        · intro b o e
          rw [upd_ne (ne_of_none e hD)]
          exact k b o e
        · rw [upd_same, show (toString n : Str) = S (dg n) from dg_str b0, List.take_add_one, hn]
          simp only [List.map_append, Option.toList, List.map_cons, List.map_nil]
    · rintro H2 ⟨k2, g2⟩
      rw [List.length_map, List.take_length] at g2
      refine ⟨_, _, _, _, rfl, rfl, k2 _ _ g1, g2, ?_, fun p np => ?_⟩
      · rw [List.length_map, List.length_map, List.length_map]
        show 1 + ns.length ≤ sizeLine
        omega
      obtain ⟨H3, e3, k3, g3⟩ := made (o := .lst ([.str (S hd)] ++ (((ns.map dg).map S).map V.str))) np
      rw [e3]
      refine ⟨_, p, (hd :: ns.map dg).map S, rfl, rfl, .inl (SqL.of g3), ?_, ?_⟩
      · have hs : ∀ y ∈ hd :: ns.map dg, y.length ≤ 1000 := fun y hy => by
          rcases List.mem_cons.mp hy with rfl | hy
          · exact hl1
          · obtain ⟨n, hn, rfl⟩ := List.mem_map.mp hy
            have := dg_len (n := n) (k := 5) (by decide) (by have := (hb n hn).2; omega)
            omega
        have z := sum_len hs
        have e : (hd :: ns.map dg).length = ns.length + 1 := by rw [List.length_cons, List.length_map]
        rw [List.length_map, e, show (" " : Str).length = 1 from rfl]
        rw [e] at z
        omega
      · rw [sp_S, join_S]
        exact q H3 ((k1.trans k2).trans k3)
def spIsNum : Sp := fun vs H Q _ => ∃ z : Str, vs = [.str z] ∧ z.length ≤ 1000000 ∧ Q (.bl (isNum z)) H
theorem ok_isnum {f : Addr} {fd : FuncData} (F : Fun K "is_number" "is_number" s_is_number f fd) (T : NoteTop mg) : FnOk P w K mg base CX0 1 f fd ["word"] spIsNum := by
  refine F.ok sc_is_number (fun vs H Q E h => ?_) (fun cdv A outer s H vs Q E hr h => ?_)
  · obtain ⟨z, rfl, _⟩ := h
    rfl
  · obtain ⟨z, rfl, hz, q⟩ := h
    obtain ⟨t, hdig⟩ := T.digits
    have hz' : z.length ≤ sizeLine := by
      rw [sizeLine_eq]
      omega
    refine ⟨_, (pss_cons (ps_if (PW.pt (pw_or (pt_not (pt_val (pe_m0 PySem.F.slot_str_isdigit PySem.F.type_str_isdigit mt_isdigit (pv 0)))) (pw_or1 (pt_cmpR op_gt (pe_callB call_len_str (by rfl) T.len (by decide +kernel) (pa_cons (pv 0) pa_nil)) (pe_glob (v := .int 4) rfl hdig ⟨_, rfl⟩) (nomark _))))) (pss_one (ps_ret pe_bl)) pss_nil)
      (pss_one (ps_ret (pe_or (pe_cmpR op_eq (pv 0) pe_str (nomark _)) (pe_one (pe_not (pe_m1 PySem.F.slot_str_startswith PySem.F.type_str_startswith mt_startswith (pv 0) pe_str))))))), ?_⟩
    refine ⟨_, rfl, ⟨_, rfl⟩, _, rfl, rfl, trivial, _, rfl, ?_⟩
    unfold isNum at q
    cases h1 : Txt.isdigit z with
    | false =>
      rw [h1] at q
      exact q
    | true =>
      rw [h1] at q
      refine iteF ?_
      refine ⟨_, rfl, _, rfl, hz', _, _, rfl, rfl, _, rfl, ?_⟩
      refine ite2 (fun hc => ?_) (fun hc => ?_)
      · have : ¬ z.length ≤ 4 := by
          have := of_decide_eq_true hc
          omega
        rw [decide_eq_false this] at q
        exact q
      · have : z.length ≤ 4 := by
          have : ¬ ((z.length : Int) > 4) := fun y => hc (decide_eq_true y)
          omega
        rw [decide_eq_true this] at q
        refine ⟨_, rfl, rfl, _, rfl, ?_⟩
        have e : decide (V.str z = V.str ("0" : Str)) = decide (z = S [48]) := by
          rw [ze_S]
          by_cases h : z = S [48]
          · rw [h, decide_eq_true rfl, decide_eq_true rfl]
          · rw [decide_eq_false h, decide_eq_false fun y => h (V.str.inj y)]
        rw [e]
        cases h2 : decide (z = S [48]) with
        | true =>
          rw [h2] at q
          exact iteT q
        | false =>
          rw [h2] at q
          refine iteF ?_
          refine ⟨_, rfl, ⟨_, rfl⟩, _, _, rfl, rfl, _, rfl, ?_⟩
          rw [ze_S]
          exact q
/-- raises the error of notation with this number of a line -/
def RaisesN (CN : Addr) (k : Int) (H : Hp) (E : XK) : Prop := ∀ (H' : Hp) (d : Addr), Kp H H' → H' d = some (.xd [("line", .int k)]) → E (.ref CN) (some d) H'
def spNums (K : PySem.W.Frag) (T CN : Addr) : Sp := fun vs H Q E => ∃ (l : Addr) (ws : List Str) (k : Int), vs = [.ref l, .int k] ∧ SqL K H l (ws.map V.str) ∧ (∀ z ∈ ws, z.length ≤ 1000000 ∧ asc z) ∧ ws.length ≤ 1000000 ∧ TabG H T ∧
  (ws.all isNum = true → ∀ (H' : Hp) (r : Addr), Kp H H' → H' r = some (.lst ((ws.map numV).map V.int)) → Q (.ref r) H') ∧ (ws.all isNum = false → RaisesN CN k H E)
theorem ok_nums {f c T0 CN fN fI : Addr} {fd fdN fdI : FuncData} (F : FunC K "_numbers_of" "_numbers_of" s__numbers_of f c fd) (T : NoteTop mg) (TB : TabB base mg c T0) (U : NotTxt K mg CN fI) (GI : FnOk P w K mg base CX0 1 fI fdI ["self", "line"] (spXI K CN "line")) (bI : Binds K fdI ["self", "line"] [])
    (FN : Fun K "is_number" "is_number" s_is_number fN fdN) (GN : FnOk P w K mg base CX0 1 fN fdN ["word"] spIsNum) (bN : Binds K fdN ["word"] []) (gN : mg "is_number" = some (.ref fN)) : FnOk P w K mg base (L2.CX P w) 4 f fd ["words", "number"] (spNums K T0 CN) := by
  refine F.okX sc__numbers_of (fun vs H Q E h => ?_) (fun A outer s H vs Q E hr h => ?_)
  · obtain ⟨l, ws, k, rfl, _⟩ := h
    rfl
  · obtain ⟨l, ws, k, rfl, hl, hw, hwl, ht, q1, q2⟩ := h
    have nd := sc__numbers_of.nd
    refine ⟨_, (pss_cons (ps_if (pt_not (pt_val (pe_allG (k := 2) (N := ["word"]) (fr := [none]) (g := gName 0) (by exact hr.mono (by decide)) (by rfl) T.all (by decide +kernel) TB rfl (gsc_by (outer := defScope s__numbers_of) rfl rfl (by decide +kernel)) (gfr_by (outer := defScope s__numbers_of) (XN := ["words", "number", "word"]) rfl rfl (by decide +kernel)) (pi_list (pv 0)) (fun B s0 H0 cd fp rB => ⟨pg_name (i := 0) (show (["word"] : List Str).Nodup by decide) rfl (.inl rfl), (pe_call GN (by exact rB.mono (by decide)) (by rfl) gN FN.kp bN .nil pass0 (pa_cons (pv 0) pa_nil))⟩) (fun _ => rfl)))) (pss_one (ps_raise rfl (takes_of rfl rfl rfl rfl) (pmk_oex U.o U.i U.y GI (by exact hr.mono (by decide)) bI .nil pass0 (by rfl) U.g (pa_cons (pv 1) pa_nil)))) pss_nil)
      (pss_one (ps_ret (pe_lc (own := [("word", 2)]) (g := gName 2) (tt := tYes) rfl nd (pi_list (pv 0)) (blkOk_by (N := ["words", "number", "word"]) (sc := defScope s__numbers_of) (by decide +kernel)) (fun _ _ _ _ _ => pg_name (i := 2) nd rfl (Or.inl rfl)) (fun _ _ _ _ _ => pts_nil) (fun _ _ _ _ _ => (pe_callTy call_int_str (by rfl) T.int (by decide +kernel) (pa_cons (pv 2) pa_nil))))))), ?_⟩
    refine ⟨_, rfl, l, rfl, ⟨_, hl⟩, ht, fun H2 t2 => ?_⟩
    have k2 : Kp H H2 := Tabbed.kp t2 ht
    have hl2 : SqL K H2 l (ws.map V.str) := k2.seq hl
    refine for_list (K := K) (a := l) (xs := ws.map V.str) (fun i σ H' => (∃ z, σ = [z]) ∧ H' = H2 ∧ (ws.take i).all isNum = true) ?_ ?_ ?_ ?_
    · exact ⟨⟨none, rfl⟩, rfl, rfl⟩
    · rintro i σ H' _ ⟨_, rfl, _⟩
      exact hl2
    · rintro i x σ H' hx ⟨⟨z, rfl⟩, rfl, hp⟩
      rw [List.getElem?_map] at hx
      cases hn : ws[i]? with
      | none => rw [hn] at hx; cases hx
      | some y =>
        rw [hn] at hx
        cases hx
        have hy := hw y (List.mem_of_getElem? hn)
        have et : ws.take (i + 1) = ws.take i ++ [y] := by rw [List.take_add_one, hn]; rfl
        refine ⟨_, rfl, _, rfl, hy.1, _, rfl, ?_⟩
        refine ite2 (fun h7 => ?_) (fun h7 => ?_)
        · have hi : isNum y = false := by simpa using h7
          have e : ws.all isNum = false := by
            rw [Bool.eq_false_iff]
            intro z
            rw [List.all_eq_true] at z
            rw [z y (List.mem_of_getElem? hn)] at hi
            cases hi
          refine ⟨_, rfl, ?_⟩
          refine iteT ?_
          refine ⟨_, rfl, by show 1 ≤ 1000; decide, fun a na => ⟨a, .int k, rfl, U.o, U.n, upd_same, fun dd hd hne => ⟨rfl, dd, [("line", .int k)], ?_⟩⟩⟩
          obtain ⟨g1, g2, g3, g4⟩ := raised (f := "line") (v := .int k) na hd hne
          exact ⟨g1, g2, g3, q2 e _ dd (k2.trans (kpS g4)) upd_same⟩
        · have hi : isNum y = true := by simpa using h7
          refine ⟨⟨_, rfl⟩, rfl, ?_⟩
          rw [et, List.all_append, hp, List.all_cons, hi]
          rfl
    · rintro σ H' ⟨_, rfl, hp⟩
      rw [List.length_map, List.take_length] at hp
      refine ⟨_, rfl, ?_⟩
      refine iteF ?_
      refine ⟨_, rfl, l, rfl, ⟨_, hl2⟩, fun D hD => ?_⟩
      refine lc_list (K := K) (a := l) (xs := ws.map V.str) (fun i H1 => Same H' H1 ∧ H1 D = some (.lst (((ws.take i).map numV).map V.int))) ?_ ?_ ?_ ?_
      · exact ⟨same_upd hD, upd_same⟩
      · rintro i H1 _ ⟨k1, _⟩
        exact k1.seq hl2
      · rintro i x H1 hx ⟨k1, hd⟩
        rw [List.getElem?_map] at hx
        cases hn : ws[i]? with
        | none => rw [hn] at hx; cases hx
        | some y =>
          rw [hn] at hx
          cases hx
          have hy := hw y (List.mem_of_getElem? hn)
          have hil : i < ws.length := (List.getElem?_eq_some_iff.mp hn).1
          rw [List.all_eq_true] at hp
          obtain ⟨n1, n2⟩ := isNum_int hy.2 (hp y (List.mem_of_getElem? hn))
          refine ⟨rfl, _, rfl, _, _, rfl, n1, n2, _, hd, ?_, ?_, ?_⟩
          · rw [List.length_map, List.length_map, List.length_take, sizeLine_eq]
            omega
          · intro b o e
            rw [upd_ne (ne_of_none e hD)]
            exact k1 b o e
          · rw [upd_same, List.take_add_one, hn]
            simp only [List.map_append, Option.toList, List.map_cons, List.map_nil]
      · rintro H1 ⟨k1, g1⟩
        rw [List.length_map, List.take_length] at g1
        exact q1 hp H1 D (k2.trans (kpS k1)) g1
end
open SX
section
open GxR NdefX PySem.Spec PyProof.Rows
variable {P : Program} {w : World} {K : PySem.W.Frag} {mg : Str → Option Value} {base : Heap}
/-- the numbers that a line writes behind these words -/
def numsIn (ls : List Str) (n : Nat) (hd : List Str) : Option (List Int) :=
  if ls.length < n then none else
    if (Txt.split (ls.getD (n - 1) Str.empty) (S [32])).take hd.length = hd ∧ ((Txt.split (ls.getD (n - 1) Str.empty) (S [32])).drop hd.length).all isNum = true then
      some (((Txt.split (ls.getD (n - 1) Str.empty) (S [32])).drop hd.length).map numV) else none
/-- what all lines keep -/
def LinesOk (ls : List Str) : Prop := ls.length ≤ 100000 ∧ ∀ z ∈ ls, z.length ≤ 900000 ∧ asc z
theorem note_raised {H : Hp} {CN fI : Addr} (U : NotTxt K mg CN fI) {k : Int} {E : XK} (q : RaisesN CN k H E) {H0 : Hp} (k0 : Kp H H0) : ∀ y, H0 y = none → ∃ a v, [V.ref y, .int k] = [.ref a, v] ∧ OexC K CN ∧ PySem.W.findIn K (.ref CN) "line" = some none ∧ (upd H0 y (exo y CN none)) a = some (exo a CN none) ∧
    ∀ dx, (upd H0 y (exo y CN none)) dx = none → dx ≠ a → V.non = .non ∧ ∃ d fs, (upd (upd (upd H0 y (exo y CN none)) dx (exd dx [("line", v)])) a (exo a CN (some dx))) y = some (exo y CN (some d)) ∧ (upd (upd (upd H0 y (exo y CN none)) dx (exd dx [("line", v)])) a (exo a CN (some dx))) d = some (exd d fs) ∧ H0 d = none ∧
      E (.ref CN) (some d) (upd (del (upd (upd (upd H0 y (exo y CN none)) dx (exd dx [("line", v)])) a (exo a CN (some dx))) y) d (.xd fs)) := fun y ny => by
  refine ⟨y, .int k, rfl, U.o, U.n, upd_same, fun dd hd hne => ⟨rfl, dd, [("line", .int k)], ?_⟩⟩
  obtain ⟨g1, g2, g3, g4⟩ := raised (f := "line") (v := .int k) ny hd hne
  exact ⟨g1, g2, g3, q _ dd (k0.trans (kpS g4)) upd_same⟩
def spIn (K : PySem.W.Frag) (T CN : Addr) : Sp := fun vs H Q E => ∃ (l h : Addr) (ls hd : List Str) (n : Nat), vs = [.ref l, .int n, .ref h] ∧ SqL K H l (ls.map V.str) ∧ SqL K H h (hd.map V.str) ∧ LinesOk ls ∧ 1 ≤ n ∧ n ≤ 1000000 ∧ hd.length ≤ 1000 ∧ (∀ x ∈ hd, asc x) ∧ TabG H T ∧
  (∀ ns, numsIn ls n hd = some ns → ∀ (H' : Hp) (r : Addr), Kp H H' → H' r = some (.lst (ns.map V.int)) → Q (.ref r) H') ∧ (numsIn ls n hd = none → RaisesN CN n H E)
theorem ok_in {f T0 CN fN fI : Addr} {fd fdN fdI : FuncData} (F : Fun K "_numbers_in" "_numbers_in" s__numbers_in f fd) (T : NoteTop mg) (U : NotTxt K mg CN fI) (GI : FnOk P w K mg base CX0 1 fI fdI ["self", "line"] (spXI K CN "line")) (bI : Binds K fdI ["self", "line"] [])
    (FNk : PySem.W.keepIn K (.ref fN) = true) (GN : FnOk P w K mg base (L2.CX P w) 4 fN fdN ["words", "number"] (spNums K T0 CN)) (bN : Binds K fdN ["words", "number"] []) (gN : mg "_numbers_of" = some (.ref fN)) : FnOk P w K mg base (L2.CX P w) 5 f fd ["lines", "number", "head"] (spIn K T0 CN) := by
  refine F.okX sc__numbers_in (fun vs H Q E h => ?_) (fun cdv A outer s H vs Q E hr h => ?_)
  · obtain ⟨l, h, ls, hd, n, rfl, _⟩ := h
    rfl
  · obtain ⟨l, h, ls, hd, n, rfl, hl, hh, hls, hn1, hn2, hhd, hha, ht, q1, q2⟩ := h
    have nd := sc__numbers_in.nd
    have hz : 1000000 < sizeLine := by decide
    refine ⟨_, (pss_cons (ps_if (pt_cmpR op_gt (pv 1) (pe_callB call_len (by rfl) T.len (by decide +kernel) (pa_cons (pv 0) pa_nil)) (nomark _)) (pss_one (ps_raise rfl (takes_of rfl rfl rfl rfl) (pmk_oex U.o U.i U.y GI (by exact hr.mono (by decide)) bI .nil pass0 (by rfl) U.g (pa_cons (pv 1) pa_nil)))) pss_nil)
      (pss_cons (ps_set (i := 3) nd rfl (.inl rfl) (pe_split (pe_ix ix_list (pv 0) (pe_op op_sub (pv 1) pe_int) (fun _ _ => rfl)) pe_str))
      (pss_cons (ps_if (pt_cmpR (r := rNeD K) (op_neD (by exact hr.units)) (pe_slice sl_list (pv 3) po_none (po_some (pe_callB call_len (by rfl) T.len (by decide +kernel) (pa_cons (pv 2) pa_nil)))) (pv 2) (nomark _)) (pss_one (ps_raise rfl (takes_of rfl rfl rfl rfl) (pmk_oex U.o U.i U.y GI (by exact hr.mono (by decide)) bI .nil pass0 (by rfl) U.g (pa_cons (pv 1) pa_nil)))) pss_nil)
      (pss_one (ps_ret (pe_call GN (by exact hr.mono (by decide)) (by rfl) gN FNk bN .nil (passes_call (takes_of rfl rfl rfl rfl) fun _ _ _ _ h => h) (pa_cons (pe_slice sl_list (pv 3) (po_some (pe_callB call_len (by rfl) T.len (by decide +kernel) (pa_cons (pv 2) pa_nil))) po_none) (pa_cons (pv 1) pa_nil)))))))), ?_⟩
    refine ⟨_, rfl, _, rfl, _, _, rfl, .inl ⟨_, hl, rfl⟩, _, _, rfl, rfl, _, rfl, ?_⟩
    unfold numsIn at q1 q2
    refine ite2 (fun hc => ?_) (fun hc => ?_)
    · have hc' := of_decide_eq_true hc
      rw [List.length_map] at hc'
      rw [if_pos (show ls.length < n by omega)] at q2
      exact ⟨_, rfl, by show 1 ≤ 1000; decide, note_raised U (q2 rfl) (Kp.refl H)⟩
    have hle : ¬ ls.length < n := fun z => hc (decide_eq_true (by rw [List.length_map]; omega))
    rw [if_neg hle] at q1 q2
    obtain ⟨ln, hln⟩ : ∃ z, ls[n - 1]? = some z := ⟨_, List.getElem?_eq_getElem (by omega)⟩
    have hget : ls.getD (n - 1) Str.empty = ln := by
      rw [List.getD_eq_getElem?_getD, hln]
      rfl
    rw [hget] at q1 q2
    obtain ⟨hll, hla⟩ := hls.2 ln (List.mem_of_getElem? hln)
    -- words = lines[number - 1].split(" ")
    refine ⟨_, rfl, _, rfl, _, _, rfl, rfl, ?_⟩
    refine ⟨l, _, _, .str ln, rfl, rfl, hl, ?_, ⟨_, rfl⟩, _, _, rfl, rfl, rfl, ?_, fun m nm => ?_⟩
    · rw [show (n : Int) - 1 = ((n - 1 : Nat) : Int) by omega]
      exact atI_nat (by rw [List.getElem?_map, hln]; rfl)
    · omega
    obtain ⟨H1, e1, k1, g1⟩ := made (o := .lst ((Txt.split ln (S [32])).map V.str)) nm
    rw [sp_S, e1]
    generalize hws : Txt.split ln (S [32]) = ws at *
    have hw : ∀ z ∈ ws, z.length ≤ 900000 ∧ asc z := fun z hz2 => by
      rw [← hws] at hz2
      exact ⟨Nat.le_trans (part_short hz2) hll, asc_split (by decide) hla hz2⟩
    have hwl : ws.length ≤ 1000000 := by
      have := split_le ln (S [32])
      rw [hws] at this
      omega
    -- words[:len(head)] != head
    refine ⟨_, rfl, _, rfl, _, _, rfl, .inl ⟨_, k1.seq hh, rfl⟩, _, rfl, m, _, rfl, SqL.of g1, fun c nc => ?_⟩
    rw [List.length_map, cut_to, ← List.map_take]
    obtain ⟨H2, e2, k2, g2⟩ := made (o := .lst ((ws.take hd.length).map V.str)) nc
    rw [e2]
    have k12 := k1.trans k2
    refine ⟨_, rfl, dS (ws.take hd.length), dS hd, dp_S (SqL.of g2), dp_S (k12.seq hh), sh_dS (fun z hz2 => (hw z (List.mem_of_mem_take hz2)).2), sh_dS hha, _, rfl, ?_⟩
    rw [eqv_dS]
    by_cases he : ws.take hd.length = hd
    · rw [decide_eq_true he]
      refine iteF ?_
      refine ⟨_, rfl, _, rfl, _, _, rfl, .inl ⟨_, k12.seq hh, rfl⟩, _, rfl, m, _, rfl, SqL.of (k2 _ _ g1), fun c2 nc2 => ?_⟩
      rw [List.length_map, cut_from, ← List.map_drop]
      obtain ⟨H3, e3, k3, g3⟩ := made (o := .lst ((ws.drop hd.length).map V.str)) nc2
      rw [e3]
      have k13 := k12.trans k3
      refine ⟨_, rfl, c2, ws.drop hd.length, n, rfl, SqL.of g3, fun z hz2 => ?_, ?_, (kpS k13).tab _ ht, fun ha H4 r k4 g4 => ?_, fun ha H4 d k4 g4 => ?_⟩
      · obtain ⟨x, y⟩ := hw z (List.mem_of_mem_drop hz2)
        exact ⟨by omega, y⟩
      · rw [List.length_drop]
        omega
      · exact q1 _ (if_pos ⟨he, ha⟩) H4 r ((kpS k13).trans k4) g4
      · exact q2 (if_neg fun z => by rw [ha] at z; cases z.2) H4 d ((kpS k13).trans k4) g4
    · rw [decide_eq_false he]
      refine iteT ?_
      exact ⟨_, rfl, by show 1 ≤ 1000; decide, note_raised U (q2 (if_neg fun z => he z.1)) (kpS k12)⟩
/-- the place that a line writes behind a word -/
def placeIn (ls : List Str) (n : Nat) (wd : Str) : Option Pl := match numsIn ls n [wd] with
  | some [a, b] => if a ≤ 1000 ∧ b ≤ 1000 then some (a, b) else none
  | _ => none
def spPlIn (K : PySem.W.Frag) (T CN : Addr) : Sp := fun vs H Q E => ∃ (l : Addr) (ls : List Str) (n : Nat) (wd : Str), vs = [.ref l, .int n, .str wd] ∧ SqL K H l (ls.map V.str) ∧ LinesOk ls ∧ 1 ≤ n ∧ n ≤ 1000000 ∧ asc wd ∧ TabG H T ∧
  (∀ p, placeIn ls n wd = some p → ∀ (H' : Hp) (v : V), Kp H H' → Pr H' v p → Q v H') ∧ (placeIn ls n wd = none → RaisesN CN n H E)
theorem ok_plin {f T0 CN fN fI : Addr} {fd fdN fdI : FuncData} (F : Fun K "_place_in" "_place_in" s__place_in f fd) (T : NoteTop mg) (hmax : mg "max" = none) (hgr : ∃ t, mg "GREATEST_OF_TASK" = some (.int 1000 t)) (U : NotTxt K mg CN fI) (GI : FnOk P w K mg base CX0 1 fI fdI ["self", "line"] (spXI K CN "line")) (bI : Binds K fdI ["self", "line"] [])
    (FNk : PySem.W.keepIn K (.ref fN) = true) (GN : FnOk P w K mg base (L2.CX P w) 5 fN fdN ["lines", "number", "head"] (spIn K T0 CN)) (bN : Binds K fdN ["lines", "number", "head"] []) (gN : mg "_numbers_in" = some (.ref fN)) : FnOk P w K mg base (L2.CX P w) 6 f fd ["lines", "number", "word"] (spPlIn K T0 CN) := by
  refine F.okX sc__place_in (fun vs H Q E h => ?_) (fun cdv A outer s H vs Q E hr h => ?_)
  · obtain ⟨l, ls, n, wd, rfl, _⟩ := h
    rfl
  · obtain ⟨l, ls, n, wd, rfl, hl, hls, hn1, hn2, hwd, ht, q1, q2⟩ := h
    obtain ⟨tk, hg⟩ := hgr
    have nd := sc__place_in.nd
    refine ⟨_, (pss_cons (ps_set (i := 3) nd rfl (.inl rfl) (pe_call GN (by exact hr.mono (by decide)) (by rfl) gN FNk bN .nil (passes_call (takes_of rfl rfl rfl rfl) fun _ _ _ _ h => h) (pa_cons (pv 0) (pa_cons (pv 1) (pa_cons (pe_lst (pa_cons (pv 2) pa_nil)) pa_nil)))))
      (pss_cons (ps_if (PW.pt (pw_or (pt_cmpR op_ne (pe_callB call_len (by rfl) T.len (by decide +kernel) (pa_cons (pv 3) pa_nil)) pe_int (nomark _)) (pw_or1 (pt_cmpR op_gt (pe_callB (cr_max rfl) (by rfl) hmax (by decide +kernel) (pa_cons (pv 3) pa_nil)) (pe_glob (v := .int 1000) rfl hg ⟨_, rfl⟩) (nomark _))))) (pss_one (ps_raise rfl (takes_of rfl rfl rfl rfl) (pmk_oex U.o U.i U.y GI (by exact hr.mono (by decide)) bI .nil pass0 (by rfl) U.g (pa_cons (pv 1) pa_nil)))) pss_nil)
      (pss_one (ps_ret (pe_tup (pa_cons (pe_ix ix_list (pv 3) pe_int (fun _ _ => rfl)) (pa_cons (pe_ix ix_list (pv 3) pe_int (fun _ _ => rfl)) pa_nil))))))), ?_⟩
    refine ⟨_, rfl, _, rfl, _, rfl, (by show 1 ≤ sizeLine; decide), fun m nm => ?_⟩
    obtain ⟨H1, e1, k1, g1⟩ := made (o := .lst [.str wd]) nm
    rw [e1]
    unfold placeIn at q1 q2
    refine ⟨l, m, ls, [wd], n, rfl, k1.seq hl, SqL.of g1, hls, hn1, hn2, (by show 1 ≤ 1000; decide), (fun z hz => by rw [List.mem_singleton.mp hz]; exact hwd), (kpS k1).tab _ ht, fun ns hns H2 r k2 g2 => ?_, fun hno H2 d k2 g2 => ?_⟩
    · rw [hns] at q1 q2
      have k12 := (kpS k1).trans k2
      have bad : ∀ (h : (match some ns with | some [a, b] => if a ≤ 1000 ∧ b ≤ 1000 then some (a, b) else none | _ => (none : Option Pl)) = none), RaisesN CN n H E := q2
      refine ⟨_, rfl, _, _, rfl, .inl ⟨_, SqL.of g2, rfl⟩, rfl, _, rfl, ?_⟩
      rw [List.length_map]
      by_cases h2 : ns.length = 2
      · have e : (!decide (V.int (ns.length : Int) = V.int 2)) = false := by
          rw [h2]
          rfl
        rw [e]
        refine iteF ?_
        obtain ⟨a, b, rfl⟩ : ∃ a b, ns = [a, b] := by
          match ns, h2 with
          | [a, b], _ => exact ⟨a, b, rfl⟩
        refine ⟨_, rfl, r, [a, b], rfl, SqL.of g2, (by show 0 < 2; decide), fun mx hm hle => ⟨_, _, rfl, rfl, _, rfl, ?_⟩⟩
        refine ite2 (fun hc => ?_) (fun hc => ?_)
        · have hc' := of_decide_eq_true hc
          refine ⟨_, rfl, by show 1 ≤ 1000; decide, note_raised U (bad (if_neg fun z => ?_)) k12⟩
          rcases List.mem_cons.mp hm with rfl | hm
          · omega
          · rw [List.mem_singleton] at hm
            omega
        · have hc' : ¬ mx > 1000 := fun z => hc (decide_eq_true z)
          have ha := hle a (by simp)
          have hb := hle b (by simp)
          refine ⟨_, rfl, r, _, _, .int a, rfl, rfl, SqL.of g2, rfl, _, rfl, r, _, _, .int b, rfl, rfl, SqL.of g2, rfl, (by show 2 ≤ sizeLine; decide), fun t nt => ?_⟩
          obtain ⟨H3, e3, k3, g3⟩ := made (o := .tup [.int a, .int b]) nt
          rw [e3]
          exact q1 (a, b) (if_pos ⟨by omega, by omega⟩) H3 _ (k12.trans (kpS k3)) ⟨t, rfl, g3⟩
      · have e : (!decide (V.int (ns.length : Int) = V.int 2)) = true := by
          rw [decide_eq_false fun z => h2 (by have := V.int.inj z; omega)]
          rfl
        rw [e]
        refine iteT ?_
        refine ⟨_, rfl, by show 1 ≤ 1000; decide, note_raised U (bad ?_) k12⟩
        match ns, h2 with
        | [], _ => rfl
        | [_], _ => rfl
        | [_, _], z => exact absurd rfl z
        | _ :: _ :: _ :: _, _ => rfl
    · rw [hno] at q2
      exact q2 rfl H2 d ((kpS k1).trans k2) g2
end
open SX
section
open GxR NdefX PySem.Spec PyProof.Rows
variable {P : Program} {w : World} {K : PySem.W.Frag} {mg : Str → Option Value} {base : Heap}
theorem TaskAt.kp {C : Addr} {H H' : Hp} {p : Addr} {st en : Pl} {ps : List Pl} (h : TaskAt C H p st en ps) (k : Kp H H') : TaskAt C H' p st en ps := by
  obtain ⟨dx, l, a, b, xs, h1, h2, h3, h4, h5, h6⟩ := h
  exact ⟨dx, l, a, b, xs, k.ins h1, h2.kp k, h3.kp k, k.lst h4, h5.kp k, h6⟩
theorem Kp.put {H H' : Hp} {r : Addr} {o : HO} (k : Kp H H') (n : H r = none) : Kp H (upd H' r o) := by
  refine ⟨fun b u e t => ?_, fun P h => ?_⟩
  · rw [upd_ne (ne_of_none e n)]
    exact k.at_ b u e t
  · obtain ⟨ps, e, t⟩ := k.tab P h
    obtain ⟨ps0, e0, _⟩ := h
    exact ⟨ps, by rw [upd_ne (ne_of_none e0 n)]; exact e, t⟩
/-- the picks that the lines from this number on write, or the first number that cannot stand -/
def picksFrom (ls : List Str) : Nat → Nat → List Pl → Nat ⊕ List Pl
  | 0, _, ps => .inr ps
  | m + 1, n, ps => match placeIn ls n (S [112, 105, 99, 107]) with
    | none => .inl n
    | some p => if p ∈ ps ∨ 60 ≤ ps.length then .inl n else picksFrom ls m (n + 1) (ps ++ [p])
theorem pick_S : ("pick" : Str) = S [112, 105, 99, 107] := by decide +kernel
theorem start_S : ("start" : Str) = S [115, 116, 97, 114, 116] := by decide +kernel
theorem end_S : ("end" : Str) = S [101, 110, 100] := by decide +kernel
theorem placeIn_le {ls : List Str} {n : Nat} {wd : Str} {p : Pl} (h : placeIn ls n wd = some p) : n ≤ ls.length := by
  unfold placeIn numsIn at h
  by_cases c : ls.length < n
  · rw [if_pos c] at h
    cases h
  · omega
end
open SX
section
open GxR NdefX PySem.Spec PyProof.Rows
variable {P : Program} {w : World} {K : PySem.W.Frag} {mg : Str → Option Value} {base : Heap}
/-- the place that a word of a walk writes -/
def wordP (y : Str) : Option Pl := if (Txt.split y (S [58])).all isNum = true then (match (Txt.split y (S [58])).map numV with
  | [a, b] => some (a, b)
  | _ => none) else none
def spPWalk (K : PySem.W.Frag) (T CN : Addr) : Sp := fun vs H Q E => ∃ z : Str, vs = [.str z] ∧ z.length ≤ 90000 ∧ asc z ∧ TabG H T ∧
  (∀ ps : List Pl, (Txt.split z (S [32])).map wordP = ps.map some → ∀ (H' : Hp) (r : Addr) (xs : List V), Kp H H' → H r = none → H' r = some (.lst xs) → Prs H' xs ps → Q (.ref r) H') ∧
  ((∃ y ∈ Txt.split z (S [32]), wordP y = none) → RaisesN CN 1 H E)
theorem ok_pwalk {f fN fI T0 CN : Addr} {fd fdN fdI : FuncData} (F : Fun K "parse_walk" "parse_walk" s_parse_walk f fd) (T : NoteTop mg) (U : NotTxt K mg CN fI) (GI : FnOk P w K mg base CX0 1 fI fdI ["self", "line"] (spXI K CN "line")) (bI : Binds K fdI ["self", "line"] [])
    (FNk : PySem.W.keepIn K (.ref fN) = true) (GN : FnOk P w K mg base (L2.CX P w) 4 fN fdN ["words", "number"] (spNums K T0 CN)) (bN : Binds K fdN ["words", "number"] []) (gN : mg "_numbers_of" = some (.ref fN)) : FnOk P w K mg base (L2.CX P w) 5 f fd ["text"] (spPWalk K T0 CN) := by
  refine F.okX sc_parse_walk (fun vs H Q E h => ?_) (fun cdv A outer s H vs Q E hr h => ?_)
  · obtain ⟨z, rfl, _⟩ := h
    rfl
  · obtain ⟨z, rfl, hz, ha, ht, q, e⟩ := h
    have nd := sc_parse_walk.nd
    have hline : 1000000 < sizeLine := by decide
    refine ⟨_, (pss_cons (ps_set (i := 1) nd rfl (.inl rfl) (pe_lst pa_nil))
      (pss_cons (ps_for (passes_of rfl) rfl (pi_list (pe_split (pv 0) pe_str)) (pg_name (i := 2) nd rfl (.inl rfl)) (pss_cons (ps_set (i := 3) nd rfl (.inl rfl) (pe_call GN (by exact hr.mono (by decide)) (by rfl) gN FNk bN .nil (passes_call (takes_of rfl rfl rfl rfl) fun _ _ _ _ h => h) (pa_cons (pe_split (pv 2) pe_str) (pa_cons pe_int pa_nil))))
      (pss_cons (ps_if (pt_cmpR op_ne (pe_callB call_len (by rfl) T.len (by decide +kernel) (pa_cons (pv 3) pa_nil)) pe_int (nomark _)) (pss_one (ps_raise rfl (takes_of rfl rfl rfl rfl) (pmk_oex U.o U.i U.y GI (by exact hr.mono (by decide)) bI .nil pass0 (by rfl) U.g (pa_cons pe_int pa_nil)))) pss_nil)
      (pss_one (ps_expr (pe_bm PySem.F.plainAttrs_list PySem.F.slot_list_append PySem.F.type_list_append mt_append (pv 1) (pa_cons (pe_tup (pa_cons (pe_ix ix_list (pv 3) pe_int (fun _ _ => rfl)) (pa_cons (pe_ix ix_list (pv 3) pe_int (fun _ _ => rfl)) pa_nil))) pa_nil)))))))
      (pss_one (ps_ret (pv 1))))), ?_⟩
    refine ⟨Nat.zero_le _, fun r nr => ?_⟩
    have k1 : Same H (upd H r (.lst [])) := same_upd nr
    refine ⟨_, rfl, ⟨_, rfl⟩, _, _, rfl, rfl, rfl, (by omega), fun l nl => ?_⟩
    have hrl : r ≠ l := ne_of_none upd_same nl
    have k2 : Same H (upd (upd H r (.lst [])) l (.lst ((Txt.split z (S [32])).map V.str))) := k1.trans (same_upd nl)
    rw [sp_S]
    have hll := split_le z (S [32])
    have hw : ∀ y ∈ Txt.split z (S [32]), y.length ≤ 90000 ∧ asc y := fun y hy => ⟨Nat.le_trans (part_short hy) hz, asc_split (by decide) ha hy⟩
    generalize hL : Txt.split z (S [32]) = ws at *
    refine ⟨l, rfl, ⟨_, SqL.of upd_same⟩, ?_⟩
    refine for_list (K := K) (a := l) (xs := ws.map V.str) (fun i σ H' => (∃ v2 v3 : Option V, σ = [some (.str z), some (.ref r), v2, v3]) ∧ Kp H H' ∧ H' l = some (.lst (ws.map V.str)) ∧ ∃ (xs : List V) (ps : List Pl), H' r = some (.lst xs) ∧ Prs H' xs ps ∧ (ws.take i).map wordP = ps.map some ∧ xs.length = i) ?_ ?_ ?_ ?_
    · exact ⟨⟨_, _, rfl⟩, kpS k2, upd_same, [], [], by rw [upd_ne hrl]; exact upd_same, .nil, rfl, rfl⟩
    · rintro i σ H' _ ⟨_, _, h, _⟩
      exact SqL.of h
    · rintro i x σ H' hx ⟨⟨v2, v3, rfl⟩, k, hl, xs, ps, hr', hxs, hps, hxl⟩
      rw [List.getElem?_map] at hx
      cases hn : ws[i]? with
      | none => rw [hn] at hx; cases hx
      | some y =>
        rw [hn] at hx
        cases hx
        have hmem := List.mem_of_getElem? hn
        have hil : i < ws.length := (List.getElem?_eq_some_iff.mp hn).1
        obtain ⟨hy1, hy2⟩ := hw y hmem
        refine ⟨_, rfl, ⟨_, rfl⟩, _, _, rfl, rfl, rfl, (by omega), fun m nm => ?_⟩
        obtain ⟨H1, e1, k3, g3⟩ := made (o := .lst ((Txt.split y (S [58])).map V.str)) nm
        rw [co_S, e1]
        have hyl := split_le y (S [58])
        have hw2 : ∀ u ∈ Txt.split y (S [58]), u.length ≤ 1000000 ∧ asc u := fun u hu => ⟨by have := part_short hu; omega, asc_split (by decide) hy2 hu⟩
        have hwp : wordP y = if (Txt.split y (S [58])).all isNum = true then (match (Txt.split y (S [58])).map numV with | [a, b] => some (a, b) | _ => none) else none := rfl
        generalize Txt.split y (S [58]) = us at *
        have bad : wordP y = none → RaisesN CN 1 H E := fun hno => e ⟨y, hmem, hno⟩
        refine ⟨m, us, 1, rfl, SqL.of g3, hw2, by omega, (k.trans (kpS k3)).tab _ ht, fun hall H2 r2 k4 g4 => ?_, fun hno H2 d k4 g4 => ?_⟩
        rotate_left
        · rw [if_neg (by rw [hno]; simp)] at hwp
          exact bad hwp H2 d ((k.trans (kpS k3)).trans k4) g4
        rw [if_pos hall] at hwp
        have k34 := (kpS k3).trans k4
        have k04 := k.trans k34
        refine ⟨_, rfl, _, _, rfl, .inl ⟨_, SqL.of g4, rfl⟩, rfl, _, rfl, ?_⟩
        rw [List.length_map]
        generalize us.map numV = ns at *
        by_cases h2 : ns.length = 2
        · have e2 : (!decide (V.int (ns.length : Int) = V.int 2)) = false := by
            rw [h2]
            rfl
          rw [e2]
          refine iteF ?_
          obtain ⟨a, b, rfl⟩ : ∃ a b, ns = [a, b] := by
            match ns, h2 with
            | [a, b], _ => exact ⟨a, b, rfl⟩
          have hr4 := k34.lst hr'
          refine ⟨_, rfl, .inl ⟨rfl, _, SqL.of hr4⟩, _, rfl, r2, _, _, .int a, rfl, rfl, SqL.of g4, rfl, _, rfl, r2, _, _, .int b, rfl, rfl, SqL.of g4, rfl, (by show 2 ≤ sizeLine; decide), fun t nt => ?_⟩
          obtain ⟨H5, e5, k5, g5⟩ := made (o := .tup [.int a, .int b]) nt
          rw [e5]
          refine ⟨r, _, _, rfl, rfl, k5 _ _ hr4, by omega, ?_⟩
          have k05 := k04.trans (kpS k5)
          have hl5 := k5 _ _ (k34.lst hl)
          refine ⟨⟨_, _, rfl⟩, k05.put nr, by rw [upd_ne hrl.symm]; exact hl5, xs ++ [.ref t], ps ++ [(a, b)], upd_same, ?_, ?_, by rw [List.length_append, hxl]; rfl⟩
          · exact ((hxs.kp (k34.trans (kpS k5))).snoc ⟨t, rfl, g5⟩).over (k5 _ _ hr4)
          · rw [List.take_add_one, hn, List.map_append, hps, List.map_append]
            show _ ++ [wordP y] = _
            rw [hwp]
            rfl
        · have e2 : (!decide (V.int (ns.length : Int) = V.int 2)) = true := by
            rw [decide_eq_false fun z => h2 (by have := V.int.inj z; omega)]
            rfl
          rw [e2]
          refine iteT ?_
          have hno : wordP y = none := by
            rw [hwp]
            match ns, h2 with
            | [], _ => rfl
            | [_], _ => rfl
            | [_, _], z => exact absurd rfl z
            | _ :: _ :: _ :: _, _ => rfl
          exact ⟨by show 1 ≤ 1000; decide, note_raised U (bad hno) k04⟩
    · rintro σ H' ⟨⟨v2, v3, rfl⟩, k, hl, xs, ps, hr', hxs, hps, hxl⟩
      rw [List.length_map, List.take_length] at hps
      exact ⟨_, rfl, q ps hps H' r xs k nr hr' hxs⟩
def plL (wd : List Nat) (p : Pl) : List Nat := rowL wd [p.1, p.2]
/-- the codes of a task's text -/
def taskL (st en : Pl) (ps : List Pl) : List Nat := TL.joinL [10] (plL [115, 116, 97, 114, 116] st :: plL [101, 110, 100] en :: ps.map (plL [112, 105, 99, 107]))
def plW (p : Pl) : List Nat := dg p.1 ++ [58] ++ dg p.2
/-- the codes of a walk's text -/
def walkL (ps : List Pl) : List Nat := TL.joinL [32] (ps.map plW)
/-- a place whose numbers can be written -/
def small (p : Pl) : Prop := 0 ≤ p.1 ∧ p.1 < 10000 ∧ 0 ≤ p.2 ∧ p.2 < 10000
theorem small_all {p : Pl} (h : small p) : ∀ n ∈ [p.1, p.2], 0 ≤ n ∧ n < 100000 := fun n hn => by
  obtain ⟨a, b, c, d⟩ := h
  rcases List.mem_cons.mp hn with rfl | hn
  · omega
  · rw [List.mem_singleton] at hn
    omega
theorem plL_len {wd : List Nat} {p : Pl} (hw : wd.length ≤ 10) (h : small p) : (plL wd p).length ≤ 60 := by
  unfold plL rowL
  have h0 := joinL_len (sep := [32]) (m := 10) (by decide) (ps := wd :: [p.1, p.2].map dg) fun y hy => by
    rcases List.mem_cons.mp hy with rfl | hy
    · exact hw
    · obtain ⟨n, hn, rfl⟩ := List.mem_map.mp hy
      have := dg_len (n := n) (k := 5) (by decide) (by have := (small_all h n hn).2; omega)
      omega
  exact h0
def spFTask (CT : Addr) : Sp := fun vs H Q _ => ∃ (p : Addr) (st en : Pl) (ps : List Pl), vs = [.ref p] ∧ TaskAt CT H p st en ps ∧ small st ∧ small en ∧ (∀ x ∈ ps, small x) ∧ ∀ H', Same H H' → Q (.str (S (taskL st en ps))) H'
theorem ok_ftask {f fR fP pp CT CIT : Addr} {fd fdR fdP : FuncData} (F : Fun K "format_task" "format_task" s_format_task f fd) (T : NoteTop mg) (TT : TaskTxt K mg CT CIT) (FRk : PySem.W.keepIn K (.ref fR) = true) (GR : FnOk P w K mg base CX0 1 fR fdR ["head", "numbers"] spRowT) (bR : Binds K fdR ["head", "numbers"] []) (gR : mg "_row" = some (.ref fR))
    (GP : FnOk P w K mg base CX0 1 fP fdP ["self"] (spPicks CT)) (bP : Binds K fdP ["self"] []) (hP : PropOf K CT "picks" pp fP) : FnOk P w K mg base CX0 3 f fd ["task"] (spFTask CT) := by
  refine F.ok sc_format_task (fun vs H Q E h => ?_) (fun cdv A outer s H vs Q E hr h => ?_)
  · obtain ⟨p, st, en, ps, rfl, _⟩ := h
    rfl
  · obtain ⟨p, st, en, ps, rfl, hT, hs1, hs2, hs3, q⟩ := h
    obtain ⟨dx, l, a, b, xs, h1, ⟨ta, rfl, h2⟩, ⟨tb, rfl, h3⟩, h4, h5, h6, h7, h8⟩ := id hT
    have nd := sc_format_task.nd
    have hline : 1000000 < sizeLine := by decide
    refine ⟨_, (pss_cons (ps_set (i := 1) nd rfl (.inl rfl) (pe_lst (pa_cons (pe_call GR (by exact hr.mono (by decide)) (by rfl) gR FRk bR .nil pass0 (pa_cons pe_str (pa_cons (pe_fld (pv 0) rfl) pa_nil))) (pa_cons (pe_call GR (by exact hr.mono (by decide)) (by rfl) gR FRk bR .nil pass0 (pa_cons pe_str (pa_cons (pe_fld (pv 0) rfl) pa_nil))) pa_nil))))
      (pss_one (ps_ret (pe_join pe_str (pe_op op_cat (pv 1) (pe_lc (own := [("pick", 2)]) (g := gName 2) (tt := tYes) rfl nd (pi_list (pe_prop (pv 0) TT.cl hP GP (by exact hr.mono (by decide)) bP .nil pass0 rfl)) (blkOk_by (N := ["task", "lines", "pick"]) (sc := defScope s_format_task) (by decide +kernel)) (fun _ _ _ _ _ => pg_name (i := 2) nd rfl (Or.inl rfl)) (fun _ _ _ _ _ => pts_nil) (fun _ _ _ _ _ => (pe_call GR (by exact hr.mono (by decide)) (by rfl) gR FRk bR .nil pass0 (pa_cons pe_str (pa_cons (pv 2) pa_nil)))))))))), ?_⟩
    refine ⟨_, rfl, p, CT, dx, _, _, rfl, h1, TT.cl, TT.nS, tf_start _ _ _, [115, 116, 97, 114, 116], ta, [st.1, st.2], ?_, h2, small_all hs1, (by decide), (by show 2 ≤ 1000; decide), fun H1 k1 => ?_⟩
    · rw [start_S]
      rfl
    refine ⟨_, rfl, p, CT, dx, _, _, rfl, k1 _ _ h1, TT.cl, TT.nE, tf_end _ _ _, [101, 110, 100], tb, [en.1, en.2], ?_, k1 _ _ h3, small_all hs2, (by decide), (by show 2 ≤ 1000; decide), fun H2 k2 => ?_⟩
    · rw [end_S]
      rfl
    refine ⟨(by show 2 ≤ sizeLine; decide), fun m nm => ?_⟩
    obtain ⟨H3, e3, k3, g3⟩ := made (o := .lst [.str (S (plL [115, 116, 97, 114, 116] st)), .str (S (plL [101, 110, 100] en))]) nm
    have e3' : upd H2 m (.lst [.str (S (rowL [115, 116, 97, 114, 116] [st.1, st.2])), .str (S (rowL [101, 110, 100] [en.1, en.2]))]) = H3 := e3
    rw [e3']
    have k03 := (k1.trans k2).trans k3
    refine ⟨⟨_, rfl⟩, _, rfl, _, rfl, p, dx, _, rfl, k03 _ _ h1, p, st, en, ps, rfl, hT.same k03, fun m2 ys nm2 hys => ?_⟩
    obtain ⟨H4, e4, k4, g4⟩ := made (o := .lst ys) nm2
    rw [e4]
    have hys4 := hys.same k4
    refine ⟨m2, rfl, ⟨_, SqL.of g4⟩, fun D hD => ?_⟩
    refine lc_list (K := K) (a := m2) (xs := ys) (fun i H' => Same H4 H' ∧ H' D = some (.lst ((((ps.take i).map (plL [112, 105, 99, 107])).map S).map V.str))) ?_ ?_ ?_ ?_
    · exact ⟨same_upd hD, upd_same⟩
    · rintro i H' _ ⟨k, _⟩
      exact SqL.of (k _ _ g4)
    · rintro i x H' hx ⟨k, hd⟩
      obtain ⟨z, hz, t, rfl, hxz⟩ := (hys4.same k).at hx
      have hil : i < ps.length := (List.getElem?_eq_some_iff.mp hz).1
      refine ⟨rfl, _, rfl, [112, 105, 99, 107], t, [z.1, z.2], ?_, hxz, small_all (hs3 z (List.mem_of_getElem? hz)), (by decide), (by show 2 ≤ 1000; decide), fun H5 k5 => ?_⟩
      · rw [pick_S]
        rfl
      · refine ⟨_, k5 _ _ hd, ?_, ?_, ?_⟩
        · rw [List.length_map, List.length_map, List.length_map, List.length_take]
          omega
        · intro b o e
          rw [upd_ne (ne_of_none e hD)]
          exact k5 _ _ (k b o e)
        · rw [upd_same, List.take_add_one, hz]
          simp only [List.map_append, Option.toList, List.map_cons, List.map_nil]
          rfl
    · rintro H5 ⟨k5, g5⟩
      rw [hys.len, List.take_length] at g5
      refine ⟨_, _, _, _, rfl, rfl, k5 _ _ (k4 _ _ g3), g5, ?_, fun c nc => ?_⟩
      · rw [List.length_map, List.length_map, List.length_map]
        show 2 + ps.length ≤ sizeLine
        omega
      obtain ⟨H6, e6, k6, g6⟩ := made (o := .lst ([.str (S (plL [115, 116, 97, 114, 116] st)), .str (S (plL [101, 110, 100] en))] ++ (((ps.map (plL [112, 105, 99, 107])).map S).map V.str))) nc
      rw [e6]
      have hlen : ∀ y ∈ plL [115, 116, 97, 114, 116] st :: plL [101, 110, 100] en :: ps.map (plL [112, 105, 99, 107]), y.length ≤ 60 := fun y hy => by
        rcases List.mem_cons.mp hy with rfl | hy
        · exact plL_len (by decide) hs1
        · rcases List.mem_cons.mp hy with rfl | hy
          · exact plL_len (by decide) hs2
          · obtain ⟨z, hz, rfl⟩ := List.mem_map.mp hy
            exact plL_len (by decide) (hs3 z hz)
      have z := sum_len hlen
      have e : (plL [115, 116, 97, 114, 116] st :: plL [101, 110, 100] en :: ps.map (plL [112, 105, 99, 107])).length = ps.length + 2 := by rw [List.length_cons, List.length_cons, List.length_map]
      refine ⟨_, c, (plL [115, 116, 97, 114, 116] st :: plL [101, 110, 100] en :: ps.map (plL [112, 105, 99, 107])).map S, rfl, rfl, .inl (SqL.of g6), ?_, ?_⟩
      · rw [List.length_map, e, show ("\n" : Str).length = 1 from rfl]
        rw [e] at z
        omega
      · rw [nl_S, join_S]
        exact q H6 (((k03.trans k4).trans k5).trans k6)
def tPlW : TE := fun σ H Q => tJs [tFmt (tVar 1), tC (.str ":"), tFmt (tVar 2)] Str.empty σ H fun out H1 => Q (.str out) H1
def spFWalk (K : PySem.W.Frag) : Sp := fun vs H Q _ => ∃ (l : Addr) (xs : List V) (ps : List Pl), vs = [.ref l] ∧ SqL K H l xs ∧ Prs H xs ps ∧ (∀ x ∈ ps, small x) ∧ ps.length ≤ 1000 ∧ ∀ H', Same H H' → Q (.str (S (walkL ps))) H'
theorem plW_len {p : Pl} (h : small p) : (plW p).length ≤ 20 := by
  have h1 := dg_len (n := p.1) (k := 5) (by decide) (by have := h.2.1; omega)
  have h2 := dg_len (n := p.2) (k := 5) (by decide) (by have := h.2.2.2; omega)
  unfold plW
  rw [List.length_append, List.length_append]
  show _ + 1 + _ ≤ 20
  omega
theorem ok_fwalk {f : Addr} {fd : FuncData} (F : Fun K "format_walk" "format_walk" s_format_walk f fd) : FnOk P w K mg base CX0 1 f fd ["walk"] (spFWalk K) := by
  refine F.ok sc_format_walk (fun vs H Q E h => ?_) (fun cdv A outer s H vs Q E hr h => ?_)
  · obtain ⟨l, xs, ps, rfl, _⟩ := h
    rfl
  · obtain ⟨l, xs, ps, rfl, hl, hx, hs, hn, q⟩ := h
    have nd := sc_format_walk.nd
    have hline : 1000000 < sizeLine := by decide
    refine ⟨_, (pss_one (ps_ret (pe_join pe_str (pe_lc (own := [("aisle", 1), ("height", 2)]) (g := gTup K 2 (gCons (gName 1) (gCons (gName 2) gNil))) (tt := tYes) (te := tPlW) rfl nd (pi_list (pv 0)) (blkOk_by (N := ["walk", "aisle", "height"]) (sc := defScope s_format_walk) (by decide +kernel)) (fun _ _ _ _ _ => (show PG _ _ (gTup K 2 (gCons (gName 1) (gCons (gName 2) gNil))) from pg_tup rfl (pgs_cons (pg_name (i := 1) nd rfl (Or.inl rfl)) (pgs_cons (pg_name (i := 2) nd rfl (Or.inl rfl)) pgs_nil)))) (fun _ _ _ _ _ => pts_nil) (fun _ _ _ _ _ => (pe_joined (PJ.cons (pe_fmt (pv 1)) (PJ.cons pe_str (PJ.cons (pe_fmt (pv 2)) PJ.nil))))))))), ?_⟩
    refine ⟨⟨_, rfl⟩, _, rfl, l, rfl, ⟨_, hl⟩, fun D hD => ?_⟩
    refine lc_list (K := K) (a := l) (xs := xs) (fun i H' => Same H H' ∧ H' D = some (.lst ((((ps.take i).map plW).map S).map V.str))) ?_ ?_ ?_ ?_
    · exact ⟨same_upd hD, upd_same⟩
    · rintro i H' _ ⟨k, _⟩
      exact k.seq hl
    · rintro i x H' hi ⟨k, hd⟩
      obtain ⟨z, hz, t, rfl, ht⟩ := (hx.same k).at hi
      have hil : i < ps.length := (List.getElem?_eq_some_iff.mp hz).1
      obtain ⟨a0, a1, b0, b1⟩ := hs z (List.mem_of_getElem? hz)
      have la := dg_len (n := z.1) (k := 5) (by decide) (by omega)
      have lb := dg_len (n := z.2) (k := 5) (by decide) (by omega)
      refine ⟨t, _, rfl, SqT.of ht, rfl, _, _, rfl, _, _, rfl, rfl, rfl, _, rfl, .inr ⟨_, rfl, small_log a0 (by omega), ?_⟩⟩
      refine ⟨_, rfl, ?_, _, rfl, ?_, _, rfl, .inr ⟨_, rfl, small_log b0 (by omega), _, rfl, ?_, ?_⟩⟩
      all_goals rw [show (toString z.1 : Str) = S (dg z.1) from dg_str a0]
      · show (S [] ++ S (dg z.1)).length ≤ sizeLine
        rw [S_cat, S_len, List.nil_append]
        omega
      · show (S [] ++ S (dg z.1) ++ (":" : Str)).length ≤ sizeLine
        rw [co_S, S_cat, S_cat, S_len]
        simp only [List.length_append, List.length_cons, List.length_nil]
        omega
      all_goals rw [show (toString z.2 : Str) = S (dg z.2) from dg_str b0]
      · show (S [] ++ S (dg z.1) ++ (":" : Str) ++ S (dg z.2)).length ≤ sizeLine
        rw [co_S, S_cat, S_cat, S_cat, S_len]
        simp only [List.length_append, List.length_cons, List.length_nil]
        omega
      · have e : Str.empty ++ S (dg z.1) ++ (":" : Str) ++ S (dg z.2) = S (plW z) := by
          show S [] ++ S (dg z.1) ++ (":" : Str) ++ S (dg z.2) = _
          rw [co_S, S_cat, S_cat, S_cat, List.nil_append]
          rfl
        rw [e]
        refine ⟨_, hd, ?_, ?_, ?_⟩
        · rw [List.length_map, List.length_map, List.length_map, List.length_take]
          omega
        · intro b o e
          rw [upd_ne (ne_of_none e hD)]
          exact k b o e
        · rw [upd_same, List.take_add_one, hz]
          simp only [List.map_append, Option.toList, List.map_cons, List.map_nil]
    · rintro H5 ⟨k5, g5⟩
      rw [hx.len, List.take_length] at g5
      have z := sum_len (m := 20) (ps := ps.map plW) fun y hy => by
        obtain ⟨p, hp, rfl⟩ := List.mem_map.mp hy
        exact plW_len (hs p hp)
      refine ⟨_, D, (ps.map plW).map S, rfl, rfl, .inl (SqL.of g5), ?_, ?_⟩
      · rw [List.length_map, List.length_map, show (" " : Str).length = 1 from rfl]
        rw [List.length_map] at z
        omega
      · rw [sp_S, join_S]
        exact q H5 k5
end
open SX
section
open GxR NdefX PySem.Spec PyProof.Rows
variable {P : Program} {w : World} {K : PySem.W.Frag} {mg : Str → Option Value} {base : Heap}
/-- a place of a task's text -/
def ok1 (p : Pl) : Prop := 0 ≤ p.1 ∧ p.1 ≤ 1000 ∧ 0 ≤ p.2 ∧ p.2 ≤ 1000
theorem ok1.small {p : Pl} (h : ok1 p) : small p := by
  obtain ⟨a, b, c, d⟩ := h
  exact ⟨a, by omega, c, by omega⟩
theorem free32 (n : Int) : 32 ∉ dg n := TL.numL_free (by decide)
theorem free10 (n : Int) : 10 ∉ dg n := TL.numL_free (by decide)
theorem free58 (n : Int) : 58 ∉ dg n := TL.numL_free (by decide)
theorem split_plL {wd : List Nat} (hw : 32 ∉ wd) (p : Pl) : Txt.split (S (plL wd p)) (S [32]) = [S wd, S (dg p.1), S (dg p.2)] := by
  refine split_joinL (by decide) (by simp) fun y hy => ?_
  rcases List.mem_cons.mp hy with rfl | hy
  · exact hw
  · obtain ⟨n, _, rfl⟩ := List.mem_map.mp hy
    exact free32 n
theorem plL_free10 {wd : List Nat} (hw : 10 ∉ wd) (p : Pl) : 10 ∉ plL wd p := fun h => by
  rcases mem_joinL h with z | ⟨y, hy, z⟩
  · exact absurd z (by decide)
  · rcases List.mem_cons.mp hy with rfl | hy
    · exact hw z
    · obtain ⟨n, _, rfl⟩ := List.mem_map.mp hy
      exact free10 n z
theorem plL_asc {wd : List Nat} (hw : ∀ c ∈ wd, c < 128) (p : Pl) : ∀ c ∈ plL wd p, c < 128 := fun c h => by
  rcases mem_joinL h with z | ⟨y, hy, z⟩
  · rw [List.mem_singleton.mp z]
    decide
  · rcases List.mem_cons.mp hy with rfl | hy
    · exact hw c z
    · obtain ⟨n, _, rfl⟩ := List.mem_map.mp hy
      have := dg_digit c z
      omega
theorem place_plL {ls : List Str} {n : Nat} {wd : List Nat} {p : Pl} (hw : 32 ∉ wd) (h : ok1 p) (h1 : 1 ≤ n) (hn : ls[n - 1]? = some (S (plL wd p))) : placeIn ls n (S wd) = some p := by
  have hlt := (List.getElem?_eq_some_iff.mp hn).1
  have hg : ls.getD (n - 1) Str.empty = S (plL wd p) := by
    rw [List.getD_eq_getElem?_getD, hn]
    rfl
  obtain ⟨a0, a1, b0, b1⟩ := h
  obtain ⟨na, va⟩ := isNum_dg a0 (by omega)
  obtain ⟨nb, vb⟩ := isNum_dg b0 (by omega)
  have e : numsIn ls n [S wd] = some [p.1, p.2] := by
    unfold numsIn
    rw [if_neg (by omega), hg, split_plL hw]
    show (if [S wd] = [S wd] ∧ (isNum (S (dg p.1)) && (isNum (S (dg p.2)) && true)) = true then some [numV (S (dg p.1)), numV (S (dg p.2))] else none) = _
    rw [na, nb, va, vb, if_pos ⟨rfl, rfl⟩]
  unfold placeIn
  rw [e]
  show (if p.1 ≤ 1000 ∧ p.2 ≤ 1000 then some (p.1, p.2) else none) = some p
  rw [if_pos ⟨a1, b1⟩]
theorem plW_free32 (p : Pl) : 32 ∉ plW p := fun h => by
  unfold plW at h
  rcases List.mem_append.mp h with z | z
  · rcases List.mem_append.mp z with z | z
    · exact free32 _ z
    · exact absurd z (by decide)
  · exact free32 _ z
theorem plW_asc (p : Pl) : ∀ c ∈ plW p, c < 128 := fun c h => by
  unfold plW at h
  rcases List.mem_append.mp h with z | z
  · rcases List.mem_append.mp z with z | z
    · have := dg_digit c z
      omega
    · rw [List.mem_singleton.mp z]
      decide
  · have := dg_digit c z
    omega
theorem wordP_plW {p : Pl} (h : small p) : wordP (S (plW p)) = some p := by
  obtain ⟨a0, a1, b0, b1⟩ := h
  obtain ⟨na, va⟩ := isNum_dg a0 a1
  obtain ⟨nb, vb⟩ := isNum_dg b0 b1
  have e : Txt.split (S (plW p)) (S [58]) = [S (dg p.1), S (dg p.2)] := by
    have z := split_joinL (c := 58) (by decide) (ps := [dg p.1, dg p.2]) (by simp) fun y hy => by
      rcases List.mem_cons.mp hy with rfl | hy
      · exact free58 _
      · rw [List.mem_singleton.mp hy]
        exact free58 _
    have q : plW p = TL.joinL [58] [dg p.1, dg p.2] := by
      show dg p.1 ++ [58] ++ dg p.2 = dg p.1 ++ ([58] ++ dg p.2)
      rw [List.append_assoc]
    rw [q]
    exact z
  unfold wordP
  rw [e]
  show (if (isNum (S (dg p.1)) && (isNum (S (dg p.2)) && true)) = true then some (numV (S (dg p.1)), numV (S (dg p.2))) else none) = some p
  rw [na, nb, va, vb]
  rfl
end
open SX
section
open GxR NdefX PySem.Spec PyProof.Rows
variable {P : Program} {w : World} {K : PySem.W.Frag} {mg : Str → Option Value} {base : Heap}
theorem ok_withN {f C CI fI fH CT CL fT : Addr} {fd fdI fdH fdT : FuncData} (F : Fun K "with_pick" "Task.with_pick" s_Task_with_pick f fd) (T : TaskTxt K mg C CI) (U : ChgTxt K mg CT CL fT)
    (M : Mk K C fI) (FI : Fun K "__init__" "Task.__init__" s_Task___init__ fI fdI) (bI : Binds K fdI ["self", "start", "end", "picks"] []) (FH : Fun K "has_pick" "Task.has_pick" s_Task_has_pick fH fdH) (bH : Binds K fdH ["self", "place"] []) (mH : Meth K C "has_pick" fH)
    (FT : Fun K "__init__" "PickTaken.__init__" s_PickTaken___init__ fT fdT) (bT : Binds K fdT ["self", "place"] []) : FnOk P w K mg base (L2N.CX P w) 4 f fd ["self", "place"] (spWith C CT CL) := by
  have GI : FnOk P w K mg base (L2.CX P w) 2 fI fdI ["self", "start", "end", "picks"] (spTask K C CI) := ok_task FI T
  have GH : FnOk P w K mg base CX0 1 fH fdH ["self", "place"] (spHas C) := ok_has FH T
  have GT : FnOk P w K mg base CX0 1 fT fdT ["self", "place"] (spXI K CT "place") := ok_taken FT
  refine fun_okN F sc_Task_with_pick (fun vs H Q E h => ?_) (fun cdv A outer s H vs Q E hr h => ?_)
  · obtain ⟨p, v, st, en, z, ps, rfl, _⟩ := h
    rfl
  · obtain ⟨p, v, st, en, z, ps, rfl, hT, hv, q1, q2, q3⟩ := h
    obtain ⟨dx, l, a, b, xs, h1, h2, h3, h4, h5, h6, h7, h8⟩ := id hT
    obtain ⟨t, hmost⟩ := T.most
    have hxl := h5.len
    refine ⟨_, (pss_cons (ps_if (pt_val (pe_meth (pv 0) T.cl mH GH (by exact hr.mono (by decide)) bH .nil pass0 (pa_cons (pv 1) pa_nil))) (pss_one (L2N.ps_raise rfl (L2N.takes_of rfl rfl rfl rfl) (pmkN_oex U.oT U.iT U.yT GT (by exact hr.mono (by decide)) bT pass0 (by rfl) U.gT (pa_cons (pv 1) pa_nil)))) pss_nil)
      (pss_cons (ps_if (pt_cmpR op_ge (pe_callB call_len (by rfl) T.len (by decide +kernel) (pa_cons (pe_fld (pv 0) rfl) pa_nil)) (pe_glob (v := .int 60) rfl hmost ⟨_, rfl⟩) (nomark _)) (pss_one (L2N.ps_raise rfl (L2N.takes_of rfl rfl rfl rfl) (L2N.pmk_own PySem.F.excBase_ValueError U.xL U.gL U.kL (raises_own U.bL U.tL) rfl))) pss_nil)
      (pss_one (ps_ret (pe_make M GI hr (by rfl) T.mgC bI .nil passL (pa_cons (pe_fld (pv 0) rfl) (pa_cons (pe_fld (pv 0) rfl) (pa_cons (pe_op op_cat (pe_fld (pv 0) rfl) (pe_lst (pa_cons (pv 1) pa_nil))) pa_nil)))))))), ?_⟩
    refine ⟨_, rfl, p, dx, _, rfl, h1, tf_no _ _ _ (by decide +kernel) (by decide +kernel) (by decide +kernel), _, rfl, p, v, st, en, z, ps, rfl, hT, hv, _, rfl, ?_⟩
    refine ite2 (fun hc => ?_) (fun hc => ?_)
    · have hz := of_decide_eq_true hc
      refine ⟨_, rfl, by show 1 ≤ 1000; decide, fun e ne => ⟨e, v, rfl, U.oT, U.nT, upd_same, fun d hd hne => ⟨rfl, d, [("place", v)], ?_⟩⟩⟩
      obtain ⟨g1, g2, g3, g4⟩ := raised (f := "place") (v := v) ne hd hne
      exact ⟨g1, g2, g3, q1 hz _ d g4 upd_same⟩
    · have hz : z ∉ ps := fun m => hc (decide_eq_true m)
      refine ⟨_, rfl, p, C, dx, _, _, rfl, h1, T.cl, T.nP, tf_picks _ _ _, _, _, rfl, .inl ⟨_, SqL.of h4, rfl⟩, _, _, rfl, rfl, _, rfl, ?_⟩
      refine ite2 (fun hd => ?_) (fun hd => ?_)
      · have hd' := of_decide_eq_true hd
        exact q2 hz (by omega) H (Same.refl _)
      · have hlt : ps.length < 60 := by
          have : ¬ ((60 : Int) ≤ (xs.length : Int)) := fun y => hd (decide_eq_true y)
          omega
        refine ⟨_, rfl, p, C, dx, _, _, rfl, h1, T.cl, T.nS, tf_start _ _ _, _, rfl, p, C, dx, _, _, rfl, h1, T.cl, T.nE, tf_end _ _ _, _, rfl, p, C, dx, _, _, rfl, h1, T.cl, T.nP, tf_picks _ _ _, _, rfl, (by show 1 ≤ sizeLine; decide), fun m nm => ?_⟩
        obtain ⟨H1, e1, k1, g1⟩ := made (o := .lst [v]) nm
        rw [e1]
        refine ⟨l, m, _, _, rfl, rfl, k1 _ _ h4, g1, ?_, fun c nc => ?_⟩
        · show xs.length + 1 ≤ sizeLine
          rw [sizeLine_eq]
          omega
        obtain ⟨H2, e2, k2, g2⟩ := made (o := .lst (xs ++ [v])) nc
        rw [e2]
        intro x dy nx ndy nexy
        have k3 := mkSame (o := .ins C dy []) (u := .own x) nx ndy
        have k := (k1.trans k2).trans k3
        refine ⟨x, dy, c, a, b, st, en, xs ++ [v], ps ++ [z], rfl, upd_same, h2.same k, h3.same k, SqL.of (k3 _ _ g2), (h5.same k).snoc (hv.same k), ?_, fun _ _ H' hT' hb' _ => ⟨rfl, ?_⟩, fun hbad => ?_⟩
        · rw [List.length_append]
          show ps.length + 1 ≤ 1000
          omega
        · exact q3 hz hlt H' x ((k1.trans k2).trans (mkBut nx ndy hb')) (((k1.trans k2)).free nx) hT'
        · refine (hbad ⟨?_, ?_⟩).elim
          · rw [List.length_append]
            show ps.length + 1 ≤ 60
            omega
          · exact List.nodup_append.mpr ⟨h7, List.nodup_cons.mpr ⟨by simp, .nil⟩, fun y hy y' hy' e => hz (by rw [List.mem_singleton.mp hy'] at e; rw [← e]; exact hy)⟩
end
section
open GxR NdefX PySem.Spec PyProof.Rows
variable {P : Program} {w : World} {K : PySem.W.Frag} {mg : Str → Option Value} {base : Heap}
theorem ok_notinitH {f C : Addr} {fd : FuncData} (F : Fun K "__init__" "InvalidNotation.__init__" s_InvalidNotation___init__ f fd) : L2H.FnH P w K mg base CX0 1 f fd ["self", "line"] (spXI K C "line") := by
  refine fun_okH F sc_InvalidNotation___init__ (fun vs H Q E h => ?_) (fun cdv A outer s H vs Q E p hot hr h => ?_)
  · obtain ⟨a, v, rfl, _⟩ := h
    rfl
  · obtain ⟨a, v, rfl, T, hno, ha, q⟩ := h
    exact ⟨_, pss_one (ps_ost (pv 0) (pv 1)), v, rfl, _, rfl, a, C, rfl, T, hno, .inl ⟨ha, q⟩⟩
def spLineX (K : PySem.W.Frag) (T CT CN : Addr) : Sp := fun vs H Q E => ∃ (p l : Addr) (st en : Pl) (ps : List Pl) (ls : List Str) (n : Nat), vs = [.ref p, .ref l, .int n] ∧ TaskAt CT H p st en ps ∧ SqL K H l (ls.map V.str) ∧ LinesOk ls ∧ 1 ≤ n ∧ n ≤ 1000000 ∧ TabG H T ∧
  (∀ z, placeIn ls n (S [112, 105, 99, 107]) = some z → z ∉ ps → ps.length < 60 → ∀ (H' : Hp) (r : Addr), Kp H H' → TaskAt CT H' r st en (sortP (ps ++ [z])) → Q (.ref r) H') ∧
  ((∀ z, placeIn ls n (S [112, 105, 99, 107]) = some z → z ∈ ps ∨ 60 ≤ ps.length) → RaisesN CN n H E)
theorem ok_lineX {f fP fW fI T0 CT CTK CL CIT CN fT : Addr} {fd fdP fdW fdI : FuncData} (F : Fun K "_task_with_line" "_task_with_line" s__task_with_line f fd) (TT : TaskTxt K mg CT CIT) (UC : ChgTxt K mg CTK CL fT) (U : NotTxt K mg CN fI)
    (eTT : PySem.W.exmAny K (.ref CTK) [.ref CTK, .ref CL] = some true) (eTL : PySem.W.exmAny K (.ref CL) [.ref CTK, .ref CL] = some true)
    (GIH : L2H.FnH P w K mg base CX0 1 fI fdI ["self", "line"] (spXI K CN "line")) (bI : Binds K fdI ["self", "line"] [])
    (FPk : PySem.W.keepIn K (.ref fP) = true) (GP : FnOk P w K mg base (L2.CX P w) 6 fP fdP ["lines", "number", "word"] (spPlIn K T0 CN)) (bP : Binds K fdP ["lines", "number", "word"] []) (gP : mg "_place_in" = some (.ref fP))
    (mW : Meth K CT "with_pick" fW) (GW : FnOk P w K mg base (L2N.CX P w) 4 fW fdW ["self", "place"] (spWith CT CTK CL)) (bW : Binds K fdW ["self", "place"] []) : FnOk P w K mg base (L2.CX P w) 7 f fd ["task", "lines", "number"] (spLineX K T0 CT CN) := by
  refine F.okX sc__task_with_line (fun vs H Q E h => ?_) (fun cdv A outer s H vs Q E hr h => ?_)
  · obtain ⟨p, l, st, en, ps, ls, n, rfl, _⟩ := h
    rfl
  · obtain ⟨p, l, st, en, ps, ls, n, rfl, hT, hl, hls, hn1, hn2, ht, q, qx⟩ := h
    have nd := sc__task_with_line.nd
    refine ⟨_, (pss_cons (ps_set (i := 3) nd rfl (.inl rfl) (pe_call GP (by exact hr.mono (by decide)) (by rfl) gP FPk bP .nil (passes_call (takes_of rfl rfl rfl rfl) fun _ _ _ _ h => h) (pa_cons (pv 1) (pa_cons (pv 2) (pa_cons pe_str pa_nil)))))
      (pss_one (ps_try_pair (ts := fun _ _ _ _ σ H => _) rfl rfl ⟨rfl, by decide, .inl UC.gT⟩ ⟨rfl, by decide, .inl UC.gL⟩ (L2H.passesAt_of rfl) (takes_of rfl rfl rfl rfl)
        (fun W pn xe tkN tkO po => pss_one (ps_ret (pe_methS (pv 0) TT.cl mW GW (by exact hr.mono (by decide)) bW (fun τ => L2N.passAt tkN τ) (pa_cons (pv 3) pa_nil))))
        (fun a oe cls d pn hz hf tkS hot => pss_one (L2H.ps_raiseHN hot tkS (L2H.pmk5_oexH U.o U.i U.y GIH (L2H.roomH_mark (by exact hr.mono (by decide)) _) hot bI pass0 (by rfl) U.g (pa_cons (pv 2) pa_nil))))))), ?_⟩
    refine ⟨_, rfl, _, rfl, l, ls, n, "pick", rfl, hl, hls, hn1, hn2, (by rw [pick_S]; exact asc_S (by decide)), ht, fun z hz H1 v k1 hv => ?_, fun hno => ?_⟩
    · rw [pick_S] at hz
      have hT1 := hT.kp k1
      obtain ⟨dx, l1, a, b, xs, h1, h2, h3, h4, h5, h6, h7, h8⟩ := id hT1
      refine ⟨_, rfl, p, dx, _, rfl, h1, tf_no _ _ _ (by decide +kernel) (by decide +kernel) (by decide +kernel), _, rfl, p, v, st, en, z, ps, rfl, hT1, hv, fun z1 H2 d k2 g2 => ⟨true, eTT, fun _ x hx => ⟨_, rfl, by show 1 ≤ 1000; decide, note_raised U (qx fun z' hz' => by rw [hz] at hz'; exact Option.some.inj hz' ▸ (.inl z1)) (k1.trans (kpS k2))⟩, fun z => nomatch z⟩, fun z1 z2 H2 k2 => ⟨true, eTL, fun _ x hx => ⟨_, rfl, by show 1 ≤ 1000; decide, note_raised U (qx fun z' hz' => by rw [hz] at hz'; exact Option.some.inj hz' ▸ (.inr z2)) (k1.trans (kpS k2))⟩, fun z => nomatch z⟩, fun z1 z2 H2 r k2 _ hT2 => ?_⟩
      exact q z hz z1 z2 H2 r (k1.trans (kpS k2)) hT2
    · rw [pick_S] at hno
      exact qx fun z' hz' => by rw [hno] at hz'; cases hz'
end
open SX
section
open GxR NdefX PySem.Spec PyProof.Rows
variable {P : Program} {w : World} {K : PySem.W.Frag} {mg : Str → Option Value} {base : Heap}
/-- what the lines tell: the first number that cannot stand, or start, end and picks -/
def parseT (ls : List Str) : Nat ⊕ (Pl × Pl × List Pl) := match placeIn ls 1 (S [115, 116, 97, 114, 116]) with
  | none => .inl 1
  | some st => match placeIn ls 2 (S [101, 110, 100]) with
    | none => .inl 2
    | some en => match picksFrom ls (ls.length - 2) 3 [] with
      | .inl n => .inl n
      | .inr ps => .inr (st, en, ps)
theorem picksFrom_step {ls : List Str} {m n : Nat} {acc : List Pl} : picksFrom ls (m + 1) n acc = (match placeIn ls n (S [112, 105, 99, 107]) with
    | none => .inl n
    | some p => if p ∈ acc ∨ 60 ≤ acc.length then .inl n else picksFrom ls m (n + 1) (acc ++ [p])) := rfl
theorem RaisesN.kp {CN : Addr} {k : Int} {H H' : Hp} {E : XK} (h : RaisesN CN k H E) (k1 : Kp H H') : RaisesN CN k H' E := fun H2 d k2 e => h H2 d (k1.trans k2) e
def spParseX (K : PySem.W.Frag) (T CT CN : Addr) : Sp := fun vs H Q E => ∃ (z : Str), vs = [.str z] ∧ z.length ≤ 90000 ∧ asc z ∧ TabG H T ∧
  (∀ st en ps, parseT (Txt.split z (S [10])) = .inr (st, en, ps) → ∀ (H' : Hp) (r : Addr), Kp H H' → TaskAt CT H' r st en (sortP ps) → Q (.ref r) H') ∧ (∀ n, parseT (Txt.split z (S [10])) = .inl n → RaisesN CN n H E)
theorem ok_parseX {f fP fT fL T0 CT CIT CN : Addr} {fd fdP fdT fdL : FuncData} (F : Fun K "parse_task" "parse_task" s_parse_task f fd) (T : NoteTop mg) (TT : TaskTxt K mg CT CIT)
    (FPk : PySem.W.keepIn K (.ref fP) = true) (GP : FnOk P w K mg base (L2.CX P w) 6 fP fdP ["lines", "number", "word"] (spPlIn K T0 CN)) (bP : Binds K fdP ["lines", "number", "word"] []) (gP : mg "_place_in" = some (.ref fP))
    (MT : Mk K CT fT) (GT : FnOk P w K mg base (L2.CX P w) 2 fT fdT ["self", "start", "end", "picks"] (spTask K CT CIT)) (bT : Binds K fdT ["self", "start", "end", "picks"] [])
    (FLk : PySem.W.keepIn K (.ref fL) = true) (GL : FnOk P w K mg base (L2.CX P w) 7 fL fdL ["task", "lines", "number"] (spLineX K T0 CT CN)) (bL : Binds K fdL ["task", "lines", "number"] []) (gL : mg "_task_with_line" = some (.ref fL)) : FnOk P w K mg base (L2.CX P w) 8 f fd ["text"] (spParseX K T0 CT CN) := by
  refine F.okX sc_parse_task (fun vs H Q E h => ?_) (fun cdv A outer s H vs Q E hr h => ?_)
  · obtain ⟨z, rfl, _⟩ := h
    rfl
  · obtain ⟨z, rfl, hz, ha, ht, q, qx⟩ := h
    have nd := sc_parse_task.nd
    have hline : 1000000 < sizeLine := by decide
    refine ⟨_, (pss_cons (ps_set (i := 1) nd rfl (.inl rfl) (pe_split (pv 0) pe_str))
      (pss_cons (ps_set (i := 2) nd rfl (.inl rfl) (pe_call GP (by exact hr.mono (by decide)) (by rfl) gP FPk bP .nil (passes_call (takes_of rfl rfl rfl rfl) fun _ _ _ _ h => h) (pa_cons (pv 1) (pa_cons pe_int (pa_cons pe_str pa_nil)))))
      (pss_cons (ps_set (i := 3) nd rfl (.inl rfl) (pe_call GP (by exact hr.mono (by decide)) (by rfl) gP FPk bP .nil (passes_call (takes_of rfl rfl rfl rfl) fun _ _ _ _ h => h) (pa_cons (pv 1) (pa_cons pe_int (pa_cons pe_str pa_nil)))))
      (pss_cons (ps_set (i := 4) nd rfl (.inl rfl) (pe_make MT GT (by exact hr.mono (by decide)) (by rfl) TT.mgC bT .nil (passes_call (takes_of rfl rfl rfl rfl) fun _ _ _ _ h => h) (pa_cons (pv 2) (pa_cons (pv 3) (pa_cons (pe_lst pa_nil) pa_nil)))))
      (pss_cons (ps_for (passes_of rfl) rfl (pi_range2 rfl T.range (pa_cons pe_int (pa_cons (pe_op op_add (pe_callB call_len (by rfl) T.len (by decide +kernel) (pa_cons (pv 1) pa_nil)) pe_int) pa_nil))) (pg_name (i := 5) nd rfl (.inl rfl)) (pss_one (ps_set (i := 4) nd rfl (.inl rfl) (pe_call GL (by exact hr.mono (by decide)) (by rfl) gL FLk bL .nil (passes_call (takes_of rfl rfl rfl rfl) fun _ _ _ _ h => h) (pa_cons (pv 4) (pa_cons (pv 1) (pa_cons (pv 5) pa_nil)))))))
      (pss_one (ps_ret (pv 4)))))))), ?_⟩
    refine ⟨_, rfl, ⟨_, rfl⟩, _, _, rfl, rfl, rfl, (by omega), fun m nm => ?_⟩
    obtain ⟨H1, e1, k1, g1⟩ := made (o := .lst ((Txt.split z (S [10])).map V.str)) nm
    rw [nl_S, e1]
    have hll := split_le z (S [10])
    have hls : LinesOk (Txt.split z (S [10])) := ⟨by omega, fun y hy => ⟨Nat.le_trans (part_short hy) (by omega), asc_split (by decide) ha hy⟩⟩
    generalize hL : Txt.split z (S [10]) = ls at *
    unfold parseT at q qx
    refine ⟨_, rfl, m, ls, 1, "start", rfl, SqL.of g1, hls, Nat.le_refl _, (by decide), (by rw [start_S]; exact asc_S (by decide)), (kpS k1).tab _ ht, fun st hst H2 va k2 hva => ?_, fun hno => ?_⟩
    rotate_left
    · rw [start_S] at hno
      rw [hno] at qx
      exact (qx 1 rfl).kp (kpS k1)
    rw [start_S] at hst
    rw [hst] at q qx
    dsimp only at q qx
    refine ⟨_, rfl, m, ls, 2, "end", rfl, SqL.of (k2.lst g1), hls, (by decide), (by decide), (by rw [end_S]; exact asc_S (by decide)), ((kpS k1).trans k2).tab _ ht, fun en hen H3 vb k3 hvb => ?_, fun hno => ?_⟩
    rotate_left
    · rw [end_S] at hno
      rw [hno] at qx
      exact (qx 2 rfl).kp ((kpS k1).trans k2)
    rw [end_S] at hen
    rw [hen] at q qx
    dsimp only at q qx
    have h2 : 2 ≤ ls.length := placeIn_le hen
    obtain ⟨R, hR⟩ : ∃ R, picksFrom ls (ls.length - 2) 3 [] = R := ⟨_, rfl⟩
    rw [hR] at q qx
    have k03 := ((kpS k1).trans k2).trans k3
    have k13 := k2.trans k3
    refine ⟨_, rfl, _, rfl, Nat.zero_le _, fun c nc => ?_⟩
    obtain ⟨H4, e4, k4, g4⟩ := made (o := .lst []) nc
    rw [e4]
    have k04 := k03.trans (kpS k4)
    intro x dy nx ndy nexy
    have k5 := mkSame (o := .ins CT dy []) (u := .own x) nx ndy
    refine ⟨x, dy, c, va, vb, st, en, [], [], rfl, upd_same, ((hva.kp k3).same k4).same k5, (hvb.same k4).same k5, SqL.of (k5 _ _ g4), .nil, Nat.zero_le _, fun _ _ H6 hT6 hb6 _ => ⟨rfl, ?_⟩, fun hbad => (hbad ⟨Nat.zero_le _, .nil⟩).elim⟩
    have k06 : Kp H H6 := k04.trans (kpS (mkBut nx ndy hb6))
    have g6 : H6 m = some (.lst (ls.map V.str)) := mkBut nx ndy hb6 _ _ (k4 _ _ (k13.lst g1))
    refine ⟨_, rfl, _, _, rfl, .inl ⟨_, SqL.of g6, rfl⟩, _, _, rfl, rfl, 3, _, rfl, ?_, ?_⟩
    · rw [List.length_map]
      have := hls.1
      omega
    rw [List.length_map, show ((ls.length : Int) + 1 - 3).toNat = ls.length - 2 by omega]
    refine for_range (lo := 3) (n := ls.length - 2) (fun i σ H' => ∃ (r : Addr) (acc : List Pl) (v5 : Option V), σ = [some (.str z), some (.ref m), some va, some vb, some (.ref r), v5] ∧ Kp H6 H' ∧ TaskAt CT H' r st en (sortP acc) ∧ picksFrom ls (ls.length - 2 - i) (3 + i) acc = R) ?_ ?_ ?_
    · exact ⟨x, [], none, rfl, Kp.refl _, hT6, hR⟩
    · rintro i σ H' hi ⟨r, acc, v5, rfl, k, hT, hp⟩
      rw [show ls.length - 2 - i = (ls.length - 2 - (i + 1)) + 1 by omega, picksFrom_step] at hp
      refine ⟨_, rfl, _, rfl, _, rfl, r, m, st, en, sortP acc, ls, 3 + i, ?_, hT, SqL.of (k.lst g6), hls, by omega, by omega, (k06.trans k).tab _ ht, fun p p1 p2 p3 H7 r7 k7 hT7 => ?_, fun bad => ?_⟩
      · rw [show ((3 + i : Nat) : Int) = 3 + (i : Int) by omega]
        rfl
      · rw [p1] at hp
        dsimp only at hp
        rw [if_neg (fun c => c.elim (fun y => p2 (sortP_mem.mpr y)) fun y => by rw [sortP_len] at p3; omega)] at hp
        refine ⟨r7, acc ++ [p], _, rfl, k.trans k7, ?_, hp⟩
        rw [← sortP_congr ((sortP_perm acc).append_right [p])]
        exact hT7
      · have hRi : R = .inl (3 + i) := by
          cases e : placeIn ls (3 + i) (S [112, 105, 99, 107]) with
          | none => rw [e] at hp; exact hp.symm
          | some p =>
            rw [e] at hp
            dsimp only at hp
            rw [if_pos ((bad p e).imp (fun y => sortP_mem.mp y) fun y => by rw [sortP_len] at y; exact y)] at hp
            exact hp.symm
        rw [hRi] at qx
        exact (qx (3 + i) rfl).kp (k06.trans k)
    · rintro σ H' ⟨r, acc, v5, rfl, k, hT, hp⟩
      rw [Nat.sub_self] at hp
      have hp : .inr acc = R := hp
      rw [← hp] at q
      exact ⟨_, rfl, q st en acc rfl H' r (k06.trans k) hT⟩
end
open SX
section
open GxR NdefX PySem.Spec PyProof.Rows
variable {P : Program} {w : World} {K : PySem.W.Frag} {mg : Str → Option Value} {base : Heap}
def rIsF (K : PySem.W.Frag) (a : Addr) (cls : Value) (d : Option Addr) : List V → Hp → VK → Prop := fun xs H Q => ∃ (C dd : Addr) (fs : List (Str × V)) (c : V) (cv : Value) (b : Bool), xs = [.ref a, c] ∧ cls = .ref C ∧ d = some dd ∧ H dd = some (.xd fs) ∧ ExcC K C ∧ (∀ u, RelV c u → u = cv) ∧ PySem.W.kitOne K (.ref C) cv = some b ∧ Q (.bl b) H
theorem call_isF {X : Cx} {a : Addr} {oe : Obj} {cls : Value} {d : Option Addr} {pn : List (Addr × Obj)} (hz : Zc cls d oe) (hf : ∃ vs, oe.data = .fields vs) : CallR (X.suite a ((a, oe) :: pn)) (.builtin "isinstance") (rIsF X.K a cls d) := by
  intro pins s σ H xs us Q I r h
  obtain ⟨C, dd, fs, c, cv, b, rfl, rfl, rfl, ea, T, hcv, e, q⟩ := h
  cases r with
  | cons rx rr =>
    cases rr with
    | cons rt rr =>
      cases rr
      cases rx
      obtain rfl := hcv _ rt
      obtain ⟨ha, _⟩ := I.pin (a, oe) (List.mem_append_left _ List.mem_cons_self)
      obtain ⟨vs, hd⟩ := hf
      obtain ⟨mA, hns, _⟩ := (show ObjOk X.prog X.w H s.heap dd (.xd fs) from I.hok dd _ ea)
      obtain ⟨od, ho, _⟩ := lookIn_ns hns
      have J : PySem.W.InstAt s.heap a oe C (some od) := ⟨ha, hz.1, by unfold PySem.W.notCls; rw [hd] <;> rfl, by rw [hz.2]; exact ho⟩
      have hcl : (PySem.W.clsIn X.K C).isSome = true := by
        obtain ⟨cd, hc, _⟩ := PySem.W.any_some T.hd
        rw [hc]
        rfl
      exact PySem.W.kia_one (PySem.W.kitx_exc hcl T.hg T.hk T.hs T.ha T.hn T.ht T.hm) I.kIn J e (fun z => nomatch z) fun tk => ⟨.bl b, H, I.kept (t' := tk) (fun _ _ z => z), rfl, q⟩
def told0 (z : Str) : Int := match parseT (Txt.split z (S [10])) with
  | .inl n => (n : Int)
  | .inr _ => 0
def told1 (z : Str) : Int := if ((Txt.split z (S [32])).all fun y => (wordP y).isSome) = true then 0 else 1
def toldI (k : Int) (z : Str) : Int := if decide (k = 0) = true then told0 z else told1 z
section
variable {c : Ct} {D : Ends} {ta : TA} {Ex : L2.St → XK} {T CT CN : Addr} {z : Str}
theorem s_parseT (ha : EA true c ta [RD (.str z)]) (h1 : z.length ≤ 90000) (h2 : asc z) (ht : ∀ H, Kp c.h0 H → TabG H T) (ok : told0 z = 0 → WC c D.nx)
    (bad : ∀ n σ H' d, parseT (Txt.split z (S [10])) = .inl n → σ.length = c.g.length → Kp c.hs H' → H' d = some (.xd [("line", .int (n : Int))]) → Ex σ (.ref CN) (some d) H') : WC c (tDrop (tCallS (spParseX K T CT CN) Ex ta) D) := fun σ H s => ha σ H s _ fun H1 vs k1 r1 => by
  obtain ⟨v, r, rfl, e, rfl⟩ := r1
  cases e
  refine ⟨z, rfl, h1, h2, ht H1 (((s.kp k1).k0.trans (bas_hb (b := true))).trans (kp_less (M := msk true c σ))), fun st en ps e H' r k2 _ => ok (by unfold told0; rw [e]) σ _ (s.kp (k1.trans k2)), fun n e H' d k2 g => bad n σ H' d e s.len (s.ks.trans (k1.trans k2)) g⟩
theorem s_parseW (ha : EA true c ta [RD (.str z)]) (h1 : z.length ≤ 90000) (h2 : asc z) (ht : ∀ H, Kp c.h0 H → TabG H T) (ok : told1 z = 0 → WC c D.nx)
    (bad : ∀ σ H' d, told1 z = 1 → σ.length = c.g.length → Kp c.hs H' → H' d = some (.xd [("line", .int 1)]) → Ex σ (.ref CN) (some d) H') : WC c (tDrop (tCallS (spPWalk K T CN) Ex ta) D) := fun σ H s => ha σ H s _ fun H1 vs k1 r1 => by
  obtain ⟨v, r, rfl, e, rfl⟩ := r1
  cases e
  refine ⟨z, rfl, h1, h2, ht H1 (((s.kp k1).k0.trans (bas_hb (b := true))).trans (kp_less (M := msk true c σ))), fun ps e H' r xs k2 _ _ _ => ok ?_ σ _ (s.kp (k1.trans k2)), fun e H' d k2 g => bad σ H' d ?_ s.len (s.ks.trans (k1.trans k2)) g⟩
  · unfold told1
    rw [if_pos]
    rw [List.all_eq_true]
    intro y hy
    have m := List.mem_map_of_mem (f := wordP) hy
    rw [e] at m
    obtain ⟨p, _, hp⟩ := List.mem_map.mp m
    rw [← hp]
    rfl
  · obtain ⟨y, hy, e⟩ := e
    unfold told1
    rw [if_neg]
    intro z
    have := List.all_eq_true.mp z y hy
    rw [e] at this
    cases this
end
abbrev spTd0 (T0 : Addr) : Sp := Sps (fun a : Int × Str => [RD (.int a.1), RD (.str a.2)]) (fun a H => a.2.length ≤ 90000 ∧ asc a.2 ∧ TabG H T0) (fun a => RD (.int (toldI a.1 a.2)))
theorem ok_told {f fT fW T0 CT CN CIT : Addr} {fd fdT fdW : FuncData} (F : Fun K "_law_told" "_law_told" s__law_told f fd) (gN : mg "InvalidNotation" = some (.ref CN)) (gIT : mg "InvalidTask" = some (.ref CIT)) (z_isi : mg "isinstance" = none) (z_bool : mg "bool" = none)
    (eN : PySem.W.exmOne K (.ref CN) (.ref CN) = some true) (xN : XfC K CN) (nN : PySem.W.findIn K (.ref CN) "line" = some none) (xC : ExcC K CN) (kN : PySem.W.kitOne K (.ref CN) (.ref CIT) = some false)
    (GT : FnOk P w K mg base (L2.CX P w) 8 fT fdT ["text"] (spParseX K T0 CT CN)) (bT : Binds K fdT ["text"] []) (gT : mg "parse_task" = some (.ref fT)) (kT : PySem.W.keepIn K (.ref fT) = true)
    (GW : FnOk P w K mg base (L2.CX P w) 5 fW fdW ["text"] (spPWalk K T0 CN)) (bW : Binds K fdW ["text"] []) (gW : mg "parse_walk" = some (.ref fW)) (kW : PySem.W.keepIn K (.ref fW) = true) : FnOk P w K mg base CX0 9 f fd ["kind", "text"] (spTd0 T0) := by
  refine F.ok sc__law_told (fun vs H Q E h => ?_) (fun cdv A outer s H vs Q E hr h => ?_)
  · obtain ⟨a, om, ho, hr, _⟩ := h
    exact hr.len
  · obtain ⟨⟨k, z⟩, om, ho, hR, ⟨hz, ha, hT⟩, qq⟩ := h
    have nd := sc__law_told.nd
    refine ⟨_, (pss_one (ps_try_next (l := [(.ref CN, some 2, _)]) rfl rfl takes0 (fun W pn xe tk _ =>
        (pss_cons (ps_if (pt_cmpR (r := rEq) op_eq (pv 0) pe_int (nomark _)) (pss_one (ps_expr (pe_callS GT (by exact hr.mono (by decide)) (by rfl) gT kT bT (fun τ => passAt tk τ) (pa_cons (pv 1) pa_nil))))
          (pss_one (ps_expr (pe_callS GW (by exact hr.mono (by decide)) (by rfl) gW kW bW (fun τ => passAt tk τ) (pa_cons (pv 1) pa_nil)))))
        (pss_one (ps_ret pe_int))))
        (Clauses.named nd rfl rfl ⟨rfl, by decide, .inl gN⟩ (fun a oe cls d pn hz hf => (pss_cons (ps_if (PW.pt (pw_or (pt_val (pe_callB (r := rIsi K) call_isi (by rfl) z_isi (by decide +kernel) (pa_cons (pe_xf xN nN hz hf (pv 2)) (pa_cons (pe_bltn (v := .ty "bool") (by rfl) z_bool (by decide +kernel) rfl) pa_nil)))) (pw_or1 (pt_val (pe_callB (call_isF hz hf) (by rfl) z_isi (by decide +kernel) (pa_cons (pv 2) (pa_cons (pe_glob (v := .ref _) rfl gIT rfl) pa_nil))))))) (pss_one (ps_ret (pe_un un_neg pe_int))) pss_nil) (pss_one (ps_ret (pe_xf xN nN hz hf (pv 2)))))) .nil))), ?_⟩
    have st := sta_start (N := ["kind", "text", "error"]) ho hR
    refine (?_ : WC ⟨H, less H om, om, [.fz (RD (.int k)), .fz (RD (.str z)), .any]⟩ _) _ _ st
    have done : ∀ {D : Ends}, toldI k z = 0 → D.rt = Q → WC ⟨H, less H om, om, [.fz (RD (.int k)), .fz (RD (.str z)), .any]⟩ (tRet (tC (.int 0)) D) := fun {D} e eq => s_ret e_int fun H' v k1 r => by
      rw [eq]
      exact qq H' v k1 (by show (RD (.int (toldI k z))).p _ _; rw [e]; exact r)
    have fin : ∀ {n : Int} {H' : Hp}, Kp H H' → toldI k z = n → Q (.int n) H' := fun {n H'} k1 e => qq H' _ k1 (by show (RD (.int (toldI k z))).p _ _; rw [e]; exact .int _)
    refine s_seq ?_
    refine s_if (t_T (e_op (o_eqI (i := k) (j := 0)) (e_var rfl) e_int)) (fun hk => ?_) (fun hk => ?_)
    · have hk0 : toldI k z = told0 z := by unfold toldI; rw [if_pos hk]
      refine s_parseT (a_cons (e_var rfl) a_nil) hz ha (fun H1 k1 => k1.tab _ hT) (fun e => by dsimp only; exact done (hk0.trans e) rfl) fun n σ H' d e hl kk g => ?_
      refine ⟨true, eN, fun _ y ny => ?_, fun z => nomatch z⟩
      have h2 : (σ.set 2 (some (V.ref y)))[2]? = some (some (V.ref y)) := setget (by rw [hl]; show 2 < 3; decide)
      refine ⟨_, h2, rfl, rfl, d, _, .int (n : Int), rfl, g, rfl, _, _, _, _, false, rfl, .ty "bool", .base (.int _), by kernel_rfl, false, rfl, ?_⟩
      refine iteF ?_
      refine ⟨_, h2, CN, d, _, .ref CIT, .ref CIT, false, rfl, rfl, rfl, g, xC, (fun u z => z), kN, false, rfl, ?_⟩
      refine iteF ?_
      exact ⟨_, h2, rfl, rfl, d, _, .int (n : Int), rfl, g, rfl, fin kk (hk0.trans (by unfold told0; rw [e]))⟩
    · have hk0 : toldI k z = told1 z := by unfold toldI; rw [if_neg (by rw [hk]; exact Bool.false_ne_true)]
      refine s_parseW (a_cons (e_var rfl) a_nil) hz ha (fun H1 k1 => k1.tab _ hT) (fun e => by dsimp only; exact done (hk0.trans e) rfl) fun σ H' d e hl kk g => ?_
      refine ⟨true, eN, fun _ y ny => ?_, fun z => nomatch z⟩
      have h2 : (σ.set 2 (some (V.ref y)))[2]? = some (some (V.ref y)) := setget (by rw [hl]; show 2 < 3; decide)
      refine ⟨_, h2, rfl, rfl, d, _, .int (1 : Int), rfl, g, rfl, _, _, _, _, false, rfl, .ty "bool", .base (.int _), by kernel_rfl, false, rfl, ?_⟩
      refine iteF ?_
      refine ⟨_, h2, CN, d, _, .ref CIT, .ref CIT, false, rfl, rfl, rfl, g, xC, (fun u z => z), kN, false, rfl, ?_⟩
      refine iteF ?_
      exact ⟨_, h2, rfl, rfl, d, _, .int (1 : Int), rfl, g, rfl, fin kk (hk0.trans e)⟩
end
open SX
section
open GxR NdefX PySem.Spec PyProof.Rows
theorem all_congr_mem {α : Type} {l : List α} {p q : α → Bool} (h : ∀ x ∈ l, p x = q x) : l.all p = l.all q := by
  induction l with
  | nil => rfl
  | cons a l ih => rw [List.all_cons, List.all_cons, h a (by simp), ih fun x hx => h x (List.mem_cons_of_mem _ hx)]
abbrev stC : List Nat := [115, 116, 97, 114, 116]
abbrev enC : List Nat := [101, 110, 100]
abbrev piC : List Nat := [112, 105, 99, 107]
/-- the place that a line writes behind a word -/
def lineP (z : Str) (wd : List Nat) : Option Pl := placeIn [z] 1 (S wd)
theorem placeIn_at {ls : List Str} {n : Nat} {z : Str} {wd : List Nat} (h : ls[n]? = some z) : placeIn ls (n + 1) (S wd) = lineP z wd := by
  have l := (List.getElem?_eq_some_iff.mp h).1
  have g : ls.getD n Str.empty = z := by
    rw [List.getD_eq_getElem?_getD, h]
    rfl
  unfold lineP placeIn numsIn
  rw [if_neg (by omega), show n + 1 - 1 = n from rfl, g]
  rfl
theorem placeIn_no {ls : List Str} {n : Nat} {wd : List Nat} (h : ls.length ≤ n) : placeIn ls (n + 1) (S wd) = none := by
  unfold placeIn numsIn
  rw [if_pos (by omega)]
def picksR : List (Option Pl) → Nat → List Pl → Nat ⊕ List Pl
  | [], _, acc => .inr acc
  | none :: _, n, _ => .inl n
  | some p :: r, n, acc => if p ∈ acc ∨ 60 ≤ acc.length then .inl n else picksR r (n + 1) (acc ++ [p])
theorem picks_R {ls : List Str} : ∀ (m n : Nat) (acc : List Pl), ls.length = n + m → picksFrom ls m (n + 1) acc = picksR ((ls.drop n).map fun z => lineP z piC) (n + 1) acc
  | 0, n, acc, h => by
    rw [List.drop_eq_nil_of_le (by omega)]
    rfl
  | m + 1, n, acc, h => by
    have l : n < ls.length := by omega
    have e := List.getElem?_eq_getElem l
    rw [picksFrom_step, placeIn_at e, List.drop_eq_getElem_cons l, List.map_cons]
    cases lineP ls[n] piC with
    | none => rfl
    | some p =>
      show (if p ∈ acc ∨ 60 ≤ acc.length then Sum.inl (n + 1) else picksFrom ls m (n + 1 + 1) (acc ++ [p])) = if p ∈ acc ∨ 60 ≤ acc.length then Sum.inl (n + 1) else picksR _ (n + 1 + 1) (acc ++ [p])
      rw [picks_R m (n + 1) _ (by omega)]
/-- the first line that cannot stand, 0 if all can -/
def told3 (r : List (Option Pl)) : Nat := match picksR r 3 [] with
  | .inl n => n
  | .inr _ => 0
def told2 : List Str → Nat
  | [] => 2
  | b :: u => if (lineP b enC).isSome = true then told3 (u.map fun z => lineP z piC) else 2
def toldL : List Str → Nat
  | [] => 1
  | a :: t => if (lineP a stC).isSome = true then told2 t else 1
theorem toldL_cons (a : Str) (t : List Str) : toldL (a :: t) = if (lineP a stC).isSome = true then told2 t else 1 := rfl
theorem told2_cons (b : Str) (u : List Str) : told2 (b :: u) = if (lineP b enC).isSome = true then told3 (u.map fun z => lineP z piC) else 2 := rfl
theorem told_L {z : Str} {ls : List Str} (h : Txt.split z (S [10]) = ls) : told0 z = toldL ls := by
  unfold told0 parseT
  rw [h]
  cases ls with
  | nil => rw [placeIn_no (n := 0) (Nat.zero_le _)]; rfl
  | cons a t =>
    rw [placeIn_at (n := 0) rfl, toldL_cons]
    cases lineP a stC with
    | none => rfl
    | some st =>
      cases t with
      | nil => rw [placeIn_no (n := 1) (Nat.le_refl _)]; rfl
      | cons b u =>
        rw [placeIn_at (n := 1) rfl, told2_cons]
        cases lineP b enC with
        | none => rfl
        | some en =>
          dsimp only
          rw [picks_R ((a :: b :: u).length - 2) 2 [] (by simp; omega)]
          rw [if_pos (show (some st).isSome = true from rfl), if_pos (show (some en).isSome = true from rfl)]
          unfold told3
          show (match (match picksR (u.map fun z => lineP z piC) 3 [] with | .inl n => (.inl n : Nat ⊕ (Pl × Pl × List Pl)) | .inr ps => .inr (st, en, ps)) with | .inl n => (n : Int) | .inr _ => 0) = _
          cases picksR (u.map fun z => lineP z piC) 3 [] with
          | inl n => rfl
          | inr ps => rfl
theorem told_J {M : List (List Nat)} (hne : M ≠ []) (h : ∀ l ∈ M, 10 ∉ l) : told0 (S (TL.joinL [10] M)) = toldL (M.map S) := told_L (split_joinL (by decide) hne h)
theorem picksR_good : ∀ (ps : List Pl) (r : List (Option Pl)) (n : Nat) (acc : List Pl), (acc ++ ps).Nodup → (acc ++ ps).length ≤ 60 → picksR (ps.map some ++ r) n acc = picksR r (n + ps.length) (acc ++ ps)
  | [], r, n, acc, _, _ => by simp
  | p :: ps, r, n, acc, nd, l => by
    rw [List.map_cons, List.cons_append]
    have hp : p ∉ acc := fun z => (List.nodup_append.mp nd).2.2 p z p (by simp) rfl
    have l2 : acc.length < 60 := by rw [List.length_append, List.length_cons] at l; omega
    show (if p ∈ acc ∨ 60 ≤ acc.length then Sum.inl n else picksR (ps.map some ++ r) (n + 1) (acc ++ [p])) = _
    rw [if_neg (fun z => z.elim hp fun y => by omega), picksR_good ps r (n + 1) (acc ++ [p]) (by rw [List.append_assoc]; exact nd) (by rw [List.append_assoc]; exact l), List.append_assoc, List.length_cons]
    rw [show n + 1 + ps.length = n + (ps.length + 1) by omega]
    rfl
def digB (a : List Nat) : Bool := decide (a ≠ []) && a.all fun c => decide (48 ≤ c) && decide (c ≤ 57)
def numB (a : List Nat) : Bool := digB a && decide (a.length ≤ 4) && (decide (a = [48]) || !([48] == a.take 1))
theorem isNum_B {a : List Nat} (h : ∀ c ∈ a, c < 128) : isNum (S a) = numB a := by
  unfold isNum numB digB
  rw [isdigit_S h, S_len, starts_S]
  have e1 : decide (S a = S [48]) = decide (a = [48]) := by
    rw [Bool.eq_iff_iff, decide_eq_true_eq, decide_eq_true_eq]
    exact ⟨fun z => S_inj z, fun z => by rw [z]⟩
  rw [e1]
  congr 2
  rw [show ([48] : List Nat).length = 1 from rfl]
  congr 1
  rw [Bool.eq_iff_iff, beq_iff_eq, beq_iff_eq]
  exact eq_comm
/-- what the words of a line tell -/
def wordsP (ps : List (List Nat)) (wd : List Nat) : Bool := decide (ps.take 1 = [wd]) && ((ps.drop 1).all numB && (decide ((ps.drop 1).length = 2) && (ps.drop 1).all fun a => decide (NumText.digitsVal a ≤ 1000)))
theorem line_J {ps : List (List Nat)} {wd : List Nat} (hne : ps ≠ []) (h : ∀ l ∈ ps, 32 ∉ l) (ha : ∀ l ∈ ps, ∀ c ∈ l, c < 128) : (lineP (S (TL.joinL [32] ps)) wd).isSome = wordsP ps wd := by
  have e := split_joinL (c := 32) (by decide) hne h
  have ga : ([S (TL.joinL [32] ps)] : List Str).getD (1 - 1) Str.empty = S (TL.joinL [32] ps) := rfl
  unfold lineP placeIn numsIn wordsP
  rw [if_neg (by show ¬ (1 < 1); decide), ga, e]
  have e1 : ((ps.map S).take ([S wd] : List Str).length = [S wd]) ↔ ps.take 1 = [wd] := by
    show ((ps.map S).take 1 = [wd].map S) ↔ _
    rw [← List.map_take]
    exact ⟨fun z => (List.map_inj_right fun _ _ q => S_inj q).mp z, fun z => by rw [z]⟩
  have e2 : (((ps.map S).drop ([S wd] : List Str).length).all isNum) = (ps.drop 1).all numB := by
    show ((ps.map S).drop 1).all isNum = _
    rw [← List.map_drop, List.all_map]
    refine all_congr_mem fun a ma => ?_
    exact isNum_B (ha a (List.mem_of_mem_drop ma))
  have e3 : ((ps.map S).drop ([S wd] : List Str).length).map numV = (ps.drop 1).map fun a => ((NumText.digitsVal a : Nat) : Int) := by
    show ((ps.map S).drop 1).map numV = _
    rw [← List.map_drop, List.map_map]
    rfl
  rw [e3]
  by_cases c1 : ps.take 1 = [wd]
  · rw [decide_eq_true c1, Bool.true_and]
    cases c2 : (ps.drop 1).all numB with
    | false => rw [if_neg (fun z => by rw [e2, c2] at z; cases z.2)]; rfl
    | true =>
      rw [if_pos ⟨e1.mpr c1, by rw [e2, c2]⟩, Bool.true_and]
      match ps.drop 1 with
      | [] => rfl
      | [a] => rfl
      | [a, b] =>
        show (if ((NumText.digitsVal a : Nat) : Int) ≤ 1000 ∧ ((NumText.digitsVal b : Nat) : Int) ≤ 1000 then some _ else none : Option Pl).isSome = (decide (NumText.digitsVal a ≤ 1000) && (decide (NumText.digitsVal b ≤ 1000) && true))
        by_cases c3 : NumText.digitsVal a ≤ 1000
        · by_cases c4 : NumText.digitsVal b ≤ 1000
          · rw [if_pos (by omega), decide_eq_true c3, decide_eq_true c4]; rfl
          · rw [if_neg (by omega), decide_eq_true c3, decide_eq_false c4]; rfl
        · rw [if_neg (by omega), decide_eq_false c3]; rfl
      | a :: b :: c :: r => rfl
  · rw [decide_eq_false c1, if_neg (fun z => c1 (e1.mp z.1))]; rfl
end
open SX
section
open GxR NdefX PySem.Spec PyProof.Rows
def isW (wd : List Nat) : Prop := wd = stC ∨ wd = enC ∨ wd = piC
def upC (wd : List Nat) : List Nat := if wd = stC then [83, 84, 65, 82, 84] else if wd = enC then [69, 78, 68] else [80, 73, 67, 75]
/-- a spoilt line's words -/
def spoiltP (wd : List Nat) (p : Pl) : List (List (List Nat)) :=
  [[[]], [[], wd, dg p.1, dg p.2], [wd, dg p.1, dg p.2, []], [wd, [], dg p.1, dg p.2], [wd ++ [115], dg p.1, dg p.2], [upC wd, dg p.1, dg p.2], [wd], [wd, [49]], [wd, dg p.1, dg p.2, [49]],
   [wd, [48, 49], [49]], [wd, [49], [48, 49]], [wd, [45, 49], [49]], [wd, [49], [43, 49]], [wd, [120], [49]], [wd, [49], [120]], [wd, [49, 50, 51, 52, 53], [49]], [wd, [49], [49, 48, 48, 49]], [wd, [49, 48, 48, 49], [49]],
   [wd, [49, 58, 49]], [wd, [49, 95, 48], [49]], [[112, 108, 97, 99, 101, 115], [49], [49]]]
theorem isW.c {wd : List Nat} (h : isW wd) : wd.length ≤ 5 ∧ (∀ c ∈ wd, c ≠ 32 ∧ c ≠ 10 ∧ c < 128) := by
  rcases h with rfl | rfl | rfl <;> decide
theorem upC_c {wd : List Nat} (h : isW wd) : (upC wd).length ≤ 5 ∧ (∀ c ∈ upC wd, c ≠ 32 ∧ c ≠ 10 ∧ c < 128) ∧ upC wd ≠ wd := by
  rcases h with rfl | rfl | rfl <;> decide
theorem dg_c (n : Int) : ∀ c ∈ dg n, c ≠ 32 ∧ c ≠ 10 ∧ c < 128 := fun c h => by
  have := dg_digit c h
  omega
theorem dg_l {n : Int} (h : n ≤ 1000) : (dg n).length ≤ 5 := dg_len (by decide) (by omega)
/-- what all pieces of a spoilt line keep -/
theorem spoilt_c {wd : List Nat} {p : Pl} (hw : isW wd) (hp : ok1 p) : ∀ ps ∈ spoiltP wd p, ps ≠ [] ∧ ps.length ≤ 4 ∧ ∀ l ∈ ps, l.length ≤ 6 ∧ ∀ c ∈ l, c ≠ 32 ∧ c ≠ 10 ∧ c < 128 := by
  have w := hw.c
  have u := upC_c hw
  have a := dg_c p.1
  have b := dg_c p.2
  have la := dg_l hp.2.1
  have lb := dg_l hp.2.2.2
  have k : ∀ l : List Nat, (decide (l.length ≤ 6) && l.all fun c => decide (c ≠ 32) && (decide (c ≠ 10) && decide (c < 128))) = true → l.length ≤ 6 ∧ ∀ c ∈ l, c ≠ 32 ∧ c ≠ 10 ∧ c < 128 := fun l h => by
    rw [Bool.and_eq_true, decide_eq_true_eq] at h
    exact ⟨h.1, fun c m => by have := List.all_eq_true.mp h.2 c m; simpa using this⟩
  have W : wd.length ≤ 6 ∧ ∀ c ∈ wd, c ≠ 32 ∧ c ≠ 10 ∧ c < 128 := ⟨by omega, w.2⟩
  have U : (upC wd).length ≤ 6 ∧ ∀ c ∈ upC wd, c ≠ 32 ∧ c ≠ 10 ∧ c < 128 := ⟨by omega, u.2.1⟩
  have WS : (wd ++ [115]).length ≤ 6 ∧ ∀ c ∈ wd ++ [115], c ≠ 32 ∧ c ≠ 10 ∧ c < 128 := ⟨by rw [List.length_append, List.length_singleton]; omega, fun c m => (List.mem_append.mp m).elim (w.2 c) fun z => by rw [List.mem_singleton.mp z]; decide⟩
  have A : (dg p.1).length ≤ 6 ∧ ∀ c ∈ dg p.1, c ≠ 32 ∧ c ≠ 10 ∧ c < 128 := ⟨by omega, a⟩
  have B : (dg p.2).length ≤ 6 ∧ ∀ c ∈ dg p.2, c ≠ 32 ∧ c ≠ 10 ∧ c < 128 := ⟨by omega, b⟩
  unfold spoiltP
  simp only [List.forall_mem_cons, List.not_mem_nil, false_implies, implies_true, and_true]
  refine ⟨?_, ?_, ?_, ?_, ?_, ?_, ?_, ?_, ?_, ?_, ?_, ?_, ?_, ?_, ?_, ?_, ?_, ?_, ?_, ?_, ?_⟩ <;>
  refine ⟨by simp, by simp, ?_⟩ <;>
  (try simp only [List.forall_mem_cons, List.not_mem_nil, false_implies, implies_true, and_true]) <;>
  (repeat' apply And.intro) <;> first | exact W.1 | exact W.2 | exact U.1 | exact U.2 | exact WS.1 | exact WS.2 | exact A.1 | exact A.2 | exact B.1 | exact B.2 | exact (k _ (by decide)).1 | exact (k _ (by decide)).2 | decide
theorem bad_words {wd : List Nat} {p : Pl} (hw : isW wd) : ∀ ps ∈ spoiltP wd p, wordsP ps wd = false := by
  have u := (upC_c hw).2.2
  have we : wd ≠ [] := by rcases hw with rfl | rfl | rfl <;> decide
  have ws : wd ++ [115] ≠ wd := fun e => by have := congrArg List.length e; simp at this
  have wp : [112, 108, 97, 99, 101, 115] ≠ wd := by rcases hw with rfl | rfl | rfl <;> decide
  have hd : ∀ (x : List Nat) (r : List (List Nat)), x ≠ wd → wordsP (x :: r) wd = false := fun x r h => by
    unfold wordsP
    rw [decide_eq_false (show ¬ (x :: r).take 1 = [wd] from fun e => h (by injection e))]
    rfl
  have tl : ∀ (r : List (List Nat)), (r.all numB && (decide (r.length = 2) && r.all fun a => decide (NumText.digitsVal a ≤ 1000))) = false → wordsP (wd :: r) wd = false := fun r h => by
    unfold wordsP
    rw [show (wd :: r).drop 1 = r from rfl, h, Bool.and_false]
  unfold spoiltP
  simp only [List.forall_mem_cons, List.not_mem_nil, false_implies, implies_true, and_true]
  refine ⟨hd _ _ we.symm, hd _ _ we.symm, tl _ ?_, tl _ ?_, hd _ _ ws, hd _ _ u, tl _ (by decide +kernel), tl _ (by decide +kernel), tl _ ?_, tl _ (by decide +kernel), tl _ (by decide +kernel), tl _ (by decide +kernel), tl _ (by decide +kernel), tl _ (by decide +kernel), tl _ (by decide +kernel), tl _ (by decide +kernel), tl _ (by decide +kernel), tl _ (by decide +kernel), tl _ (by decide +kernel), tl _ (by decide +kernel), hd _ _ wp⟩
  · rw [List.all_cons, List.all_cons, List.all_cons, show numB [] = false from rfl]; simp
  · rw [List.all_cons, show numB [] = false from rfl]; simp
  · rw [show decide (([dg p.1, dg p.2, [49]] : List (List Nat)).length = 2) = false from rfl]; simp
def spoilt (wd : List Nat) (p : Pl) : List (List Nat) := (spoiltP wd p).map (TL.joinL [32])
/-- a text that may be asked -/
def TxtOk (z : List Nat) : Prop := z.length ≤ 90000 ∧ ∀ c ∈ z, c < 128
/-- lines of a text -/
def LinOk (M : List (List Nat)) : Prop := M ≠ [] ∧ M.length ≤ 100 ∧ ∀ l ∈ M, l.length ≤ 100 ∧ ∀ c ∈ l, c ≠ 10 ∧ c < 128
theorem LinOk.txt {M : List (List Nat)} (h : LinOk M) : TxtOk (TL.joinL [10] M) := by
  refine ⟨Nat.le_trans (joinL_len (m := 100) (by decide) fun l m => (h.2.2 l m).1) ?_, fun c m => ?_⟩
  · have := h.2.1
    omega
  · rcases mem_joinL m with z | ⟨l, hl, z⟩
    · rw [List.mem_singleton.mp z]; decide
    · exact ((h.2.2 l hl).2 c z).2
theorem LinOk.told {M : List (List Nat)} (h : LinOk M) : told0 (S (TL.joinL [10] M)) = toldL (M.map S) := told_J h.1 fun l m z => ((h.2.2 l m).2 10 z).1 rfl
theorem spoilt_lin {wd : List Nat} {p : Pl} (hw : isW wd) (hp : ok1 p) : ∀ x ∈ spoilt wd p, (x.length ≤ 100 ∧ ∀ c ∈ x, c ≠ 10 ∧ c < 128) ∧ lineP (S x) wd = none := fun x hx => by
  obtain ⟨ps, hps, rfl⟩ := List.mem_map.mp hx
  obtain ⟨c1, c2, c3⟩ := spoilt_c hw hp ps hps
  have e := line_J (wd := wd) c1 (fun l m z => ((c3 l m).2 32 z).1 rfl) (fun l m c z => ((c3 l m).2 c z).2.2)
  rw [bad_words hw ps hps] at e
  refine ⟨⟨Nat.le_trans (joinL_len (m := 6) (by decide) fun l m => (c3 l m).1) (by omega), fun c m => ?_⟩, by simpa using e⟩
  rcases mem_joinL m with z | ⟨l, hl, z⟩
  · rw [List.mem_singleton.mp z]; decide
  · exact ((c3 l hl).2 c z).2
theorem good_lin {wd : List Nat} {p : Pl} (hw : isW wd) (hp : ok1 p) : ((plL wd p).length ≤ 100 ∧ ∀ c ∈ plL wd p, c ≠ 10 ∧ c < 128) ∧ lineP (S (plL wd p)) wd = some p := by
  refine ⟨⟨Nat.le_trans (plL_len (by have := hw.c.1; omega) hp.small) (by decide), fun c m => ⟨fun z => ?_, plL_asc (fun c m => (hw.c.2 c m).2.2) p c m⟩⟩, ?_⟩
  · subst z
    exact plL_free10 (fun z => (hw.c.2 10 z).2.1 rfl) p m
  · exact place_plL (fun z => (hw.c.2 32 z).1 rfl) hp (Nat.le_refl _) rfl
/-- a line with another word -/
theorem other_lin {wd wd2 : List Nat} {p : Pl} (hw : isW wd) (hp : ok1 p) (ne : wd ≠ wd2) : lineP (S (plL wd p)) wd2 = none := by
  have e := line_J (ps := wd :: [p.1, p.2].map dg) (wd := wd2) (by simp) (fun l m z => ?_) (fun l m c z => ?_)
  · have w : wordsP (wd :: [p.1, p.2].map dg) wd2 = false := by
      unfold wordsP
      rw [decide_eq_false (fun z => ne (by injection z))]
      rfl
    rw [w] at e
    have e : (lineP (S (plL wd p)) wd2).isSome = false := e
    simpa using e
  · rcases List.mem_cons.mp m with y | y
    · subst y; exact (hw.c.2 32 z).1 rfl
    · obtain ⟨n, _, rfl⟩ := List.mem_map.mp y
      exact (dg_c n 32 z).1 rfl
  · rcases List.mem_cons.mp m with y | y
    · subst y; exact (hw.c.2 c z).2.2
    · obtain ⟨n, _, rfl⟩ := List.mem_map.mp y
      exact (dg_c n c z).2.2
theorem empty_lin (wd : List Nat) (h : wd ≠ []) : lineP (S []) wd = none := by
  have e := line_J (ps := [[]]) (wd := wd) (by simp) (fun l m z => by rw [List.mem_singleton.mp m] at z; cases z) (fun l m c z => by rw [List.mem_singleton.mp m] at z; cases z)
  have w : wordsP [[]] wd = false := by
    unfold wordsP
    rw [decide_eq_false (fun z => h (by injection z with z; exact z.symm))]
    rfl
  rw [w] at e
  have e : (lineP (S []) wd).isSome = false := e
  simpa using e
end
open SX
section
open GxR NdefX PySem.Spec PyProof.Rows
def LsT (st en : Pl) (ps : List Pl) : List (List Nat) := plL stC st :: plL enC en :: ps.map (plL piC)
theorem taskL_eq (st en : Pl) (ps : List Pl) : taskL st en ps = TL.joinL [10] (LsT st en ps) := rfl
theorem wSt : isW stC := .inl rfl
theorem wEn : isW enC := .inr (.inl rfl)
theorem wPi : isW piC := .inr (.inr rfl)
/-- what the law's tasks keep -/
structure TkOk (st en : Pl) (ps : List Pl) : Prop where
  s : ok1 st
  e : ok1 en
  p : ∀ x ∈ ps, ok1 x
  nd : ps.Nodup
  le : ps.length ≤ 60
theorem lin_cons {x : List Nat} {M : List (List Nat)} (hx : x.length ≤ 100 ∧ ∀ c ∈ x, c ≠ 10 ∧ c < 128) (hl : M.length ≤ 99) (h : ∀ l ∈ M, l.length ≤ 100 ∧ ∀ c ∈ l, c ≠ 10 ∧ c < 128) : LinOk (x :: M) :=
  ⟨by simp, by rw [List.length_cons]; omega, fun l m => (List.mem_cons.mp m).elim (fun e => by rw [e]; exact hx) (h l)⟩
theorem pi_lines {ps : List Pl} (h : ∀ x ∈ ps, ok1 x) : ∀ l ∈ ps.map (plL piC), l.length ≤ 100 ∧ ∀ c ∈ l, c ≠ 10 ∧ c < 128 := fun l m => by
  obtain ⟨p, hp, rfl⟩ := List.mem_map.mp m
  exact (good_lin wPi (h p hp)).1
theorem LsT_lines {st en : Pl} {ps : List Pl} (h : TkOk st en ps) : ∀ l ∈ LsT st en ps, l.length ≤ 100 ∧ ∀ c ∈ l, c ≠ 10 ∧ c < 128 := fun l m => by
  rcases List.mem_cons.mp m with z | z
  · rw [z]; exact (good_lin wSt h.s).1
  · rcases List.mem_cons.mp z with z | z
    · rw [z]; exact (good_lin wEn h.e).1
    · exact pi_lines h.p l z
theorem LsT_len (st en : Pl) (ps : List Pl) : (LsT st en ps).length = ps.length + 2 := by
  unfold LsT
  rw [List.length_cons, List.length_cons, List.length_map]
theorem pi_read {ps : List Pl} (h : ∀ x ∈ ps, ok1 x) : ((ps.map (plL piC)).map S).map (fun z => lineP z piC) = ps.map some := by
  rw [List.map_map, List.map_map]
  exact List.map_congr_left fun p hp => (good_lin wPi (h p hp)).2
/-- the first two lines stand: what the others tell -/
theorem toldL_two {st en : Pl} {R : List (List Nat)} (hs : ok1 st) (he : ok1 en) : toldL ((plL stC st :: plL enC en :: R).map S) = told3 ((R.map S).map fun z => lineP z piC) := by
  rw [List.map_cons, List.map_cons, toldL_cons, (good_lin wSt hs).2, Option.isSome_some, if_pos rfl, told2_cons, (good_lin wEn he).2, Option.isSome_some, if_pos rfl]
theorem told3_good {ps : List Pl} {r : List (Option Pl)} (nd : ps.Nodup) (l : ps.length ≤ 60) : told3 (ps.map some ++ r) = match picksR r (3 + ps.length) ps with | .inl n => n | .inr _ => 0 := by
  unfold told3
  rw [picksR_good ps r 3 [] (by simpa using nd) (by simpa using l)]
  rfl
/-- told of a list of lines: it is asked in a text of these lines -/
def Asks (z : List Nat) (n : Int) : Prop := TxtOk z ∧ told0 (S z) = n
theorem asks_of {M : List (List Nat)} {n : Nat} (h : LinOk M) (e : toldL (M.map S) = n) : Asks (TL.joinL [10] M) (n : Int) := ⟨h.txt, by rw [h.told, e]⟩
theorem joinL_snoc {s : List Nat} {M : List (List Nat)} {x : List Nat} (h : M ≠ []) : TL.joinL s M ++ (s ++ x) = TL.joinL s (M ++ [x]) := by
  induction M with
  | nil => exact absurd rfl h
  | cons a l ih =>
    cases l with
    | nil => rfl
    | cons b r =>
      show (a ++ (s ++ TL.joinL s (b :: r))) ++ (s ++ x) = a ++ (s ++ TL.joinL s (b :: r ++ [x]))
      rw [← ih (by simp), List.append_assoc, List.append_assoc]
section
variable {st en : Pl} {ps : List Pl} (h : TkOk st en ps)
include h
theorem LsT_ok : LinOk (LsT st en ps) := ⟨by unfold LsT; simp, by rw [LsT_len]; have := h.le; omega, LsT_lines h⟩
theorem asks_good : Asks (taskL st en ps) 0 := by
  refine asks_of (M := LsT st en ps) (n := 0) (LsT_ok h) ?_
  unfold LsT
  rw [toldL_two h.s h.e, pi_read h.p, ← List.append_nil (ps.map some), told3_good h.nd h.le]
  rfl
/-- a line behind them that cannot stand -/
theorem asks_more {x : List Nat} (hx : x.length ≤ 100 ∧ ∀ c ∈ x, c ≠ 10 ∧ c < 128) (bad : ∀ p, lineP (S x) piC = some p → p ∈ ps) : Asks (taskL st en ps ++ ([10] ++ x)) ((LsT st en ps).length + 1 : Nat) := by
  rw [taskL_eq, joinL_snoc (LsT_ok h).1]
  refine asks_of ⟨by simp, by rw [List.length_append, LsT_len]; have := h.le; simp; omega, fun l m => (List.mem_append.mp m).elim (LsT_lines h l) fun z => by rw [List.mem_singleton.mp z]; exact hx⟩ ?_
  unfold LsT
  rw [List.cons_append, List.cons_append, toldL_two h.s h.e, List.map_append, List.map_append, pi_read h.p, told3_good h.nd h.le]
  show (match picksR [lineP (S x) piC] (3 + ps.length) ps with | .inl n => n | .inr _ => 0) = _
  rw [List.length_cons, List.length_cons, List.length_map]
  cases e : lineP (S x) piC with
  | none => show 3 + ps.length = _; omega
  | some p =>
    show (match (if p ∈ ps ∨ 60 ≤ ps.length then Sum.inl (3 + ps.length) else picksR [] _ _ : Nat ⊕ List Pl) with | .inl n => n | .inr _ => 0) = _
    rw [if_pos (.inl (bad p e))]
    show 3 + ps.length = _
    omega
theorem asks_dup {p : Pl} (hp : p ∈ ps) : Asks (taskL st en ps ++ ([10] ++ plL piC p)) ((LsT st en ps).length + 1 : Nat) :=
  asks_more h (good_lin wPi (h.p p hp)).1 fun q e => by rw [(good_lin wPi (h.p p hp)).2] at e; injection e with e; exact e ▸ hp
theorem asks_nl : Asks (taskL st en ps ++ ([10] ++ [])) ((LsT st en ps).length + 1 : Nat) :=
  asks_more h ⟨by simp, fun c m => by cases m⟩ fun q e => by rw [empty_lin piC (by decide)] at e; cases e
theorem asks_l0 : Asks (taskL st en ps ++ ([10] ++ plL stC st)) ((LsT st en ps).length + 1 : Nat) :=
  asks_more h (good_lin wSt h.s).1 fun q e => by rw [other_lin wSt h.s (by decide)] at e; cases e
theorem asks_l1 : Asks (taskL st en ps ++ ([10] ++ plL enC en)) ((LsT st en ps).length + 1 : Nat) :=
  asks_more h (good_lin wEn h.e).1 fun q e => by rw [other_lin wEn h.e (by decide)] at e; cases e
theorem asks_first : Asks (plL stC st) 2 := by
  refine asks_of (M := [plL stC st]) (n := 2) (lin_cons (good_lin wSt h.s).1 (by decide) (fun _ z => nomatch z)) ?_
  rw [List.map_cons, toldL_cons, (good_lin wSt h.s).2]
  rfl
theorem asks_tail : Asks (TL.joinL [10] (plL enC en :: ps.map (plL piC))) 1 := by
  refine asks_of (n := 1) (lin_cons (good_lin wEn h.e).1 (by rw [List.length_map]; have := h.le; omega) (pi_lines h.p)) ?_
  rw [List.map_cons, toldL_cons, other_lin wEn h.e (by decide)]
  rfl
theorem asks_two {x : List Nat} (hx : x.length ≤ 100 ∧ ∀ c ∈ x, c ≠ 10 ∧ c < 128) (bad : lineP (S x) enC = none) : Asks (plL stC st ++ ([10] ++ x)) 2 := by
  refine asks_of (M := [plL stC st, x]) (n := 2) (lin_cons (good_lin wSt h.s).1 (by show 1 ≤ 99; decide) (fun l z => by rw [List.mem_singleton.mp z]; exact hx)) ?_
  rw [List.map_cons, toldL_cons, (good_lin wSt h.s).2, Option.isSome_some, if_pos rfl, List.map_cons, told2_cons, bad]
  rfl
/-- other picks behind the first two lines -/
theorem asks_many {qs : List Pl} (ho : ∀ x ∈ qs, ok1 x) (nd : qs.Nodup) (l : qs.length ≤ 60) : Asks (TL.joinL [10] (LsT st en qs)) 0 := asks_good ⟨h.s, h.e, ho, nd, l⟩
theorem asks_over {qs : List Pl} {q : Pl} (ho : ∀ x ∈ qs, ok1 x) (hq : ok1 q) (nd : qs.Nodup) (l : qs.length = 60) : Asks (TL.joinL [10] (LsT st en (qs ++ [q]))) 63 := by
  have l1 : ∀ x ∈ qs ++ [q], ok1 x := fun x m => (List.mem_append.mp m).elim (ho x) fun z => by rw [List.mem_singleton.mp z]; exact hq
  refine asks_of (n := 63) ⟨by unfold LsT; simp, by rw [LsT_len, List.length_append, l]; show 60 + 1 + 2 ≤ 100; decide, fun x m => ?_⟩ ?_
  · rcases List.mem_cons.mp m with z | z
    · rw [z]; exact (good_lin wSt h.s).1
    · rcases List.mem_cons.mp z with z | z
      · rw [z]; exact (good_lin wEn h.e).1
      · exact pi_lines l1 x z
  · unfold LsT
    rw [toldL_two h.s h.e, pi_read l1, List.map_append, told3_good nd (by omega), l]
    show (match (if q ∈ qs ∨ 60 ≤ qs.length then Sum.inl (3 + 60) else picksR [] _ _ : Nat ⊕ List Pl) with | .inl n => n | .inr _ => 0) = 63
    rw [if_pos (.inr (by omega))]
/-- one line spoilt -/
def wordAt (a : Nat) : List Nat := if a = 0 then stC else if a = 1 then enC else piC
theorem asks_spoilt {a : Nat} {x : List Nat} (ha : a < (LsT st en ps).length) (hx : x.length ≤ 100 ∧ ∀ c ∈ x, c ≠ 10 ∧ c < 128) (bad : lineP (S x) (wordAt a) = none) : Asks (TL.joinL [10] ((LsT st en ps).take a ++ [x] ++ (LsT st en ps).drop (a + 1))) (a + 1 : Nat) := by
  have len : ((LsT st en ps).take a ++ [x] ++ (LsT st en ps).drop (a + 1)).length ≤ 100 := by
    rw [List.length_append, List.length_append, List.length_take, List.length_drop, LsT_len, List.length_singleton]
    have := h.le
    omega
  refine asks_of ⟨by simp, len, fun l m => ?_⟩ ?_
  · rcases List.mem_append.mp m with z | z
    · rcases List.mem_append.mp z with z | z
      · exact LsT_lines h l (List.mem_of_mem_take z)
      · rw [List.mem_singleton.mp z]; exact hx
    · exact LsT_lines h l (List.mem_of_mem_drop z)
  · match a, bad with
    | 0, bad =>
      show toldL (S x :: _) = 1
      rw [toldL_cons, show lineP (S x) stC = none from bad]
      rfl
    | 1, bad =>
      show toldL (S (plL stC st) :: S x :: _) = 2
      rw [toldL_cons, (good_lin wSt h.s).2, Option.isSome_some, if_pos rfl, told2_cons, show lineP (S x) enC = none from bad]
      rfl
    | a + 2, bad =>
      have bad : lineP (S x) piC = none := by
        have e : wordAt (a + 2) = piC := by unfold wordAt; rw [if_neg (by omega), if_neg (by omega)]
        rw [e] at bad
        exact bad
      rw [LsT_len] at ha
      have eq : (LsT st en ps).take (a + 2) ++ [x] ++ (LsT st en ps).drop (a + 2 + 1) = plL stC st :: plL enC en :: ((ps.take a).map (plL piC) ++ ([x] ++ (ps.drop (a + 1)).map (plL piC))) := by
        unfold LsT
        rw [List.map_take, List.map_drop, List.append_assoc]
        rfl
      rw [eq, toldL_two h.s h.e, List.map_append, List.map_append, pi_read (fun y m => h.p y (List.mem_of_mem_take m)), told3_good (h.nd.sublist (List.take_sublist _ _)) (by rw [List.length_take]; have := h.le; omega)]
      show (match picksR (lineP (S x) piC :: _) (3 + (ps.take a).length) (ps.take a) with | .inl n => n | .inr _ => 0) = _
      rw [bad, List.length_take]
      show 3 + min a ps.length = _
      omega
end
theorem asks_empty : Asks [] 1 := by
  refine asks_of (M := [[]]) (n := 1) ⟨by simp, by decide, fun l m => by rw [List.mem_singleton.mp m]; exact ⟨by decide, fun c z => nomatch z⟩⟩ ?_
  rw [List.map_cons, toldL_cons, empty_lin stC (by decide)]
  rfl
end
open SX
section
open GxR NdefX PySem.Spec PyProof.Rows
def wordB (y : List Nat) : Bool := (TL.spl [58] 0 [] y).all numB && decide ((TL.spl [58] 0 [] y).length = 2)
theorem wordP_B {y : List Nat} (ha : ∀ c ∈ y, c < 128) : (wordP (S y)).isSome = wordB y := by
  have e : Txt.split (S y) (S [58]) = (TL.spl [58] 0 [] y).map S := split_S (by simp) (by decide)
  unfold wordP wordB
  rw [e]
  have e2 : ((TL.spl [58] 0 [] y).map S).all isNum = (TL.spl [58] 0 [] y).all numB := by
    rw [List.all_map]
    refine all_congr_mem fun a ma => isNum_B fun c hc => ?_
    rcases spl_mem y 0 [] a ma c hc with z | z
    · cases z
    · exact ha c z
  rw [e2]
  cases h : (TL.spl [58] 0 [] y).all numB with
  | false => rfl
  | true =>
    rw [if_pos rfl, Bool.true_and]
    match TL.spl [58] 0 [] y with
    | [] => rfl
    | [a] => rfl
    | [a, b] => rfl
    | a :: b :: c :: r => simp
def AsksW (z : List Nat) (n : Int) : Prop := TxtOk z ∧ told1 (S z) = n
/-- words of a walk's text -/
def WorOk (M : List (List Nat)) : Prop := M ≠ [] ∧ M.length ≤ 100 ∧ ∀ l ∈ M, l.length ≤ 100 ∧ ∀ c ∈ l, c ≠ 32 ∧ c < 128
theorem WorOk.txt {M : List (List Nat)} (h : WorOk M) : TxtOk (TL.joinL [32] M) := by
  refine ⟨Nat.le_trans (joinL_len (m := 100) (by decide) fun l m => (h.2.2 l m).1) ?_, fun c m => ?_⟩
  · have := h.2.1
    omega
  · rcases mem_joinL m with z | ⟨l, hl, z⟩
    · rw [List.mem_singleton.mp z]; decide
    · exact ((h.2.2 l hl).2 c z).2
theorem WorOk.told {M : List (List Nat)} (h : WorOk M) : told1 (S (TL.joinL [32] M)) = if (M.all wordB) = true then 0 else 1 := by
  unfold told1
  rw [split_joinL (c := 32) (by decide) h.1 (fun l m z => ((h.2.2 l m).2 32 z).1 rfl), List.all_map]
  have e : M.all ((fun y => (wordP y).isSome) ∘ S) = M.all wordB := all_congr_mem fun l m => wordP_B fun c z => ((h.2.2 l m).2 c z).2
  rw [e]
theorem asksW_bad {M : List (List Nat)} (h : WorOk M) {b : List Nat} (m : b ∈ M) (e : wordB b = false) : AsksW (TL.joinL [32] M) 1 := ⟨h.txt, by rw [h.told, if_neg (fun z => by rw [List.all_eq_true.mp z b m] at e; cases e)]⟩
theorem plW_ok {p : Pl} (h : small p) : ((plW p).length ≤ 20 ∧ ∀ c ∈ plW p, c ≠ 32 ∧ c < 128) ∧ wordB (plW p) = true := by
  refine ⟨⟨plW_len h, fun c m => ⟨fun z => by subst z; exact plW_free32 p m, plW_asc p c m⟩⟩, ?_⟩
  rw [← wordP_B (plW_asc p), wordP_plW h]
  rfl
theorem plW_more {p : Pl} {x y : List Nat} (hx : 58 ∉ x) (hy : 58 ∉ y) : wordB (plW p ++ (x ++ ([58] ++ y))) = false := by
  have e : plW p ++ (x ++ ([58] ++ y)) = TL.joinL [58] [dg p.1, dg p.2 ++ x, y] := by
    unfold plW
    show dg p.1 ++ [58] ++ dg p.2 ++ (x ++ ([58] ++ y)) = dg p.1 ++ ([58] ++ ((dg p.2 ++ x) ++ ([58] ++ y)))
    simp [List.append_assoc]
  have s : TL.spl [58] 0 [] (TL.joinL [58] [dg p.1, dg p.2 ++ x, y]) = [dg p.1, dg p.2 ++ x, y] := spl_join (by simp) fun l m => by
    simp only [List.mem_cons, List.not_mem_nil, or_false] at m
    rcases m with rfl | rfl | rfl
    · exact free58 _
    · exact fun z => (List.mem_append.mp z).elim (free58 _) hx
    · exact hy
  unfold wordB
  rw [e, s]
  simp
section
variable {ps : List Pl} (hs : ∀ p ∈ ps, small p) (hl : ps.length ≤ 60)
include hs hl
theorem W_ok (hne : ps ≠ []) : WorOk (ps.map plW) := ⟨fun z => hne (List.map_eq_nil_iff.mp z), by rw [List.length_map]; omega, fun l m => by
  obtain ⟨p, hp, rfl⟩ := List.mem_map.mp m
  have := (plW_ok (hs p hp)).1
  exact ⟨by omega, this.2⟩⟩
theorem asksW_good (hne : ps ≠ []) : AsksW (walkL ps) 0 := ⟨(W_ok hs hl hne).txt, by
  unfold walkL
  rw [(W_ok hs hl hne).told, if_pos]
  rw [List.all_eq_true]
  intro l m
  obtain ⟨p, hp, rfl⟩ := List.mem_map.mp m
  exact (plW_ok (hs p hp)).2⟩
/-- words behind a walk -/
theorem asksW_more (hne : ps ≠ []) {x : List Nat} (hx : x.length ≤ 100 ∧ ∀ c ∈ x, c ≠ 32 ∧ c < 128) (b : wordB x = false) : AsksW (walkL ps ++ ([32] ++ x)) 1 := by
  have o := W_ok hs hl hne
  unfold walkL
  rw [joinL_snoc o.1]
  refine asksW_bad ⟨by simp, by rw [List.length_append, List.length_map]; show ps.length + 1 ≤ 100; omega, fun l m => (List.mem_append.mp m).elim (o.2.2 l) fun z => by rw [List.mem_singleton.mp z]; exact hx⟩ (List.mem_append_right _ (List.mem_singleton.mpr rfl)) b
theorem asksW_ahead (hne : ps ≠ []) : AsksW ([32] ++ walkL ps) 1 := by
  have o := W_ok hs hl hne
  have e : [32] ++ walkL ps = TL.joinL [32] ([] :: ps.map plW) := by
    unfold walkL
    cases h : ps.map plW with
    | nil => exact absurd h o.1
    | cons a l => rfl
  rw [e]
  exact asksW_bad ⟨by simp, by rw [List.length_cons, List.length_map]; omega, fun l m => (List.mem_cons.mp m).elim (fun z => by rw [z]; exact ⟨by decide, fun c z => nomatch z⟩) (o.2.2 l)⟩ List.mem_cons_self (by decide +kernel)
theorem asksW_two (hne : ps ≠ []) : AsksW (walkL ps ++ [32, 32, 48, 58, 48]) 1 := by
  have o := W_ok hs hl hne
  have e : walkL ps ++ [32, 32, 48, 58, 48] = TL.joinL [32] (ps.map plW ++ [[]] ++ [[48, 58, 48]]) := by
    rw [← joinL_snoc (by simp), ← joinL_snoc o.1]
    unfold walkL
    simp [List.append_assoc]
  rw [e]
  refine asksW_bad (b := []) ⟨by simp, by rw [List.length_append, List.length_append, List.length_map]; show ps.length + 1 + 1 ≤ 100; omega, fun l m => ?_⟩ (by simp) (by decide +kernel)
  rcases List.mem_append.mp m with z | z
  · rcases List.mem_append.mp z with z | z
    · exact o.2.2 l z
    · rw [List.mem_singleton.mp z]; exact ⟨by decide, fun c z => nomatch z⟩
  · rw [List.mem_singleton.mp z]; exact ⟨by decide, by decide⟩
theorem asksW_last (hne : ps ≠ []) {x y : List Nat} (hx : x.length + y.length ≤ 50 ∧ ∀ c ∈ x ++ y, c ≠ 32 ∧ c < 128) (fx : 58 ∉ x) (fy : 58 ∉ y) : AsksW (walkL ps ++ (x ++ ([58] ++ y))) 1 := by
  obtain ⟨qs, l, rfl⟩ : ∃ qs l, ps = qs ++ [l] := ⟨ps.dropLast, ps.getLast hne, (List.dropLast_concat_getLast hne).symm⟩
  have o := W_ok hs hl hne
  have pl := plW_ok (hs l (by simp))
  have e : walkL (qs ++ [l]) ++ (x ++ ([58] ++ y)) = TL.joinL [32] (qs.map plW ++ [plW l ++ (x ++ ([58] ++ y))]) := by
    unfold walkL
    rw [List.map_append]
    show TL.joinL [32] (qs.map plW ++ [plW l]) ++ _ = _
    cases h : qs.map plW with
    | nil => rfl
    | cons a r => rw [← joinL_snoc (by simp), ← joinL_snoc (by simp)]; simp [List.append_assoc]
  rw [e]
  refine asksW_bad ⟨by simp, by rw [List.length_append, List.length_map]; rw [List.length_append] at hl; show qs.length + 1 ≤ 100; have : [l].length = 1 := rfl; omega, fun z m => ?_⟩ (List.mem_append_right _ (List.mem_singleton.mpr rfl)) (plW_more fx fy)
  rcases List.mem_append.mp m with m | m
  · exact o.2.2 z (by rw [List.map_append]; exact List.mem_append_left _ m)
  · rw [List.mem_singleton.mp m]
    refine ⟨by rw [List.length_append, List.length_append, List.length_append]; show _ + (_ + (1 + _)) ≤ 100; omega, fun c hc => ?_⟩
    rcases List.mem_append.mp hc with q | q
    · exact pl.1.2 c q
    · rcases List.mem_append.mp q with q | q
      · exact hx.2 c (List.mem_append_left _ q)
      · rcases List.mem_append.mp q with q | q
        · rw [List.mem_singleton.mp q]; decide
        · exact hx.2 c (List.mem_append_right _ q)
/-- the law's wrong walks -/
theorem asksW_all1 (hne : ps ≠ []) : ∀ x ∈ ([[], [32], walkL ps ++ [32], [32] ++ walkL ps, walkL ps ++ [32, 32, 48, 58, 48], walkL ps ++ [32, 48], walkL ps ++ [32, 48, 58, 48, 58, 48], walkL ps ++ [32, 48, 58], walkL ps ++ [32, 58, 48], walkL ps ++ [32, 48, 48, 58, 48], walkL ps ++ [32, 48, 58, 45, 49], walkL ps ++ [44, 48, 58, 48]] : List (List Nat)), AsksW x 1 := by
  simp only [List.forall_mem_cons, List.not_mem_nil, false_implies, implies_true, and_true]
  refine ⟨?_, ?_, ?_, asksW_ahead hs hl hne, asksW_two hs hl hne, ?_, ?_, ?_, ?_, ?_, ?_, ?_⟩
  · exact asksW_bad (M := [[]]) (b := []) ⟨by simp, by decide, fun l m => by rw [List.mem_singleton.mp m]; exact ⟨by decide, fun c z => nomatch z⟩⟩ (by simp) (by decide +kernel)
  · exact asksW_bad (M := [[], []]) (b := []) ⟨by simp, by decide, fun l m => by simp at m; rw [m]; exact ⟨by decide, fun c z => nomatch z⟩⟩ (by simp) (by decide +kernel)
  · exact asksW_more hs hl hne (x := []) ⟨by decide, fun c z => nomatch z⟩ (by decide +kernel)
  · exact asksW_more hs hl hne (x := [48]) ⟨by decide, by decide⟩ (by decide +kernel)
  · exact asksW_more hs hl hne (x := [48, 58, 48, 58, 48]) ⟨by decide, by decide⟩ (by decide +kernel)
  · exact asksW_more hs hl hne (x := [48, 58]) ⟨by decide, by decide⟩ (by decide +kernel)
  · exact asksW_more hs hl hne (x := [58, 48]) ⟨by decide, by decide⟩ (by decide +kernel)
  · exact asksW_more hs hl hne (x := [48, 48, 58, 48]) ⟨by decide, by decide⟩ (by decide +kernel)
  · exact asksW_more hs hl hne (x := [48, 58, 45, 49]) ⟨by decide, by decide⟩ (by decide +kernel)
  · exact asksW_last hs hl hne (x := [44, 48]) (y := [48]) ⟨by decide, by decide⟩ (by decide) (by decide)
theorem asksW_all2 (hne : ps ≠ []) : ∀ x ∈ ([[48, 58, 120], [120, 58, 48], [48, 58, 49, 50, 51, 52, 53], [43, 49, 58, 48], [48, 32, 48], [48, 58, 49, 95, 48], walkL ps ++ [10, 48, 58, 48]] : List (List Nat)), AsksW x 1 := by
  have one : ∀ w : List Nat, (decide (w.length ≤ 100) && w.all fun c => decide (c ≠ 32) && decide (c < 128)) = true → wordB w = false → AsksW w 1 := fun w h b => by
    rw [Bool.and_eq_true, decide_eq_true_eq] at h
    exact asksW_bad (M := [w]) (b := w) ⟨by simp, by show 1 ≤ 100; decide, fun l m => by rw [List.mem_singleton.mp m]; exact ⟨h.1, fun c z => by have := List.all_eq_true.mp h.2 c z; simpa using this⟩⟩ (by simp) b
  simp only [List.forall_mem_cons, List.not_mem_nil, false_implies, implies_true, and_true]
  refine ⟨one _ (by decide) (by decide +kernel), one _ (by decide) (by decide +kernel), one _ (by decide) (by decide +kernel), one _ (by decide) (by decide +kernel), ?_, one _ (by decide) (by decide +kernel), ?_⟩
  · exact asksW_bad (M := [[48], [48]]) (b := [48]) ⟨by simp, by decide, by decide⟩ (by simp) (by decide +kernel)
  · exact asksW_last hs hl hne (x := [10, 48]) (y := [48]) ⟨by decide, by decide⟩ (by decide) (by decide)
end
theorem asksW_9999 : AsksW [48, 58, 57, 57, 57, 57] 0 := by
  have o : WorOk [[48, 58, 57, 57, 57, 57]] := ⟨by simp, by decide, by decide⟩
  refine ⟨o.txt, ?_⟩
  have e := o.told
  rw [show ([[48, 58, 57, 57, 57, 57]].all wordB) = true from by decide +kernel] at e
  exact e
end
open SX
section
open GxR NdefX PySem.Spec PyProof.Rows
variable {P : Program} {w : World} {K : PySem.W.Frag} {mg : Str → Option Value} {base : Heap}
structure TD where
  st : Pl
  en : Pl
  ps : List Pl
def RTask (C : Addr) (t : TD) : Rel := ⟨fun H v => ∃ p, v = .ref p ∧ TaskAt C H p t.st t.en t.ps, fun k ⟨p, e, q⟩ => ⟨p, e, q.kp k⟩⟩
theorem Dt.pr {H : Hp} {v : V} {p : Pl} (h : Dt H v (dP p)) : Pr H v p := by
  cases h with
  | tup e a =>
    cases a with
    | cons a1 a =>
      cases a with
      | cons a2 a =>
        cases a
        cases a1
        cases a2
        exact ⟨_, rfl, e⟩
theorem Pr.dt {H : Hp} {v : V} {p : Pl} (h : Pr H v p) : Dt H v (dP p) := by
  obtain ⟨t, rfl, e⟩ := h
  exact .tup e (.cons (.int _) (.cons (.int _) .nil))
theorem Prs.dt {H : Hp} {vs : List V} {ps : List Pl} (h : Prs H vs ps) : DtAll H vs (ps.map dP) := by
  induction h with
  | nil => exact .nil
  | cons a _ ih => exact .cons a.dt ih
theorem DtAll.prs {H : Hp} : ∀ {vs : List V} {ps : List Pl}, DtAll H vs (ps.map dP) → Prs H vs ps
  | [], [], _ => .nil
  | [], _ :: _, h => by cases h
  | _ :: _, [], h => by cases h
  | _ :: _, _ :: _, .cons a b => .cons a.pr b.prs
theorem flats_map {α : Type} {f : α → PyData} (h : ∀ a, flat (f a) = true) : ∀ xs : List α, flats (xs.map f) = true
  | [] => rfl
  | x :: xs => by
    show (flat (f x) && flats (xs.map f)) = true
    rw [h x, flats_map h xs]
    rfl
section
variable {b : Bool} {c : Ct} {te : TE} {ta : TA} {R R0 : Rel}
theorem Pr.less {H : Hp} {M : Addr → Prop} (hM : ∀ a, M a → ∃ o, H a = some o ∧ Mut (some o)) {v : V} {p : Pl} (h : Pr H v p) : Pr (less H M) v p := (Dt.less hM h.dt rfl).pr
theorem Prs.less {H : Hp} {M : Addr → Prop} (hM : ∀ a, M a → ∃ o, H a = some o ∧ Mut (some o)) {vs : List V} {ps : List Pl} (h : Prs H vs ps) : Prs (less H M) vs ps := (DtAll.less hM h.dt (flats_map (fun _ => rfl) _)).prs
/-- Task(start, end, picks) -/
theorem e_mkTask {C CI : Addr} {E' : XK} {st en : Pl} {ps : List Pl} (h60 : ps.length ≤ 60) (nd : ps.Nodup) (ha : EA true c ta [RD (dP st), RD (dP en), RD (.list (ps.map dP))]) : E true c (tMake C (spTask K C CI) [] E' ta) (RTask C ⟨st, en, sortP ps⟩) := fun σ H s Q q =>
  ha σ H s _ fun H1 vs k1 r1 => fun x dx nx ndx ne => by
    obtain ⟨va, r, rfl, h1, vb, r', rfl, h2, vl, r'', rfl, h3, rfl⟩ := r1
    have s1 := s.kp k1
    have up : ∀ {v : V} {d : PyData}, Dt (hb true c σ H1) v d → Dt H1 v d := fun d => d.kp kp_less
    have k5 := mkSame (o := .ins C dx []) (u := .own x) nx ndx
    cases up h3 with
    | @lst l xs _ e a =>
      refine ⟨x, dx, l, va, vb, st, en, xs, ps, rfl, upd_same, (up h1).pr.same k5, (up h2).pr.same k5, SqL.of (k5 _ _ e), a.prs.same k5, by omega, fun _ _ H6 hT hb6 hr => ⟨rfl, ?_⟩, fun bad => absurd ⟨h60, nd⟩ bad⟩
      have c6 := mkBut nx ndx hb6
      have s6 := s1.kp (kpS c6)
      refine q H6 _ (k1.trans (kpS c6)) ⟨x, rfl, ?_⟩
      obtain ⟨dx', l', a', b', ys, e1, pa, pb, el, px, rest⟩ := hT
      have nl : H1 l' = none := by
        have z := hr dx' a' b' l' e1
        by_cases w1 : l' = x
        · rw [w1, upd_same] at z
          cases z
        · rw [upd_ne w1] at z
          by_cases w2 : l' = dx
          · rw [w2, upd_same] at z
            cases z
          · rw [upd_ne w2] at z
            exact z
      have hid : ∀ a, msk true c σ a → ∃ o, H6 a = some o ∧ Mut (some o) := fun a m => s6.hides a m
      have out : ∀ {a : Addr}, H1 a = none → ¬ msk true c σ a := fun n m => by
        obtain ⟨o, e, _⟩ := s1.hides _ m
        rw [n] at e
        cases e
      exact ⟨dx', l', a', b', ys, by rw [hb, less_out (out nx)]; exact e1, pa.less hid, pb.less hid, by rw [hb, less_out (out nl)]; exact el, px.less hid, rest⟩
end
abbrev dX : List Nat → PyData := fun a => .str (S a)
section
variable {b : Bool} {c : Ct} {K : PySem.W.Frag} {t tb u : TE} {x y z p q : List Nat} {M : List (List Nat)} {R : Rel}
theorem e_strS {s : Str} (e : s = S x) : E b c (tC (.str s)) (RD (dX x)) := by subst e; exact e_str
theorem o_catS (h : x.length + y.length ≤ 1000000) : O2 (fun x y H Q => ∃ i j, x = .str i ∧ y = .str j ∧ i.length + j.length ≤ sizeLine ∧ Q (.str (i ++ j)) H) (RD (dX x)) (RD (dX y)) (RD (dX (x ++ y))) := by
  have z := o_cats (x := S x) (y := S y) (by rw [S_len, S_len]; exact Nat.le_trans h (by decide))
  rw [S_cat] at z
  exact z
theorem strs_dt {H : Hp} : ∀ M : List (List Nat), DtAll H ((M.map S).map V.str) (M.map dX)
  | [] => .nil
  | a :: l => .cons (.str _) (strs_dt l)
theorem dt_strs {H : Hp} : ∀ {vs : List V} {M : List (List Nat)}, DtAll H vs (M.map dX) → vs = (M.map S).map V.str
  | [], [], _ => rfl
  | [], _ :: _, h => by cases h
  | _ :: _, [], h => by cases h
  | _ :: _, _ :: _, .cons a r => by
    cases a
    rw [dt_strs r]
    rfl
theorem n_splitS (h : E false c t (RD (dX x))) (hs : E false c u (RD (dX y))) (hy : (y.length == 0) = false) (hl : x.length ≤ 1000000) (e : Txt.split (S x) (S y) = M.map S) :
    EN c (tM1 (fun x xs H Q => ∃ a b, x = .str a ∧ xs = [.str b] ∧ (b.length == 0) = false ∧ a.length + 2 ≤ sizeLine ∧ rNewStrs (Txt.split a b) H Q) t u) (OL (M.map dX)) := fun σ H s Q qq =>
  h σ H s _ fun H1 v k1 r1 => by
    cases r1
    refine ⟨⟨_, rfl⟩, hs σ H1 (s.kp k1) _ fun H2 v2 k2 r2 => ?_⟩
    cases r2
    refine ⟨S x, S y, rfl, rfl, by rw [S_len]; exact hy, by rw [S_len]; exact Nat.le_trans (Nat.add_le_add_right hl 2) (by decide), fun a na => ?_⟩
    rw [e]
    exact qq H2 a _ (k1.trans k2) na ⟨_, rfl, strs_dt M⟩
theorem e_joinS (h : E false c t (RD (dX x))) (hs : EI c u (M.map dX)) (hl : ((M.map S).map (·.length)).sum + (M.map S).length * (S x).length ≤ 16777216) :
    E b c (tM1 (fun x xs H Q => ∃ a p, ∃ ys : List Str, x = .str a ∧ xs = [.ref p] ∧ (SqL K H p (ys.map V.str) ∨ SqT K H p (ys.map V.str)) ∧ (ys.map (·.length)).sum + ys.length * a.length ≤ 16777216 ∧ Q (.str (Txt.join a ys)) H) t u) (RD (dX (TL.joinL x M))) := fun σ H s Q qq =>
  h σ H s _ fun H1 v k1 r1 => by
    cases r1
    refine ⟨⟨_, rfl⟩, hs σ H1 (s.kp k1) _ fun H2 a vs k2 e2 r2 => ?_⟩
    have ev := dt_strs r2
    subst ev
    refine ⟨S x, a, M.map S, rfl, rfl, .inl (SqL.of e2), hl, ?_⟩
    rw [join_S]
    exact qq H2 _ (k1.trans k2) (.str _)
theorem e_upperS (h : E false c t (RD (dX x))) (hl : x.length ≤ 1000) (e : Txt.upper (S x) = S y) : E b c (tM0 (fun x xs H Q => ∃ a, x = .str a ∧ xs = [] ∧ a.length ≤ 5592405 ∧ Q (.str (Txt.upper a)) H) t) (RD (dX y)) := fun σ H s Q qq =>
  h σ H s _ fun H1 v k1 r1 => by
    cases r1
    refine ⟨⟨_, rfl⟩, S x, rfl, rfl, by rw [S_len]; exact Nat.le_trans hl (by decide), ?_⟩
    rw [e]
    exact qq H1 _ k1 (.str _)
theorem o_strI {i : Int} (h0 : 0 ≤ i) (h1 : i < 100000) : On (fun xs H Q => ∃ i, xs = [.int i] ∧ i.natAbs.log2 < 1920 ∧ Q (.str (toString i)) H) [RD (.int i)] (RD (dX (dg i))) := fun H M vs _ r Q qq => by
  obtain ⟨v, r', rfl, h, rfl⟩ := r
  cases h
  refine ⟨i, rfl, small_log h0 h1, ?_⟩
  rw [show (toString i : Str) = S (dg i) from dg_str h0]
  exact qq H _ (Kp.refl _) (.str _)
theorem e_repl1 {k : Nat} (h : E true c t (RD (dX (p ++ k :: q)))) (hp : k ∉ p) (hl : (p ++ k :: q).length + z.length ≤ 1000000) : E b c (tRepl1 t k z) (RD (dX (p ++ z ++ q))) := fun σ H s Q qq =>
  h σ H s _ fun H1 v k1 r1 => by
    cases r1
    exact ⟨p, q, rfl, hp, hl, qq H1 _ k1 (.str _)⟩
end
theorem sok_ftask {CT : Addr} {t : TD} : Sok (spFTask CT) [RTask CT t] (fun _ => small t.st ∧ small t.en ∧ ∀ x ∈ t.ps, small x) (RD (dX (taskL t.st t.en t.ps))) := fun H om vs ho hr hp Q E qq => by
  obtain ⟨v, r, rfl, ⟨p, rfl, hT⟩, rfl⟩ := hr
  exact ⟨p, _, _, _, rfl, hT.kp kp_less, hp.1, hp.2.1, hp.2.2, fun H' k => qq _ _ (kpS k) (.str _)⟩
theorem sok_fwalk {ps : List Pl} : Sok (spFWalk K) [RD (.list (ps.map dP))] (fun _ => (∀ x ∈ ps, small x) ∧ ps.length ≤ 1000) (RD (dX (walkL ps))) := fun H om vs ho hr hp Q E qq => by
  obtain ⟨v, r, rfl, h, rfl⟩ := hr
  cases h with
  | lst e a => exact ⟨_, _, ps, rfl, SqL.of (less_some e).2, (a.kp kp_less).prs, hp.1, hp.2, fun H' k => qq _ _ (kpS k) (.str _)⟩
theorem told_ne {z : List Nat} {n m : Int} (h : Asks z n) (e : n = m) : (!decide (toldI 0 (S z) = m)) = false := by
  have t : toldI 0 (S z) = m := by unfold toldI; rw [if_pos (by decide)]; exact h.2.trans e
  rw [decide_eq_true t]
  rfl
theorem told_neW {z : List Nat} {n m : Int} (h : AsksW z n) (e : n = m) : (!decide (toldI 1 (S z) = m)) = false := by
  have t : toldI 1 (S z) = m := by unfold toldI; rw [if_neg (by decide)]; exact h.2.trans e
  rw [decide_eq_true t]
  rfl
theorem asks_pre {z : List Nat} (h : TxtOk z) : (S z).length ≤ 90000 ∧ asc (S z) := ⟨by rw [S_len]; exact h.1, asc_S h.2⟩
end
section
open GxR NdefX PySem.Spec PyProof.Rows
variable {P : Program} {w : World} {K : PySem.W.Frag} {mg : Str → Option Value} {base : Heap}
structure TopD (P : Program) (w : World) (K : PySem.W.Frag) (mg : Str → Option Value) (base : Heap) (k : Nat) (x : Str) (ps : List Str) (sp : Sp) where
  f : Addr
  fd : FuncData
  G : FnOk P w K mg base CX0 k f fd ps sp
  b : Binds K fd ps []
  g : mg x = some (.ref f)
  kp : PySem.W.keepIn K (.ref f) = true
theorem skx_numbers {ns0 : List Int} {m : Nat} : Skx0 (spNumbers K) [RScr K ns0, RD (.int (m : Int))] (fun _ => ns0.length ≤ 63 ∧ m ≤ 200) (fun ns : List Int => RD (.list (ns.map PyData.int))) (fun ns => ns.length = m ∧ Small ns) := fun H vs hr hp Q E q => by
  obtain ⟨v, r, rfl, ⟨a, rfl, h1⟩, u, r', rfl, h2, rfl⟩ := hr
  cases h2
  exact ⟨a, ns0, m, rfl, h1, hp.1, hp.2, fun H' p ns k n e el sm => q H' _ ns (kpS k) ⟨el, sm⟩ (.lst e (DtAll.ofInts _))⟩
end
section
open GxR NdefX PySem.Spec PyProof.Rows
variable {P : Program} {w : World} {K : PySem.W.Frag} {mg : Str → Option Value} {base : Heap} {x qual : Str} {st : Stmt} {f : Addr} {fd : FuncData} {N ps : List Str} {k : Nat} {α β : Type} {Rs : α → List Rel} {Pr : α → Hp → Prop} {R : β → Rel} {G : α → β → Prop}
def SpX0 {α β : Type} (Rs : α → List Rel) (P : α → Hp → Prop) (R : β → Rel) (G : α → β → Prop) : Sp := fun vs H Q _ => ∃ a : α, Rok (Rs a) H vs ∧ P a H ∧ ∀ H' v y, Kp H H' → G a y → (R y).p H' v → Q v H'
theorem skx0_spx {α β : Type} {Rs : α → List Rel} {P : α → Hp → Prop} {R : β → Rel} {G : α → β → Prop} (a : α) : Skx0 (SpX0 Rs P R G) (Rs a) (P a) R (G a) := fun H vs hr hp Q E q => ⟨a, hr, hp, q⟩
theorem fn_okX0 (F : Fun K x qual st f fd) (S : FnScope N ps (defScope st)) (hl : ∀ a, (Rs a).length = ps.length)
    (hbody : ∀ (cdv : Value) (A : Around) (outer : List Env) (s : Shared) (H : Hp) (E : XK), Room k (A.deeper (envOfC qual (defScope st) s.heap.objs.size f cdv)) →
      ∃ t, PSs (cxOf CX0 P w K mg base N qual (defScope st) f cdv A outer s H E).nox (defBody st) t ∧ ∀ (a : α) (hs : Hp) (Q : VK), Pr a hs → (∀ H' v y, Kp hs H' → G a y → (R y).p (less H' fun _ => False) v → Q v H') → WC ⟨hs, hs, fun _ => False, slots0 (Rs a) N.length⟩ (t { nx := fun _ H' => Q .non H', rt := Q })) :
    FnOk P w K mg base CX0 (k + 1) f fd ps (SpX0 Rs Pr R G) := by
  refine F.ok S (fun vs H Q E h => ?_) (fun cdv A outer s H vs Q E hr h => ?_)
  · obtain ⟨a, hr, _⟩ := h
    rw [hr.len, hl]
  · obtain ⟨a, hR, hP, q⟩ := h
    obtain ⟨t, ht, hw⟩ := hbody cdv A outer s H E hr
    have z := sta_start (H := H) (om := fun _ => False) (N := N) (fun _ z => z.elim) (by rw [less_no]; exact hR)
    rw [less_no] at z
    exact ⟨t, ht, hw a H Q hP (fun H' v y k g r => q H' v y k g (by rw [less_no] at r; exact r)) _ _ z⟩
end
theorem ix_mem {α : Type} [Inhabited α] {xs : List α} {i : Int} (h0 : 0 ≤ i) (h1 : i < xs.length) : ix xs i ∈ xs := by
  obtain ⟨j, rfl⟩ : ∃ j : Nat, i = (j : Int) := ⟨i.toNat, by omega⟩
  have e := List.getElem?_eq_getElem (l := xs) (show j < xs.length by omega)
  rw [ix_nat e]
  exact List.getElem_mem _
open SX
section
open GxR NdefX PySem.Spec PyProof.Rows
variable {P : Program} {w : World} {K : PySem.W.Frag} {mg : Str → Option Value} {base : Heap}
theorem sum2 {ls : List Int} (h1 : 1 ≤ ls.length) (h2 : ls.length ≤ 2) (h : ∀ x ∈ ls, 1 ≤ x ∧ x ≤ 40) : 1 ≤ ls.sum ∧ ls.sum ≤ 80 := by
  match ls, h1, h2 with
  | [a], _, _ => have := h a (by simp); simp; omega
  | [a, b], _, _ => have := h a (by simp); have := h b (by simp); simp; omega
theorem cut_sum {ls : List Int} (h2 : ls.length ≤ 2) (h : ∀ x ∈ ls, 1 ≤ x ∧ x ≤ 40) (k : Int) : 0 ≤ (cutL ls none (some k)).sum ∧ (cutL ls none (some k)).sum ≤ 80 := by
  have sub : ∀ x ∈ cutL ls none (some k), 1 ≤ x ∧ x ≤ 40 := fun x hx => h x (List.mem_of_mem_drop (List.mem_of_mem_take hx))
  have len : (cutL ls none (some k)).length ≤ 2 := by
    unfold cutL
    rw [List.length_take, List.length_drop]
    omega
  generalize cutL ls none (some k) = l at sub len
  match l, len with
  | [], _ => simp
  | [a], _ => have := sub a (by simp); simp; omega
  | [a, b], _ => have := sub a (by simp); have := sub b (by simp); simp; omega
theorem rgI_length (lo : Int) (n : Nat) : (rgI lo n).length = n := by unfold rgI; rw [List.length_map, List.length_range]
theorem in_ok {a b : Int} (h0 : 0 ≤ a) (h1 : a ≤ 1000) (h2 : 0 ≤ b) (h3 : b ≤ 1000) : ok1 (a, b) := ⟨h0, h1, h2, h3⟩
theorem up_ok : PyData.strOk ("up" : Str) = true := by decide +kernel
theorem over_ok : PyData.strOk ("over" : Str) = true := by decide +kernel
def Rs__law_parts  : (List Int) × Nat → List Rel := fun x => [(RD (.list (x.1.map PyData.int))), (RD (.int (x.2 : Int)))]
def P__law_parts  : (List Int) × Nat → Hp → Prop := fun x H => x.2 + 24 ≤ x.1.length
def R__law_parts  : (List Int) × (List Int) × (List (Str × Int × Int)) → Rel := fun y => (RD ((eT3 (eL PyData.int) (eL PyData.int) (eL dLk)) (y.1, y.2.1, y.2.2)))
def G__law_parts  : (List Int) × Nat → ((List Int) × (List Int) × (List (Str × Int × Int))) → Prop := fun x y => (1 ≤ y.1.length ∧ y.1.length ≤ 2 ∧ ∀ v9 ∈ y.1, 1 ≤ v9 ∧ v9 ≤ 40) ∧ y.2.1.length ≤ 4
theorem ok__law_parts {f : Addr} {fd : FuncData} (F : Fun K "_law_parts" "_law_parts" s__law_parts f fd) (z_int : mg "int" = none) (z_range : mg "range" = none) (z_max : mg "max" = none) (z_len : mg "len" = none) (z_sum : mg "sum" = none) : FnOk P w K mg base CX0 1 f fd ["numbers", "at"] (SpX0 (Rs__law_parts ) (P__law_parts ) (R__law_parts ) (G__law_parts )) := by
  refine fn_okX0 F sc__law_parts (fun _ => rfl) fun cdv A outer s H E0 hr => ?_
  have nd := sc__law_parts.nd
  refine ⟨_, (pss_cons (ps_set (i := 2) nd rfl (.inr rfl) (pe_ix (r := rIxL K) ix_list (pe_lst (pa_cons pe_int (pa_cons pe_int (pa_cons pe_int (pa_cons pe_int pa_nil))))) (pe_op op_mod (pe_callTy call_int1 (by rfl) z_int (by decide +kernel) (pa_cons (pe_ix (r := rIxL K) ix_list (pv 0) (pv 1) (fun _ _ => rfl)) pa_nil)) pe_int) (fun _ _ => rfl)))
      (pss_cons (ps_setLc (i := 3) (own := [("k", 6)]) (g := (gName 6)) (tt := tYes) rfl nd rfl rfl rfl (pi_range1 rfl z_range (pa_cons (pe_op op_add pe_int (pe_op op_mod (pe_op op_fdiv (pe_callTy call_int1 (by rfl) z_int (by decide +kernel) (pa_cons (pe_ix (r := rIxL K) ix_list (pv 0) (pv 1) (fun _ _ => rfl)) pa_nil)) pe_int) pe_int)) pa_nil)) (blkOk_by (N := ["numbers", "at", "most", "lengths", "gaps", "closed", "k", "aisle", "spot", "link"]) (sc := defScope s__law_parts) (by decide +kernel)) (fun _ _ _ _ _ => (pg_name (i := 6) nd rfl (.inl rfl))) (fun _ _ _ _ _ => pts_nil) (fun _ _ _ _ _ => (pe_op (r := rI0 fun i j => .int (i + j)) op_add pe_int (pe_op op_mod (pe_callTy (r := fun xs H Q => (∃ i, xs = [.int i] ∧ Q (.int i) H) ∨ ∃ k, xs = [.bl k] ∧ Q (.int (if k then 1 else 0)) H) call_int1 (by rfl) z_int (by decide +kernel) (pa_cons (pe_ix (r := rIxL K) ix_list (pv 0) (pe_op (r := rI0 fun i j => .int (i + j)) op_add (pe_op (r := rI0 fun i j => .int (i + j)) op_add (pv 1) pe_int) (pv 6)) (fun _ _ => rfl)) pa_nil)) (pv 2)))))
      (pss_cons (ps_setLc (i := 4) (own := [("k", 6)]) (g := (gName 6)) (tt := tYes) rfl nd rfl rfl rfl (pi_range1 rfl z_range (pa_cons (pe_op op_mod (pe_op op_fdiv (pe_callTy call_int1 (by rfl) z_int (by decide +kernel) (pa_cons (pe_ix (r := rIxL K) ix_list (pv 0) (pv 1) (fun _ _ => rfl)) pa_nil)) pe_int) pe_int) pa_nil)) (blkOk_by (N := ["numbers", "at", "most", "lengths", "gaps", "closed", "k", "aisle", "spot", "link"]) (sc := defScope s__law_parts) (by decide +kernel)) (fun _ _ _ _ _ => (pg_name (i := 6) nd rfl (.inl rfl))) (fun _ _ _ _ _ => pts_nil) (fun _ _ _ _ _ => (pe_op (r := rI0 fun i j => .int (i + j)) op_add pe_int (pe_op op_mod (pe_callTy (r := fun xs H Q => (∃ i, xs = [.int i] ∧ Q (.int i) H) ∨ ∃ k, xs = [.bl k] ∧ Q (.int (if k then 1 else 0)) H) call_int1 (by rfl) z_int (by decide +kernel) (pa_cons (pe_ix (r := rIxL K) ix_list (pv 0) (pe_op (r := rI0 fun i j => .int (i + j)) op_add (pe_op (r := rI0 fun i j => .int (i + j)) op_add (pv 1) pe_int) (pv 6)) (fun _ _ => rfl)) pa_nil)) (pv 2)))))
      (pss_cons (ps_set (i := 5) nd rfl (.inl rfl) (pe_lst pa_nil))
      (pss_cons (ps_for PassesOwn.never rfl (pi_range1 rfl z_range (pa_cons (pe_callB (call_max2 rfl) (by rfl) z_max (by decide +kernel) (pa_cons pe_int (pa_cons (pe_op op_sub (pe_op op_mod (pe_callTy call_int1 (by rfl) z_int (by decide +kernel) (pa_cons (pe_ix (r := rIxL K) ix_list (pv 0) (pe_op op_add (pv 1) pe_int) (fun _ _ => rfl)) pa_nil)) pe_int) pe_int) pa_nil))) pa_nil)) (pg_name (i := 6) nd rfl (.inl rfl)) (pss_cons (ps_set (i := 7) nd rfl (.inl rfl) (pe_op op_mod (pe_callTy call_int1 (by rfl) z_int (by decide +kernel) (pa_cons (pe_ix (r := rIxL K) ix_list (pv 0) (pe_op op_add (pe_op op_add (pv 1) pe_int) (pe_op op_mul pe_int (pv 6))) (fun _ _ => rfl)) pa_nil)) (pe_op op_add (pe_callB call_len (by rfl) z_len (by decide +kernel) (pa_cons (pv 4) pa_nil)) pe_int)))
      (pss_cons (ps_set (i := 8) nd rfl (.inl rfl) (pe_callTy call_int1 (by rfl) z_int (by decide +kernel) (pa_cons (pe_ix (r := rIxL K) ix_list (pv 0) (pe_op op_add (pe_op op_add (pv 1) pe_int) (pe_op op_mul pe_int (pv 6))) (fun _ _ => rfl)) pa_nil)))
      (pss_cons (ps_set (i := 9) nd rfl (.inl rfl) (pe_tup (pa_cons pe_str (pa_cons (pv 7) (pa_cons (pe_op op_mod (pe_op op_fdiv (pv 8) pe_int) (pe_callB (cr_sum rfl) (by rfl) z_sum (by decide +kernel) (pa_cons (pv 3) pa_nil))) pa_nil)))))
      (pss_cons (ps_if (PW.pt (pw_and (pt_cmpR (r := rEq) op_eq (pe_op op_mod (pe_callTy call_int1 (by rfl) z_int (by decide +kernel) (pa_cons (pv 8) pa_nil)) pe_int) pe_int (nomark _)) (pw_and1 (pt_cmpR (r := rI0 fun i j => .bl (decide (i < j))) op_lt (pv 7) (pe_callB call_len (by rfl) z_len (by decide +kernel) (pa_cons (pv 4) pa_nil)) (nomark _))))) (pss_one (ps_set (i := 9) nd rfl (.inl rfl) (pe_tup (pa_cons pe_str (pa_cons (pv 7) (pa_cons (pe_callB (cr_sum rfl) (by rfl) z_sum (by decide +kernel) (pa_cons (pe_slice sl_list (pv 3) po_none (po_some (pe_op op_mod (pe_op op_fdiv (pv 8) pe_int) (pe_op op_add (pe_callB call_len (by rfl) z_len (by decide +kernel) (pa_cons (pv 3) pa_nil)) pe_int)))) pa_nil)) pa_nil)))))) pss_nil)
      (pss_one (ps_if (pt_cmpR (r := rNotInD K) (op_notInD (room65 hr)) (pv 9) (pv 5) (by rfl)) (pss_one (ps_expr (pe_bm PySem.F.plainAttrs_list PySem.F.slot_list_append PySem.F.type_list_append mt_append (pv 5) (pa_cons (pv 9) pa_nil)))) pss_nil)))))))
      (pss_one (ps_ret (pe_tup (pa_cons (pv 3) (pa_cons (pv 4) (pa_cons (pv 5) pa_nil))))))))))), ?_⟩
  rintro ⟨ns, a⟩ hs Q hp q
  show WC ⟨hs, hs, (fun _ => False), [.fz (RD (.list (ns.map PyData.int))), .fz (RD (.int (a : Int))), .any, .any, .any, .any, .any, .any, .any, .any]⟩ _
  replace hp : a + 24 ≤ ns.length := hp
  refine s_seq ?_
  have m0 := Int.emod_nonneg ((ix ns (a : Int))) (show (4) ≠ 0 by omega)
  have m1 := Int.emod_lt_of_pos ((ix ns (a : Int))) (show (0 : Int) < 4 by omega)
  obtain ⟨mo, hmo, emo⟩ : ∃ q : Int, (1 ≤ q ∧ q ≤ 40) ∧ ix ([4, 9, 12, 40] : List Int) ((ix ns (a : Int)) % 4) = q := ⟨_, by
      have mm := ix_mem (xs := ([4, 9, 12, 40] : List Int)) (i := (ix ns (a : Int)) % 4) m0 m1
      simp only [List.mem_cons, List.not_mem_nil, or_false] at mm
      omega, rfl⟩
  refine s_set (E.eq (e_op (o_ixL (ix_at (xs := [4, 9, 12, 40]) (i := ((ix ns (a : Int)) % 4)) (by show -(4 : Int) ≤ _ ∧ _ < (4 : Int); omega))) (n_e (n_lstM (xs := [4, 9, 12, 40]) (enc := PyData.int) (m_cons e_int (m_cons e_int (m_cons e_int (m_cons e_int m_nil)))))) (e_op (o_mod (i := (ix ns (a : Int))) (j := 4) (by omega)) (e_cb o_int (a_cons (e_op (o_ixL (ix_at (xs := ns) (i := (a : Int)) (by omega))) (e_var rfl) (e_var rfl)) a_nil)) e_int)) (e := PyData.int mo) (by rw [emo])) ?_
  show WC ⟨hs, hs, (fun _ => False), [.fz (RD (.list (ns.map PyData.int))), .fz (RD (.int (a : Int))), .fz (RD (.int mo)), .any, .any, .any, .any, .any, .any, .any]⟩ _
  refine s_seq ?_
  have d0 := Int.emod_nonneg ((ix ns (a : Int)) / 4) (show (2) ≠ 0 by omega)
  have d1 := Int.emod_lt_of_pos ((ix ns (a : Int)) / 4) (show (0 : Int) < 2 by omega)
  refine s_set (n_e (n_lcRM1 (lo := 0) (n := ((1 + (((ix ns (a : Int)) / 4) % 2)) : Int).toNat) (h := fun k => (1 + ((ix ns (((a : Int) + 1) + k)) % mo))) (encB := PyData.int) (w_rng1 (j := (1 + (((ix ns (a : Int)) / 4) % 2))) (e_op o_add e_int (e_op (o_mod (i := ((ix ns (a : Int)) / 4)) (j := 2) (by omega)) (e_op (o_div (i := (ix ns (a : Int))) (j := 4) ⟨by omega, by omega⟩) (e_cb o_int (a_cons (e_op (o_ixL (ix_at (xs := ns) (i := (a : Int)) (by omega))) (e_var rfl) (e_var rfl)) a_nil)) e_int) e_int)) (by omega)) rfl (by decide) (fun _ k hxk => g_name) (fun _ k hxk hyk => by exact (e_op o_add e_int (e_op (o_mod (i := (ix ns (((a : Int) + 1) + k))) (j := mo) (by omega)) (e_cb o_int (a_cons (e_op (o_ixL (ix_at (xs := ns) (i := (((a : Int) + 1) + k)) (by have := hxk; omega))) (e_var rfl) (e_op o_add (e_op o_add (e_var rfl) e_int) (e_var rfl))) a_nil)) (e_var rfl)))) (by omega))) ?_
  show WC ⟨hs, hs, (fun _ => False), [.fz (RD (.list (ns.map PyData.int))), .fz (RD (.int (a : Int))), .fz (RD (.int mo)), .fz (RD (.list (((rgI 0 ((1 + (((ix ns (a : Int)) / 4) % 2)) : Int).toNat).map fun k => (1 + ((ix ns (((a : Int) + 1) + k)) % mo))).map PyData.int))), .any, .any, .any, .any, .any, .any]⟩ _
  obtain ⟨ls, hls, els⟩ : ∃ q : List Int, (1 ≤ q.length ∧ q.length ≤ 2 ∧ ∀ x ∈ q, 1 ≤ x ∧ x ≤ 40) ∧ ((rgI 0 ((1 + (((ix ns (a : Int)) / 4) % 2)) : Int).toNat).map fun k => (1 + ((ix ns (((a : Int) + 1) + k)) % mo))) = q := ⟨_, ⟨by rw [List.length_map, rgI_length]; omega, by rw [List.length_map, rgI_length]; omega, fun x hx => by obtain ⟨k, _, rfl⟩ := List.mem_map.mp hx; have q1 := Int.emod_nonneg (ix ns (((a : Int) + 1) + k)) (show mo ≠ 0 by omega); have q2 := Int.emod_lt_of_pos (ix ns (((a : Int) + 1) + k)) (show 0 < mo by omega); omega⟩, rfl⟩
  rw [els]
  have e0 := Int.emod_nonneg ((ix ns (a : Int)) / 8) (show (5) ≠ 0 by omega)
  have e1 := Int.emod_lt_of_pos ((ix ns (a : Int)) / 8) (show (0 : Int) < 5 by omega)
  show WC ⟨hs, hs, (fun _ => False), [.fz (RD (.list (ns.map PyData.int))), .fz (RD (.int (a : Int))), .fz (RD (.int mo)), .fz (RD (.list (ls.map PyData.int))), .any, .any, .any, .any, .any, .any]⟩ _
  refine s_seq ?_
  refine s_set (n_e (n_lcRM1 (lo := 0) (n := ((((ix ns (a : Int)) / 8) % 5) : Int).toNat) (h := fun k => (1 + ((ix ns (((a : Int) + 3) + k)) % mo))) (encB := PyData.int) (w_rng1 (j := (((ix ns (a : Int)) / 8) % 5)) (e_op (o_mod (i := ((ix ns (a : Int)) / 8)) (j := 5) (by omega)) (e_op (o_div (i := (ix ns (a : Int))) (j := 8) ⟨by omega, by omega⟩) (e_cb o_int (a_cons (e_op (o_ixL (ix_at (xs := ns) (i := (a : Int)) (by omega))) (e_var rfl) (e_var rfl)) a_nil)) e_int) e_int) (by omega)) rfl (by decide) (fun _ k hxk => g_name) (fun _ k hxk hyk => by exact (e_op o_add e_int (e_op (o_mod (i := (ix ns (((a : Int) + 3) + k))) (j := mo) (by omega)) (e_cb o_int (a_cons (e_op (o_ixL (ix_at (xs := ns) (i := (((a : Int) + 3) + k)) (by have := hxk; omega))) (e_var rfl) (e_op o_add (e_op o_add (e_var rfl) e_int) (e_var rfl))) a_nil)) (e_var rfl)))) (by omega))) ?_
  show WC ⟨hs, hs, (fun _ => False), [.fz (RD (.list (ns.map PyData.int))), .fz (RD (.int (a : Int))), .fz (RD (.int mo)), .fz (RD (.list (ls.map PyData.int))), .fz (RD (.list (((rgI 0 ((((ix ns (a : Int)) / 8) % 5) : Int).toNat).map fun k => (1 + ((ix ns (((a : Int) + 3) + k)) % mo))).map PyData.int))), .any, .any, .any, .any, .any]⟩ _
  obtain ⟨gs, hgs, egs⟩ : ∃ q : List Int, q.length ≤ 4 ∧ ((rgI 0 ((((ix ns (a : Int)) / 8) % 5) : Int).toNat).map fun k => (1 + ((ix ns (((a : Int) + 3) + k)) % mo))) = q := ⟨_, by rw [List.length_map, rgI_length]; omega, rfl⟩
  rw [egs]
  show WC ⟨hs, hs, (fun _ => False), [.fz (RD (.list (ns.map PyData.int))), .fz (RD (.int (a : Int))), .fz (RD (.int mo)), .fz (RD (.list (ls.map PyData.int))), .fz (RD (.list (gs.map PyData.int))), .any, .any, .any, .any, .any]⟩ _
  refine s_seq ?_
  refine s_new (n_lst m_nil) ?_
  show WC ⟨hs, hs, (fun _ => False), [.fz (RD (.list (ns.map PyData.int))), .fz (RD (.int (a : Int))), .fz (RD (.int mo)), .fz (RD (.list (ls.map PyData.int))), .fz (RD (.list (gs.map PyData.int))), .own (OL (([] : List ((Str) × (Int) × (Int))).map dLk)), .any, .any, .any, .any]⟩ _
  refine s_seq ?_
  have l0 := Int.emod_nonneg (ix ns ((a : Int) + 7)) (show (10) ≠ 0 by omega)
  have l1 := Int.emod_lt_of_pos (ix ns ((a : Int) + 7)) (show (0 : Int) < 10 by omega)
  refine s_rng (lo := 0) (n := ((max 0 (((ix ns ((a : Int) + 7)) % 10) - 3)) : Int).toNat) (fun (i : Nat) γ => ∃ (cq : List ((Str) × (Int) × (Int))), γ = [.fz (RD (.list (ns.map PyData.int))), .fz (RD (.int (a : Int))), .fz (RD (.int mo)), .fz (RD (.list (ls.map PyData.int))), .fz (RD (.list (gs.map PyData.int))), .own (OL (cq.map dLk)), .any, .any, .any, .any] ∧ ((∀ c ∈ cq, PyData.strOk c.1 = true) ∧ cq.length ≤ i)) (w_rng1 (j := (max 0 (((ix ns ((a : Int) + 7)) % 10) - 3))) (e_cb o_max2 (a_cons e_int (a_cons (e_op o_sub (e_op (o_mod (i := (ix ns ((a : Int) + 7))) (j := 10) (by omega)) (e_cb o_int (a_cons (e_op (o_ixL (ix_at (xs := ns) (i := ((a : Int) + 7)) (by omega))) (e_var rfl) (e_op o_add (e_var rfl) e_int)) a_nil)) e_int) e_int) a_nil))) (by omega)) ⟨([] : List ((Str) × (Int) × (Int))), rfl, ⟨(fun _ h => nomatch h), Nat.zero_le _⟩⟩ ?_ ?_
  · rintro i γ hi ⟨cq, rfl, ⟨hc1, hc2⟩⟩
    have il : i < 7 := by omega
    have su := sum2 hls.1 hls.2.1 hls.2.2
    refine ⟨_, _, g_name, ?_⟩
    show WC ⟨hs, hs, (fun _ => False), [.fz (RD (.list (ns.map PyData.int))), .fz (RD (.int (a : Int))), .fz (RD (.int mo)), .fz (RD (.list (ls.map PyData.int))), .fz (RD (.list (gs.map PyData.int))), .own (OL (cq.map dLk)), .fz (RD (.int (0 + (i : Int)))), .any, .any, .any]⟩ _
    refine s_seq ?_
    refine s_set (e_op (o_mod (i := (ix ns (((a : Int) + 8) + (2 * (0 + (i : Int)))))) (j := ((gs.length : Int) + 1)) (by omega)) (e_cb o_int (a_cons (e_op (o_ixL (ix_at (xs := ns) (i := (((a : Int) + 8) + (2 * (0 + (i : Int))))) (by omega))) (e_var rfl) (e_op o_add (e_op o_add (e_var rfl) e_int) (e_op (o_mul (i := 2) (j := (0 + (i : Int))) (mulL (by omega) (by omega))) e_int (e_var rfl)))) a_nil)) (e_op o_add (e_cb o_lenM (a_cons (e_var rfl) a_nil)) e_int)) ?_
    show WC ⟨hs, hs, (fun _ => False), [.fz (RD (.list (ns.map PyData.int))), .fz (RD (.int (a : Int))), .fz (RD (.int mo)), .fz (RD (.list (ls.map PyData.int))), .fz (RD (.list (gs.map PyData.int))), .own (OL (cq.map dLk)), .fz (RD (.int (0 + (i : Int)))), .fz (RD (.int ((ix ns (((a : Int) + 8) + (2 * (0 + (i : Int))))) % ((gs.length : Int) + 1)))), .any, .any]⟩ _
    refine s_seq ?_
    refine s_set (e_cb o_int (a_cons (e_op (o_ixL (ix_at (xs := ns) (i := (((a : Int) + 9) + (2 * (0 + (i : Int))))) (by omega))) (e_var rfl) (e_op o_add (e_op o_add (e_var rfl) e_int) (e_op (o_mul (i := 2) (j := (0 + (i : Int))) (mulL (by omega) (by omega))) e_int (e_var rfl)))) a_nil)) ?_
    show WC ⟨hs, hs, (fun _ => False), [.fz (RD (.list (ns.map PyData.int))), .fz (RD (.int (a : Int))), .fz (RD (.int mo)), .fz (RD (.list (ls.map PyData.int))), .fz (RD (.list (gs.map PyData.int))), .own (OL (cq.map dLk)), .fz (RD (.int (0 + (i : Int)))), .fz (RD (.int ((ix ns (((a : Int) + 8) + (2 * (0 + (i : Int))))) % ((gs.length : Int) + 1)))), .fz (RD (.int (ix ns (((a : Int) + 9) + (2 * (0 + (i : Int))))))), .any]⟩ _
    refine s_seq ?_
    refine s_set (e_tup (m_cons e_str (m_cons (e_var rfl) (m_cons (e_op (o_mod (i := ((ix ns (((a : Int) + 9) + (2 * (0 + (i : Int))))) / 3)) (j := ls.sum) (by omega)) (e_op (o_div (i := (ix ns (((a : Int) + 9) + (2 * (0 + (i : Int)))))) (j := 3) ⟨by omega, by omega⟩) (e_var rfl) e_int) (e_cb o_sum (a_cons (e_var rfl) a_nil))) m_nil)))) ?_
    show WC ⟨hs, hs, (fun _ => False), [.fz (RD (.list (ns.map PyData.int))), .fz (RD (.int (a : Int))), .fz (RD (.int mo)), .fz (RD (.list (ls.map PyData.int))), .fz (RD (.list (gs.map PyData.int))), .own (OL (cq.map dLk)), .fz (RD (.int (0 + (i : Int)))), .fz (RD (.int ((ix ns (((a : Int) + 8) + (2 * (0 + (i : Int))))) % ((gs.length : Int) + 1)))), .fz (RD (.int (ix ns (((a : Int) + 9) + (2 * (0 + (i : Int))))))), .fz (RD (dLk (("up" : Str), ((ix ns (((a : Int) + 8) + (2 * (0 + (i : Int))))) % ((gs.length : Int) + 1)), (((ix ns (((a : Int) + 9) + (2 * (0 + (i : Int))))) / 3) % ls.sum))))]⟩ _
    refine s_seq ?_
    refine s_if (t_and (t_T (e_op o_eqI (e_op (o_mod (i := (ix ns (((a : Int) + 9) + (2 * (0 + (i : Int)))))) (j := 3) (by omega)) (e_cb o_int (a_cons (e_var rfl) a_nil)) e_int) e_int)) (fun hbo => (t_T (e_op o_cmpI0 (e_var rfl) (e_cb o_lenM (a_cons (e_var rfl) a_nil)))))) (fun h3 => ?_) (fun h3 => ?_)
    · have := h3
      refine s_set (e_tup (m_cons e_str (m_cons (e_var rfl) (m_cons (e_cb o_sum (a_cons (n_e (n_slM (i_of (e_var rfl)) p_none (p_some (e_op (o_mod (i := ((ix ns (((a : Int) + 9) + (2 * (0 + (i : Int))))) / 3)) (j := ((ls.length : Int) + 1)) (by omega)) (e_op (o_div (i := (ix ns (((a : Int) + 9) + (2 * (0 + (i : Int)))))) (j := 3) ⟨by omega, by omega⟩) (e_var rfl) e_int) (e_op o_add (e_cb o_lenM (a_cons (e_var rfl) a_nil)) e_int))))) a_nil)) m_nil)))) ?_
      show WC ⟨hs, hs, (fun _ => False), [.fz (RD (.list (ns.map PyData.int))), .fz (RD (.int (a : Int))), .fz (RD (.int mo)), .fz (RD (.list (ls.map PyData.int))), .fz (RD (.list (gs.map PyData.int))), .own (OL (cq.map dLk)), .fz (RD (.int (0 + (i : Int)))), .fz (RD (.int ((ix ns (((a : Int) + 8) + (2 * (0 + (i : Int))))) % ((gs.length : Int) + 1)))), .fz (RD (.int (ix ns (((a : Int) + 9) + (2 * (0 + (i : Int))))))), .fz (RD (dLk (("over" : Str), ((ix ns (((a : Int) + 8) + (2 * (0 + (i : Int))))) % ((gs.length : Int) + 1)), (cutL ls none (some (((ix ns (((a : Int) + 9) + (2 * (0 + (i : Int))))) / 3) % ((ls.length : Int) + 1)))).sum)))]⟩ _
      refine s_if (t_T (e_op (o_niE (f := dLk) (a := (("over" : Str), ((ix ns (((a : Int) + 8) + (2 * (0 + (i : Int))))) % ((gs.length : Int) + 1)), (cutL ls none (some (((ix ns (((a : Int) + 9) + (2 * (0 + (i : Int))))) / 3) % ((ls.length : Int) + 1)))).sum)) (xs := cq) (hd := inferInstance) (by exact enc_Lk) (by decide) (by first | exact ⟨up_ok, trivial, trivial⟩ | exact ⟨over_ok, trivial, trivial⟩) (by exact fun c m => ⟨hc1 c m, trivial, trivial⟩)) (e_var rfl) (e_own rfl))) (fun h4 => ?_) (fun h4 => ?_)
      · have := h4
        refine s_appM (xs := cq) (a := (("over" : Str), ((ix ns (((a : Int) + 8) + (2 * (0 + (i : Int))))) % ((gs.length : Int) + 1)), (cutL ls none (some (((ix ns (((a : Int) + 9) + (2 * (0 + (i : Int))))) / 3) % ((ls.length : Int) + 1)))).sum)) rfl (e_var rfl) (by omega) ?_
        show WC ⟨hs, hs, (fun _ => False), [.fz (RD (.list (ns.map PyData.int))), .fz (RD (.int (a : Int))), .fz (RD (.int mo)), .fz (RD (.list (ls.map PyData.int))), .fz (RD (.list (gs.map PyData.int))), .own (OL ((cq ++ [(("over" : Str), ((ix ns (((a : Int) + 8) + (2 * (0 + (i : Int))))) % ((gs.length : Int) + 1)), (cutL ls none (some (((ix ns (((a : Int) + 9) + (2 * (0 + (i : Int))))) / 3) % ((ls.length : Int) + 1)))).sum)]).map dLk)), .fz (RD (.int (0 + (i : Int)))), .fz (RD (.int ((ix ns (((a : Int) + 8) + (2 * (0 + (i : Int))))) % ((gs.length : Int) + 1)))), .fz (RD (.int (ix ns (((a : Int) + 9) + (2 * (0 + (i : Int))))))), .fz (RD (dLk (("over" : Str), ((ix ns (((a : Int) + 8) + (2 * (0 + (i : Int))))) % ((gs.length : Int) + 1)), (cutL ls none (some (((ix ns (((a : Int) + 9) + (2 * (0 + (i : Int))))) / 3) % ((ls.length : Int) + 1)))).sum)))]⟩ _
        refine s_drop 6 ?_
        refine s_drop 7 ?_
        refine s_drop 8 ?_
        refine s_drop 9 ?_
        show WC ⟨hs, hs, (fun _ => False), [.fz (RD (.list (ns.map PyData.int))), .fz (RD (.int (a : Int))), .fz (RD (.int mo)), .fz (RD (.list (ls.map PyData.int))), .fz (RD (.list (gs.map PyData.int))), .own (OL ((cq ++ [(("over" : Str), ((ix ns (((a : Int) + 8) + (2 * (0 + (i : Int))))) % ((gs.length : Int) + 1)), (cutL ls none (some (((ix ns (((a : Int) + 9) + (2 * (0 + (i : Int))))) / 3) % ((ls.length : Int) + 1)))).sum)]).map dLk)), .any, .any, .any, .any]⟩ _
        exact s_of ⟨(cq ++ [(("over" : Str), ((ix ns (((a : Int) + 8) + (2 * (0 + (i : Int))))) % ((gs.length : Int) + 1)), (cutL ls none (some (((ix ns (((a : Int) + 9) + (2 * (0 + (i : Int))))) / 3) % ((ls.length : Int) + 1)))).sum)]), rfl, ⟨fun c m => (List.mem_append.mp m).elim (hc1 c) (fun z => by rw [List.mem_singleton.mp z]; first | exact up_ok | exact over_ok), by rw [List.length_append]; show cq.length + 1 ≤ i + 1; omega⟩⟩
      · have := h4
        refine s_pass ?_
        refine s_drop 6 ?_
        refine s_drop 7 ?_
        refine s_drop 8 ?_
        refine s_drop 9 ?_
        show WC ⟨hs, hs, (fun _ => False), [.fz (RD (.list (ns.map PyData.int))), .fz (RD (.int (a : Int))), .fz (RD (.int mo)), .fz (RD (.list (ls.map PyData.int))), .fz (RD (.list (gs.map PyData.int))), .own (OL (cq.map dLk)), .any, .any, .any, .any]⟩ _
        exact s_of ⟨cq, rfl, ⟨hc1, by omega⟩⟩
    · have := h3
      refine s_pass ?_
      refine s_if (t_T (e_op (o_niE (f := dLk) (a := (("up" : Str), ((ix ns (((a : Int) + 8) + (2 * (0 + (i : Int))))) % ((gs.length : Int) + 1)), (((ix ns (((a : Int) + 9) + (2 * (0 + (i : Int))))) / 3) % ls.sum))) (xs := cq) (hd := inferInstance) (by exact enc_Lk) (by decide) (by first | exact ⟨up_ok, trivial, trivial⟩ | exact ⟨over_ok, trivial, trivial⟩) (by exact fun c m => ⟨hc1 c m, trivial, trivial⟩)) (e_var rfl) (e_own rfl))) (fun h5 => ?_) (fun h5 => ?_)
      · have := h5
        refine s_appM (xs := cq) (a := (("up" : Str), ((ix ns (((a : Int) + 8) + (2 * (0 + (i : Int))))) % ((gs.length : Int) + 1)), (((ix ns (((a : Int) + 9) + (2 * (0 + (i : Int))))) / 3) % ls.sum))) rfl (e_var rfl) (by omega) ?_
        show WC ⟨hs, hs, (fun _ => False), [.fz (RD (.list (ns.map PyData.int))), .fz (RD (.int (a : Int))), .fz (RD (.int mo)), .fz (RD (.list (ls.map PyData.int))), .fz (RD (.list (gs.map PyData.int))), .own (OL ((cq ++ [(("up" : Str), ((ix ns (((a : Int) + 8) + (2 * (0 + (i : Int))))) % ((gs.length : Int) + 1)), (((ix ns (((a : Int) + 9) + (2 * (0 + (i : Int))))) / 3) % ls.sum))]).map dLk)), .fz (RD (.int (0 + (i : Int)))), .fz (RD (.int ((ix ns (((a : Int) + 8) + (2 * (0 + (i : Int))))) % ((gs.length : Int) + 1)))), .fz (RD (.int (ix ns (((a : Int) + 9) + (2 * (0 + (i : Int))))))), .fz (RD (dLk (("up" : Str), ((ix ns (((a : Int) + 8) + (2 * (0 + (i : Int))))) % ((gs.length : Int) + 1)), (((ix ns (((a : Int) + 9) + (2 * (0 + (i : Int))))) / 3) % ls.sum))))]⟩ _
        refine s_drop 6 ?_
        refine s_drop 7 ?_
        refine s_drop 8 ?_
        refine s_drop 9 ?_
        show WC ⟨hs, hs, (fun _ => False), [.fz (RD (.list (ns.map PyData.int))), .fz (RD (.int (a : Int))), .fz (RD (.int mo)), .fz (RD (.list (ls.map PyData.int))), .fz (RD (.list (gs.map PyData.int))), .own (OL ((cq ++ [(("up" : Str), ((ix ns (((a : Int) + 8) + (2 * (0 + (i : Int))))) % ((gs.length : Int) + 1)), (((ix ns (((a : Int) + 9) + (2 * (0 + (i : Int))))) / 3) % ls.sum))]).map dLk)), .any, .any, .any, .any]⟩ _
        exact s_of ⟨(cq ++ [(("up" : Str), ((ix ns (((a : Int) + 8) + (2 * (0 + (i : Int))))) % ((gs.length : Int) + 1)), (((ix ns (((a : Int) + 9) + (2 * (0 + (i : Int))))) / 3) % ls.sum))]), rfl, ⟨fun c m => (List.mem_append.mp m).elim (hc1 c) (fun z => by rw [List.mem_singleton.mp z]; first | exact up_ok | exact over_ok), by rw [List.length_append]; show cq.length + 1 ≤ i + 1; omega⟩⟩
      · have := h5
        refine s_pass ?_
        refine s_drop 6 ?_
        refine s_drop 7 ?_
        refine s_drop 8 ?_
        refine s_drop 9 ?_
        show WC ⟨hs, hs, (fun _ => False), [.fz (RD (.list (ns.map PyData.int))), .fz (RD (.int (a : Int))), .fz (RD (.int mo)), .fz (RD (.list (ls.map PyData.int))), .fz (RD (.list (gs.map PyData.int))), .own (OL (cq.map dLk)), .any, .any, .any, .any]⟩ _
        exact s_of ⟨cq, rfl, ⟨hc1, by omega⟩⟩
  · rintro γ ⟨cq, rfl, ⟨hc1, hc2⟩⟩
    show WC ⟨hs, hs, (fun _ => False), [.fz (RD (.list (ns.map PyData.int))), .fz (RD (.int (a : Int))), .fz (RD (.int mo)), .fz (RD (.list (ls.map PyData.int))), .fz (RD (.list (gs.map PyData.int))), .own (OL (cq.map dLk)), .any, .any, .any, .any]⟩ _
    refine s_fixM (i := 5) rfl ?_
    show WC ⟨hs, hs, (fun _ => False), [.fz (RD (.list (ns.map PyData.int))), .fz (RD (.int (a : Int))), .fz (RD (.int mo)), .fz (RD (.list (ls.map PyData.int))), .fz (RD (.list (gs.map PyData.int))), .fz (RD (.list (cq.map dLk))), .any, .any, .any, .any]⟩ _
    refine s_retX (ex_e (R := R__law_parts ) (G := G__law_parts  _) (ls, gs, cq) (e_tup (m_cons (e_var rfl) (m_cons (e_var rfl) (m_cons (e_var rfl) m_nil)))) ?_) q
    exact ⟨hls, hgs⟩
def Rs__law_crosses  : (List Int) → List Rel := fun x => [(RD (.list (x.map PyData.int)))]
def P__law_crosses  : (List Int) → Hp → Prop := fun x H => x.length ≤ 2 ∧ ∀ v9 ∈ x, 1 ≤ v9 ∧ v9 ≤ 40
def R__law_crosses  : (List Int) → Rel := fun y => (RD (.list (y.map PyData.int)))
def G__law_crosses  : (List Int) → ((List Int)) → Prop := fun x y => y.length = x.length + 1 ∧ ∀ c ∈ y, 0 ≤ c ∧ c ≤ 80
theorem ok__law_crosses {f : Addr} {fd : FuncData} (F : Fun K "_law_crosses" "_law_crosses" s__law_crosses f fd) (z_range : mg "range" = none) (z_len : mg "len" = none) (z_sum : mg "sum" = none) : FnOk P w K mg base CX0 1 f fd ["lengths"] (SpX (Rs__law_crosses ) (P__law_crosses ) (R__law_crosses ) (G__law_crosses )) := by
  refine fn_okX F sc__law_crosses (fun _ => rfl) fun cdv A outer s H E0 hr => ?_
  have nd := sc__law_crosses.nd
  refine ⟨_, (pss_one (ps_ret (pe_lc (own := [("k", 1)]) (g := (gName 1)) (tt := tYes) rfl nd (pi_range1 rfl z_range (pa_cons (pe_op op_add (pe_callB call_len (by rfl) z_len (by decide +kernel) (pa_cons (pv 0) pa_nil)) pe_int) pa_nil)) (blkOk_by (N := ["lengths", "k"]) (sc := defScope s__law_crosses) (by decide +kernel)) (fun _ _ _ _ _ => (pg_name (i := 1) nd rfl (.inl rfl))) (fun _ _ _ _ _ => pts_nil) (fun _ _ _ _ _ => (pe_callB (r := rSum K) (cr_sum rfl) (by rfl) z_sum (by decide +kernel) (pa_cons (pe_slice (show SlR _ (rSlL K) from sl_list) (pv 0) po_none (po_some (pv 1))) pa_nil)))))), ?_⟩
  intro ls hs om Q hp q
  show WC ⟨hs, (less hs om), om, [.fz (RD (.list (ls.map PyData.int))), .any]⟩ _
  replace hp : ls.length ≤ 2 ∧ ∀ v9 ∈ ls, 1 ≤ v9 ∧ v9 ≤ 40 := hp
  refine s_retX (ex_e (R := R__law_crosses ) (G := G__law_crosses  _) ((rgI 0 ((ls.length : Int) + 1).toNat).map fun k => (cutL ls none (some k)).sum) (n_e (n_lcRM1 (lo := 0) (n := (((ls.length : Int) + 1) : Int).toNat) (h := fun k => (cutL ls none (some k)).sum) (encB := PyData.int) (w_rng1 (j := ((ls.length : Int) + 1)) (e_op o_add (e_cb o_lenM (a_cons (e_var rfl) a_nil)) e_int) (by omega)) rfl (by decide) (fun _ k hxk => g_name) (fun _ k hxk hyk => by exact (e_cb o_sum (a_cons (n_e (n_slM (i_of (e_var rfl)) p_none (p_some (e_var rfl)))) a_nil))) (by omega))) ?_) q
  exact ⟨by rw [List.length_map, rgI_length]; omega, fun c hc => by obtain ⟨k, _, rfl⟩ := List.mem_map.mp hc; exact cut_sum hp.1 hp.2 k⟩
end
open SX
section
open GxR NdefX PySem.Spec PyProof.Rows
variable {P : Program} {w : World} {K : PySem.W.Frag} {mg : Str → Option Value} {base : Heap}
def Rs__law_aims  : (List Int) × Nat × (List Int) × (List Int) × Nat → List Rel := fun x => [(RD (.list (x.1.map PyData.int))), (RD (.int (x.2.1 : Int))), (RD (.list (x.2.2.1.map PyData.int))), (RD (.list (x.2.2.2.1.map PyData.int))), (RD (.int (x.2.2.2.2 : Int)))]
def P__law_aims  : (List Int) × Nat × (List Int) × (List Int) × Nat → Hp → Prop := fun x H => (x.2.1 + 6 + 2 * x.2.2.2.2 ≤ x.1.length ∧ x.2.2.2.2 ≤ 20) ∧ (1 ≤ x.2.2.1.length ∧ x.2.2.1.length ≤ 2 ∧ ∀ v9 ∈ x.2.2.1, 1 ≤ v9 ∧ v9 ≤ 40) ∧ x.2.2.2.1.length ≤ 4
def R__law_aims  : Pl × Pl × (List Pl) → Rel := fun y => (RD ((eT3 dP dP (eL dP)) (y.1, y.2.1, y.2.2)))
def G__law_aims  : (List Int) × Nat × (List Int) × (List Int) × Nat → (Pl × Pl × (List Pl)) → Prop := fun x y => ok1 y.1 ∧ ok1 y.2.1 ∧ (∀ v9 ∈ y.2.2, ok1 v9) ∧ y.2.2.Nodup ∧ y.2.2.length ≤ x.2.2.2.2
theorem ok__law_aims {f : Addr} {fd : FuncData} (F : Fun K "_law_aims" "_law_aims" s__law_aims f fd) (t__law_crosses : TopD P w K mg base 1 "_law_crosses" ["lengths"] (SpX (Rs__law_crosses ) (P__law_crosses ) (R__law_crosses ) (G__law_crosses ))) (z_int : mg "int" = none) (z_len : mg "len" = none) (z_range : mg "range" = none) (z_sum : mg "sum" = none) : FnOk P w K mg base CX0 2 f fd ["numbers", "at", "lengths", "gaps", "many"] (SpX0 (Rs__law_aims ) (P__law_aims ) (R__law_aims ) (G__law_aims )) := by
  refine fn_okX0 F sc__law_aims (fun _ => rfl) fun cdv A outer s H E0 hr => ?_
  have nd := sc__law_aims.nd
  refine ⟨_, (pss_cons (ps_set (i := 5) nd rfl (.inl rfl) (pe_call t__law_crosses.G (by exact hr.mono (by decide)) (by rfl) t__law_crosses.g t__law_crosses.kp t__law_crosses.b .nil pass0 (pa_cons (pv 2) pa_nil)))
      (pss_cons (ps_set (i := 6) nd rfl (.inl rfl) (pe_tup (pa_cons (pe_op op_mod (pe_callTy call_int1 (by rfl) z_int (by decide +kernel) (pa_cons (pe_ix (r := rIxL K) ix_list (pv 0) (pv 1) (fun _ _ => rfl)) pa_nil)) (pe_op op_add (pe_callB call_len (by rfl) z_len (by decide +kernel) (pa_cons (pv 3) pa_nil)) pe_int)) (pa_cons (pe_ix (r := rIxL K) ix_list (pv 5) (pe_op op_mod (pe_op op_fdiv (pe_callTy call_int1 (by rfl) z_int (by decide +kernel) (pa_cons (pe_ix (r := rIxL K) ix_list (pv 0) (pv 1) (fun _ _ => rfl)) pa_nil)) pe_int) (pe_callB call_len (by rfl) z_len (by decide +kernel) (pa_cons (pv 5) pa_nil))) (fun _ _ => rfl)) pa_nil))))
      (pss_cons (ps_set (i := 7) nd rfl (.inl rfl) (pe_tup (pa_cons (pe_op op_mod (pe_callTy call_int1 (by rfl) z_int (by decide +kernel) (pa_cons (pe_ix (r := rIxL K) ix_list (pv 0) (pe_op op_add (pv 1) pe_int) (fun _ _ => rfl)) pa_nil)) (pe_op op_add (pe_callB call_len (by rfl) z_len (by decide +kernel) (pa_cons (pv 3) pa_nil)) pe_int)) (pa_cons (pe_ix (r := rIxL K) ix_list (pv 5) (pe_op op_mod (pe_op op_fdiv (pe_callTy call_int1 (by rfl) z_int (by decide +kernel) (pa_cons (pe_ix (r := rIxL K) ix_list (pv 0) (pe_op op_add (pv 1) pe_int) (fun _ _ => rfl)) pa_nil)) pe_int) (pe_callB call_len (by rfl) z_len (by decide +kernel) (pa_cons (pv 5) pa_nil))) (fun _ _ => rfl)) pa_nil))))
      (pss_cons (ps_if (pt_cmpR (r := rEq) op_eq (pe_op op_mod (pe_callTy call_int1 (by rfl) z_int (by decide +kernel) (pa_cons (pe_ix (r := rIxL K) ix_list (pv 0) (pe_op op_add (pv 1) pe_int) (fun _ _ => rfl)) pa_nil)) pe_int) pe_int (nomark _)) (pss_one (ps_set (i := 7) nd rfl (.inl rfl) (pv 6))) pss_nil)
      (pss_cons (ps_set (i := 8) nd rfl (.inl rfl) (pe_lst pa_nil))
      (pss_cons (ps_for PassesOwn.never rfl (pi_range1 rfl z_range (pa_cons (pe_op op_mod (pe_callTy call_int1 (by rfl) z_int (by decide +kernel) (pa_cons (pe_ix (r := rIxL K) ix_list (pv 0) (pe_op op_add (pv 1) pe_int) (fun _ _ => rfl)) pa_nil)) (pe_op op_add (pv 4) pe_int)) pa_nil)) (pg_name (i := 9) nd rfl (.inl rfl)) (pss_cons (ps_set (i := 10) nd rfl (.inl rfl) (pe_tup (pa_cons (pe_op op_mod (pe_callTy call_int1 (by rfl) z_int (by decide +kernel) (pa_cons (pe_ix (r := rIxL K) ix_list (pv 0) (pe_op op_add (pe_op op_add (pv 1) pe_int) (pe_op op_mul pe_int (pv 9))) (fun _ _ => rfl)) pa_nil)) (pe_op op_add (pe_callB call_len (by rfl) z_len (by decide +kernel) (pa_cons (pv 3) pa_nil)) pe_int)) (pa_cons (pe_op op_mod (pe_callTy call_int1 (by rfl) z_int (by decide +kernel) (pa_cons (pe_ix (r := rIxL K) ix_list (pv 0) (pe_op op_add (pe_op op_add (pv 1) pe_int) (pe_op op_mul pe_int (pv 9))) (fun _ _ => rfl)) pa_nil)) (pe_op op_add (pe_callB (cr_sum rfl) (by rfl) z_sum (by decide +kernel) (pa_cons (pv 2) pa_nil)) pe_int)) pa_nil))))
      (pss_one (ps_if (pt_cmpR (r := rNotInD K) (op_notInD (room65 hr)) (pv 10) (pv 8) (by rfl)) (pss_one (ps_expr (pe_bm PySem.F.plainAttrs_list PySem.F.slot_list_append PySem.F.type_list_append mt_append (pv 8) (pa_cons (pv 10) pa_nil)))) pss_nil))))
      (pss_one (ps_ret (pe_tup (pa_cons (pv 6) (pa_cons (pv 7) (pa_cons (pv 8) pa_nil)))))))))))), ?_⟩
  rintro ⟨ns, a, ls, gs, m⟩ hs Q hp q
  show WC ⟨hs, hs, (fun _ => False), [.fz (RD (.list (ns.map PyData.int))), .fz (RD (.int (a : Int))), .fz (RD (.list (ls.map PyData.int))), .fz (RD (.list (gs.map PyData.int))), .fz (RD (.int (m : Int))), .any, .any, .any, .any, .any, .any]⟩ _
  replace hp : (a + 6 + 2 * m ≤ ns.length ∧ m ≤ 20) ∧ (1 ≤ ls.length ∧ ls.length ≤ 2 ∧ ∀ v9 ∈ ls, 1 ≤ v9 ∧ v9 ≤ 40) ∧ gs.length ≤ 4 := hp
  obtain ⟨⟨ha, hm⟩, hls, hgs⟩ := hp
  have su := sum2 hls.1 hls.2.1 hls.2.2
  refine s_seq ?_
  refine s_setX (x_call (skx_spx (Rs := Rs__law_crosses ) (P := P__law_crosses ) (R := R__law_crosses ) (G := G__law_crosses ) (ls)) (a_cons (e_var rfl) a_nil) (fun H kp => by show ls.length ≤ 2 ∧ ∀ v9 ∈ ls, 1 ≤ v9 ∧ v9 ≤ 40; exact ⟨hls.2.1, hls.2.2⟩)) ?_
  rintro qs ⟨q1, q2⟩
  show WC ⟨hs, hs, (fun _ => False), [.fz (RD (.list (ns.map PyData.int))), .fz (RD (.int (a : Int))), .fz (RD (.list (ls.map PyData.int))), .fz (RD (.list (gs.map PyData.int))), .fz (RD (.int (m : Int))), .fz (RD (.list (qs.map PyData.int))), .any, .any, .any, .any, .any]⟩ _
  try dsimp only
  refine s_seq ?_
  obtain ⟨st, hst, est, hq1⟩ : ∃ q : Pl, ok1 q ∧ (ix ns (a : Int) % ((gs.length : Int) + 1), ix qs (ix ns (a : Int) / 12 % (qs.length : Int))) = q ∧ (-(qs.length : Int) ≤ ix ns (a : Int) / 12 % (qs.length : Int) ∧ ix ns (a : Int) / 12 % (qs.length : Int) < qs.length) := by generalize ix ns (a : Int) = g; have t0 := Int.emod_nonneg (g / 12) (show (qs.length : Int) ≠ 0 by omega); have t1 := Int.emod_lt_of_pos (g / 12) (show (0 : Int) < (qs.length : Int) by omega); have m1 := q2 _ (ix_mem t0 t1); exact ⟨_, in_ok (Int.emod_nonneg _ (by omega)) (Int.le_of_lt_add_one (by have := Int.emod_lt_of_pos g (show (0 : Int) < (gs.length : Int) + 1 by omega); omega)) m1.1 (by omega), rfl, ⟨by omega, t1⟩⟩
  refine s_set (E.eq (e_tup (m_cons (e_op (o_mod (i := (ix ns (a : Int))) (j := ((gs.length : Int) + 1)) (by omega)) (e_cb o_int (a_cons (e_op (o_ixL (ix_at (xs := ns) (i := (a : Int)) (by omega))) (e_var rfl) (e_var rfl)) a_nil)) (e_op o_add (e_cb o_lenM (a_cons (e_var rfl) a_nil)) e_int)) (m_cons (e_op (o_ixL (ix_at (xs := qs) (i := (((ix ns (a : Int)) / 12) % (qs.length : Int))) hq1)) (e_var rfl) (e_op (o_mod (i := ((ix ns (a : Int)) / 12)) (j := (qs.length : Int)) (by omega)) (e_op (o_div (i := (ix ns (a : Int))) (j := 12) ⟨by decide, by decide⟩) (e_cb o_int (a_cons (e_op (o_ixL (ix_at (xs := ns) (i := (a : Int)) (by omega))) (e_var rfl) (e_var rfl)) a_nil)) e_int) (e_cb o_lenM (a_cons (e_var rfl) a_nil)))) m_nil))) (e := dP st) (by exact congrArg dP est)) ?_
  show WC ⟨hs, hs, (fun _ => False), [.fz (RD (.list (ns.map PyData.int))), .fz (RD (.int (a : Int))), .fz (RD (.list (ls.map PyData.int))), .fz (RD (.list (gs.map PyData.int))), .fz (RD (.int (m : Int))), .fz (RD (.list (qs.map PyData.int))), .fz (RD (dP st)), .any, .any, .any, .any]⟩ _
  refine s_seq ?_
  obtain ⟨en, hen, een, hq2⟩ : ∃ q : Pl, ok1 q ∧ (ix ns ((a : Int) + 1) % ((gs.length : Int) + 1), ix qs (ix ns ((a : Int) + 1) / 12 % (qs.length : Int))) = q ∧ (-(qs.length : Int) ≤ ix ns ((a : Int) + 1) / 12 % (qs.length : Int) ∧ ix ns ((a : Int) + 1) / 12 % (qs.length : Int) < qs.length) := by generalize ix ns ((a : Int) + 1) = g; have t0 := Int.emod_nonneg (g / 12) (show (qs.length : Int) ≠ 0 by omega); have t1 := Int.emod_lt_of_pos (g / 12) (show (0 : Int) < (qs.length : Int) by omega); have m1 := q2 _ (ix_mem t0 t1); exact ⟨_, in_ok (Int.emod_nonneg _ (by omega)) (Int.le_of_lt_add_one (by have := Int.emod_lt_of_pos g (show (0 : Int) < (gs.length : Int) + 1 by omega); omega)) m1.1 (by omega), rfl, ⟨by omega, t1⟩⟩
  refine s_set (E.eq (e_tup (m_cons (e_op (o_mod (i := (ix ns ((a : Int) + 1))) (j := ((gs.length : Int) + 1)) (by omega)) (e_cb o_int (a_cons (e_op (o_ixL (ix_at (xs := ns) (i := ((a : Int) + 1)) (by omega))) (e_var rfl) (e_op o_add (e_var rfl) e_int)) a_nil)) (e_op o_add (e_cb o_lenM (a_cons (e_var rfl) a_nil)) e_int)) (m_cons (e_op (o_ixL (ix_at (xs := qs) (i := (((ix ns ((a : Int) + 1)) / 12) % (qs.length : Int))) hq2)) (e_var rfl) (e_op (o_mod (i := ((ix ns ((a : Int) + 1)) / 12)) (j := (qs.length : Int)) (by omega)) (e_op (o_div (i := (ix ns ((a : Int) + 1))) (j := 12) ⟨by decide, by decide⟩) (e_cb o_int (a_cons (e_op (o_ixL (ix_at (xs := ns) (i := ((a : Int) + 1)) (by omega))) (e_var rfl) (e_op o_add (e_var rfl) e_int)) a_nil)) e_int) (e_cb o_lenM (a_cons (e_var rfl) a_nil)))) m_nil))) (e := dP en) (by exact congrArg dP een)) ?_
  show WC ⟨hs, hs, (fun _ => False), [.fz (RD (.list (ns.map PyData.int))), .fz (RD (.int (a : Int))), .fz (RD (.list (ls.map PyData.int))), .fz (RD (.list (gs.map PyData.int))), .fz (RD (.int (m : Int))), .fz (RD (.list (qs.map PyData.int))), .fz (RD (dP st)), .fz (RD (dP en)), .any, .any, .any]⟩ _
  refine s_seq ?_
  refine s_if (t_T (e_op o_eqI (e_op (o_mod (i := (ix ns ((a : Int) + 2))) (j := 2) (by omega)) (e_cb o_int (a_cons (e_op (o_ixL (ix_at (xs := ns) (i := ((a : Int) + 2)) (by omega))) (e_var rfl) (e_op o_add (e_var rfl) e_int)) a_nil)) e_int) e_int)) (fun h1 => ?_) (fun h1 => ?_)
  · have := h1
    refine s_set (e_var rfl) ?_
    show WC ⟨hs, hs, (fun _ => False), [.fz (RD (.list (ns.map PyData.int))), .fz (RD (.int (a : Int))), .fz (RD (.list (ls.map PyData.int))), .fz (RD (.list (gs.map PyData.int))), .fz (RD (.int (m : Int))), .fz (RD (.list (qs.map PyData.int))), .fz (RD (dP st)), .fz (RD (dP st)), .any, .any, .any]⟩ _
    refine s_seq ?_
    refine s_new (n_lst m_nil) ?_
    show WC ⟨hs, hs, (fun _ => False), [.fz (RD (.list (ns.map PyData.int))), .fz (RD (.int (a : Int))), .fz (RD (.list (ls.map PyData.int))), .fz (RD (.list (gs.map PyData.int))), .fz (RD (.int (m : Int))), .fz (RD (.list (qs.map PyData.int))), .fz (RD (dP st)), .fz (RD (dP st)), .own (OL (([] : List ((Int) × (Int))).map dP)), .any, .any]⟩ _
    refine s_seq ?_
    have hc : (ix ns ((a : Int) + 3) % ((m : Int) + 1)).toNat ≤ m ∧ 0 ≤ ix ns ((a : Int) + 3) % ((m : Int) + 1) ∧ ix ns ((a : Int) + 3) % ((m : Int) + 1) ≤ m := by have c0 := Int.emod_nonneg (ix ns ((a : Int) + 3)) (show ((m : Int) + 1) ≠ 0 by omega); have c1 := Int.emod_lt_of_pos (ix ns ((a : Int) + 3)) (show (0 : Int) < (m : Int) + 1 by omega); omega
    refine s_rng (lo := 0) (n := (((ix ns ((a : Int) + 3)) % ((m : Int) + 1)) : Int).toNat) (fun (i : Nat) γ => ∃ (ps : List ((Int) × (Int))), γ = [.fz (RD (.list (ns.map PyData.int))), .fz (RD (.int (a : Int))), .fz (RD (.list (ls.map PyData.int))), .fz (RD (.list (gs.map PyData.int))), .fz (RD (.int (m : Int))), .fz (RD (.list (qs.map PyData.int))), .fz (RD (dP st)), .fz (RD (dP st)), .own (OL (ps.map dP)), .any, .any] ∧ ((∀ p ∈ ps, ok1 p) ∧ ps.Nodup ∧ ps.length ≤ i)) (w_rng1 (j := ((ix ns ((a : Int) + 3)) % ((m : Int) + 1))) (e_op (o_mod (i := (ix ns ((a : Int) + 3))) (j := ((m : Int) + 1)) (by omega)) (e_cb o_int (a_cons (e_op (o_ixL (ix_at (xs := ns) (i := ((a : Int) + 3)) (by omega))) (e_var rfl) (e_op o_add (e_var rfl) e_int)) a_nil)) (e_op o_add (e_var rfl) e_int)) (by omega)) ⟨([] : List ((Int) × (Int))), rfl, ⟨(fun _ h => nomatch h), .nil, Nat.zero_le _⟩⟩ ?_ ?_
    · rintro i γ hi ⟨ps, rfl, ⟨p1, p2, p3⟩⟩
      have il : i < m := Nat.lt_of_lt_of_le hi hc.1
      refine ⟨_, _, g_name, ?_⟩
      show WC ⟨hs, hs, (fun _ => False), [.fz (RD (.list (ns.map PyData.int))), .fz (RD (.int (a : Int))), .fz (RD (.list (ls.map PyData.int))), .fz (RD (.list (gs.map PyData.int))), .fz (RD (.int (m : Int))), .fz (RD (.list (qs.map PyData.int))), .fz (RD (dP st)), .fz (RD (dP st)), .own (OL (ps.map dP)), .fz (RD (.int (0 + (i : Int)))), .any]⟩ _
      refine s_seq ?_
      obtain ⟨pk, hpk, epk⟩ : ∃ q : Pl, ok1 q ∧ (ix ns (((a : Int) + 4) + (2 * (0 + (i : Int)))) % ((gs.length : Int) + 1), ix ns (((a : Int) + 5) + (2 * (0 + (i : Int)))) % (ls.sum + 1)) = q := by clear hc p1 p2 p3; generalize ix ns (((a : Int) + 4) + (2 * (0 + (i : Int)))) = g; generalize ix ns (((a : Int) + 5) + (2 * (0 + (i : Int)))) = h; exact ⟨_, in_ok (Int.emod_nonneg _ (by omega)) (Int.le_of_lt_add_one (by have := Int.emod_lt_of_pos g (show (0 : Int) < (gs.length : Int) + 1 by omega); omega)) (Int.emod_nonneg _ (by omega)) (by have := Int.emod_lt_of_pos h (show (0 : Int) < ls.sum + 1 by omega); omega), rfl⟩
      refine s_set (E.eq (e_tup (m_cons (e_op (o_mod (i := (ix ns (((a : Int) + 4) + (2 * (0 + (i : Int)))))) (j := ((gs.length : Int) + 1)) (by omega)) (e_cb o_int (a_cons (e_op (o_ixL (ix_at (xs := ns) (i := (((a : Int) + 4) + (2 * (0 + (i : Int))))) (by omega))) (e_var rfl) (e_op o_add (e_op o_add (e_var rfl) e_int) (e_op (o_mul (i := 2) (j := (0 + (i : Int))) (mulL (by omega) (by omega))) e_int (e_var rfl)))) a_nil)) (e_op o_add (e_cb o_lenM (a_cons (e_var rfl) a_nil)) e_int)) (m_cons (e_op (o_mod (i := (ix ns (((a : Int) + 5) + (2 * (0 + (i : Int)))))) (j := (ls.sum + 1)) (by omega)) (e_cb o_int (a_cons (e_op (o_ixL (ix_at (xs := ns) (i := (((a : Int) + 5) + (2 * (0 + (i : Int))))) (by omega))) (e_var rfl) (e_op o_add (e_op o_add (e_var rfl) e_int) (e_op (o_mul (i := 2) (j := (0 + (i : Int))) (mulL (by omega) (by omega))) e_int (e_var rfl)))) a_nil)) (e_op o_add (e_cb o_sum (a_cons (e_var rfl) a_nil)) e_int)) m_nil))) (e := dP pk) (by exact congrArg dP epk)) ?_
      show WC ⟨hs, hs, (fun _ => False), [.fz (RD (.list (ns.map PyData.int))), .fz (RD (.int (a : Int))), .fz (RD (.list (ls.map PyData.int))), .fz (RD (.list (gs.map PyData.int))), .fz (RD (.int (m : Int))), .fz (RD (.list (qs.map PyData.int))), .fz (RD (dP st)), .fz (RD (dP st)), .own (OL (ps.map dP)), .fz (RD (.int (0 + (i : Int)))), .fz (RD (dP pk))]⟩ _
      refine s_if (t_T (e_op (o_niE (f := dP) (a := pk) (xs := ps) (hd := inferInstance) (by exact enc_P) (by decide) (by exact ⟨trivial, trivial⟩) (by exact (fun _ _ => ⟨trivial, trivial⟩))) (e_var rfl) (e_own rfl))) (fun h2 => ?_) (fun h2 => ?_)
      · have := h2
        refine s_appM (xs := ps) (a := pk) rfl (e_var rfl) (by omega) ?_
        show WC ⟨hs, hs, (fun _ => False), [.fz (RD (.list (ns.map PyData.int))), .fz (RD (.int (a : Int))), .fz (RD (.list (ls.map PyData.int))), .fz (RD (.list (gs.map PyData.int))), .fz (RD (.int (m : Int))), .fz (RD (.list (qs.map PyData.int))), .fz (RD (dP st)), .fz (RD (dP st)), .own (OL ((ps ++ [pk]).map dP)), .fz (RD (.int (0 + (i : Int)))), .fz (RD (dP pk))]⟩ _
        refine s_drop 9 ?_
        refine s_drop 10 ?_
        show WC ⟨hs, hs, (fun _ => False), [.fz (RD (.list (ns.map PyData.int))), .fz (RD (.int (a : Int))), .fz (RD (.list (ls.map PyData.int))), .fz (RD (.list (gs.map PyData.int))), .fz (RD (.int (m : Int))), .fz (RD (.list (qs.map PyData.int))), .fz (RD (dP st)), .fz (RD (dP st)), .own (OL ((ps ++ [pk]).map dP)), .any, .any]⟩ _
        exact s_of ⟨(ps ++ [pk]), rfl, ⟨fun p hp => (List.mem_append.mp hp).elim (p1 p) fun z => by rw [List.mem_singleton.mp z]; exact hpk, List.nodup_append.mpr ⟨p2, by simp, fun y hy y2 hy2 e => by rw [List.mem_singleton.mp hy2] at e; rw [e] at hy; simp [hy] at this⟩, by rw [List.length_append, List.length_singleton]; omega⟩⟩
      · have := h2
        refine s_pass ?_
        refine s_drop 9 ?_
        refine s_drop 10 ?_
        show WC ⟨hs, hs, (fun _ => False), [.fz (RD (.list (ns.map PyData.int))), .fz (RD (.int (a : Int))), .fz (RD (.list (ls.map PyData.int))), .fz (RD (.list (gs.map PyData.int))), .fz (RD (.int (m : Int))), .fz (RD (.list (qs.map PyData.int))), .fz (RD (dP st)), .fz (RD (dP st)), .own (OL (ps.map dP)), .any, .any]⟩ _
        exact s_of ⟨ps, rfl, ⟨p1, p2, by omega⟩⟩
    · rintro γ ⟨ps, rfl, ⟨p1, p2, p3⟩⟩
      show WC ⟨hs, hs, (fun _ => False), [.fz (RD (.list (ns.map PyData.int))), .fz (RD (.int (a : Int))), .fz (RD (.list (ls.map PyData.int))), .fz (RD (.list (gs.map PyData.int))), .fz (RD (.int (m : Int))), .fz (RD (.list (qs.map PyData.int))), .fz (RD (dP st)), .fz (RD (dP st)), .own (OL (ps.map dP)), .any, .any]⟩ _
      refine s_fixM (i := 8) rfl ?_
      show WC ⟨hs, hs, (fun _ => False), [.fz (RD (.list (ns.map PyData.int))), .fz (RD (.int (a : Int))), .fz (RD (.list (ls.map PyData.int))), .fz (RD (.list (gs.map PyData.int))), .fz (RD (.int (m : Int))), .fz (RD (.list (qs.map PyData.int))), .fz (RD (dP st)), .fz (RD (dP st)), .fz (RD (.list (ps.map dP))), .any, .any]⟩ _
      refine s_retX (ex_e (R := R__law_aims ) (G := G__law_aims  _) (st, st, ps) (e_tup (m_cons (e_var rfl) (m_cons (e_var rfl) (m_cons (e_var rfl) m_nil)))) ?_) q
      exact ⟨hst, by first | exact hst | exact hen, p1, p2, Nat.le_trans p3 hc.1⟩
  · have := h1
    refine s_pass ?_
    refine s_seq ?_
    refine s_new (n_lst m_nil) ?_
    show WC ⟨hs, hs, (fun _ => False), [.fz (RD (.list (ns.map PyData.int))), .fz (RD (.int (a : Int))), .fz (RD (.list (ls.map PyData.int))), .fz (RD (.list (gs.map PyData.int))), .fz (RD (.int (m : Int))), .fz (RD (.list (qs.map PyData.int))), .fz (RD (dP st)), .fz (RD (dP en)), .own (OL (([] : List ((Int) × (Int))).map dP)), .any, .any]⟩ _
    refine s_seq ?_
    have hc : (ix ns ((a : Int) + 3) % ((m : Int) + 1)).toNat ≤ m ∧ 0 ≤ ix ns ((a : Int) + 3) % ((m : Int) + 1) ∧ ix ns ((a : Int) + 3) % ((m : Int) + 1) ≤ m := by have c0 := Int.emod_nonneg (ix ns ((a : Int) + 3)) (show ((m : Int) + 1) ≠ 0 by omega); have c1 := Int.emod_lt_of_pos (ix ns ((a : Int) + 3)) (show (0 : Int) < (m : Int) + 1 by omega); omega
    refine s_rng (lo := 0) (n := (((ix ns ((a : Int) + 3)) % ((m : Int) + 1)) : Int).toNat) (fun (i : Nat) γ => ∃ (ps : List ((Int) × (Int))), γ = [.fz (RD (.list (ns.map PyData.int))), .fz (RD (.int (a : Int))), .fz (RD (.list (ls.map PyData.int))), .fz (RD (.list (gs.map PyData.int))), .fz (RD (.int (m : Int))), .fz (RD (.list (qs.map PyData.int))), .fz (RD (dP st)), .fz (RD (dP en)), .own (OL (ps.map dP)), .any, .any] ∧ ((∀ p ∈ ps, ok1 p) ∧ ps.Nodup ∧ ps.length ≤ i)) (w_rng1 (j := ((ix ns ((a : Int) + 3)) % ((m : Int) + 1))) (e_op (o_mod (i := (ix ns ((a : Int) + 3))) (j := ((m : Int) + 1)) (by omega)) (e_cb o_int (a_cons (e_op (o_ixL (ix_at (xs := ns) (i := ((a : Int) + 3)) (by omega))) (e_var rfl) (e_op o_add (e_var rfl) e_int)) a_nil)) (e_op o_add (e_var rfl) e_int)) (by omega)) ⟨([] : List ((Int) × (Int))), rfl, ⟨(fun _ h => nomatch h), .nil, Nat.zero_le _⟩⟩ ?_ ?_
    · rintro i γ hi ⟨ps, rfl, ⟨p1, p2, p3⟩⟩
      have il : i < m := Nat.lt_of_lt_of_le hi hc.1
      refine ⟨_, _, g_name, ?_⟩
      show WC ⟨hs, hs, (fun _ => False), [.fz (RD (.list (ns.map PyData.int))), .fz (RD (.int (a : Int))), .fz (RD (.list (ls.map PyData.int))), .fz (RD (.list (gs.map PyData.int))), .fz (RD (.int (m : Int))), .fz (RD (.list (qs.map PyData.int))), .fz (RD (dP st)), .fz (RD (dP en)), .own (OL (ps.map dP)), .fz (RD (.int (0 + (i : Int)))), .any]⟩ _
      refine s_seq ?_
      obtain ⟨pk, hpk, epk⟩ : ∃ q : Pl, ok1 q ∧ (ix ns (((a : Int) + 4) + (2 * (0 + (i : Int)))) % ((gs.length : Int) + 1), ix ns (((a : Int) + 5) + (2 * (0 + (i : Int)))) % (ls.sum + 1)) = q := by clear hc p1 p2 p3; generalize ix ns (((a : Int) + 4) + (2 * (0 + (i : Int)))) = g; generalize ix ns (((a : Int) + 5) + (2 * (0 + (i : Int)))) = h; exact ⟨_, in_ok (Int.emod_nonneg _ (by omega)) (Int.le_of_lt_add_one (by have := Int.emod_lt_of_pos g (show (0 : Int) < (gs.length : Int) + 1 by omega); omega)) (Int.emod_nonneg _ (by omega)) (by have := Int.emod_lt_of_pos h (show (0 : Int) < ls.sum + 1 by omega); omega), rfl⟩
      refine s_set (E.eq (e_tup (m_cons (e_op (o_mod (i := (ix ns (((a : Int) + 4) + (2 * (0 + (i : Int)))))) (j := ((gs.length : Int) + 1)) (by omega)) (e_cb o_int (a_cons (e_op (o_ixL (ix_at (xs := ns) (i := (((a : Int) + 4) + (2 * (0 + (i : Int))))) (by omega))) (e_var rfl) (e_op o_add (e_op o_add (e_var rfl) e_int) (e_op (o_mul (i := 2) (j := (0 + (i : Int))) (mulL (by omega) (by omega))) e_int (e_var rfl)))) a_nil)) (e_op o_add (e_cb o_lenM (a_cons (e_var rfl) a_nil)) e_int)) (m_cons (e_op (o_mod (i := (ix ns (((a : Int) + 5) + (2 * (0 + (i : Int)))))) (j := (ls.sum + 1)) (by omega)) (e_cb o_int (a_cons (e_op (o_ixL (ix_at (xs := ns) (i := (((a : Int) + 5) + (2 * (0 + (i : Int))))) (by omega))) (e_var rfl) (e_op o_add (e_op o_add (e_var rfl) e_int) (e_op (o_mul (i := 2) (j := (0 + (i : Int))) (mulL (by omega) (by omega))) e_int (e_var rfl)))) a_nil)) (e_op o_add (e_cb o_sum (a_cons (e_var rfl) a_nil)) e_int)) m_nil))) (e := dP pk) (by exact congrArg dP epk)) ?_
      show WC ⟨hs, hs, (fun _ => False), [.fz (RD (.list (ns.map PyData.int))), .fz (RD (.int (a : Int))), .fz (RD (.list (ls.map PyData.int))), .fz (RD (.list (gs.map PyData.int))), .fz (RD (.int (m : Int))), .fz (RD (.list (qs.map PyData.int))), .fz (RD (dP st)), .fz (RD (dP en)), .own (OL (ps.map dP)), .fz (RD (.int (0 + (i : Int)))), .fz (RD (dP pk))]⟩ _
      refine s_if (t_T (e_op (o_niE (f := dP) (a := pk) (xs := ps) (hd := inferInstance) (by exact enc_P) (by decide) (by exact ⟨trivial, trivial⟩) (by exact (fun _ _ => ⟨trivial, trivial⟩))) (e_var rfl) (e_own rfl))) (fun h3 => ?_) (fun h3 => ?_)
      · have := h3
        refine s_appM (xs := ps) (a := pk) rfl (e_var rfl) (by omega) ?_
        show WC ⟨hs, hs, (fun _ => False), [.fz (RD (.list (ns.map PyData.int))), .fz (RD (.int (a : Int))), .fz (RD (.list (ls.map PyData.int))), .fz (RD (.list (gs.map PyData.int))), .fz (RD (.int (m : Int))), .fz (RD (.list (qs.map PyData.int))), .fz (RD (dP st)), .fz (RD (dP en)), .own (OL ((ps ++ [pk]).map dP)), .fz (RD (.int (0 + (i : Int)))), .fz (RD (dP pk))]⟩ _
        refine s_drop 9 ?_
        refine s_drop 10 ?_
        show WC ⟨hs, hs, (fun _ => False), [.fz (RD (.list (ns.map PyData.int))), .fz (RD (.int (a : Int))), .fz (RD (.list (ls.map PyData.int))), .fz (RD (.list (gs.map PyData.int))), .fz (RD (.int (m : Int))), .fz (RD (.list (qs.map PyData.int))), .fz (RD (dP st)), .fz (RD (dP en)), .own (OL ((ps ++ [pk]).map dP)), .any, .any]⟩ _
        exact s_of ⟨(ps ++ [pk]), rfl, ⟨fun p hp => (List.mem_append.mp hp).elim (p1 p) fun z => by rw [List.mem_singleton.mp z]; exact hpk, List.nodup_append.mpr ⟨p2, by simp, fun y hy y2 hy2 e => by rw [List.mem_singleton.mp hy2] at e; rw [e] at hy; simp [hy] at this⟩, by rw [List.length_append, List.length_singleton]; omega⟩⟩
      · have := h3
        refine s_pass ?_
        refine s_drop 9 ?_
        refine s_drop 10 ?_
        show WC ⟨hs, hs, (fun _ => False), [.fz (RD (.list (ns.map PyData.int))), .fz (RD (.int (a : Int))), .fz (RD (.list (ls.map PyData.int))), .fz (RD (.list (gs.map PyData.int))), .fz (RD (.int (m : Int))), .fz (RD (.list (qs.map PyData.int))), .fz (RD (dP st)), .fz (RD (dP en)), .own (OL (ps.map dP)), .any, .any]⟩ _
        exact s_of ⟨ps, rfl, ⟨p1, p2, by omega⟩⟩
    · rintro γ ⟨ps, rfl, ⟨p1, p2, p3⟩⟩
      show WC ⟨hs, hs, (fun _ => False), [.fz (RD (.list (ns.map PyData.int))), .fz (RD (.int (a : Int))), .fz (RD (.list (ls.map PyData.int))), .fz (RD (.list (gs.map PyData.int))), .fz (RD (.int (m : Int))), .fz (RD (.list (qs.map PyData.int))), .fz (RD (dP st)), .fz (RD (dP en)), .own (OL (ps.map dP)), .any, .any]⟩ _
      refine s_fixM (i := 8) rfl ?_
      show WC ⟨hs, hs, (fun _ => False), [.fz (RD (.list (ns.map PyData.int))), .fz (RD (.int (a : Int))), .fz (RD (.list (ls.map PyData.int))), .fz (RD (.list (gs.map PyData.int))), .fz (RD (.int (m : Int))), .fz (RD (.list (qs.map PyData.int))), .fz (RD (dP st)), .fz (RD (dP en)), .fz (RD (.list (ps.map dP))), .any, .any]⟩ _
      refine s_retX (ex_e (R := R__law_aims ) (G := G__law_aims  _) (st, en, ps) (e_tup (m_cons (e_var rfl) (m_cons (e_var rfl) (m_cons (e_var rfl) m_nil)))) ?_) q
      exact ⟨hst, by first | exact hst | exact hen, p1, p2, Nat.le_trans p3 hc.1⟩
end
open SX
section
open GxR NdefX PySem.Spec PyProof.Rows
variable {P : Program} {w : World} {K : PySem.W.Frag} {mg : Str → Option Value} {base : Heap}
theorem up_S {wd : List Nat} (h : isW wd) : Txt.upper (S wd) = S (upC wd) := by
  rcases h with rfl | rfl | rfl <;> decide +kernel
def Rs__law_spoilt  : (List Nat) × Pl → List Rel := fun x => [(RD (dX (plL x.1 x.2)))]
def P__law_spoilt  : (List Nat) × Pl → Hp → Prop := fun x H => isW x.1 ∧ ok1 x.2
def R__law_spoilt  : (List Nat) × Pl → Own := fun x => OL ((spoilt x.1 x.2).map dX)
theorem ok__law_spoilt {f : Addr} {fd : FuncData} (F : Fun K "_law_spoilt" "_law_spoilt" s__law_spoilt f fd) : FnOk P w K mg base CX0 1 f fd ["line"] (SpN (Rs__law_spoilt ) (P__law_spoilt ) (R__law_spoilt )) := by
  refine fn_okN F sc__law_spoilt (fun _ => rfl) fun cdv A outer s H E0 hr => ?_
  have nd := sc__law_spoilt.nd
  refine ⟨_, (pss_cons (ps_set (i := 1) nd rfl (.inl rfl) (pe_split (pv 0) pe_str))
      (pss_cons (ps_set (i := 2) nd rfl (.inl rfl) (pe_ix (r := rIxL K) ix_list (pv 1) pe_int (fun _ _ => rfl)))
      (pss_cons (ps_set (i := 3) nd rfl (.inl rfl) (pe_join pe_str (pe_slice sl_list (pv 1) (po_some pe_int) po_none)))
      (pss_cons (ps_set (i := 4) nd rfl (.inl rfl) (pe_lst0 (pat_cons (pet_of (pe_op (r := fun x y H Q => ∃ i j, x = .str i ∧ y = .str j ∧ i.length + j.length ≤ sizeLine ∧ Q (.str (i ++ j)) H) op_add_str pe_str (pv 0))) (pat_cons (pet_of (pe_op (r := fun x y H Q => ∃ i j, x = .str i ∧ y = .str j ∧ i.length + j.length ≤ sizeLine ∧ Q (.str (i ++ j)) H) op_add_str (pv 0) pe_str)) (pat_cons (pet_repl1 (c := 32) (z := [32, 32]) (pv 0) (by decide +kernel) (by decide +kernel) (by decide)) (pat_cons (pet_of (pe_op (r := fun x y H Q => ∃ i j, x = .str i ∧ y = .str j ∧ i.length + j.length ≤ sizeLine ∧ Q (.str (i ++ j)) H) op_add_str (pe_op (r := fun x y H Q => ∃ i j, x = .str i ∧ y = .str j ∧ i.length + j.length ≤ sizeLine ∧ Q (.str (i ++ j)) H) op_add_str (pv 2) pe_str) (pv 3))) (pat_cons (pet_of (pe_op (r := fun x y H Q => ∃ i j, x = .str i ∧ y = .str j ∧ i.length + j.length ≤ sizeLine ∧ Q (.str (i ++ j)) H) op_add_str (pe_op (r := fun x y H Q => ∃ i j, x = .str i ∧ y = .str j ∧ i.length + j.length ≤ sizeLine ∧ Q (.str (i ++ j)) H) op_add_str (pe_m0 PySem.F.slot_str_upper PySem.F.type_str_upper mt_upper (pv 2)) pe_str) (pv 3))) (pat_cons (pet_of (pv 2)) (pat_cons (pet_of (pe_op (r := fun x y H Q => ∃ i j, x = .str i ∧ y = .str j ∧ i.length + j.length ≤ sizeLine ∧ Q (.str (i ++ j)) H) op_add_str (pv 2) pe_str)) (pat_cons (pet_of (pe_op (r := fun x y H Q => ∃ i j, x = .str i ∧ y = .str j ∧ i.length + j.length ≤ sizeLine ∧ Q (.str (i ++ j)) H) op_add_str (pv 0) pe_str)) pat_nil))))))))))
      (pss_cons (ps_set (i := 4) nd rfl (.inl rfl) (pe_op op_cat (pv 4) (pe_lst (pa_cons (pe_op (r := fun x y H Q => ∃ i j, x = .str i ∧ y = .str j ∧ i.length + j.length ≤ sizeLine ∧ Q (.str (i ++ j)) H) op_add_str (pv 2) pe_str) (pa_cons (pe_op (r := fun x y H Q => ∃ i j, x = .str i ∧ y = .str j ∧ i.length + j.length ≤ sizeLine ∧ Q (.str (i ++ j)) H) op_add_str (pv 2) pe_str) (pa_cons (pe_op (r := fun x y H Q => ∃ i j, x = .str i ∧ y = .str j ∧ i.length + j.length ≤ sizeLine ∧ Q (.str (i ++ j)) H) op_add_str (pv 2) pe_str) (pa_cons (pe_op (r := fun x y H Q => ∃ i j, x = .str i ∧ y = .str j ∧ i.length + j.length ≤ sizeLine ∧ Q (.str (i ++ j)) H) op_add_str (pv 2) pe_str) (pa_cons (pe_op (r := fun x y H Q => ∃ i j, x = .str i ∧ y = .str j ∧ i.length + j.length ≤ sizeLine ∧ Q (.str (i ++ j)) H) op_add_str (pv 2) pe_str) (pa_cons (pe_op (r := fun x y H Q => ∃ i j, x = .str i ∧ y = .str j ∧ i.length + j.length ≤ sizeLine ∧ Q (.str (i ++ j)) H) op_add_str (pv 2) pe_str) (pa_cons (pe_op (r := fun x y H Q => ∃ i j, x = .str i ∧ y = .str j ∧ i.length + j.length ≤ sizeLine ∧ Q (.str (i ++ j)) H) op_add_str (pv 2) pe_str) (pa_cons (pe_op (r := fun x y H Q => ∃ i j, x = .str i ∧ y = .str j ∧ i.length + j.length ≤ sizeLine ∧ Q (.str (i ++ j)) H) op_add_str (pv 2) pe_str) (pa_cons (pe_op (r := fun x y H Q => ∃ i j, x = .str i ∧ y = .str j ∧ i.length + j.length ≤ sizeLine ∧ Q (.str (i ++ j)) H) op_add_str (pv 2) pe_str) pa_nil))))))))))))
      (pss_one (ps_ret (pe_op op_cat (pv 4) (pe_lst (pa_cons (pe_op (r := fun x y H Q => ∃ i j, x = .str i ∧ y = .str j ∧ i.length + j.length ≤ sizeLine ∧ Q (.str (i ++ j)) H) op_add_str (pv 2) pe_str) (pa_cons (pe_op (r := fun x y H Q => ∃ i j, x = .str i ∧ y = .str j ∧ i.length + j.length ≤ sizeLine ∧ Q (.str (i ++ j)) H) op_add_str (pv 2) pe_str) (pa_cons pe_str pa_nil)))))))))))), ?_⟩
  rintro ⟨wd, pt⟩ hs om Q hp q
  show WC ⟨hs, (less hs om), om, [.fz (RD (dX (plL wd pt))), .any, .any, .any, .any]⟩ _
  replace hp : isW wd ∧ ok1 pt := hp
  replace q : ∀ H' p o, Kp hs H' → H' p = none → (OL ((spoilt wd pt).map dX)).p (less H' om) o → Q (.ref p) (upd H' p o) := q
  have w5 := hp.1.c
  have la := dg_l hp.2.2.1
  have lb := dg_l hp.2.2.2.2
  have pl : (plL wd pt).length ≤ 60 := plL_len (by omega) hp.2.small
  have lu := (upC_c hp.1).1
  have lr : (TL.joinL [32] [dg pt.1, dg pt.2]).length ≤ 100 := by show (dg pt.1 ++ ([32] ++ dg pt.2)).length ≤ 100; simp only [List.length_append, List.length_cons, List.length_nil]; omega
  refine s_seq ?_
  refine s_set (n_e (n_splitS (x := (plL wd pt)) (y := [32]) (M := [wd, dg pt.1, dg pt.2]) (e_var rfl) (e_strS (x := [32]) (by decide +kernel)) (by rfl) (by omega) (split_plL (fun z => (w5.2 32 z).1 rfl) pt))) ?_
  show WC ⟨hs, (less hs om), om, [.fz (RD (dX (plL wd pt))), .fz (RD (.list ([wd, dg pt.1, dg pt.2].map dX))), .any, .any, .any]⟩ _
  refine s_seq ?_
  refine s_set (Pk.E.eq (e_op (o_ixL (ix_at (xs := [wd, dg pt.1, dg pt.2]) (i := 0) (by show -(3 : Int) ≤ 0 ∧ (0 : Int) < 3; decide))) (e_var rfl) e_int) (e := dX wd) (by rfl)) ?_
  show WC ⟨hs, (less hs om), om, [.fz (RD (dX (plL wd pt))), .fz (RD (.list ([wd, dg pt.1, dg pt.2].map dX))), .fz (RD (dX wd)), .any, .any]⟩ _
  refine s_seq ?_
  refine s_set (e_joinS (x := [32]) (M := [dg pt.1, dg pt.2]) (e_strS (x := [32]) (by decide +kernel)) (i_n (EN.eqL (n_slM (i_of (e_var rfl)) (p_some e_int) p_none) (by rfl))) (by simp only [List.map_cons, List.map_nil, List.sum_cons, List.sum_nil, S_len, List.length_cons, List.length_nil]; omega)) ?_
  show WC ⟨hs, (less hs om), om, [.fz (RD (dX (plL wd pt))), .fz (RD (.list ([wd, dg pt.1, dg pt.2].map dX))), .fz (RD (dX wd)), .fz (RD (dX (TL.joinL [32] [dg pt.1, dg pt.2]))), .any]⟩ _
  refine s_seq ?_
  refine s_set (R := RD (.list (([([] : List Nat), ([32] ++ (plL wd pt)), ((plL wd pt) ++ [32]), (wd ++ [32, 32] ++ (dg pt.1 ++ ([32] ++ dg pt.2))), ((wd ++ [115, 32]) ++ (TL.joinL [32] [dg pt.1, dg pt.2])), (((upC wd) ++ [32]) ++ (TL.joinL [32] [dg pt.1, dg pt.2])), wd, (wd ++ [32, 49]), ((plL wd pt) ++ [32, 49])] : List (List Nat)).map dX))) (n_e (n_lstM (xs := [([] : List Nat), ([32] ++ (plL wd pt)), ((plL wd pt) ++ [32]), (wd ++ [32, 32] ++ (dg pt.1 ++ ([32] ++ dg pt.2))), ((wd ++ [115, 32]) ++ (TL.joinL [32] [dg pt.1, dg pt.2])), (((upC wd) ++ [32]) ++ (TL.joinL [32] [dg pt.1, dg pt.2])), wd, (wd ++ [32, 49]), ((plL wd pt) ++ [32, 49])]) (enc := dX) (m_cons (e_strS (x := []) (by decide +kernel)) (m_cons (e_op (o_catS (x := [32]) (y := (plL wd pt)) (by simp only [List.length_append, List.length_cons, List.length_nil]; omega)) (e_strS (x := [32]) (by decide +kernel)) (e_var rfl)) (m_cons (e_op (o_catS (x := (plL wd pt)) (y := [32]) (by simp only [List.length_append, List.length_cons, List.length_nil]; omega)) (e_var rfl) (e_strS (x := [32]) (by decide +kernel))) (m_cons (e_repl1 (p := wd) (q := (dg pt.1 ++ ([32] ++ dg pt.2))) (k := 32) (z := [32, 32]) (show Pk.E true _ _ (RD (dX (wd ++ 32 :: (dg pt.1 ++ ([32] ++ dg pt.2))))) from (e_var rfl)) (fun z => (w5.2 32 z).1 rfl) (by simp only [List.length_append, List.length_cons, List.length_nil]; omega)) (m_cons (e_op (o_catS (x := (wd ++ [115, 32])) (y := (TL.joinL [32] [dg pt.1, dg pt.2])) (by simp only [List.length_append, List.length_cons, List.length_nil]; omega)) (e_op (o_catS (x := wd) (y := [115, 32]) (by simp only [List.length_append, List.length_cons, List.length_nil]; omega)) (e_var rfl) (e_strS (x := [115, 32]) (by decide +kernel))) (e_var rfl)) (m_cons (e_op (o_catS (x := ((upC wd) ++ [32])) (y := (TL.joinL [32] [dg pt.1, dg pt.2])) (by simp only [List.length_append, List.length_cons, List.length_nil]; omega)) (e_op (o_catS (x := (upC wd)) (y := [32]) (by simp only [List.length_append, List.length_cons, List.length_nil]; omega)) (e_upperS (e_var rfl) (by omega) (up_S hp.1)) (e_strS (x := [32]) (by decide +kernel))) (e_var rfl)) (m_cons (e_var rfl) (m_cons (e_op (o_catS (x := wd) (y := [32, 49]) (by simp only [List.length_append, List.length_cons, List.length_nil]; omega)) (e_var rfl) (e_strS (x := [32, 49]) (by decide +kernel))) (m_cons (e_op (o_catS (x := (plL wd pt)) (y := [32, 49]) (by simp only [List.length_append, List.length_cons, List.length_nil]; omega)) (e_var rfl) (e_strS (x := [32, 49]) (by decide +kernel))) m_nil))))))))))) ?_
  show WC ⟨hs, (less hs om), om, [.fz (RD (dX (plL wd pt))), .fz (RD (.list ([wd, dg pt.1, dg pt.2].map dX))), .fz (RD (dX wd)), .fz (RD (dX (TL.joinL [32] [dg pt.1, dg pt.2]))), .fz (RD (.list (([([] : List Nat), ([32] ++ (plL wd pt)), ((plL wd pt) ++ [32]), (wd ++ [32, 32] ++ (dg pt.1 ++ ([32] ++ dg pt.2))), ((wd ++ [115, 32]) ++ (TL.joinL [32] [dg pt.1, dg pt.2])), (((upC wd) ++ [32]) ++ (TL.joinL [32] [dg pt.1, dg pt.2])), wd, (wd ++ [32, 49]), ((plL wd pt) ++ [32, 49])] : List (List Nat)).map dX)))]⟩ _
  refine s_seq ?_
  refine s_set (n_e (n_catM (xs := ([([] : List Nat), ([32] ++ (plL wd pt)), ((plL wd pt) ++ [32]), (wd ++ [32, 32] ++ (dg pt.1 ++ ([32] ++ dg pt.2))), ((wd ++ [115, 32]) ++ (TL.joinL [32] [dg pt.1, dg pt.2])), (((upC wd) ++ [32]) ++ (TL.joinL [32] [dg pt.1, dg pt.2])), wd, (wd ++ [32, 49]), ((plL wd pt) ++ [32, 49])] : List (List Nat))) (ys := [(wd ++ [32, 48, 49, 32, 49]), (wd ++ [32, 49, 32, 48, 49]), (wd ++ [32, 45, 49, 32, 49]), (wd ++ [32, 49, 32, 43, 49]), (wd ++ [32, 120, 32, 49]), (wd ++ [32, 49, 32, 120]), (wd ++ [32, 49, 50, 51, 52, 53, 32, 49]), (wd ++ [32, 49, 32, 49, 48, 48, 49]), (wd ++ [32, 49, 48, 48, 49, 32, 49])]) (i_of (e_var rfl)) (i_n (n_lstM (xs := [(wd ++ [32, 48, 49, 32, 49]), (wd ++ [32, 49, 32, 48, 49]), (wd ++ [32, 45, 49, 32, 49]), (wd ++ [32, 49, 32, 43, 49]), (wd ++ [32, 120, 32, 49]), (wd ++ [32, 49, 32, 120]), (wd ++ [32, 49, 50, 51, 52, 53, 32, 49]), (wd ++ [32, 49, 32, 49, 48, 48, 49]), (wd ++ [32, 49, 48, 48, 49, 32, 49])]) (enc := dX) (m_cons (e_op (o_catS (x := wd) (y := [32, 48, 49, 32, 49]) (by simp only [List.length_append, List.length_cons, List.length_nil]; omega)) (e_var rfl) (e_strS (x := [32, 48, 49, 32, 49]) (by decide +kernel))) (m_cons (e_op (o_catS (x := wd) (y := [32, 49, 32, 48, 49]) (by simp only [List.length_append, List.length_cons, List.length_nil]; omega)) (e_var rfl) (e_strS (x := [32, 49, 32, 48, 49]) (by decide +kernel))) (m_cons (e_op (o_catS (x := wd) (y := [32, 45, 49, 32, 49]) (by simp only [List.length_append, List.length_cons, List.length_nil]; omega)) (e_var rfl) (e_strS (x := [32, 45, 49, 32, 49]) (by decide +kernel))) (m_cons (e_op (o_catS (x := wd) (y := [32, 49, 32, 43, 49]) (by simp only [List.length_append, List.length_cons, List.length_nil]; omega)) (e_var rfl) (e_strS (x := [32, 49, 32, 43, 49]) (by decide +kernel))) (m_cons (e_op (o_catS (x := wd) (y := [32, 120, 32, 49]) (by simp only [List.length_append, List.length_cons, List.length_nil]; omega)) (e_var rfl) (e_strS (x := [32, 120, 32, 49]) (by decide +kernel))) (m_cons (e_op (o_catS (x := wd) (y := [32, 49, 32, 120]) (by simp only [List.length_append, List.length_cons, List.length_nil]; omega)) (e_var rfl) (e_strS (x := [32, 49, 32, 120]) (by decide +kernel))) (m_cons (e_op (o_catS (x := wd) (y := [32, 49, 50, 51, 52, 53, 32, 49]) (by simp only [List.length_append, List.length_cons, List.length_nil]; omega)) (e_var rfl) (e_strS (x := [32, 49, 50, 51, 52, 53, 32, 49]) (by decide +kernel))) (m_cons (e_op (o_catS (x := wd) (y := [32, 49, 32, 49, 48, 48, 49]) (by simp only [List.length_append, List.length_cons, List.length_nil]; omega)) (e_var rfl) (e_strS (x := [32, 49, 32, 49, 48, 48, 49]) (by decide +kernel))) (m_cons (e_op (o_catS (x := wd) (y := [32, 49, 48, 48, 49, 32, 49]) (by simp only [List.length_append, List.length_cons, List.length_nil]; omega)) (e_var rfl) (e_strS (x := [32, 49, 48, 48, 49, 32, 49]) (by decide +kernel))) m_nil))))))))))) (by simp only [List.length_append, List.length_cons, List.length_nil]; decide))) ?_
  show WC ⟨hs, (less hs om), om, [.fz (RD (dX (plL wd pt))), .fz (RD (.list ([wd, dg pt.1, dg pt.2].map dX))), .fz (RD (dX wd)), .fz (RD (dX (TL.joinL [32] [dg pt.1, dg pt.2]))), .fz (RD (.list ((([([] : List Nat), ([32] ++ (plL wd pt)), ((plL wd pt) ++ [32]), (wd ++ [32, 32] ++ (dg pt.1 ++ ([32] ++ dg pt.2))), ((wd ++ [115, 32]) ++ (TL.joinL [32] [dg pt.1, dg pt.2])), (((upC wd) ++ [32]) ++ (TL.joinL [32] [dg pt.1, dg pt.2])), wd, (wd ++ [32, 49]), ((plL wd pt) ++ [32, 49])] : List (List Nat)) ++ [(wd ++ [32, 48, 49, 32, 49]), (wd ++ [32, 49, 32, 48, 49]), (wd ++ [32, 45, 49, 32, 49]), (wd ++ [32, 49, 32, 43, 49]), (wd ++ [32, 120, 32, 49]), (wd ++ [32, 49, 32, 120]), (wd ++ [32, 49, 50, 51, 52, 53, 32, 49]), (wd ++ [32, 49, 32, 49, 48, 48, 49]), (wd ++ [32, 49, 48, 48, 49, 32, 49])]).map dX)))]⟩ _
  refine s_retNew (EN.eqL (n_catM (xs := (([([] : List Nat), ([32] ++ (plL wd pt)), ((plL wd pt) ++ [32]), (wd ++ [32, 32] ++ (dg pt.1 ++ ([32] ++ dg pt.2))), ((wd ++ [115, 32]) ++ (TL.joinL [32] [dg pt.1, dg pt.2])), (((upC wd) ++ [32]) ++ (TL.joinL [32] [dg pt.1, dg pt.2])), wd, (wd ++ [32, 49]), ((plL wd pt) ++ [32, 49])] : List (List Nat)) ++ [(wd ++ [32, 48, 49, 32, 49]), (wd ++ [32, 49, 32, 48, 49]), (wd ++ [32, 45, 49, 32, 49]), (wd ++ [32, 49, 32, 43, 49]), (wd ++ [32, 120, 32, 49]), (wd ++ [32, 49, 32, 120]), (wd ++ [32, 49, 50, 51, 52, 53, 32, 49]), (wd ++ [32, 49, 32, 49, 48, 48, 49]), (wd ++ [32, 49, 48, 48, 49, 32, 49])])) (ys := [(wd ++ [32, 49, 58, 49]), (wd ++ [32, 49, 95, 48, 32, 49]), [112, 108, 97, 99, 101, 115, 32, 49, 32, 49]]) (i_of (e_var rfl)) (i_n (n_lstM (xs := [(wd ++ [32, 49, 58, 49]), (wd ++ [32, 49, 95, 48, 32, 49]), [112, 108, 97, 99, 101, 115, 32, 49, 32, 49]]) (enc := dX) (m_cons (e_op (o_catS (x := wd) (y := [32, 49, 58, 49]) (by simp only [List.length_append, List.length_cons, List.length_nil]; omega)) (e_var rfl) (e_strS (x := [32, 49, 58, 49]) (by decide +kernel))) (m_cons (e_op (o_catS (x := wd) (y := [32, 49, 95, 48, 32, 49]) (by simp only [List.length_append, List.length_cons, List.length_nil]; omega)) (e_var rfl) (e_strS (x := [32, 49, 95, 48, 32, 49]) (by decide +kernel))) (m_cons (e_strS (x := [112, 108, 97, 99, 101, 115, 32, 49, 32, 49]) (by decide +kernel)) m_nil))))) (by simp only [List.length_append, List.length_cons, List.length_nil]; decide)) (congrArg (List.map dX) (show ((([([] : List Nat), ([32] ++ (plL wd pt)), ((plL wd pt) ++ [32]), (wd ++ [32, 32] ++ (dg pt.1 ++ ([32] ++ dg pt.2))), ((wd ++ [115, 32]) ++ (TL.joinL [32] [dg pt.1, dg pt.2])), (((upC wd) ++ [32]) ++ (TL.joinL [32] [dg pt.1, dg pt.2])), wd, (wd ++ [32, 49]), ((plL wd pt) ++ [32, 49])] : List (List Nat)) ++ [(wd ++ [32, 48, 49, 32, 49]), (wd ++ [32, 49, 32, 48, 49]), (wd ++ [32, 45, 49, 32, 49]), (wd ++ [32, 49, 32, 43, 49]), (wd ++ [32, 120, 32, 49]), (wd ++ [32, 49, 32, 120]), (wd ++ [32, 49, 50, 51, 52, 53, 32, 49]), (wd ++ [32, 49, 32, 49, 48, 48, 49]), (wd ++ [32, 49, 48, 48, 49, 32, 49])]) ++ [(wd ++ [32, 49, 58, 49]), (wd ++ [32, 49, 95, 48, 32, 49]), [112, 108, 97, 99, 101, 115, 32, 49, 32, 49]]) = (spoilt wd pt) from ?_))) q
  unfold spoilt spoiltP; simp [TL.joinL, plL, rowL, List.append_assoc]
end
open SX
section
open GxR NdefX PySem.Spec PyProof.Rows
variable {P : Program} {w : World} {K : PySem.W.Frag} {mg : Str → Option Value} {base : Heap}
theorem sm_ok {p : Pl} (h : ok1 p) : small p := h.small
theorem line_at {st en : Pl} {ps : List Pl} (h : TkOk st en ps) {a : Nat} (ha : a < (LsT st en ps).length) : ∃ wd q, isW wd ∧ ok1 q ∧ ix (LsT st en ps) (a : Int) = plL wd q ∧ wd = wordAt a := by
  match a, ha with
  | 0, _ => exact ⟨stC, st, wSt, h.s, ix_nat (j := 0) rfl, rfl⟩
  | 1, _ => exact ⟨enC, en, wEn, h.e, ix_nat (j := 1) rfl, rfl⟩
  | a + 2, ha =>
    rw [LsT_len] at ha
    have l : a < ps.length := by omega
    refine ⟨piC, ps[a], wPi, h.p _ (List.getElem_mem l), ?_, ?_⟩
    · refine ix_nat ?_
      show (ps.map (plL piC))[a]? = _
      rw [List.getElem?_map, List.getElem?_eq_getElem l]
      rfl
    · unfold wordAt
      rw [if_neg (by omega), if_neg (by omega)]
theorem cut_take {α : Type} {xs : List α} {a : Nat} (h : a ≤ xs.length) : cutL xs none (some (a : Int)) = xs.take a := by
  unfold cutL
  rw [HT.sIx_nat]
  show (xs.drop 0).take (min a xs.length - 0) = _
  rw [List.drop_zero, Nat.sub_zero, Nat.min_eq_left h]
theorem cut_drop {α : Type} {xs : List α} {a : Nat} (h : a ≤ xs.length) : cutL xs (some (a : Int)) none = xs.drop a := by
  unfold cutL
  rw [HT.sIx_nat, Nat.min_eq_left h]
  show (xs.drop a).take (xs.length - a) = _
  exact List.take_of_length_le (by rw [List.length_drop]; omega)
theorem join_bd {M : List (List Nat)} (h : M.length ≤ 100 ∧ ∀ l ∈ M, l.length ≤ 100) : ((M.map S).map (·.length)).sum + (M.map S).length * (S [10]).length ≤ 16777216 := by
  have z := sum_len h.2
  have e : (S [10]).length = 1 := rfl
  rw [List.length_map, e]
  have := h.1
  have : 100 * M.length ≤ 100 * 100 := Nat.mul_le_mul_left _ h.1
  omega
theorem bd_spoilt {st en : Pl} {ps : List Pl} (h : TkOk st en ps) {a : Nat} {x : List Nat} (ha : a < (LsT st en ps).length) (hx : x.length ≤ 100) : ((LsT st en ps).take a ++ [x] ++ (LsT st en ps).drop (a + 1)).length ≤ 100 ∧ ∀ l ∈ (LsT st en ps).take a ++ [x] ++ (LsT st en ps).drop (a + 1), l.length ≤ 100 := by
  refine ⟨?_, fun l m => ?_⟩
  · rw [List.length_append, List.length_append, List.length_take, List.length_drop, LsT_len, List.length_singleton]
    have := h.le
    omega
  · rcases List.mem_append.mp m with z | z
    · rcases List.mem_append.mp z with z | z
      · exact (LsT_lines h l (List.mem_of_mem_take z)).1
      · rw [List.mem_singleton.mp z]; exact hx
    · exact (LsT_lines h l (List.mem_of_mem_drop z)).1
def qsM : List Pl := (rgI 0 61).map fun k => (k / 9, k % 9)
theorem qsM_nd : (qsM.take 60).Nodup ∧ (qsM.take 60).length = 60 ∧ qsM = qsM.take 60 ++ [(6, 6)] ∧ (qsM.all fun p => decide (0 ≤ p.1) && (decide (p.1 ≤ 1000) && (decide (0 ≤ p.2) && decide (p.2 ≤ 1000)))) = true := by decide +kernel
theorem qsM_ok : ∀ p ∈ qsM, ok1 p := fun p m => by
  have := List.all_eq_true.mp qsM_nd.2.2.2 p m
  simp only [Bool.and_eq_true, decide_eq_true_eq] at this
  exact this
theorem plL_cat (p : Pl) : [112, 105, 99, 107, 32] ++ dg p.1 ++ [32] ++ dg p.2 = plL piC p := by
  show _ = piC ++ ([32] ++ (dg p.1 ++ ([32] ++ dg p.2)))
  simp [List.append_assoc]
theorem many_eq : ((rgI 0 61).map fun k => ((([112, 105, 99, 107, 32] ++ (dg (k / 9))) ++ [32]) ++ (dg (k % 9)))) = qsM.map (plL piC) := by
  unfold qsM
  rw [List.map_map]
  exact List.map_congr_left fun k _ => plL_cat (k / 9, k % 9)
theorem pick00 : plL piC (0, 0) = [112, 105, 99, 107, 32, 48, 32, 48] := by decide +kernel
theorem asks_00 {st en : Pl} {ps : List Pl} (h : TkOk st en ps) : Asks (plL stC st ++ [10, 112, 105, 99, 107, 32, 48, 32, 48]) 2 := by
  have o : ok1 (0, 0) := ⟨by decide, by decide, by decide, by decide⟩
  have z := asks_two h (good_lin wPi o).1 (other_lin wPi o (by decide))
  rw [pick00] at z
  exact z
theorem told_eq {z : List Nat} {n m : Int} (h : Asks z n) (e : n = m) : decide (toldI 0 (S z) = m) = true := by
  have t := told_ne h e
  simpa using t
theorem told_eqW {z : List Nat} {n m : Int} (h : AsksW z n) (e : n = m) : decide (toldI 1 (S z) = m) = true := by
  have t := told_neW h e
  simpa using t
theorem LsT_many {st en : Pl} {ps qs : List Pl} (h : TkOk st en ps) (hq : ∀ x ∈ qs, ok1 x) (l : qs.length ≤ 61) : (LsT st en qs).length ≤ 100 ∧ ∀ x ∈ LsT st en qs, x.length ≤ 100 := by
  refine ⟨by rw [LsT_len]; omega, fun x m => ?_⟩
  rcases List.mem_cons.mp m with z | z
  · rw [z]; exact (good_lin wSt h.s).1.1
  · rcases List.mem_cons.mp z with z | z
    · rw [z]; exact (good_lin wEn h.e).1.1
    · exact (pi_lines hq x z).1
theorem ok_law (CT CIT T0 fT : Addr) (fdT : FuncData) {f : Addr} {fd : FuncData} (F : Fun K "law" "law" s_law f fd) (t__law_numbers : TopD P w K mg base 2 "_law_numbers" ["script", "many"] (spNumbers K)) (t__law_parts : TopD P w K mg base 1 "_law_parts" ["numbers", "at"] (SpX0 (Rs__law_parts ) (P__law_parts ) (R__law_parts ) (G__law_parts ))) (t__law_aims : TopD P w K mg base 2 "_law_aims" ["numbers", "at", "lengths", "gaps", "many"] (SpX0 (Rs__law_aims ) (P__law_aims ) (R__law_aims ) (G__law_aims ))) (MT : Mk K CT fT) (GT : FnOk P w K mg base (L2.CX P w) 2 fT fdT ["self", "start", "end", "picks"] (spTask K CT CIT)) (bT : Binds K fdT ["self", "start", "end", "picks"] []) (mgT : mg "Task" = some (.ref CT)) (t_format_task : TopD P w K mg base 3 "format_task" ["task"] (spFTask CT)) (t__law_told : TopD P w K mg base 9 "_law_told" ["kind", "text"] (spTd0 T0)) (z_len : mg "len" = none) (z_int : mg "int" = none) (t__law_spoilt : TopD P w K mg base 1 "_law_spoilt" ["line"] (SpN (Rs__law_spoilt ) (P__law_spoilt ) (R__law_spoilt ))) (z_range : mg "range" = none) (z_str : mg "str" = none) (t_format_walk : TopD P w K mg base 1 "format_walk" ["walk"] (spFWalk K)) : FnOk P w K mg base CX0 11 f fd ["script"] (spLawT K [T0]) := by
  refine fn_okL F sc_law fun cdv A outer s H E0 hr => ?_
  have nd := sc_law.nd
  refine ⟨_, (pss_cons (ps_set (i := 1) nd rfl (.inl rfl) (pe_call t__law_numbers.G (by exact hr.mono (by decide)) (by rfl) t__law_numbers.g t__law_numbers.kp t__law_numbers.b .nil pass0 (pa_cons (pv 0) (pa_cons pe_int pa_nil))))
      (pss_cons (ps_asg (pe_call t__law_parts.G (by exact hr.mono (by decide)) (by rfl) t__law_parts.g t__law_parts.kp t__law_parts.b .nil pass0 (pa_cons (pv 1) (pa_cons pe_int pa_nil))) (pg_tup rfl (pgs_cons (pg_name (i := 2) nd rfl (.inl rfl)) (pgs_cons (pg_name (i := 3) nd rfl (.inl rfl)) (pgs_cons (pg_name (i := 4) nd rfl (.inl rfl)) pgs_nil)))))
      (pss_cons (ps_asg (pe_call t__law_aims.G (by exact hr.mono (by decide)) (by rfl) t__law_aims.g t__law_aims.kp t__law_aims.b .nil pass0 (pa_cons (pv 1) (pa_cons pe_int (pa_cons (pv 2) (pa_cons (pv 3) (pa_cons pe_int pa_nil)))))) (pg_tup rfl (pgs_cons (pg_name (i := 5) nd rfl (.inl rfl)) (pgs_cons (pg_name (i := 6) nd rfl (.inl rfl)) (pgs_cons (pg_name (i := 7) nd rfl (.inl rfl)) pgs_nil)))))
      (pss_cons (ps_set (i := 8) nd rfl (.inl rfl) (pe_call t_format_task.G (by exact hr.mono (by decide)) (by rfl) t_format_task.g t_format_task.kp t_format_task.b .nil pass0 (pa_cons (pe_make MT GT (by exact hr.mono (by decide)) (by rfl) mgT bT .nil (passes_call takes0 fun _ _ _ _ h => h) (pa_cons (pv 5) (pa_cons (pv 6) (pa_cons (pv 7) pa_nil)))) pa_nil)))
      (pss_cons (ps_set (i := 9) nd rfl (.inl rfl) (pe_split (pv 8) pe_str))
      (pss_cons (ps_if (pt_cmpR (r := rNe) op_ne (pe_call t__law_told.G (by exact hr.mono (by decide)) (by rfl) t__law_told.g t__law_told.kp t__law_told.b .nil pass0 (pa_cons pe_int (pa_cons (pv 8) pa_nil))) pe_int (nomark _)) (pss_one (ps_ret pe_bl)) pss_nil)
      (pss_cons (ps_for PassesOwn.never rfl (pi_list (pe_lst (pa_cons pe_int (pa_cons pe_int (pa_cons (pe_op op_sub (pe_callB call_len (by rfl) z_len (by decide +kernel) (pa_cons (pv 9) pa_nil)) pe_int) (pa_cons (pe_op op_mod (pe_callTy call_int1 (by rfl) z_int (by decide +kernel) (pa_cons (pe_ix (r := rIxL K) ix_list (pv 1) pe_int (fun _ _ => rfl)) pa_nil)) (pe_callB call_len (by rfl) z_len (by decide +kernel) (pa_cons (pv 9) pa_nil))) pa_nil)))))) (pg_name (i := 10) nd rfl (.inl rfl)) (pss_one (ps_for PassesOwn.never rfl (pi_list (pe_call t__law_spoilt.G (by exact hr.mono (by decide)) (by rfl) t__law_spoilt.g t__law_spoilt.kp t__law_spoilt.b .nil pass0 (pa_cons (pe_ix (r := rIxL K) ix_list (pv 9) (pv 10) (fun _ _ => rfl)) pa_nil))) (pg_name (i := 11) nd rfl (.inl rfl)) (pss_one (ps_if (pt_cmpR (r := rNe) op_ne (pe_call t__law_told.G (by exact hr.mono (by decide)) (by rfl) t__law_told.g t__law_told.kp t__law_told.b .nil pass0 (pa_cons pe_int (pa_cons (pe_join pe_str (pe_op op_cat (pe_op op_cat (pe_slice sl_list (pv 9) po_none (po_some (pv 10))) (pe_lst (pa_cons (pv 11) pa_nil))) (pe_slice sl_list (pv 9) (po_some (pe_op op_add (pv 10) pe_int)) po_none))) pa_nil))) (pe_op op_add (pv 10) pe_int) (nomark _)) (pss_one (ps_ret pe_bl)) pss_nil)))))
      (pss_cons (ps_for PassesOwn.never rfl (pi_list (pe_slice sl_list (pv 9) (po_some pe_int) po_none)) (pg_name (i := 11) nd rfl (.inl rfl)) (pss_one (ps_if (pt_cmpR (r := rNe) op_ne (pe_call t__law_told.G (by exact hr.mono (by decide)) (by rfl) t__law_told.g t__law_told.kp t__law_told.b .nil pass0 (pa_cons pe_int (pa_cons (pe_op (r := fun x y H Q => ∃ i j, x = .str i ∧ y = .str j ∧ i.length + j.length ≤ sizeLine ∧ Q (.str (i ++ j)) H) op_add_str (pe_op (r := fun x y H Q => ∃ i j, x = .str i ∧ y = .str j ∧ i.length + j.length ≤ sizeLine ∧ Q (.str (i ++ j)) H) op_add_str (pv 8) pe_str) (pv 11)) pa_nil))) (pe_op op_add (pe_callB call_len (by rfl) z_len (by decide +kernel) (pa_cons (pv 9) pa_nil)) pe_int) (nomark _)) (pss_one (ps_ret pe_bl)) pss_nil)))
      (pss_cons (ps_if (PW.pt (pw_or (pt_cmpR (r := rNe) op_ne (pe_call t__law_told.G (by exact hr.mono (by decide)) (by rfl) t__law_told.g t__law_told.kp t__law_told.b .nil pass0 (pa_cons pe_int (pa_cons pe_str pa_nil))) pe_int (nomark _)) (pw_or (pt_cmpR (r := rNe) op_ne (pe_call t__law_told.G (by exact hr.mono (by decide)) (by rfl) t__law_told.g t__law_told.kp t__law_told.b .nil pass0 (pa_cons pe_int (pa_cons (pe_ix (r := rIxL K) ix_list (pv 9) pe_int (fun _ _ => rfl)) pa_nil))) pe_int (nomark _)) (pw_or (pt_cmpR (r := rNe) op_ne (pe_call t__law_told.G (by exact hr.mono (by decide)) (by rfl) t__law_told.g t__law_told.kp t__law_told.b .nil pass0 (pa_cons pe_int (pa_cons (pe_op (r := fun x y H Q => ∃ i j, x = .str i ∧ y = .str j ∧ i.length + j.length ≤ sizeLine ∧ Q (.str (i ++ j)) H) op_add_str (pv 8) pe_str) pa_nil))) (pe_op op_add (pe_callB call_len (by rfl) z_len (by decide +kernel) (pa_cons (pv 9) pa_nil)) pe_int) (nomark _)) (pw_or1 (pt_cmpR (r := rNe) op_ne (pe_call t__law_told.G (by exact hr.mono (by decide)) (by rfl) t__law_told.g t__law_told.kp t__law_told.b .nil pass0 (pa_cons pe_int (pa_cons (pe_join pe_str (pe_slice sl_list (pv 9) (po_some pe_int) po_none)) pa_nil))) pe_int (nomark _))))))) (pss_one (ps_ret pe_bl)) pss_nil)
      (pss_cons (ps_if (PW.pt (pw_or (pt_cmpR (r := rNe) op_ne (pe_call t__law_told.G (by exact hr.mono (by decide)) (by rfl) t__law_told.g t__law_told.kp t__law_told.b .nil pass0 (pa_cons pe_int (pa_cons (pe_op (r := fun x y H Q => ∃ i j, x = .str i ∧ y = .str j ∧ i.length + j.length ≤ sizeLine ∧ Q (.str (i ++ j)) H) op_add_str (pe_ix (r := rIxL K) ix_list (pv 9) pe_int (fun _ _ => rfl)) pe_str) pa_nil))) pe_int (nomark _)) (pw_or (pt_cmpR (r := rNe) op_ne (pe_call t__law_told.G (by exact hr.mono (by decide)) (by rfl) t__law_told.g t__law_told.kp t__law_told.b .nil pass0 (pa_cons pe_int (pa_cons (pe_op (r := fun x y H Q => ∃ i j, x = .str i ∧ y = .str j ∧ i.length + j.length ≤ sizeLine ∧ Q (.str (i ++ j)) H) op_add_str (pe_op (r := fun x y H Q => ∃ i j, x = .str i ∧ y = .str j ∧ i.length + j.length ≤ sizeLine ∧ Q (.str (i ++ j)) H) op_add_str (pv 8) pe_str) (pe_ix (r := rIxL K) ix_list (pv 9) pe_int (fun _ _ => rfl))) pa_nil))) (pe_op op_add (pe_callB call_len (by rfl) z_len (by decide +kernel) (pa_cons (pv 9) pa_nil)) pe_int) (nomark _)) (pw_or1 (pt_cmpR (r := rNe) op_ne (pe_call t__law_told.G (by exact hr.mono (by decide)) (by rfl) t__law_told.g t__law_told.kp t__law_told.b .nil pass0 (pa_cons pe_int (pa_cons (pe_op (r := fun x y H Q => ∃ i j, x = .str i ∧ y = .str j ∧ i.length + j.length ≤ sizeLine ∧ Q (.str (i ++ j)) H) op_add_str (pe_op (r := fun x y H Q => ∃ i j, x = .str i ∧ y = .str j ∧ i.length + j.length ≤ sizeLine ∧ Q (.str (i ++ j)) H) op_add_str (pv 8) pe_str) (pe_ix (r := rIxL K) ix_list (pv 9) pe_int (fun _ _ => rfl))) pa_nil))) (pe_op op_add (pe_callB call_len (by rfl) z_len (by decide +kernel) (pa_cons (pv 9) pa_nil)) pe_int) (nomark _)))))) (pss_one (ps_ret pe_bl)) pss_nil)
      (pss_cons (ps_setLc (i := 12) (own := [("k", 15)]) (g := (gName 15)) (tt := tYes) rfl nd rfl rfl rfl (pi_range1 rfl z_range (pa_cons pe_int pa_nil)) (blkOk_by (N := ["script", "numbers", "lengths", "gaps", "closed", "start", "end", "picks", "good", "lines", "at", "line", "many", "walk", "text", "k"]) (sc := defScope s_law) (by decide +kernel)) (fun _ _ _ _ _ => (pg_name (i := 15) nd rfl (.inl rfl))) (fun _ _ _ _ _ => pts_nil) (fun _ _ _ _ _ => (pe_op (r := fun x y H Q => ∃ i j, x = .str i ∧ y = .str j ∧ i.length + j.length ≤ sizeLine ∧ Q (.str (i ++ j)) H) op_add_str (pe_op (r := fun x y H Q => ∃ i j, x = .str i ∧ y = .str j ∧ i.length + j.length ≤ sizeLine ∧ Q (.str (i ++ j)) H) op_add_str (pe_op (r := fun x y H Q => ∃ i j, x = .str i ∧ y = .str j ∧ i.length + j.length ≤ sizeLine ∧ Q (.str (i ++ j)) H) op_add_str pe_str (pe_callTy (r := fun xs H Q => ∃ i, xs = [.int i] ∧ i.natAbs.log2 < 1920 ∧ Q (.str (toString i)) H) call_str_int (by rfl) z_str (by decide +kernel) (pa_cons (pe_op op_fdiv (pv 15) pe_int) pa_nil))) pe_str) (pe_callTy (r := fun xs H Q => ∃ i, xs = [.int i] ∧ i.natAbs.log2 < 1920 ∧ Q (.str (toString i)) H) call_str_int (by rfl) z_str (by decide +kernel) (pa_cons (pe_op op_mod (pe_callTy (r := fun xs H Q => (∃ i, xs = [.int i] ∧ Q (.int i) H) ∨ ∃ k, xs = [.bl k] ∧ Q (.int (if k then 1 else 0)) H) call_int1 (by rfl) z_int (by decide +kernel) (pa_cons (pv 15) pa_nil)) pe_int) pa_nil)))))
      (pss_cons (ps_if (PW.pt (pw_or (pt_cmpR (r := rNe) op_ne (pe_call t__law_told.G (by exact hr.mono (by decide)) (by rfl) t__law_told.g t__law_told.kp t__law_told.b .nil pass0 (pa_cons pe_int (pa_cons (pe_join pe_str (pe_op op_cat (pe_slice sl_list (pv 9) po_none (po_some pe_int)) (pe_slice sl_list (pv 12) po_none (po_some pe_int)))) pa_nil))) pe_int (nomark _)) (pw_or1 (pt_cmpR (r := rNe) op_ne (pe_call t__law_told.G (by exact hr.mono (by decide)) (by rfl) t__law_told.g t__law_told.kp t__law_told.b .nil pass0 (pa_cons pe_int (pa_cons (pe_join pe_str (pe_op op_cat (pe_slice sl_list (pv 9) po_none (po_some pe_int)) (pv 12))) pa_nil))) pe_int (nomark _))))) (pss_one (ps_ret pe_bl)) pss_nil)
      (pss_cons (ps_set (i := 13) nd rfl (.inl rfl) (pe_call t_format_walk.G (by exact hr.mono (by decide)) (by rfl) t_format_walk.g t_format_walk.kp t_format_walk.b .nil pass0 (pa_cons (pe_op op_cat (pe_lst (pa_cons (pv 5) (pa_cons (pv 6) pa_nil))) (pv 7)) pa_nil)))
      (pss_cons (ps_for PassesOwn.never rfl (pi_list (pe_lst (pa_cons pe_str (pa_cons pe_str (pa_cons (pe_op (r := fun x y H Q => ∃ i j, x = .str i ∧ y = .str j ∧ i.length + j.length ≤ sizeLine ∧ Q (.str (i ++ j)) H) op_add_str (pv 13) pe_str) (pa_cons (pe_op (r := fun x y H Q => ∃ i j, x = .str i ∧ y = .str j ∧ i.length + j.length ≤ sizeLine ∧ Q (.str (i ++ j)) H) op_add_str pe_str (pv 13)) (pa_cons (pe_op (r := fun x y H Q => ∃ i j, x = .str i ∧ y = .str j ∧ i.length + j.length ≤ sizeLine ∧ Q (.str (i ++ j)) H) op_add_str (pv 13) pe_str) (pa_cons (pe_op (r := fun x y H Q => ∃ i j, x = .str i ∧ y = .str j ∧ i.length + j.length ≤ sizeLine ∧ Q (.str (i ++ j)) H) op_add_str (pv 13) pe_str) (pa_cons (pe_op (r := fun x y H Q => ∃ i j, x = .str i ∧ y = .str j ∧ i.length + j.length ≤ sizeLine ∧ Q (.str (i ++ j)) H) op_add_str (pv 13) pe_str) (pa_cons (pe_op (r := fun x y H Q => ∃ i j, x = .str i ∧ y = .str j ∧ i.length + j.length ≤ sizeLine ∧ Q (.str (i ++ j)) H) op_add_str (pv 13) pe_str) (pa_cons (pe_op (r := fun x y H Q => ∃ i j, x = .str i ∧ y = .str j ∧ i.length + j.length ≤ sizeLine ∧ Q (.str (i ++ j)) H) op_add_str (pv 13) pe_str) (pa_cons (pe_op (r := fun x y H Q => ∃ i j, x = .str i ∧ y = .str j ∧ i.length + j.length ≤ sizeLine ∧ Q (.str (i ++ j)) H) op_add_str (pv 13) pe_str) (pa_cons (pe_op (r := fun x y H Q => ∃ i j, x = .str i ∧ y = .str j ∧ i.length + j.length ≤ sizeLine ∧ Q (.str (i ++ j)) H) op_add_str (pv 13) pe_str) (pa_cons (pe_op (r := fun x y H Q => ∃ i j, x = .str i ∧ y = .str j ∧ i.length + j.length ≤ sizeLine ∧ Q (.str (i ++ j)) H) op_add_str (pv 13) pe_str) pa_nil)))))))))))))) (pg_name (i := 14) nd rfl (.inl rfl)) (pss_one (ps_if (pt_cmpR (r := rNe) op_ne (pe_call t__law_told.G (by exact hr.mono (by decide)) (by rfl) t__law_told.g t__law_told.kp t__law_told.b .nil pass0 (pa_cons pe_int (pa_cons (pv 14) pa_nil))) pe_int (nomark _)) (pss_one (ps_ret pe_bl)) pss_nil)))
      (pss_cons (ps_for PassesOwn.never rfl (pi_list (pe_lst (pa_cons pe_str (pa_cons pe_str (pa_cons pe_str (pa_cons pe_str (pa_cons pe_str (pa_cons pe_str (pa_cons (pe_op (r := fun x y H Q => ∃ i j, x = .str i ∧ y = .str j ∧ i.length + j.length ≤ sizeLine ∧ Q (.str (i ++ j)) H) op_add_str (pv 13) pe_str) pa_nil))))))))) (pg_name (i := 14) nd rfl (.inl rfl)) (pss_one (ps_if (pt_cmpR (r := rNe) op_ne (pe_call t__law_told.G (by exact hr.mono (by decide)) (by rfl) t__law_told.g t__law_told.kp t__law_told.b .nil pass0 (pa_cons pe_int (pa_cons (pv 14) pa_nil))) pe_int (nomark _)) (pss_one (ps_ret pe_bl)) pss_nil)))
      (pss_one (ps_ret (pe_and (pe_cmpR (r := rEq) op_eq (pe_call t__law_told.G (by exact hr.mono (by decide)) (by rfl) t__law_told.g t__law_told.kp t__law_told.b .nil pass0 (pa_cons pe_int (pa_cons (pv 13) pa_nil))) pe_int (nomark _)) (pe_and (pe_cmpR (r := rEq) op_eq (pe_call t__law_told.G (by exact hr.mono (by decide)) (by rfl) t__law_told.g t__law_told.kp t__law_told.b .nil pass0 (pa_cons pe_int (pa_cons pe_str pa_nil))) pe_int (nomark _)) (pe_one (pe_cmpR (r := rEq) op_eq (pe_call t__law_told.G (by exact hr.mono (by decide)) (by rfl) t__law_told.g t__law_told.kp t__law_told.b .nil pass0 (pa_cons pe_int (pa_cons (pv 8) pa_nil))) pe_int (nomark _)))))))))))))))))))))), ?_⟩
  intro ns hs Q hns hT q
  show WC ⟨hs, hs, fun _ => False, [.fz (RScr K ns), .any, .any, .any, .any, .any, .any, .any, .any, .any, .any, .any, .any, .any, .any, .any]⟩ _
  have tF := hT T0 (by simp)
  refine s_seq ?_
  refine s_setX (x_call0 (skx_numbers (m := 60)) (a_cons (e_var rfl) (a_cons e_int a_nil)) (fun H kp => ⟨hns, by decide⟩)) ?_
  rintro ns1 ⟨n60, sm⟩
  show WC ⟨hs, hs, (fun _ => False), [.fz (RScr K ns), .fz (RD (.list (ns1.map PyData.int))), .any, .any, .any, .any, .any, .any, .any, .any, .any, .any, .any, .any, .any, .any]⟩ _
  try dsimp only
  refine s_seq ?_
  refine s_asgX (x_call0 (skx0_spx (Rs := Rs__law_parts ) (P := P__law_parts ) (R := R__law_parts ) (G := G__law_parts ) (ns1, 0)) (a_cons (e_var rfl) (a_cons e_int a_nil)) (fun H kp => by show 0 + 24 ≤ ns1.length; omega)) (fun _ _ => (g_tup (gs_cons g_name (gs_cons g_name (gs_cons g_name gs_nil))))) ?_
  rintro ⟨ls, gs, cs⟩ ⟨hls, hgs⟩
  show WC ⟨hs, hs, (fun _ => False), [.fz (RScr K ns), .fz (RD (.list (ns1.map PyData.int))), .fz (RD (.list (ls.map PyData.int))), .fz (RD (.list (gs.map PyData.int))), .fz (RD (.list (cs.map dLk))), .any, .any, .any, .any, .any, .any, .any, .any, .any, .any, .any]⟩ _
  try dsimp only
  refine s_seq ?_
  refine s_asgX (x_call0 (skx0_spx (Rs := Rs__law_aims ) (P := P__law_aims ) (R := R__law_aims ) (G := G__law_aims ) (ns1, 24, ls, gs, 8)) (a_cons (e_var rfl) (a_cons e_int (a_cons (e_var rfl) (a_cons (e_var rfl) (a_cons e_int a_nil))))) (fun H kp => by show (24 + 6 + 2 * 8 ≤ ns1.length ∧ 8 ≤ 20) ∧ (1 ≤ ls.length ∧ ls.length ≤ 2 ∧ ∀ v9 ∈ ls, 1 ≤ v9 ∧ v9 ≤ 40) ∧ gs.length ≤ 4; exact ⟨⟨by omega, by decide⟩, hls, hgs⟩)) (fun _ _ => (g_tup (gs_cons g_name (gs_cons g_name (gs_cons g_name gs_nil))))) ?_
  rintro ⟨st, en, ps⟩ ⟨hst, hen, hps, hnd, hle⟩
  show WC ⟨hs, hs, (fun _ => False), [.fz (RScr K ns), .fz (RD (.list (ns1.map PyData.int))), .fz (RD (.list (ls.map PyData.int))), .fz (RD (.list (gs.map PyData.int))), .fz (RD (.list (cs.map dLk))), .fz (RD (dP st)), .fz (RD (dP en)), .fz (RD (.list (ps.map dP))), .any, .any, .any, .any, .any, .any, .any, .any]⟩ _
  try dsimp only
  have hle8 : ps.length ≤ 8 := hle
  have hk : TkOk st en (sortP ps) := ⟨hst, hen, fun x m => hps x (sortP_mem.mp m), sortP_nd.mpr hnd, by rw [sortP_len]; omega⟩
  have hgl := (asks_good hk).1.1
  have hll := LsT_len st en (sortP ps)
  have hl8 : (sortP ps).length ≤ 8 := by rw [sortP_len]; exact hle
  have hsl := (good_lin wSt hst).1.1
  have hel := (good_lin wEn hen).1.1
  have hsm : ∀ x ∈ ([st, en] ++ ps), small x := fun x m => by rcases List.mem_append.mp m with z | z; (simp at z; rcases z with z | z <;> rw [z]; exact sm_ok hst; exact sm_ok hen); exact sm_ok (hps x z)
  have hwl : (([st, en] ++ ps)).length ≤ 60 := by rw [List.length_append]; show 2 + ps.length ≤ 60; omega
  have hwn : ([st, en] ++ ps) ≠ [] := by simp
  have hwg := (asksW_good hsm hwl hwn).1.1
  refine s_seq ?_
  refine s_set (c_call (sok_ftask (t := ⟨st, en, sortP ps⟩)) (a_cons (E.low (e_mkTask (st := st) (en := en) (ps := ps) (by omega) hnd (a_cons (e_var rfl) (a_cons (e_var rfl) (a_cons (e_var rfl) a_nil))))) a_nil) (fun H kp => ⟨sm_ok hst, sm_ok hen, fun x m => sm_ok (hps x (sortP_mem.mp m))⟩)) ?_
  show WC ⟨hs, hs, (fun _ => False), [.fz (RScr K ns), .fz (RD (.list (ns1.map PyData.int))), .fz (RD (.list (ls.map PyData.int))), .fz (RD (.list (gs.map PyData.int))), .fz (RD (.list (cs.map dLk))), .fz (RD (dP st)), .fz (RD (dP en)), .fz (RD (.list (ps.map dP))), .fz (RD (dX (taskL st en (sortP ps)))), .any, .any, .any, .any, .any, .any, .any]⟩ _
  refine s_seq ?_
  refine s_set (n_e (n_splitS (x := (taskL st en (sortP ps))) (y := [10]) (M := (LsT st en (sortP ps))) (e_var rfl) (e_strS (x := [10]) (by decide +kernel)) (by rfl) (by omega) (split_joinL (by decide) (LsT_ok hk).1 (fun l m z => (((LsT_ok hk).2.2 l m).2 10 z).1 rfl)))) ?_
  show WC ⟨hs, hs, (fun _ => False), [.fz (RScr K ns), .fz (RD (.list (ns1.map PyData.int))), .fz (RD (.list (ls.map PyData.int))), .fz (RD (.list (gs.map PyData.int))), .fz (RD (.list (cs.map dLk))), .fz (RD (dP st)), .fz (RD (dP en)), .fz (RD (.list (ps.map dP))), .fz (RD (dX (taskL st en (sortP ps)))), .fz (RD (.list ((LsT st en (sortP ps)).map dX))), .any, .any, .any, .any, .any, .any]⟩ _
  refine s_seq ?_
  try dsimp only
  refine s_if (t_T (e_op o_neI (show Pk.E _ _ _ (RD (.int (toldI 0 (S (taskL st en (sortP ps)))))) from c_call (sok_sps (Rs := fun a : Int × Str => [RD (.int a.1), RD (.str a.2)]) (P := fun a H => a.2.length ≤ 90000 ∧ asc a.2 ∧ TabG H T0) (R := fun a => RD (.int (toldI a.1 a.2))) (0, S (taskL st en (sortP ps)))) (a_cons e_int (a_cons (e_var rfl) a_nil)) (fun H kp => ⟨(asks_pre (z := (taskL st en (sortP ps))) (asks_good hk).1).1, (asks_pre (z := (taskL st en (sortP ps))) (asks_good hk).1).2, kp.tab _ tF⟩)) e_int)) (fun h1 => absurd h1 ?_) (fun h1 => ?_)
  · rw [told_ne (asks_good hk) rfl]; exact Bool.false_ne_true
  refine s_pass ?_
  refine s_seq ?_
  refine s_for (xs := [0, 1, (((LsT st en (sortP ps)).length : Int) - 1), ((ix ns1 50) % ((LsT st en (sortP ps)).length : Int))]) (enc := PyData.int) (fun (i : Nat) γ => γ = [.fz (RScr K ns), .fz (RD (.list (ns1.map PyData.int))), .fz (RD (.list (ls.map PyData.int))), .fz (RD (.list (gs.map PyData.int))), .fz (RD (.list (cs.map dLk))), .fz (RD (dP st)), .fz (RD (dP en)), .fz (RD (.list (ps.map dP))), .fz (RD (dX (taskL st en (sortP ps)))), .fz (RD (.list ((LsT st en (sortP ps)).map dX))), .any, .any, .any, .any, .any, .any] ∧ (True)) (n_e (n_lstM (xs := [0, 1, (((LsT st en (sortP ps)).length : Int) - 1), ((ix ns1 50) % ((LsT st en (sortP ps)).length : Int))]) (enc := PyData.int) (m_cons e_int (m_cons e_int (m_cons (e_op o_sub (e_cb o_lenM (a_cons (e_var rfl) a_nil)) e_int) (m_cons (e_op (o_mod (i := (ix ns1 50)) (j := ((LsT st en (sortP ps)).length : Int)) (by omega)) (e_cb o_int (a_cons (e_op (o_ixL (ix_at (xs := ns1) (i := 50) (by omega))) (e_var rfl) e_int) a_nil)) (e_cb o_lenM (a_cons (e_var rfl) a_nil))) m_nil)))))) ⟨rfl, by trivial⟩ ?_ ?_
  · rintro h1_1 i0 av γ kp hav ⟨rfl, _⟩
    have tF := kp.tab _ tF
    have mav := List.mem_of_getElem? hav
    have e0 := Int.emod_nonneg (ix ns1 50) (show ((LsT st en (sortP ps)).length : Int) ≠ 0 by omega)
    have e1 := Int.emod_lt_of_pos (ix ns1 50) (show (0 : Int) < ((LsT st en (sortP ps)).length : Int) by omega)
    have bav : 0 ≤ av ∧ av < ((LsT st en (sortP ps)).length : Int) := by simp only [List.mem_cons, List.not_mem_nil, or_false] at mav; omega
    clear hav mav e0 e1
    obtain ⟨a, rfl⟩ : ∃ a : Nat, av = (a : Int) := ⟨av.toNat, by omega⟩
    have al : a < (LsT st en (sortP ps)).length := by omega
    obtain ⟨wd, pt, hw, hq, ew, ewd⟩ := line_at hk al
    refine ⟨_, _, g_name, ?_⟩
    show WC ⟨hs, h1_1, (fun _ => False), [.fz (RScr K ns), .fz (RD (.list (ns1.map PyData.int))), .fz (RD (.list (ls.map PyData.int))), .fz (RD (.list (gs.map PyData.int))), .fz (RD (.list (cs.map dLk))), .fz (RD (dP st)), .fz (RD (dP en)), .fz (RD (.list (ps.map dP))), .fz (RD (dX (taskL st en (sortP ps)))), .fz (RD (.list ((LsT st en (sortP ps)).map dX))), .fz (RD (.int (a : Int))), .any, .any, .any, .any, .any]⟩ _
    refine s_for (xs := (spoilt wd pt)) (enc := dX) (fun (i : Nat) γ => γ = [.fz (RScr K ns), .fz (RD (.list (ns1.map PyData.int))), .fz (RD (.list (ls.map PyData.int))), .fz (RD (.list (gs.map PyData.int))), .fz (RD (.list (cs.map dLk))), .fz (RD (dP st)), .fz (RD (dP en)), .fz (RD (.list (ps.map dP))), .fz (RD (dX (taskL st en (sortP ps)))), .fz (RD (.list ((LsT st en (sortP ps)).map dX))), .fz (RD (.int (a : Int))), .any, .any, .any, .any, .any] ∧ (True)) (n_e (show EN _ _ (OL ((spoilt wd pt).map dX)) from n_call (skn_spn (Rs := Rs__law_spoilt ) (P := P__law_spoilt ) (C := R__law_spoilt ) (wd, pt)) (a_cons (Pk.E.eq (e_op (o_ixL (ix_at (xs := (LsT st en (sortP ps))) (i := (a : Int)) (by omega))) (e_var rfl) (e_var rfl)) (e := dX (plL wd pt)) (by exact congrArg dX ew)) a_nil) (fun H kp => by show isW wd ∧ ok1 pt; exact ⟨hw, hq⟩))) ⟨rfl, by trivial⟩ ?_ ?_
    · rintro h1_2 i1 xl γ kp hx0 ⟨rfl, _⟩
      have tF := kp.tab _ tF
      have mx := spoilt_lin hw hq xl (List.mem_of_getElem? hx0)
      have hA := asks_spoilt hk al mx.1 (by rw [← ewd]; exact mx.2)
      refine ⟨_, _, g_name, ?_⟩
      show WC ⟨hs, h1_2, (fun _ => False), [.fz (RScr K ns), .fz (RD (.list (ns1.map PyData.int))), .fz (RD (.list (ls.map PyData.int))), .fz (RD (.list (gs.map PyData.int))), .fz (RD (.list (cs.map dLk))), .fz (RD (dP st)), .fz (RD (dP en)), .fz (RD (.list (ps.map dP))), .fz (RD (dX (taskL st en (sortP ps)))), .fz (RD (.list ((LsT st en (sortP ps)).map dX))), .fz (RD (.int (a : Int))), .fz (RD (dX xl)), .any, .any, .any, .any]⟩ _
      refine s_if (t_T (e_op o_neI (show Pk.E _ _ _ (RD (.int (toldI 0 (S (TL.joinL [10] ((((LsT st en (sortP ps)).take a) ++ [xl]) ++ ((LsT st en (sortP ps)).drop (a + 1)))))))) from c_call (sok_sps (Rs := fun a : Int × Str => [RD (.int a.1), RD (.str a.2)]) (P := fun a H => a.2.length ≤ 90000 ∧ asc a.2 ∧ TabG H T0) (R := fun a => RD (.int (toldI a.1 a.2))) (0, S (TL.joinL [10] ((((LsT st en (sortP ps)).take a) ++ [xl]) ++ ((LsT st en (sortP ps)).drop (a + 1)))))) (a_cons e_int (a_cons (e_joinS (x := [10]) (M := ((((LsT st en (sortP ps)).take a) ++ [xl]) ++ ((LsT st en (sortP ps)).drop (a + 1)))) (e_strS (x := [10]) (by decide +kernel)) (i_n (n_catM (xs := (((LsT st en (sortP ps)).take a) ++ [xl])) (ys := ((LsT st en (sortP ps)).drop (a + 1))) (i_n (n_catM (xs := ((LsT st en (sortP ps)).take a)) (ys := [xl]) (i_n (EN.eqL (n_slM (i_of (e_var rfl)) p_none (p_some (e_var rfl))) (by rw [cut_take (Nat.le_of_lt al)]))) (i_n (n_lstM (xs := [xl]) (enc := dX) (m_cons (e_var rfl) m_nil))) (by rw [List.length_take]; simp only [List.length_singleton]; omega))) (i_n (EN.eqL (n_slM (i_of (e_var rfl)) (p_some (e_op o_add (e_var rfl) e_int)) p_none) (by rw [show ((a : Int) + 1) = ((a + 1 : Nat) : Int) from rfl, cut_drop (show a + 1 ≤ (LsT st en (sortP ps)).length from al)]))) (by rw [List.length_append, List.length_take, List.length_drop]; simp only [List.length_singleton]; omega))) (join_bd (bd_spoilt hk al mx.1.1))) a_nil)) (fun H kp => ⟨(asks_pre (z := (TL.joinL [10] ((((LsT st en (sortP ps)).take a) ++ [xl]) ++ ((LsT st en (sortP ps)).drop (a + 1))))) (hA).1).1, (asks_pre (z := (TL.joinL [10] ((((LsT st en (sortP ps)).take a) ++ [xl]) ++ ((LsT st en (sortP ps)).drop (a + 1))))) (hA).1).2, kp.tab _ tF⟩)) (e_op o_add (e_var rfl) e_int))) (fun h2 => absurd h2 ?_) (fun h2 => ?_)
      · rw [told_ne hA (by omega)]; exact Bool.false_ne_true
      refine s_pass ?_
      refine s_drop 11 ?_
      show WC ⟨hs, h1_2, (fun _ => False), [.fz (RScr K ns), .fz (RD (.list (ns1.map PyData.int))), .fz (RD (.list (ls.map PyData.int))), .fz (RD (.list (gs.map PyData.int))), .fz (RD (.list (cs.map dLk))), .fz (RD (dP st)), .fz (RD (dP en)), .fz (RD (.list (ps.map dP))), .fz (RD (dX (taskL st en (sortP ps)))), .fz (RD (.list ((LsT st en (sortP ps)).map dX))), .fz (RD (.int (a : Int))), .any, .any, .any, .any, .any]⟩ _
      exact s_of ⟨rfl, by trivial⟩
    · rintro γ ⟨rfl, _⟩
      show WC ⟨hs, h1_1, (fun _ => False), [.fz (RScr K ns), .fz (RD (.list (ns1.map PyData.int))), .fz (RD (.list (ls.map PyData.int))), .fz (RD (.list (gs.map PyData.int))), .fz (RD (.list (cs.map dLk))), .fz (RD (dP st)), .fz (RD (dP en)), .fz (RD (.list (ps.map dP))), .fz (RD (dX (taskL st en (sortP ps)))), .fz (RD (.list ((LsT st en (sortP ps)).map dX))), .fz (RD (.int (a : Int))), .any, .any, .any, .any, .any]⟩ _
      refine s_drop 10 ?_
      show WC ⟨hs, h1_1, (fun _ => False), [.fz (RScr K ns), .fz (RD (.list (ns1.map PyData.int))), .fz (RD (.list (ls.map PyData.int))), .fz (RD (.list (gs.map PyData.int))), .fz (RD (.list (cs.map dLk))), .fz (RD (dP st)), .fz (RD (dP en)), .fz (RD (.list (ps.map dP))), .fz (RD (dX (taskL st en (sortP ps)))), .fz (RD (.list ((LsT st en (sortP ps)).map dX))), .any, .any, .any, .any, .any, .any]⟩ _
      exact s_of ⟨rfl, by trivial⟩
  · rintro γ ⟨rfl, _⟩
    show WC ⟨hs, hs, (fun _ => False), [.fz (RScr K ns), .fz (RD (.list (ns1.map PyData.int))), .fz (RD (.list (ls.map PyData.int))), .fz (RD (.list (gs.map PyData.int))), .fz (RD (.list (cs.map dLk))), .fz (RD (dP st)), .fz (RD (dP en)), .fz (RD (.list (ps.map dP))), .fz (RD (dX (taskL st en (sortP ps)))), .fz (RD (.list ((LsT st en (sortP ps)).map dX))), .any, .any, .any, .any, .any, .any]⟩ _
    refine s_seq ?_
    refine s_for (xs := ((sortP ps).map (plL piC))) (enc := dX) (fun (i : Nat) γ => γ = [.fz (RScr K ns), .fz (RD (.list (ns1.map PyData.int))), .fz (RD (.list (ls.map PyData.int))), .fz (RD (.list (gs.map PyData.int))), .fz (RD (.list (cs.map dLk))), .fz (RD (dP st)), .fz (RD (dP en)), .fz (RD (.list (ps.map dP))), .fz (RD (dX (taskL st en (sortP ps)))), .fz (RD (.list ((LsT st en (sortP ps)).map dX))), .any, .any, .any, .any, .any, .any] ∧ (True)) (n_e (EN.eqL (n_slM (i_of (e_var rfl)) (p_some e_int) p_none) (by rw [show (2 : Int) = ((2 : Nat) : Int) from rfl, cut_drop (show 2 ≤ (LsT st en (sortP ps)).length by omega)]; rfl))) ⟨rfl, by trivial⟩ ?_ ?_
    · rintro h1_3 i0 xl γ kp hx0 ⟨rfl, _⟩
      have tF := kp.tab _ tF
      obtain ⟨pt, hpt, rfl⟩ := List.mem_map.mp (List.mem_of_getElem? hx0)
      have hA := asks_dup hk hpt
      have hpl := (good_lin wPi (hk.p pt hpt)).1.1
      refine ⟨_, _, g_name, ?_⟩
      show WC ⟨hs, h1_3, (fun _ => False), [.fz (RScr K ns), .fz (RD (.list (ns1.map PyData.int))), .fz (RD (.list (ls.map PyData.int))), .fz (RD (.list (gs.map PyData.int))), .fz (RD (.list (cs.map dLk))), .fz (RD (dP st)), .fz (RD (dP en)), .fz (RD (.list (ps.map dP))), .fz (RD (dX (taskL st en (sortP ps)))), .fz (RD (.list ((LsT st en (sortP ps)).map dX))), .any, .fz (RD (dX (plL piC pt))), .any, .any, .any, .any]⟩ _
      refine s_if (t_T (e_op o_neI (show Pk.E _ _ _ (RD (.int (toldI 0 (S ((taskL st en (sortP ps)) ++ ([10] ++ (plL piC pt))))))) from c_call (sok_sps (Rs := fun a : Int × Str => [RD (.int a.1), RD (.str a.2)]) (P := fun a H => a.2.length ≤ 90000 ∧ asc a.2 ∧ TabG H T0) (R := fun a => RD (.int (toldI a.1 a.2))) (0, S ((taskL st en (sortP ps)) ++ ([10] ++ (plL piC pt))))) (a_cons e_int (a_cons (Pk.E.eq (e_op (o_catS (x := ((taskL st en (sortP ps)) ++ [10])) (y := (plL piC pt)) (by simp only [List.length_append, List.length_cons, List.length_nil]; omega)) (e_op (o_catS (x := (taskL st en (sortP ps))) (y := [10]) (by simp only [List.length_append, List.length_cons, List.length_nil]; omega)) (e_var rfl) (e_strS (x := [10]) (by decide +kernel))) (e_var rfl)) (e := dX ((taskL st en (sortP ps)) ++ ([10] ++ (plL piC pt)))) (by rw [List.append_assoc])) a_nil)) (fun H kp => ⟨(asks_pre (z := ((taskL st en (sortP ps)) ++ ([10] ++ (plL piC pt)))) (hA).1).1, (asks_pre (z := ((taskL st en (sortP ps)) ++ ([10] ++ (plL piC pt)))) (hA).1).2, kp.tab _ tF⟩)) (e_op o_add (e_cb o_lenM (a_cons (e_var rfl) a_nil)) e_int))) (fun h3 => absurd h3 ?_) (fun h3 => ?_)
      · rw [told_ne hA (by omega)]; exact Bool.false_ne_true
      refine s_pass ?_
      refine s_drop 11 ?_
      show WC ⟨hs, h1_3, (fun _ => False), [.fz (RScr K ns), .fz (RD (.list (ns1.map PyData.int))), .fz (RD (.list (ls.map PyData.int))), .fz (RD (.list (gs.map PyData.int))), .fz (RD (.list (cs.map dLk))), .fz (RD (dP st)), .fz (RD (dP en)), .fz (RD (.list (ps.map dP))), .fz (RD (dX (taskL st en (sortP ps)))), .fz (RD (.list ((LsT st en (sortP ps)).map dX))), .any, .any, .any, .any, .any, .any]⟩ _
      exact s_of ⟨rfl, by trivial⟩
    · rintro γ ⟨rfl, _⟩
      show WC ⟨hs, hs, (fun _ => False), [.fz (RScr K ns), .fz (RD (.list (ns1.map PyData.int))), .fz (RD (.list (ls.map PyData.int))), .fz (RD (.list (gs.map PyData.int))), .fz (RD (.list (cs.map dLk))), .fz (RD (dP st)), .fz (RD (dP en)), .fz (RD (.list (ps.map dP))), .fz (RD (dX (taskL st en (sortP ps)))), .fz (RD (.list ((LsT st en (sortP ps)).map dX))), .any, .any, .any, .any, .any, .any]⟩ _
      refine s_seq ?_
      try dsimp only
      have hT1 : (plL enC en :: ((sortP ps).map (plL piC))).length ≤ 100 ∧ ∀ l ∈ (plL enC en :: ((sortP ps).map (plL piC))), l.length ≤ 100 := ⟨by rw [List.length_cons, List.length_map]; omega, fun l m => ((LsT_lines hk l (List.mem_cons_of_mem _ m)).1)⟩
      refine s_if (t_or (t_T (e_op o_neI (show Pk.E _ _ _ (RD (.int (toldI 0 (S ([] : List Nat))))) from c_call (sok_sps (Rs := fun a : Int × Str => [RD (.int a.1), RD (.str a.2)]) (P := fun a H => a.2.length ≤ 90000 ∧ asc a.2 ∧ TabG H T0) (R := fun a => RD (.int (toldI a.1 a.2))) (0, S ([] : List Nat))) (a_cons e_int (a_cons (e_strS (x := []) (by decide +kernel)) a_nil)) (fun H kp => ⟨(asks_pre (z := ([] : List Nat)) (asks_empty).1).1, (asks_pre (z := ([] : List Nat)) (asks_empty).1).2, kp.tab _ tF⟩)) e_int)) (fun hbo => (t_or (t_T (e_op o_neI (show Pk.E _ _ _ (RD (.int (toldI 0 (S (plL stC st))))) from c_call (sok_sps (Rs := fun a : Int × Str => [RD (.int a.1), RD (.str a.2)]) (P := fun a H => a.2.length ≤ 90000 ∧ asc a.2 ∧ TabG H T0) (R := fun a => RD (.int (toldI a.1 a.2))) (0, S (plL stC st))) (a_cons e_int (a_cons (Pk.E.eq (e_op (o_ixL (ix_at (xs := (LsT st en (sortP ps))) (i := 0) (by omega))) (e_var rfl) e_int) (e := dX (plL stC st)) (by exact congrArg dX (ix_nat (xs := (LsT st en (sortP ps))) (j := 0) rfl))) a_nil)) (fun H kp => ⟨(asks_pre (z := (plL stC st)) (asks_first hk).1).1, (asks_pre (z := (plL stC st)) (asks_first hk).1).2, kp.tab _ tF⟩)) e_int)) (fun hbo => (t_or (t_T (e_op o_neI (show Pk.E _ _ _ (RD (.int (toldI 0 (S ((taskL st en (sortP ps)) ++ [10]))))) from c_call (sok_sps (Rs := fun a : Int × Str => [RD (.int a.1), RD (.str a.2)]) (P := fun a H => a.2.length ≤ 90000 ∧ asc a.2 ∧ TabG H T0) (R := fun a => RD (.int (toldI a.1 a.2))) (0, S ((taskL st en (sortP ps)) ++ [10]))) (a_cons e_int (a_cons (e_op (o_catS (x := (taskL st en (sortP ps))) (y := [10]) (by simp only [List.length_append, List.length_cons, List.length_nil]; omega)) (e_var rfl) (e_strS (x := [10]) (by decide +kernel))) a_nil)) (fun H kp => ⟨(asks_pre (z := ((taskL st en (sortP ps)) ++ [10])) (asks_nl hk).1).1, (asks_pre (z := ((taskL st en (sortP ps)) ++ [10])) (asks_nl hk).1).2, kp.tab _ tF⟩)) (e_op o_add (e_cb o_lenM (a_cons (e_var rfl) a_nil)) e_int))) (fun hbo => (t_T (e_op o_neI (show Pk.E _ _ _ (RD (.int (toldI 0 (S (TL.joinL [10] (plL enC en :: ((sortP ps).map (plL piC)))))))) from c_call (sok_sps (Rs := fun a : Int × Str => [RD (.int a.1), RD (.str a.2)]) (P := fun a H => a.2.length ≤ 90000 ∧ asc a.2 ∧ TabG H T0) (R := fun a => RD (.int (toldI a.1 a.2))) (0, S (TL.joinL [10] (plL enC en :: ((sortP ps).map (plL piC)))))) (a_cons e_int (a_cons (e_joinS (x := [10]) (M := (plL enC en :: ((sortP ps).map (plL piC)))) (e_strS (x := [10]) (by decide +kernel)) (i_n (EN.eqL (n_slM (i_of (e_var rfl)) (p_some e_int) p_none) (by rw [show (1 : Int) = ((1 : Nat) : Int) from rfl, cut_drop (show 1 ≤ (LsT st en (sortP ps)).length by omega)]; rfl))) (join_bd hT1)) a_nil)) (fun H kp => ⟨(asks_pre (z := (TL.joinL [10] (plL enC en :: ((sortP ps).map (plL piC))))) (asks_tail hk).1).1, (asks_pre (z := (TL.joinL [10] (plL enC en :: ((sortP ps).map (plL piC))))) (asks_tail hk).1).2, kp.tab _ tF⟩)) e_int)))))))) (fun h4 => absurd h4 ?_) (fun h4 => ?_)
      · rw [told_ne asks_empty rfl, told_ne (asks_first hk) rfl, told_ne (z := (taskL st en (sortP ps)) ++ [10]) (asks_nl hk) (by omega), told_ne (asks_tail hk) rfl]; exact Bool.false_ne_true
      refine s_pass ?_
      refine s_seq ?_
      try dsimp only
      refine s_if (t_or (t_T (e_op o_neI (show Pk.E _ _ _ (RD (.int (toldI 0 (S ((plL stC st) ++ [10, 112, 105, 99, 107, 32, 48, 32, 48]))))) from c_call (sok_sps (Rs := fun a : Int × Str => [RD (.int a.1), RD (.str a.2)]) (P := fun a H => a.2.length ≤ 90000 ∧ asc a.2 ∧ TabG H T0) (R := fun a => RD (.int (toldI a.1 a.2))) (0, S ((plL stC st) ++ [10, 112, 105, 99, 107, 32, 48, 32, 48]))) (a_cons e_int (a_cons (e_op (o_catS (x := (plL stC st)) (y := [10, 112, 105, 99, 107, 32, 48, 32, 48]) (Nat.le_trans (Nat.add_le_add hsl (Nat.le_refl _)) (by decide))) (Pk.E.eq (e_op (o_ixL (ix_at (xs := (LsT st en (sortP ps))) (i := 0) (by omega))) (e_var rfl) e_int) (e := dX (plL stC st)) (by exact congrArg dX (ix_nat (xs := (LsT st en (sortP ps))) (j := 0) rfl))) (e_strS (x := [10, 112, 105, 99, 107, 32, 48, 32, 48]) (by decide +kernel))) a_nil)) (fun H kp => ⟨(asks_pre (z := ((plL stC st) ++ [10, 112, 105, 99, 107, 32, 48, 32, 48])) (asks_00 hk).1).1, (asks_pre (z := ((plL stC st) ++ [10, 112, 105, 99, 107, 32, 48, 32, 48])) (asks_00 hk).1).2, kp.tab _ tF⟩)) e_int)) (fun hbo => (t_or (t_T (e_op o_neI (show Pk.E _ _ _ (RD (.int (toldI 0 (S ((taskL st en (sortP ps)) ++ ([10] ++ (plL stC st))))))) from c_call (sok_sps (Rs := fun a : Int × Str => [RD (.int a.1), RD (.str a.2)]) (P := fun a H => a.2.length ≤ 90000 ∧ asc a.2 ∧ TabG H T0) (R := fun a => RD (.int (toldI a.1 a.2))) (0, S ((taskL st en (sortP ps)) ++ ([10] ++ (plL stC st))))) (a_cons e_int (a_cons (Pk.E.eq (e_op (o_catS (x := ((taskL st en (sortP ps)) ++ [10])) (y := (plL stC st)) (by rw [List.length_append]; exact Nat.le_trans (Nat.add_le_add (Nat.add_le_add hgl (Nat.le_refl _)) hsl) (by decide))) (e_op (o_catS (x := (taskL st en (sortP ps))) (y := [10]) (by simp only [List.length_append, List.length_cons, List.length_nil]; omega)) (e_var rfl) (e_strS (x := [10]) (by decide +kernel))) (Pk.E.eq (e_op (o_ixL (ix_at (xs := (LsT st en (sortP ps))) (i := 0) (by omega))) (e_var rfl) e_int) (e := dX (plL stC st)) (by exact congrArg dX (ix_nat (xs := (LsT st en (sortP ps))) (j := 0) rfl)))) (e := dX ((taskL st en (sortP ps)) ++ ([10] ++ (plL stC st)))) (by rw [List.append_assoc])) a_nil)) (fun H kp => ⟨(asks_pre (z := ((taskL st en (sortP ps)) ++ ([10] ++ (plL stC st)))) (asks_l0 hk).1).1, (asks_pre (z := ((taskL st en (sortP ps)) ++ ([10] ++ (plL stC st)))) (asks_l0 hk).1).2, kp.tab _ tF⟩)) (e_op o_add (e_cb o_lenM (a_cons (e_var rfl) a_nil)) e_int))) (fun hbo => (t_T (e_op o_neI (show Pk.E _ _ _ (RD (.int (toldI 0 (S ((taskL st en (sortP ps)) ++ ([10] ++ (plL enC en))))))) from c_call (sok_sps (Rs := fun a : Int × Str => [RD (.int a.1), RD (.str a.2)]) (P := fun a H => a.2.length ≤ 90000 ∧ asc a.2 ∧ TabG H T0) (R := fun a => RD (.int (toldI a.1 a.2))) (0, S ((taskL st en (sortP ps)) ++ ([10] ++ (plL enC en))))) (a_cons e_int (a_cons (Pk.E.eq (e_op (o_catS (x := ((taskL st en (sortP ps)) ++ [10])) (y := (plL enC en)) (by rw [List.length_append]; exact Nat.le_trans (Nat.add_le_add (Nat.add_le_add hgl (Nat.le_refl _)) hel) (by decide))) (e_op (o_catS (x := (taskL st en (sortP ps))) (y := [10]) (by simp only [List.length_append, List.length_cons, List.length_nil]; omega)) (e_var rfl) (e_strS (x := [10]) (by decide +kernel))) (Pk.E.eq (e_op (o_ixL (ix_at (xs := (LsT st en (sortP ps))) (i := 1) (by omega))) (e_var rfl) e_int) (e := dX (plL enC en)) (by exact congrArg dX (ix_nat (xs := (LsT st en (sortP ps))) (j := 1) rfl)))) (e := dX ((taskL st en (sortP ps)) ++ ([10] ++ (plL enC en)))) (by rw [List.append_assoc])) a_nil)) (fun H kp => ⟨(asks_pre (z := ((taskL st en (sortP ps)) ++ ([10] ++ (plL enC en)))) (asks_l1 hk).1).1, (asks_pre (z := ((taskL st en (sortP ps)) ++ ([10] ++ (plL enC en)))) (asks_l1 hk).1).2, kp.tab _ tF⟩)) (e_op o_add (e_cb o_lenM (a_cons (e_var rfl) a_nil)) e_int))))))) (fun h5 => absurd h5 ?_) (fun h5 => ?_)
      · rw [told_ne (asks_00 hk) rfl, told_ne (asks_l0 hk) (by omega), told_ne (asks_l1 hk) (by omega)]; exact Bool.false_ne_true
      refine s_pass ?_
      refine s_seq ?_
      refine s_set (E.eq (n_e (n_lcRM1 (lo := 0) (n := (61 : Int).toNat) (h := fun k => ((([112, 105, 99, 107, 32] ++ (dg (k / 9))) ++ [32]) ++ (dg (k % 9)))) (encB := dX) (w_rng1 (j := 61) e_int (by omega)) rfl (by decide) (fun _ k hxk => g_name) (fun _ k hxk hyk => by exact (e_op (o_catS (x := (([112, 105, 99, 107, 32] ++ (dg (k / 9))) ++ [32])) (y := (dg (k % 9))) (by have := dg_l (show k / 9 ≤ 1000 by have := hxk; omega); have := dg_l (show k % 9 ≤ 1000 by have := hxk; omega); simp only [List.length_append, List.length_cons, List.length_nil]; omega)) (e_op (o_catS (x := ([112, 105, 99, 107, 32] ++ (dg (k / 9)))) (y := [32]) (by have := dg_l (show k / 9 ≤ 1000 by have := hxk; omega); simp only [List.length_append, List.length_cons, List.length_nil]; omega)) (e_op (o_catS (x := [112, 105, 99, 107, 32]) (y := (dg (k / 9))) (by have := dg_l (show k / 9 ≤ 1000 by have := hxk; omega); simp only [List.length_append, List.length_cons, List.length_nil]; omega)) (e_strS (x := [112, 105, 99, 107, 32]) (by decide +kernel)) (e_cb (o_strI (i := (k / 9)) (by have := hxk; omega) (by have := hxk; omega)) (a_cons (e_op (o_div (i := k) (j := 9) ⟨by decide, by decide⟩) (e_var rfl) e_int) a_nil))) (e_strS (x := [32]) (by decide +kernel))) (e_cb (o_strI (i := (k % 9)) (by have := hxk; omega) (by have := hxk; omega)) (a_cons (e_op (o_mod (i := k) (j := 9) (by omega)) (e_cb o_int (a_cons (e_var rfl) a_nil)) e_int) a_nil)))) (by decide))) (e := .list ((qsM.map (plL piC)).map dX)) (by rw [show (((61 : Int)).toNat) = 61 from rfl, many_eq])) ?_
      show WC ⟨hs, hs, (fun _ => False), [.fz (RScr K ns), .fz (RD (.list (ns1.map PyData.int))), .fz (RD (.list (ls.map PyData.int))), .fz (RD (.list (gs.map PyData.int))), .fz (RD (.list (cs.map dLk))), .fz (RD (dP st)), .fz (RD (dP en)), .fz (RD (.list (ps.map dP))), .fz (RD (dX (taskL st en (sortP ps)))), .fz (RD (.list ((LsT st en (sortP ps)).map dX))), .any, .any, .fz (RD (.list ((qsM.map (plL piC)).map dX))), .any, .any, .any]⟩ _
      refine s_seq ?_
      try dsimp only
      have hM1 : Asks (TL.joinL [10] ([plL stC st, plL enC en] ++ (qsM.take 60).map (plL piC))) 0 := asks_many hk (fun x m => qsM_ok x (List.mem_of_mem_take m)) qsM_nd.1 (Nat.le_of_eq qsM_nd.2.1)
      have hM2 : Asks (TL.joinL [10] ([plL stC st, plL enC en] ++ qsM.map (plL piC))) 63 := by have z := asks_over hk (qs := qsM.take 60) (q := (6, 6)) (fun x m => qsM_ok x (List.mem_of_mem_take m)) ⟨by decide, by decide, by decide, by decide⟩ qsM_nd.1 qsM_nd.2.1; rw [← qsM_nd.2.2.1] at z; exact z
      refine s_if (t_or (t_T (e_op o_neI (show Pk.E _ _ _ (RD (.int (toldI 0 (S (TL.joinL [10] ([plL stC st, plL enC en] ++ ((qsM.take 60).map (plL piC)))))))) from c_call (sok_sps (Rs := fun a : Int × Str => [RD (.int a.1), RD (.str a.2)]) (P := fun a H => a.2.length ≤ 90000 ∧ asc a.2 ∧ TabG H T0) (R := fun a => RD (.int (toldI a.1 a.2))) (0, S (TL.joinL [10] ([plL stC st, plL enC en] ++ ((qsM.take 60).map (plL piC)))))) (a_cons e_int (a_cons (e_joinS (x := [10]) (M := ([plL stC st, plL enC en] ++ ((qsM.take 60).map (plL piC)))) (e_strS (x := [10]) (by decide +kernel)) (i_n (n_catM (xs := [plL stC st, plL enC en]) (ys := ((qsM.take 60).map (plL piC))) (i_n (EN.eqL (n_slM (i_of (e_var rfl)) p_none (p_some e_int)) (by rw [show (2 : Int) = ((2 : Nat) : Int) from rfl, cut_take (show 2 ≤ (LsT st en (sortP ps)).length by omega)]; rfl))) (i_n (EN.eqL (n_slM (i_of (e_var rfl)) p_none (p_some e_int)) (by rw [show (60 : Int) = ((60 : Nat) : Int) from rfl, cut_take (by rw [List.length_map]; decide), ← List.map_take]))) (by rw [List.length_map]; show 2 + (qsM.take 60).length ≤ 16777216; decide))) (join_bd (LsT_many hk (qs := qsM.take 60) (fun x m => qsM_ok x (List.mem_of_mem_take m)) (by decide)))) a_nil)) (fun H kp => ⟨(asks_pre (z := (TL.joinL [10] ([plL stC st, plL enC en] ++ ((qsM.take 60).map (plL piC))))) (hM1).1).1, (asks_pre (z := (TL.joinL [10] ([plL stC st, plL enC en] ++ ((qsM.take 60).map (plL piC))))) (hM1).1).2, kp.tab _ tF⟩)) e_int)) (fun hbo => (t_T (e_op o_neI (show Pk.E _ _ _ (RD (.int (toldI 0 (S (TL.joinL [10] ([plL stC st, plL enC en] ++ (qsM.map (plL piC)))))))) from c_call (sok_sps (Rs := fun a : Int × Str => [RD (.int a.1), RD (.str a.2)]) (P := fun a H => a.2.length ≤ 90000 ∧ asc a.2 ∧ TabG H T0) (R := fun a => RD (.int (toldI a.1 a.2))) (0, S (TL.joinL [10] ([plL stC st, plL enC en] ++ (qsM.map (plL piC)))))) (a_cons e_int (a_cons (e_joinS (x := [10]) (M := ([plL stC st, plL enC en] ++ (qsM.map (plL piC)))) (e_strS (x := [10]) (by decide +kernel)) (i_n (n_catM (xs := [plL stC st, plL enC en]) (ys := (qsM.map (plL piC))) (i_n (EN.eqL (n_slM (i_of (e_var rfl)) p_none (p_some e_int)) (by rw [show (2 : Int) = ((2 : Nat) : Int) from rfl, cut_take (show 2 ≤ (LsT st en (sortP ps)).length by omega)]; rfl))) (i_of (e_var rfl)) (by rw [List.length_map]; show 2 + qsM.length ≤ 16777216; decide))) (join_bd (LsT_many hk (qs := qsM) qsM_ok (by decide)))) a_nil)) (fun H kp => ⟨(asks_pre (z := (TL.joinL [10] ([plL stC st, plL enC en] ++ (qsM.map (plL piC))))) (hM2).1).1, (asks_pre (z := (TL.joinL [10] ([plL stC st, plL enC en] ++ (qsM.map (plL piC))))) (hM2).1).2, kp.tab _ tF⟩)) e_int)))) (fun h7 => absurd h7 ?_) (fun h7 => ?_)
      · rw [told_ne hM1 rfl, told_ne hM2 rfl]; exact Bool.false_ne_true
      refine s_pass ?_
      refine s_seq ?_
      refine s_set (c_call (sok_fwalk (ps := ([st, en] ++ ps))) (a_cons (n_e (n_catM (xs := [st, en]) (ys := ps) (i_n (n_lstM (xs := [st, en]) (enc := dP) (m_cons (e_var rfl) (m_cons (e_var rfl) m_nil)))) (i_of (e_var rfl)) (by show 2 + ps.length ≤ 16777216; omega))) a_nil) (fun H kp => ⟨hsm, by rw [List.length_append]; show 2 + ps.length ≤ 1000; omega⟩)) ?_
      show WC ⟨hs, hs, (fun _ => False), [.fz (RScr K ns), .fz (RD (.list (ns1.map PyData.int))), .fz (RD (.list (ls.map PyData.int))), .fz (RD (.list (gs.map PyData.int))), .fz (RD (.list (cs.map dLk))), .fz (RD (dP st)), .fz (RD (dP en)), .fz (RD (.list (ps.map dP))), .fz (RD (dX (taskL st en (sortP ps)))), .fz (RD (.list ((LsT st en (sortP ps)).map dX))), .any, .any, .fz (RD (.list ((qsM.map (plL piC)).map dX))), .fz (RD (dX (walkL ([st, en] ++ ps)))), .any, .any]⟩ _
      refine s_seq ?_
      refine s_for (xs := [([] : List Nat), [32], ((walkL ([st, en] ++ ps)) ++ [32]), ([32] ++ (walkL ([st, en] ++ ps))), ((walkL ([st, en] ++ ps)) ++ [32, 32, 48, 58, 48]), ((walkL ([st, en] ++ ps)) ++ [32, 48]), ((walkL ([st, en] ++ ps)) ++ [32, 48, 58, 48, 58, 48]), ((walkL ([st, en] ++ ps)) ++ [32, 48, 58]), ((walkL ([st, en] ++ ps)) ++ [32, 58, 48]), ((walkL ([st, en] ++ ps)) ++ [32, 48, 48, 58, 48]), ((walkL ([st, en] ++ ps)) ++ [32, 48, 58, 45, 49]), ((walkL ([st, en] ++ ps)) ++ [44, 48, 58, 48])]) (enc := dX) (fun (i : Nat) γ => γ = [.fz (RScr K ns), .fz (RD (.list (ns1.map PyData.int))), .fz (RD (.list (ls.map PyData.int))), .fz (RD (.list (gs.map PyData.int))), .fz (RD (.list (cs.map dLk))), .fz (RD (dP st)), .fz (RD (dP en)), .fz (RD (.list (ps.map dP))), .fz (RD (dX (taskL st en (sortP ps)))), .fz (RD (.list ((LsT st en (sortP ps)).map dX))), .any, .any, .fz (RD (.list ((qsM.map (plL piC)).map dX))), .fz (RD (dX (walkL ([st, en] ++ ps)))), .any, .any] ∧ (True)) (n_e (n_lstM (xs := [([] : List Nat), [32], ((walkL ([st, en] ++ ps)) ++ [32]), ([32] ++ (walkL ([st, en] ++ ps))), ((walkL ([st, en] ++ ps)) ++ [32, 32, 48, 58, 48]), ((walkL ([st, en] ++ ps)) ++ [32, 48]), ((walkL ([st, en] ++ ps)) ++ [32, 48, 58, 48, 58, 48]), ((walkL ([st, en] ++ ps)) ++ [32, 48, 58]), ((walkL ([st, en] ++ ps)) ++ [32, 58, 48]), ((walkL ([st, en] ++ ps)) ++ [32, 48, 48, 58, 48]), ((walkL ([st, en] ++ ps)) ++ [32, 48, 58, 45, 49]), ((walkL ([st, en] ++ ps)) ++ [44, 48, 58, 48])]) (enc := dX) (m_cons (e_strS (x := []) (by decide +kernel)) (m_cons (e_strS (x := [32]) (by decide +kernel)) (m_cons (e_op (o_catS (x := (walkL ([st, en] ++ ps))) (y := [32]) (by simp only [List.length_append, List.length_cons, List.length_nil]; omega)) (e_var rfl) (e_strS (x := [32]) (by decide +kernel))) (m_cons (e_op (o_catS (x := [32]) (y := (walkL ([st, en] ++ ps))) (by simp only [List.length_append, List.length_cons, List.length_nil]; omega)) (e_strS (x := [32]) (by decide +kernel)) (e_var rfl)) (m_cons (e_op (o_catS (x := (walkL ([st, en] ++ ps))) (y := [32, 32, 48, 58, 48]) (by simp only [List.length_append, List.length_cons, List.length_nil]; omega)) (e_var rfl) (e_strS (x := [32, 32, 48, 58, 48]) (by decide +kernel))) (m_cons (e_op (o_catS (x := (walkL ([st, en] ++ ps))) (y := [32, 48]) (by simp only [List.length_append, List.length_cons, List.length_nil]; omega)) (e_var rfl) (e_strS (x := [32, 48]) (by decide +kernel))) (m_cons (e_op (o_catS (x := (walkL ([st, en] ++ ps))) (y := [32, 48, 58, 48, 58, 48]) (by simp only [List.length_append, List.length_cons, List.length_nil]; omega)) (e_var rfl) (e_strS (x := [32, 48, 58, 48, 58, 48]) (by decide +kernel))) (m_cons (e_op (o_catS (x := (walkL ([st, en] ++ ps))) (y := [32, 48, 58]) (by simp only [List.length_append, List.length_cons, List.length_nil]; omega)) (e_var rfl) (e_strS (x := [32, 48, 58]) (by decide +kernel))) (m_cons (e_op (o_catS (x := (walkL ([st, en] ++ ps))) (y := [32, 58, 48]) (by simp only [List.length_append, List.length_cons, List.length_nil]; omega)) (e_var rfl) (e_strS (x := [32, 58, 48]) (by decide +kernel))) (m_cons (e_op (o_catS (x := (walkL ([st, en] ++ ps))) (y := [32, 48, 48, 58, 48]) (by simp only [List.length_append, List.length_cons, List.length_nil]; omega)) (e_var rfl) (e_strS (x := [32, 48, 48, 58, 48]) (by decide +kernel))) (m_cons (e_op (o_catS (x := (walkL ([st, en] ++ ps))) (y := [32, 48, 58, 45, 49]) (by simp only [List.length_append, List.length_cons, List.length_nil]; omega)) (e_var rfl) (e_strS (x := [32, 48, 58, 45, 49]) (by decide +kernel))) (m_cons (e_op (o_catS (x := (walkL ([st, en] ++ ps))) (y := [44, 48, 58, 48]) (by simp only [List.length_append, List.length_cons, List.length_nil]; omega)) (e_var rfl) (e_strS (x := [44, 48, 58, 48]) (by decide +kernel))) m_nil)))))))))))))) ⟨rfl, by trivial⟩ ?_ ?_
      · rintro h1_4 i0 xl γ kp hx0 ⟨rfl, _⟩
        have tF := kp.tab _ tF
        have hA := asksW_all1 hsm hwl hwn xl (List.mem_of_getElem? hx0)
        refine ⟨_, _, g_name, ?_⟩
        show WC ⟨hs, h1_4, (fun _ => False), [.fz (RScr K ns), .fz (RD (.list (ns1.map PyData.int))), .fz (RD (.list (ls.map PyData.int))), .fz (RD (.list (gs.map PyData.int))), .fz (RD (.list (cs.map dLk))), .fz (RD (dP st)), .fz (RD (dP en)), .fz (RD (.list (ps.map dP))), .fz (RD (dX (taskL st en (sortP ps)))), .fz (RD (.list ((LsT st en (sortP ps)).map dX))), .any, .any, .fz (RD (.list ((qsM.map (plL piC)).map dX))), .fz (RD (dX (walkL ([st, en] ++ ps)))), .fz (RD (dX xl)), .any]⟩ _
        refine s_if (t_T (e_op o_neI (show Pk.E _ _ _ (RD (.int (toldI 1 (S xl)))) from c_call (sok_sps (Rs := fun a : Int × Str => [RD (.int a.1), RD (.str a.2)]) (P := fun a H => a.2.length ≤ 90000 ∧ asc a.2 ∧ TabG H T0) (R := fun a => RD (.int (toldI a.1 a.2))) (1, S xl)) (a_cons e_int (a_cons (e_var rfl) a_nil)) (fun H kp => ⟨(asks_pre (z := xl) (hA).1).1, (asks_pre (z := xl) (hA).1).2, kp.tab _ tF⟩)) e_int)) (fun h8 => absurd h8 ?_) (fun h8 => ?_)
        · rw [told_neW hA rfl]; exact Bool.false_ne_true
        refine s_pass ?_
        refine s_drop 14 ?_
        show WC ⟨hs, h1_4, (fun _ => False), [.fz (RScr K ns), .fz (RD (.list (ns1.map PyData.int))), .fz (RD (.list (ls.map PyData.int))), .fz (RD (.list (gs.map PyData.int))), .fz (RD (.list (cs.map dLk))), .fz (RD (dP st)), .fz (RD (dP en)), .fz (RD (.list (ps.map dP))), .fz (RD (dX (taskL st en (sortP ps)))), .fz (RD (.list ((LsT st en (sortP ps)).map dX))), .any, .any, .fz (RD (.list ((qsM.map (plL piC)).map dX))), .fz (RD (dX (walkL ([st, en] ++ ps)))), .any, .any]⟩ _
        exact s_of ⟨rfl, by trivial⟩
      · rintro γ ⟨rfl, _⟩
        show WC ⟨hs, hs, (fun _ => False), [.fz (RScr K ns), .fz (RD (.list (ns1.map PyData.int))), .fz (RD (.list (ls.map PyData.int))), .fz (RD (.list (gs.map PyData.int))), .fz (RD (.list (cs.map dLk))), .fz (RD (dP st)), .fz (RD (dP en)), .fz (RD (.list (ps.map dP))), .fz (RD (dX (taskL st en (sortP ps)))), .fz (RD (.list ((LsT st en (sortP ps)).map dX))), .any, .any, .fz (RD (.list ((qsM.map (plL piC)).map dX))), .fz (RD (dX (walkL ([st, en] ++ ps)))), .any, .any]⟩ _
        refine s_seq ?_
        refine s_for (xs := [[48, 58, 120], [120, 58, 48], [48, 58, 49, 50, 51, 52, 53], [43, 49, 58, 48], [48, 32, 48], [48, 58, 49, 95, 48], ((walkL ([st, en] ++ ps)) ++ [10, 48, 58, 48])]) (enc := dX) (fun (i : Nat) γ => γ = [.fz (RScr K ns), .fz (RD (.list (ns1.map PyData.int))), .fz (RD (.list (ls.map PyData.int))), .fz (RD (.list (gs.map PyData.int))), .fz (RD (.list (cs.map dLk))), .fz (RD (dP st)), .fz (RD (dP en)), .fz (RD (.list (ps.map dP))), .fz (RD (dX (taskL st en (sortP ps)))), .fz (RD (.list ((LsT st en (sortP ps)).map dX))), .any, .any, .fz (RD (.list ((qsM.map (plL piC)).map dX))), .fz (RD (dX (walkL ([st, en] ++ ps)))), .any, .any] ∧ (True)) (n_e (n_lstM (xs := [[48, 58, 120], [120, 58, 48], [48, 58, 49, 50, 51, 52, 53], [43, 49, 58, 48], [48, 32, 48], [48, 58, 49, 95, 48], ((walkL ([st, en] ++ ps)) ++ [10, 48, 58, 48])]) (enc := dX) (m_cons (e_strS (x := [48, 58, 120]) (by decide +kernel)) (m_cons (e_strS (x := [120, 58, 48]) (by decide +kernel)) (m_cons (e_strS (x := [48, 58, 49, 50, 51, 52, 53]) (by decide +kernel)) (m_cons (e_strS (x := [43, 49, 58, 48]) (by decide +kernel)) (m_cons (e_strS (x := [48, 32, 48]) (by decide +kernel)) (m_cons (e_strS (x := [48, 58, 49, 95, 48]) (by decide +kernel)) (m_cons (e_op (o_catS (x := (walkL ([st, en] ++ ps))) (y := [10, 48, 58, 48]) (by simp only [List.length_append, List.length_cons, List.length_nil]; omega)) (e_var rfl) (e_strS (x := [10, 48, 58, 48]) (by decide +kernel))) m_nil))))))))) ⟨rfl, by trivial⟩ ?_ ?_
        · rintro h1_5 i0 xl γ kp hx0 ⟨rfl, _⟩
          have tF := kp.tab _ tF
          have hA := asksW_all2 hsm hwl hwn xl (List.mem_of_getElem? hx0)
          refine ⟨_, _, g_name, ?_⟩
          show WC ⟨hs, h1_5, (fun _ => False), [.fz (RScr K ns), .fz (RD (.list (ns1.map PyData.int))), .fz (RD (.list (ls.map PyData.int))), .fz (RD (.list (gs.map PyData.int))), .fz (RD (.list (cs.map dLk))), .fz (RD (dP st)), .fz (RD (dP en)), .fz (RD (.list (ps.map dP))), .fz (RD (dX (taskL st en (sortP ps)))), .fz (RD (.list ((LsT st en (sortP ps)).map dX))), .any, .any, .fz (RD (.list ((qsM.map (plL piC)).map dX))), .fz (RD (dX (walkL ([st, en] ++ ps)))), .fz (RD (dX xl)), .any]⟩ _
          refine s_if (t_T (e_op o_neI (show Pk.E _ _ _ (RD (.int (toldI 1 (S xl)))) from c_call (sok_sps (Rs := fun a : Int × Str => [RD (.int a.1), RD (.str a.2)]) (P := fun a H => a.2.length ≤ 90000 ∧ asc a.2 ∧ TabG H T0) (R := fun a => RD (.int (toldI a.1 a.2))) (1, S xl)) (a_cons e_int (a_cons (e_var rfl) a_nil)) (fun H kp => ⟨(asks_pre (z := xl) (hA).1).1, (asks_pre (z := xl) (hA).1).2, kp.tab _ tF⟩)) e_int)) (fun h9 => absurd h9 ?_) (fun h9 => ?_)
          · rw [told_neW hA rfl]; exact Bool.false_ne_true
          refine s_pass ?_
          refine s_drop 14 ?_
          show WC ⟨hs, h1_5, (fun _ => False), [.fz (RScr K ns), .fz (RD (.list (ns1.map PyData.int))), .fz (RD (.list (ls.map PyData.int))), .fz (RD (.list (gs.map PyData.int))), .fz (RD (.list (cs.map dLk))), .fz (RD (dP st)), .fz (RD (dP en)), .fz (RD (.list (ps.map dP))), .fz (RD (dX (taskL st en (sortP ps)))), .fz (RD (.list ((LsT st en (sortP ps)).map dX))), .any, .any, .fz (RD (.list ((qsM.map (plL piC)).map dX))), .fz (RD (dX (walkL ([st, en] ++ ps)))), .any, .any]⟩ _
          exact s_of ⟨rfl, by trivial⟩
        · rintro γ ⟨rfl, _⟩
          show WC ⟨hs, hs, (fun _ => False), [.fz (RScr K ns), .fz (RD (.list (ns1.map PyData.int))), .fz (RD (.list (ls.map PyData.int))), .fz (RD (.list (gs.map PyData.int))), .fz (RD (.list (cs.map dLk))), .fz (RD (dP st)), .fz (RD (dP en)), .fz (RD (.list (ps.map dP))), .fz (RD (dX (taskL st en (sortP ps)))), .fz (RD (.list ((LsT st en (sortP ps)).map dX))), .any, .any, .fz (RD (.list ((qsM.map (plL piC)).map dX))), .fz (RD (dX (walkL ([st, en] ++ ps)))), .any, .any]⟩ _
          refine s_ret (E.eq (e_and (e_op o_eqI (show Pk.E _ _ _ (RD (.int (toldI 1 (S (walkL ([st, en] ++ ps)))))) from c_call (sok_sps (Rs := fun a : Int × Str => [RD (.int a.1), RD (.str a.2)]) (P := fun a H => a.2.length ≤ 90000 ∧ asc a.2 ∧ TabG H T0) (R := fun a => RD (.int (toldI a.1 a.2))) (1, S (walkL ([st, en] ++ ps)))) (a_cons e_int (a_cons (e_var rfl) a_nil)) (fun H kp => ⟨(asks_pre (z := (walkL ([st, en] ++ ps))) (asksW_good hsm hwl hwn).1).1, (asks_pre (z := (walkL ([st, en] ++ ps))) (asksW_good hsm hwl hwn).1).2, kp.tab _ tF⟩)) e_int) (fun hbo => (e_and (e_op o_eqI (show Pk.E _ _ _ (RD (.int (toldI 1 (S [48, 58, 57, 57, 57, 57])))) from c_call (sok_sps (Rs := fun a : Int × Str => [RD (.int a.1), RD (.str a.2)]) (P := fun a H => a.2.length ≤ 90000 ∧ asc a.2 ∧ TabG H T0) (R := fun a => RD (.int (toldI a.1 a.2))) (1, S [48, 58, 57, 57, 57, 57])) (a_cons e_int (a_cons (e_strS (x := [48, 58, 57, 57, 57, 57]) (by decide +kernel)) a_nil)) (fun H kp => ⟨(asks_pre (z := [48, 58, 57, 57, 57, 57]) (asksW_9999).1).1, (asks_pre (z := [48, 58, 57, 57, 57, 57]) (asksW_9999).1).2, kp.tab _ tF⟩)) e_int) (fun hbo => (e_op o_eqI (show Pk.E _ _ _ (RD (.int (toldI 0 (S (taskL st en (sortP ps)))))) from c_call (sok_sps (Rs := fun a : Int × Str => [RD (.int a.1), RD (.str a.2)]) (P := fun a H => a.2.length ≤ 90000 ∧ asc a.2 ∧ TabG H T0) (R := fun a => RD (.int (toldI a.1 a.2))) (0, S (taskL st en (sortP ps)))) (a_cons e_int (a_cons (e_var rfl) a_nil)) (fun H kp => ⟨(asks_pre (z := (taskL st en (sortP ps))) (asks_good hk).1).1, (asks_pre (z := (taskL st en (sortP ps))) (asks_good hk).1).2, kp.tab _ tF⟩)) e_int))))) (e := .bool true) (congrArg PyData.bool ?_)) fun H' v k r => by cases r; exact q H'
          rw [told_eqW (asksW_good hsm hwl hwn) rfl, told_eqW asksW_9999 rfl, told_eq (asks_good hk) rfl]; rfl
end
section
open GxR NdefX PySem.Spec PyProof.Rows
theorem all_mk {l : PySem.W.OpenLaw} {w : World} {K : PySem.W.Frag} {h : Heap} {mg : Str → Option Value} {fa : Addr} {T0 : Addr} (X : K.In h) (G : h.Ns mainGlobals mg) (hfa : mg "law" = some (.ref fa))
    {CL : Addr}
    {CT : Addr}
    {CIT : Addr}
    {tk_MOST_PICKS : Tok}
    {f_Task___init__ : Addr}
    {od_Task___init__ an_Task___init__ : Option Addr} {sl_Task___init__ : Array (Option Value)} {oc_Task___init__ kV_Task___init__ dc_Task___init__ pm_Task___init__ cd_Task___init__ ct_Task___init__ : Value}
    {p_Task_picks : Addr}
    {r_Task_picks : List Value}
    {f_Task_picks : Addr}
    {od_Task_picks an_Task_picks : Option Addr} {sl_Task_picks : Array (Option Value)} {oc_Task_picks kV_Task_picks dc_Task_picks pm_Task_picks cd_Task_picks ct_Task_picks : Value}
    {CTK : Addr}
    {Pe : Addr}
    {nm0 qn0 : Str} {N0 : Addr} {bs0 : List Value} {sn0 : List Str} {sb0 : List Value} {ab0 : Bool} {co0 : Option Bool} {dd0 : Option Addr} {ma0 mb0 mc0 md0 me0 : Option Value}
    {f_iCTK : Addr}
    {od_iCTK an_iCTK : Option Addr} {sl_iCTK : Array (Option Value)} {oc_iCTK kV_iCTK dc_iCTK pm_iCTK cd_iCTK ct_iCTK : Value}
    {CN : Addr}
    {nm1 qn1 : Str} {N1 : Addr} {bs1 : List Value} {sn1 : List Str} {sb1 : List Value} {ab1 : Bool} {co1 : Option Bool} {dd1 : Option Addr} {ma1 mb1 mc1 md1 me1 : Option Value}
    {f_iCN : Addr}
    {od_iCN an_iCN : Option Addr} {sl_iCN : Array (Option Value)} {oc_iCN kV_iCN dc_iCN pm_iCN cd_iCN ct_iCN : Value}
    {tk_MOST_DIGITS : Tok}
    {tk_GREATEST_OF_TASK : Tok}
    {f__law_row : Addr}
    {od__law_row an__law_row : Option Addr} {sl__law_row : Array (Option Value)} {oc__law_row kV__law_row dc__law_row pm__law_row cd__law_row ct__law_row : Value}
    {f__law_numbers : Addr}
    {od__law_numbers an__law_numbers : Option Addr} {sl__law_numbers : Array (Option Value)} {oc__law_numbers kV__law_numbers dc__law_numbers pm__law_numbers cd__law_numbers ct__law_numbers : Value}
    {f_Task_has_pick : Addr}
    {od_Task_has_pick an_Task_has_pick : Option Addr} {sl_Task_has_pick : Array (Option Value)} {oc_Task_has_pick kV_Task_has_pick dc_Task_has_pick pm_Task_has_pick cd_Task_has_pick ct_Task_has_pick : Value}
    {f_Task_with_pick : Addr}
    {od_Task_with_pick an_Task_with_pick : Option Addr} {sl_Task_with_pick : Array (Option Value)} {oc_Task_with_pick kV_Task_with_pick dc_Task_with_pick pm_Task_with_pick cd_Task_with_pick ct_Task_with_pick : Value}
    {f__row : Addr}
    {od__row an__row : Option Addr} {sl__row : Array (Option Value)} {oc__row kV__row dc__row pm__row cd__row ct__row : Value}
    {f_is_number : Addr}
    {od_is_number an_is_number : Option Addr} {sl_is_number : Array (Option Value)} {oc_is_number kV_is_number dc_is_number pm_is_number cd_is_number ct_is_number : Value}
    {f__numbers_of : Addr}
    {c8__numbers_of : Addr}
    {od__numbers_of an__numbers_of : Option Addr} {sl__numbers_of : Array (Option Value)} {oc__numbers_of kV__numbers_of dc__numbers_of pm__numbers_of ct__numbers_of : Value}
    {f__numbers_in : Addr}
    {od__numbers_in an__numbers_in : Option Addr} {sl__numbers_in : Array (Option Value)} {oc__numbers_in kV__numbers_in dc__numbers_in pm__numbers_in cd__numbers_in ct__numbers_in : Value}
    {f__place_in : Addr}
    {od__place_in an__place_in : Option Addr} {sl__place_in : Array (Option Value)} {oc__place_in kV__place_in dc__place_in pm__place_in cd__place_in ct__place_in : Value}
    {f__task_with_line : Addr}
    {od__task_with_line an__task_with_line : Option Addr} {sl__task_with_line : Array (Option Value)} {oc__task_with_line kV__task_with_line dc__task_with_line pm__task_with_line cd__task_with_line ct__task_with_line : Value}
    {f_parse_task : Addr}
    {od_parse_task an_parse_task : Option Addr} {sl_parse_task : Array (Option Value)} {oc_parse_task kV_parse_task dc_parse_task pm_parse_task cd_parse_task ct_parse_task : Value}
    {f_parse_walk : Addr}
    {od_parse_walk an_parse_walk : Option Addr} {sl_parse_walk : Array (Option Value)} {oc_parse_walk kV_parse_walk dc_parse_walk pm_parse_walk cd_parse_walk ct_parse_walk : Value}
    {f_format_task : Addr}
    {od_format_task an_format_task : Option Addr} {sl_format_task : Array (Option Value)} {oc_format_task kV_format_task dc_format_task pm_format_task cd_format_task ct_format_task : Value}
    {f_format_walk : Addr}
    {od_format_walk an_format_walk : Option Addr} {sl_format_walk : Array (Option Value)} {oc_format_walk kV_format_walk dc_format_walk pm_format_walk cd_format_walk ct_format_walk : Value}
    {f__law_told : Addr}
    {od__law_told an__law_told : Option Addr} {sl__law_told : Array (Option Value)} {oc__law_told kV__law_told dc__law_told pm__law_told cd__law_told ct__law_told : Value}
    {f__law_parts : Addr}
    {od__law_parts an__law_parts : Option Addr} {sl__law_parts : Array (Option Value)} {oc__law_parts kV__law_parts dc__law_parts pm__law_parts cd__law_parts ct__law_parts : Value}
    {f__law_crosses : Addr}
    {od__law_crosses an__law_crosses : Option Addr} {sl__law_crosses : Array (Option Value)} {oc__law_crosses kV__law_crosses dc__law_crosses pm__law_crosses cd__law_crosses ct__law_crosses : Value}
    {f__law_aims : Addr}
    {od__law_aims an__law_aims : Option Addr} {sl__law_aims : Array (Option Value)} {oc__law_aims kV__law_aims dc__law_aims pm__law_aims cd__law_aims ct__law_aims : Value}
    {f__law_spoilt : Addr}
    {od__law_spoilt an__law_spoilt : Option Addr} {sl__law_spoilt : Array (Option Value)} {oc__law_spoilt kV__law_spoilt dc__law_spoilt pm__law_spoilt cd__law_spoilt ct__law_spoilt : Value}
    {f_law : Addr}
    {od_law an_law : Option Addr} {sl_law : Array (Option Value)} {oc_law kV_law dc_law pm_law cd_law ct_law : Value}
    (a_CL : PySem.W.nsIn K mainGlobals "TooLarge" = some (some (.ref CL)))
    (kpCL : PySem.W.keepIn K (.ref CL) = true)
    (sbCL : PySem.W.subIn K (.ref CL) (.type "BaseException") = some true)
    (tyCL : PySem.W.typeIn K (.ref CL) = some (.type "type"))
    (exCL : PySem.W.excIn K CL [.type "ValueError", .type "Exception", .type "BaseException", .type "object"] "ValueError.__new__" = true)
    (a_CT : PySem.W.nsIn K mainGlobals "Task" = some (some (.ref CT)))
    (pg_CT : PySem.W.plainGet K CT Str.empty = true)
    (hd_CT : PySem.W.hasDictIn K CT = true)
    (po_CT : PySem.W.plainOver K CT = true)
    (sa_CT : PySem.W.findIn K (.ref CT) "__setattr__" = some (some (.builtin "object.__setattr__")))
    (mk_CT : PySem.W.makesIn K CT = true)
    (kc_CT : PySem.W.keepIn K (.ref CT) = true)
    (a_CIT : PySem.W.nsIn K mainGlobals "InvalidTask" = some (some (.ref CIT)))
    (kpCIT : PySem.W.keepIn K (.ref CIT) = true)
    (sbCIT : PySem.W.subIn K (.ref CIT) (.type "BaseException") = some true)
    (tyCIT : PySem.W.typeIn K (.ref CIT) = some (.type "type"))
    (exCIT : PySem.W.excIn K CIT [.type "ValueError", .type "Exception", .type "BaseException", .type "object"] "ValueError.__new__" = true)
    (tstart : PySem.W.findIn K (.ref CT) "start" = some none)
    (tend : PySem.W.findIn K (.ref CT) "end" = some none)
    (tppicks : PySem.W.findIn K (.ref CT) "_picks" = some none)
    (c_MOST_PICKS : PySem.W.nsIn K mainGlobals "MOST_PICKS" = some (some (.int 60 tk_MOST_PICKS)))
    (z_len : PySem.W.nsIn K mainGlobals "len" = some none)
    (z_set : PySem.W.nsIn K mainGlobals "set" = some none)
    (z_sorted : PySem.W.nsIn K mainGlobals "sorted" = some none)
    (z_list : PySem.W.nsIn K mainGlobals "list" = some none)
    (a_Task___init__ : PySem.W.findIn K (.ref CT) "__init__" = some (some (.ref f_Task___init__)))
    (i_Task___init__ : PySem.W.isFn K (.ref f_Task___init__) = true)
    (l_Task___init__ : K.lookup f_Task___init__ = some ⟨oc_Task___init__, od_Task___init__, .func (PySem.W.fnOf "__init__" "Task.__init__" (defArgs s_Task___init__) (defBody s_Task___init__) (defScope s_Task___init__) .none kV_Task___init__ dc_Task___init__ pm_Task___init__ an_Task___init__ cd_Task___init__ ct_Task___init__), sl_Task___init__⟩)
    (c_Task___init__ : PySem.W.codeIn K cd_Task___init__ "Task.__init__" = true)
    (k_Task___init__ : PySem.W.keepIn K (.ref f_Task___init__) = true)
    (pa_Task_picks : PySem.W.findIn K (.ref CT) "picks" = some (some (.ref p_Task_picks)))
    (pg_Task_picks : PySem.W.specialIn K (.ref p_Task_picks) "__get__" = some (some (.builtin "property.__get__")))
    (pt_Task_picks : PySem.W.takesIn K (.ref p_Task_picks) = some true)
    (pr_Task_picks : PySem.W.recIn K p_Task_picks "property" = some (.ref f_Task_picks :: r_Task_picks))
    (l_Task_picks : K.lookup f_Task_picks = some ⟨oc_Task_picks, od_Task_picks, .func (PySem.W.fnOf "picks" "Task.picks" (defArgs s_Task_picks) (defBody s_Task_picks) (defScope s_Task_picks) .none kV_Task_picks dc_Task_picks pm_Task_picks an_Task_picks cd_Task_picks ct_Task_picks), sl_Task_picks⟩)
    (c_Task_picks : PySem.W.codeIn K cd_Task_picks "Task.picks" = true)
    (k_Task_picks : PySem.W.keepIn K (.ref f_Task_picks) = true)
    (a_CTK : PySem.W.nsIn K mainGlobals "PickTaken" = some (some (.ref CTK)))
    (kpCTK : PySem.W.keepIn K (.ref CTK) = true)
    (sbCTK : PySem.W.subIn K (.ref CTK) (.type "BaseException") = some true)
    (tyCTK : PySem.W.typeIn K (.ref CTK) = some (.type "type"))
    (a_Pe : PySem.W.nsIn K mainGlobals "PickError" = some (some (.ref Pe)))
    (dcCTK : PySem.W.hasDictIn K CTK = true)
    (ssCTK : PySem.W.subIn K (.ref CTK) (.ref CTK) = some true)
    (xlCTK : K.lookup CTK = some (excClassObj nm0 qn0 CTK N0 bs0 [.ref Pe, .type "ValueError", .type "Exception", .type "BaseException", .type "object"] true sn0 sb0 ab0 co0 dd0 ma0 mb0 mc0 md0 me0 "ValueError.__new__"))
    (saCTK : PySem.W.findIn K (.ref CTK) "__setattr__" = some (some (.builtin "object.__setattr__")))
    (noCTK : PySem.W.findIn K (.ref CTK) "place" = some none)
    (gaCTK : PySem.W.findIn K (.ref CTK) "__getattribute__" = some (some (.builtin "BaseException.__getattribute__")))
    (ggCTK : PySem.W.findIn K (.ref CTK) "__getattr__" = some none)
    (a_iCTK : PySem.W.findIn K (.ref CTK) "__init__" = some (some (.ref f_iCTK)))
    (tiCTK : PySem.W.typeIn K (.ref f_iCTK) = some (.type "function"))
    (l_iCTK : K.lookup f_iCTK = some ⟨oc_iCTK, od_iCTK, .func (PySem.W.fnOf "__init__" "PickTaken.__init__" (defArgs s_PickTaken___init__) (defBody s_PickTaken___init__) (defScope s_PickTaken___init__) .none kV_iCTK dc_iCTK pm_iCTK an_iCTK cd_iCTK ct_iCTK), sl_iCTK⟩)
    (c_iCTK : PySem.W.codeIn K cd_iCTK "PickTaken.__init__" = true)
    (k_iCTK : PySem.W.keepIn K (.ref f_iCTK) = true)
    (a_CN : PySem.W.nsIn K mainGlobals "InvalidNotation" = some (some (.ref CN)))
    (kpCN : PySem.W.keepIn K (.ref CN) = true)
    (sbCN : PySem.W.subIn K (.ref CN) (.type "BaseException") = some true)
    (tyCN : PySem.W.typeIn K (.ref CN) = some (.type "type"))
    (dcCN : PySem.W.hasDictIn K CN = true)
    (ssCN : PySem.W.subIn K (.ref CN) (.ref CN) = some true)
    (xlCN : K.lookup CN = some (excClassObj nm1 qn1 CN N1 bs1 [.ref Pe, .type "ValueError", .type "Exception", .type "BaseException", .type "object"] true sn1 sb1 ab1 co1 dd1 ma1 mb1 mc1 md1 me1 "ValueError.__new__"))
    (saCN : PySem.W.findIn K (.ref CN) "__setattr__" = some (some (.builtin "object.__setattr__")))
    (noCN : PySem.W.findIn K (.ref CN) "line" = some none)
    (gaCN : PySem.W.findIn K (.ref CN) "__getattribute__" = some (some (.builtin "BaseException.__getattribute__")))
    (ggCN : PySem.W.findIn K (.ref CN) "__getattr__" = some none)
    (a_iCN : PySem.W.findIn K (.ref CN) "__init__" = some (some (.ref f_iCN)))
    (tiCN : PySem.W.typeIn K (.ref f_iCN) = some (.type "function"))
    (l_iCN : K.lookup f_iCN = some ⟨oc_iCN, od_iCN, .func (PySem.W.fnOf "__init__" "InvalidNotation.__init__" (defArgs s_InvalidNotation___init__) (defBody s_InvalidNotation___init__) (defScope s_InvalidNotation___init__) .none kV_iCN dc_iCN pm_iCN an_iCN cd_iCN ct_iCN), sl_iCN⟩)
    (c_iCN : PySem.W.codeIn K cd_iCN "InvalidNotation.__init__" = true)
    (k_iCN : PySem.W.keepIn K (.ref f_iCN) = true)
    (z_str : PySem.W.nsIn K mainGlobals "str" = some none)
    (z_all : PySem.W.nsIn K mainGlobals "all" = some none)
    (z_int : PySem.W.nsIn K mainGlobals "int" = some none)
    (z_range : PySem.W.nsIn K mainGlobals "range" = some none)
    (z_max : PySem.W.nsIn K mainGlobals "max" = some none)
    (z_isinstance : PySem.W.nsIn K mainGlobals "isinstance" = some none)
    (z_bool : PySem.W.nsIn K mainGlobals "bool" = some none)
    (z_abs : PySem.W.nsIn K mainGlobals "abs" = some none)
    (z_sum : PySem.W.nsIn K mainGlobals "sum" = some none)
    (c_MOST_DIGITS : PySem.W.nsIn K mainGlobals "MOST_DIGITS" = some (some (.int 4 tk_MOST_DIGITS)))
    (c_GREATEST_OF_TASK : PySem.W.nsIn K mainGlobals "GREATEST_OF_TASK" = some (some (.int 1000 tk_GREATEST_OF_TASK)))
    (a__law_row : PySem.W.nsIn K mainGlobals "_law_row" = some (some (.ref f__law_row)))
    (l__law_row : K.lookup f__law_row = some ⟨oc__law_row, od__law_row, .func (PySem.W.fnOf "_law_row" "_law_row" (defArgs s__law_row) (defBody s__law_row) (defScope s__law_row) .none kV__law_row dc__law_row pm__law_row an__law_row cd__law_row ct__law_row), sl__law_row⟩)
    (c__law_row : PySem.W.codeIn K cd__law_row "_law_row" = true)
    (k__law_row : PySem.W.keepIn K (.ref f__law_row) = true)
    (a__law_numbers : PySem.W.nsIn K mainGlobals "_law_numbers" = some (some (.ref f__law_numbers)))
    (l__law_numbers : K.lookup f__law_numbers = some ⟨oc__law_numbers, od__law_numbers, .func (PySem.W.fnOf "_law_numbers" "_law_numbers" (defArgs s__law_numbers) (defBody s__law_numbers) (defScope s__law_numbers) .none kV__law_numbers dc__law_numbers pm__law_numbers an__law_numbers cd__law_numbers ct__law_numbers), sl__law_numbers⟩)
    (c__law_numbers : PySem.W.codeIn K cd__law_numbers "_law_numbers" = true)
    (k__law_numbers : PySem.W.keepIn K (.ref f__law_numbers) = true)
    (acCN : PySem.W.findIn K (.ref CN) "__class__" = some (some (.builtin "object.__class__")))
    (asCN : PySem.W.specialIn K (.builtin "object.__class__") "__get__" = some (some (.builtin "getset_descriptor.__get__")))
    (atCN : PySem.W.takesIn K (.builtin "object.__class__") = some true)
    (amCN : PySem.W.mroIn K CN (.type "object") = some true)
    (kNI : PySem.W.kitOne K (.ref CN) (.ref CIT) = some false)
    (eTT : PySem.W.exmAny K (.ref CTK) [.ref CTK, .ref CL] = some true)
    (eTL : PySem.W.exmAny K (.ref CL) [.ref CTK, .ref CL] = some true)
    (a_Task_has_pick : PySem.W.findIn K (.ref CT) "has_pick" = some (some (.ref f_Task_has_pick)))
    (i_Task_has_pick : PySem.W.isFn K (.ref f_Task_has_pick) = true)
    (l_Task_has_pick : K.lookup f_Task_has_pick = some ⟨oc_Task_has_pick, od_Task_has_pick, .func (PySem.W.fnOf "has_pick" "Task.has_pick" (defArgs s_Task_has_pick) (defBody s_Task_has_pick) (defScope s_Task_has_pick) .none kV_Task_has_pick dc_Task_has_pick pm_Task_has_pick an_Task_has_pick cd_Task_has_pick ct_Task_has_pick), sl_Task_has_pick⟩)
    (c_Task_has_pick : PySem.W.codeIn K cd_Task_has_pick "Task.has_pick" = true)
    (k_Task_has_pick : PySem.W.keepIn K (.ref f_Task_has_pick) = true)
    (a_Task_with_pick : PySem.W.findIn K (.ref CT) "with_pick" = some (some (.ref f_Task_with_pick)))
    (i_Task_with_pick : PySem.W.isFn K (.ref f_Task_with_pick) = true)
    (l_Task_with_pick : K.lookup f_Task_with_pick = some ⟨oc_Task_with_pick, od_Task_with_pick, .func (PySem.W.fnOf "with_pick" "Task.with_pick" (defArgs s_Task_with_pick) (defBody s_Task_with_pick) (defScope s_Task_with_pick) .none kV_Task_with_pick dc_Task_with_pick pm_Task_with_pick an_Task_with_pick cd_Task_with_pick ct_Task_with_pick), sl_Task_with_pick⟩)
    (c_Task_with_pick : PySem.W.codeIn K cd_Task_with_pick "Task.with_pick" = true)
    (k_Task_with_pick : PySem.W.keepIn K (.ref f_Task_with_pick) = true)
    (a__row : PySem.W.nsIn K mainGlobals "_row" = some (some (.ref f__row)))
    (l__row : K.lookup f__row = some ⟨oc__row, od__row, .func (PySem.W.fnOf "_row" "_row" (defArgs s__row) (defBody s__row) (defScope s__row) .none kV__row dc__row pm__row an__row cd__row ct__row), sl__row⟩)
    (c__row : PySem.W.codeIn K cd__row "_row" = true)
    (k__row : PySem.W.keepIn K (.ref f__row) = true)
    (a_is_number : PySem.W.nsIn K mainGlobals "is_number" = some (some (.ref f_is_number)))
    (l_is_number : K.lookup f_is_number = some ⟨oc_is_number, od_is_number, .func (PySem.W.fnOf "is_number" "is_number" (defArgs s_is_number) (defBody s_is_number) (defScope s_is_number) .none kV_is_number dc_is_number pm_is_number an_is_number cd_is_number ct_is_number), sl_is_number⟩)
    (c_is_number : PySem.W.codeIn K cd_is_number "is_number" = true)
    (k_is_number : PySem.W.keepIn K (.ref f_is_number) = true)
    (a__numbers_of : PySem.W.nsIn K mainGlobals "_numbers_of" = some (some (.ref f__numbers_of)))
    (l__numbers_of : K.lookup f__numbers_of = some ⟨oc__numbers_of, od__numbers_of, .func (PySem.W.fnOf "_numbers_of" "_numbers_of" (defArgs s__numbers_of) (defBody s__numbers_of) (defScope s__numbers_of) .none kV__numbers_of dc__numbers_of pm__numbers_of an__numbers_of (.ref c8__numbers_of) ct__numbers_of), sl__numbers_of⟩)
    (c__numbers_of : PySem.W.codeIn K (.ref c8__numbers_of) "_numbers_of" = true)
    (k__numbers_of : PySem.W.keepIn K (.ref f__numbers_of) = true)
    (a__numbers_in : PySem.W.nsIn K mainGlobals "_numbers_in" = some (some (.ref f__numbers_in)))
    (l__numbers_in : K.lookup f__numbers_in = some ⟨oc__numbers_in, od__numbers_in, .func (PySem.W.fnOf "_numbers_in" "_numbers_in" (defArgs s__numbers_in) (defBody s__numbers_in) (defScope s__numbers_in) .none kV__numbers_in dc__numbers_in pm__numbers_in an__numbers_in cd__numbers_in ct__numbers_in), sl__numbers_in⟩)
    (c__numbers_in : PySem.W.codeIn K cd__numbers_in "_numbers_in" = true)
    (k__numbers_in : PySem.W.keepIn K (.ref f__numbers_in) = true)
    (a__place_in : PySem.W.nsIn K mainGlobals "_place_in" = some (some (.ref f__place_in)))
    (l__place_in : K.lookup f__place_in = some ⟨oc__place_in, od__place_in, .func (PySem.W.fnOf "_place_in" "_place_in" (defArgs s__place_in) (defBody s__place_in) (defScope s__place_in) .none kV__place_in dc__place_in pm__place_in an__place_in cd__place_in ct__place_in), sl__place_in⟩)
    (c__place_in : PySem.W.codeIn K cd__place_in "_place_in" = true)
    (k__place_in : PySem.W.keepIn K (.ref f__place_in) = true)
    (a__task_with_line : PySem.W.nsIn K mainGlobals "_task_with_line" = some (some (.ref f__task_with_line)))
    (l__task_with_line : K.lookup f__task_with_line = some ⟨oc__task_with_line, od__task_with_line, .func (PySem.W.fnOf "_task_with_line" "_task_with_line" (defArgs s__task_with_line) (defBody s__task_with_line) (defScope s__task_with_line) .none kV__task_with_line dc__task_with_line pm__task_with_line an__task_with_line cd__task_with_line ct__task_with_line), sl__task_with_line⟩)
    (c__task_with_line : PySem.W.codeIn K cd__task_with_line "_task_with_line" = true)
    (k__task_with_line : PySem.W.keepIn K (.ref f__task_with_line) = true)
    (a_parse_task : PySem.W.nsIn K mainGlobals "parse_task" = some (some (.ref f_parse_task)))
    (l_parse_task : K.lookup f_parse_task = some ⟨oc_parse_task, od_parse_task, .func (PySem.W.fnOf "parse_task" "parse_task" (defArgs s_parse_task) (defBody s_parse_task) (defScope s_parse_task) .none kV_parse_task dc_parse_task pm_parse_task an_parse_task cd_parse_task ct_parse_task), sl_parse_task⟩)
    (c_parse_task : PySem.W.codeIn K cd_parse_task "parse_task" = true)
    (k_parse_task : PySem.W.keepIn K (.ref f_parse_task) = true)
    (a_parse_walk : PySem.W.nsIn K mainGlobals "parse_walk" = some (some (.ref f_parse_walk)))
    (l_parse_walk : K.lookup f_parse_walk = some ⟨oc_parse_walk, od_parse_walk, .func (PySem.W.fnOf "parse_walk" "parse_walk" (defArgs s_parse_walk) (defBody s_parse_walk) (defScope s_parse_walk) .none kV_parse_walk dc_parse_walk pm_parse_walk an_parse_walk cd_parse_walk ct_parse_walk), sl_parse_walk⟩)
    (c_parse_walk : PySem.W.codeIn K cd_parse_walk "parse_walk" = true)
    (k_parse_walk : PySem.W.keepIn K (.ref f_parse_walk) = true)
    (a_format_task : PySem.W.nsIn K mainGlobals "format_task" = some (some (.ref f_format_task)))
    (l_format_task : K.lookup f_format_task = some ⟨oc_format_task, od_format_task, .func (PySem.W.fnOf "format_task" "format_task" (defArgs s_format_task) (defBody s_format_task) (defScope s_format_task) .none kV_format_task dc_format_task pm_format_task an_format_task cd_format_task ct_format_task), sl_format_task⟩)
    (c_format_task : PySem.W.codeIn K cd_format_task "format_task" = true)
    (k_format_task : PySem.W.keepIn K (.ref f_format_task) = true)
    (a_format_walk : PySem.W.nsIn K mainGlobals "format_walk" = some (some (.ref f_format_walk)))
    (l_format_walk : K.lookup f_format_walk = some ⟨oc_format_walk, od_format_walk, .func (PySem.W.fnOf "format_walk" "format_walk" (defArgs s_format_walk) (defBody s_format_walk) (defScope s_format_walk) .none kV_format_walk dc_format_walk pm_format_walk an_format_walk cd_format_walk ct_format_walk), sl_format_walk⟩)
    (c_format_walk : PySem.W.codeIn K cd_format_walk "format_walk" = true)
    (k_format_walk : PySem.W.keepIn K (.ref f_format_walk) = true)
    (a__law_told : PySem.W.nsIn K mainGlobals "_law_told" = some (some (.ref f__law_told)))
    (l__law_told : K.lookup f__law_told = some ⟨oc__law_told, od__law_told, .func (PySem.W.fnOf "_law_told" "_law_told" (defArgs s__law_told) (defBody s__law_told) (defScope s__law_told) .none kV__law_told dc__law_told pm__law_told an__law_told cd__law_told ct__law_told), sl__law_told⟩)
    (c__law_told : PySem.W.codeIn K cd__law_told "_law_told" = true)
    (k__law_told : PySem.W.keepIn K (.ref f__law_told) = true)
    (a__law_parts : PySem.W.nsIn K mainGlobals "_law_parts" = some (some (.ref f__law_parts)))
    (l__law_parts : K.lookup f__law_parts = some ⟨oc__law_parts, od__law_parts, .func (PySem.W.fnOf "_law_parts" "_law_parts" (defArgs s__law_parts) (defBody s__law_parts) (defScope s__law_parts) .none kV__law_parts dc__law_parts pm__law_parts an__law_parts cd__law_parts ct__law_parts), sl__law_parts⟩)
    (c__law_parts : PySem.W.codeIn K cd__law_parts "_law_parts" = true)
    (k__law_parts : PySem.W.keepIn K (.ref f__law_parts) = true)
    (a__law_crosses : PySem.W.nsIn K mainGlobals "_law_crosses" = some (some (.ref f__law_crosses)))
    (l__law_crosses : K.lookup f__law_crosses = some ⟨oc__law_crosses, od__law_crosses, .func (PySem.W.fnOf "_law_crosses" "_law_crosses" (defArgs s__law_crosses) (defBody s__law_crosses) (defScope s__law_crosses) .none kV__law_crosses dc__law_crosses pm__law_crosses an__law_crosses cd__law_crosses ct__law_crosses), sl__law_crosses⟩)
    (c__law_crosses : PySem.W.codeIn K cd__law_crosses "_law_crosses" = true)
    (k__law_crosses : PySem.W.keepIn K (.ref f__law_crosses) = true)
    (a__law_aims : PySem.W.nsIn K mainGlobals "_law_aims" = some (some (.ref f__law_aims)))
    (l__law_aims : K.lookup f__law_aims = some ⟨oc__law_aims, od__law_aims, .func (PySem.W.fnOf "_law_aims" "_law_aims" (defArgs s__law_aims) (defBody s__law_aims) (defScope s__law_aims) .none kV__law_aims dc__law_aims pm__law_aims an__law_aims cd__law_aims ct__law_aims), sl__law_aims⟩)
    (c__law_aims : PySem.W.codeIn K cd__law_aims "_law_aims" = true)
    (k__law_aims : PySem.W.keepIn K (.ref f__law_aims) = true)
    (a__law_spoilt : PySem.W.nsIn K mainGlobals "_law_spoilt" = some (some (.ref f__law_spoilt)))
    (l__law_spoilt : K.lookup f__law_spoilt = some ⟨oc__law_spoilt, od__law_spoilt, .func (PySem.W.fnOf "_law_spoilt" "_law_spoilt" (defArgs s__law_spoilt) (defBody s__law_spoilt) (defScope s__law_spoilt) .none kV__law_spoilt dc__law_spoilt pm__law_spoilt an__law_spoilt cd__law_spoilt ct__law_spoilt), sl__law_spoilt⟩)
    (c__law_spoilt : PySem.W.codeIn K cd__law_spoilt "_law_spoilt" = true)
    (k__law_spoilt : PySem.W.keepIn K (.ref f__law_spoilt) = true)
    (a_law : PySem.W.nsIn K mainGlobals "law" = some (some (.ref f_law)))
    (l_law : K.lookup f_law = some ⟨oc_law, od_law, .func (PySem.W.fnOf "law" "law" (defArgs s_law) (defBody s_law) (defScope s_law) .none kV_law dc_law pm_law an_law cd_law ct_law), sl_law⟩)
    (c_law : PySem.W.codeIn K cd_law "law" = true)
    (k_law : PySem.W.keepIn K (.ref f_law) = true)
    : ∃ fd : FuncData, (∀ (s : Shared) (v : Value), BindsTo s fd ⟨[v], []⟩ [("script", v)]) ∧
      ∀ base : Heap, K.In base → base.Ns mainGlobals mg → TabB base mg c8__numbers_of T0 → FnOk l.prog w (K) mg base CX0 11 fa fd ["script"] (spLawT (K) [T0]) := by
  have e := hfa.symm.trans (PySem.W.mg_of X G a_law)
  cases e
  have g_MOST_PICKS : ∃ t : Tok, mg "MOST_PICKS" = some (.int 60 t) := ⟨tk_MOST_PICKS, PySem.W.mg_of X G c_MOST_PICKS⟩
  have z_len := PySem.W.mg_none_of X G z_len
  have z_set := PySem.W.mg_none_of X G z_set
  have z_sorted := PySem.W.mg_none_of X G z_sorted
  have z_list := PySem.W.mg_none_of X G z_list
  have z_str := PySem.W.mg_none_of X G z_str
  have z_all := PySem.W.mg_none_of X G z_all
  have z_int := PySem.W.mg_none_of X G z_int
  have z_range := PySem.W.mg_none_of X G z_range
  have z_max := PySem.W.mg_none_of X G z_max
  have z_isinstance := PySem.W.mg_none_of X G z_isinstance
  have z_bool := PySem.W.mg_none_of X G z_bool
  have z_abs := PySem.W.mg_none_of X G z_abs
  have z_sum := PySem.W.mg_none_of X G z_sum
  have g_MOST_DIGITS : ∃ t : Tok, mg "MOST_DIGITS" = some (.int 4 t) := ⟨tk_MOST_DIGITS, PySem.W.mg_of X G c_MOST_DIGITS⟩
  have g_GREATEST_OF_TASK : ∃ t : Tok, mg "GREATEST_OF_TASK" = some (.int 1000 t) := ⟨tk_GREATEST_OF_TASK, PySem.W.mg_of X G c_GREATEST_OF_TASK⟩
  have F_law := fun_mk (st := s_law) l_law c_law k_law
  refine ⟨PySem.W.fnOf "law" "law" (defArgs s_law) (defBody s_law) (defScope s_law) .none kV_law dc_law pm_law an_law cd_law ct_law, fun s v => .of_eq rfl, fun base _ _ TBT0 => ?_⟩
  have F_Task___init__ := fun_mk (st := s_Task___init__) l_Task___init__ c_Task___init__ k_Task___init__
  have b_Task___init__ := F_Task___init__.binds (ps := ["self", "start", "end", "picks"]) fun _ _ _ _ _ _ us hl => match us, hl with | [_, _, _, _], _ => rfl
  have M_Task___init__ : Meth K CT "__init__" f_Task___init__ := ⟨a_Task___init__, i_Task___init__, k_Task___init__⟩
  have TT : TaskTxt K mg CT CIT := { cl := ⟨pg_CT, hd_CT, po_CT, sa_CT⟩, nS := tstart, nE := tend, nP := tppicks, mgC := PySem.W.mg_of X G a_CT, len := z_len, set := z_set, sorted := z_sorted, list := z_list, most := g_MOST_PICKS, gI := PySem.W.mg_of X G a_CIT, kI := kpCIT, xI := exCIT, bI := sbCIT, tI := tyCIT }
  have MT : Mk K CT f_Task___init__ := ⟨mk_CT, a_Task___init__, i_Task___init__, kc_CT⟩
  have gTk := ok_task (P := l.prog) (w := w) (mg := mg) (base := base) F_Task___init__ TT
  have F_Task_picks := fun_mk (st := s_Task_picks) l_Task_picks c_Task_picks k_Task_picks
  have b_Task_picks := F_Task_picks.binds (ps := ["self"]) fun _ _ _ _ _ _ us hl => match us, hl with | [_], _ => rfl
  have hp_Task_picks : PropOf K CT "picks" p_Task_picks f_Task_picks := ⟨pa_Task_picks, pg_Task_picks, pt_Task_picks, r_Task_picks, pr_Task_picks⟩
  have F_iCTK := fun_mk (st := s_PickTaken___init__) l_iCTK c_iCTK k_iCTK
  have b_iCTK := F_iCTK.binds (ps := ["self", "place"]) fun _ _ _ _ _ _ us hl => match us, hl with | [_, _], _ => rfl
  have o_CTK : OexC K CTK := ⟨⟨nm0, qn0, N0, bs0, _, sn0, sb0, ab0, co0, dd0, ma0, mb0, mc0, md0, me0, xlCTK, rfl⟩, saCTK, sbCTK, tyCTK, kpCTK⟩
  have F_iCN := fun_mk (st := s_InvalidNotation___init__) l_iCN c_iCN k_iCN
  have b_iCN := F_iCN.binds (ps := ["self", "line"]) fun _ _ _ _ _ _ us hl => match us, hl with | [_, _], _ => rfl
  have o_CN : OexC K CN := ⟨⟨nm1, qn1, N1, bs1, _, sn1, sb1, ab1, co1, dd1, ma1, mb1, mc1, md1, me1, xlCN, rfl⟩, saCN, sbCN, tyCN, kpCN⟩
  have F__law_row := fun_mk (st := s__law_row) l__law_row c__law_row k__law_row
  have b__law_row := F__law_row.binds (ps := ["cell", "many"]) fun _ _ _ _ _ _ us hl => match us, hl with | [_, _], _ => rfl
  have F__law_numbers := fun_mk (st := s__law_numbers) l__law_numbers c__law_numbers k__law_numbers
  have b__law_numbers := F__law_numbers.binds (ps := ["script", "many"]) fun _ _ _ _ _ _ us hl => match us, hl with | [_, _], _ => rfl
  have D : DrawTxt mg f__law_row := ⟨z_abs, z_int, z_range, z_len, z_max, PySem.W.mg_of X G a__law_row⟩
  have t__law_numbers : TopD l.prog w K mg base 2 "_law_numbers" ["script", "many"] (spNumbers K) := ⟨f__law_numbers, _, ok_numbers F__law_numbers D F__law_row b__law_row, b__law_numbers, PySem.W.mg_of X G a__law_numbers, k__law_numbers⟩
  have F_Task_has_pick := fun_mk (st := s_Task_has_pick) l_Task_has_pick c_Task_has_pick k_Task_has_pick
  have b_Task_has_pick := F_Task_has_pick.binds (ps := ["self", "place"]) fun _ _ _ _ _ _ us hl => match us, hl with | [_, _], _ => rfl
  have M_Task_has_pick : Meth K CT "has_pick" f_Task_has_pick := ⟨a_Task_has_pick, i_Task_has_pick, k_Task_has_pick⟩
  have F_Task_with_pick := fun_mk (st := s_Task_with_pick) l_Task_with_pick c_Task_with_pick k_Task_with_pick
  have b_Task_with_pick := F_Task_with_pick.binds (ps := ["self", "place"]) fun _ _ _ _ _ _ us hl => match us, hl with | [_, _], _ => rfl
  have M_Task_with_pick : Meth K CT "with_pick" f_Task_with_pick := ⟨a_Task_with_pick, i_Task_with_pick, k_Task_with_pick⟩
  have F__row := fun_mk (st := s__row) l__row c__row k__row
  have b__row := F__row.binds (ps := ["head", "numbers"]) fun _ _ _ _ _ _ us hl => match us, hl with | [_, _], _ => rfl
  have F_is_number := fun_mk (st := s_is_number) l_is_number c_is_number k_is_number
  have b_is_number := F_is_number.binds (ps := ["word"]) fun _ _ _ _ _ _ us hl => match us, hl with | [_], _ => rfl
  have F__numbers_of : FunC K "_numbers_of" "_numbers_of" s__numbers_of f__numbers_of c8__numbers_of _ := ⟨⟨_, _, _, _, _, _, _, _, rfl, l__numbers_of, c__numbers_of⟩, k__numbers_of⟩
  have b__numbers_of : Binds K _ ["words", "number"] [] := (fun_mk (st := s__numbers_of) l__numbers_of c__numbers_of k__numbers_of).binds (ps := ["words", "number"]) fun _ _ _ _ _ _ us hl => match us, hl with | [_, _], _ => rfl
  have F__numbers_in := fun_mk (st := s__numbers_in) l__numbers_in c__numbers_in k__numbers_in
  have b__numbers_in := F__numbers_in.binds (ps := ["lines", "number", "head"]) fun _ _ _ _ _ _ us hl => match us, hl with | [_, _, _], _ => rfl
  have F__place_in := fun_mk (st := s__place_in) l__place_in c__place_in k__place_in
  have b__place_in := F__place_in.binds (ps := ["lines", "number", "word"]) fun _ _ _ _ _ _ us hl => match us, hl with | [_, _, _], _ => rfl
  have F__task_with_line := fun_mk (st := s__task_with_line) l__task_with_line c__task_with_line k__task_with_line
  have b__task_with_line := F__task_with_line.binds (ps := ["task", "lines", "number"]) fun _ _ _ _ _ _ us hl => match us, hl with | [_, _, _], _ => rfl
  have F_parse_task := fun_mk (st := s_parse_task) l_parse_task c_parse_task k_parse_task
  have b_parse_task := F_parse_task.binds (ps := ["text"]) fun _ _ _ _ _ _ us hl => match us, hl with | [_], _ => rfl
  have F_parse_walk := fun_mk (st := s_parse_walk) l_parse_walk c_parse_walk k_parse_walk
  have b_parse_walk := F_parse_walk.binds (ps := ["text"]) fun _ _ _ _ _ _ us hl => match us, hl with | [_], _ => rfl
  have F_format_task := fun_mk (st := s_format_task) l_format_task c_format_task k_format_task
  have b_format_task := F_format_task.binds (ps := ["task"]) fun _ _ _ _ _ _ us hl => match us, hl with | [_], _ => rfl
  have F_format_walk := fun_mk (st := s_format_walk) l_format_walk c_format_walk k_format_walk
  have b_format_walk := F_format_walk.binds (ps := ["walk"]) fun _ _ _ _ _ _ us hl => match us, hl with | [_], _ => rfl
  have F__law_told := fun_mk (st := s__law_told) l__law_told c__law_told k__law_told
  have b__law_told := F__law_told.binds (ps := ["kind", "text"]) fun _ _ _ _ _ _ us hl => match us, hl with | [_, _], _ => rfl
  have N : NoteTop mg := { str := z_str, len := z_len, all := z_all, int := z_int, range := z_range, digits := g_MOST_DIGITS }
  have U : NotTxt K mg CN f_iCN := { g := PySem.W.mg_of X G a_CN, o := o_CN, n := noCN, i := a_iCN, y := tiCN }
  have UT : ChgTxt K mg CTK CL f_iCTK := { gT := PySem.W.mg_of X G a_CTK, oT := o_CTK, nT := noCTK, iT := a_iCTK, yT := tiCTK, gL := PySem.W.mg_of X G a_CL, kL := kpCL, xL := exCL, bL := sbCL, tL := tyCL }
  have gIN := ok_notinit (C := CN) (P := l.prog) (w := w) (mg := mg) (base := base) F_iCN
  have gIH := ok_notinitH (C := CN) (P := l.prog) (w := w) (mg := mg) (base := base) F_iCN
  have gRo := ok_rowT (P := l.prog) (w := w) (mg := mg) (base := base) F__row N
  have gNu := ok_isnum (P := l.prog) (w := w) (mg := mg) (base := base) F_is_number N
  have gNo := ok_nums (P := l.prog) (w := w) (mg := mg) (base := base) F__numbers_of N TBT0 U gIN b_iCN F_is_number gNu b_is_number (PySem.W.mg_of X G a_is_number)
  have gIn := ok_in (P := l.prog) (w := w) (mg := mg) (base := base) F__numbers_in N U gIN b_iCN k__numbers_of gNo b__numbers_of (PySem.W.mg_of X G a__numbers_of)
  have gPi := ok_plin (P := l.prog) (w := w) (mg := mg) (base := base) F__place_in N z_max g_GREATEST_OF_TASK U gIN b_iCN k__numbers_in gIn b__numbers_in (PySem.W.mg_of X G a__numbers_in)
  have gWi := ok_withN (P := l.prog) (w := w) (mg := mg) (base := base) F_Task_with_pick TT UT MT F_Task___init__ b_Task___init__ F_Task_has_pick b_Task_has_pick M_Task_has_pick F_iCTK b_iCTK
  have gLi := ok_lineX (P := l.prog) (w := w) (mg := mg) (base := base) F__task_with_line TT UT U eTT eTL gIH b_iCN k__place_in gPi b__place_in (PySem.W.mg_of X G a__place_in) M_Task_with_pick gWi b_Task_with_pick
  have gPa := ok_parseX (P := l.prog) (w := w) (mg := mg) (base := base) F_parse_task N TT k__place_in gPi b__place_in (PySem.W.mg_of X G a__place_in) MT gTk b_Task___init__ k__task_with_line gLi b__task_with_line (PySem.W.mg_of X G a__task_with_line)
  have gPw := ok_pwalk (P := l.prog) (w := w) (mg := mg) (base := base) F_parse_walk N U gIN b_iCN k__numbers_of gNo b__numbers_of (PySem.W.mg_of X G a__numbers_of)
  have gPk := ok_picks (P := l.prog) (w := w) (mg := mg) (base := base) F_Task_picks TT
  have t_format_task : TopD l.prog w K mg base 3 "format_task" ["task"] (spFTask CT) := ⟨f_format_task, _, ok_ftask (P := l.prog) (w := w) (mg := mg) (base := base) F_format_task N TT k__row gRo b__row (PySem.W.mg_of X G a__row) gPk b_Task_picks hp_Task_picks, b_format_task, PySem.W.mg_of X G a_format_task, k_format_task⟩
  have t_format_walk : TopD l.prog w K mg base 1 "format_walk" ["walk"] (spFWalk K) := ⟨f_format_walk, _, ok_fwalk (P := l.prog) (w := w) (mg := mg) (base := base) F_format_walk, b_format_walk, PySem.W.mg_of X G a_format_walk, k_format_walk⟩
  have xC : ExcC K CN := { hg := gaCN, hk := ggCN, hs := sbCN, hd := dcCN, ha := acCN, hn := asCN, ht := atCN, hm := amCN }
  have t__law_told : TopD l.prog w K mg base 9 "_law_told" ["kind", "text"] (spTd0 T0) := ⟨f__law_told, _, ok_told (P := l.prog) (w := w) (mg := mg) (base := base) F__law_told (PySem.W.mg_of X G a_CN) (PySem.W.mg_of X G a_CIT) z_isinstance z_bool (PySem.W.exm_ref sbCN dcCN tyCN ssCN) ⟨gaCN, ggCN, sbCN, dcCN⟩ noCN xC kNI gPa b_parse_task (PySem.W.mg_of X G a_parse_task) k_parse_task gPw b_parse_walk (PySem.W.mg_of X G a_parse_walk) k_parse_walk, b__law_told, PySem.W.mg_of X G a__law_told, k__law_told⟩
  have F__law_parts := fun_mk (st := s__law_parts) l__law_parts c__law_parts k__law_parts
  have b__law_parts := F__law_parts.binds (ps := ["numbers", "at"]) fun _ _ _ _ _ _ us hl => match us, hl with | [_, _], _ => rfl
  have t__law_parts : TopD l.prog w K mg base 1 "_law_parts" ["numbers", "at"] (SpX0 (Rs__law_parts ) (P__law_parts ) (R__law_parts ) (G__law_parts )) := ⟨f__law_parts, _, ok__law_parts (P := l.prog) (w := w) (mg := mg) (base := base) F__law_parts z_int z_range z_max z_len z_sum, b__law_parts, PySem.W.mg_of X G a__law_parts, k__law_parts⟩
  have F__law_crosses := fun_mk (st := s__law_crosses) l__law_crosses c__law_crosses k__law_crosses
  have b__law_crosses := F__law_crosses.binds (ps := ["lengths"]) fun _ _ _ _ _ _ us hl => match us, hl with | [_], _ => rfl
  have t__law_crosses : TopD l.prog w K mg base 1 "_law_crosses" ["lengths"] (SpX (Rs__law_crosses ) (P__law_crosses ) (R__law_crosses ) (G__law_crosses )) := ⟨f__law_crosses, _, ok__law_crosses (P := l.prog) (w := w) (mg := mg) (base := base) F__law_crosses z_range z_len z_sum, b__law_crosses, PySem.W.mg_of X G a__law_crosses, k__law_crosses⟩
  have F__law_aims := fun_mk (st := s__law_aims) l__law_aims c__law_aims k__law_aims
  have b__law_aims := F__law_aims.binds (ps := ["numbers", "at", "lengths", "gaps", "many"]) fun _ _ _ _ _ _ us hl => match us, hl with | [_, _, _, _, _], _ => rfl
  have t__law_aims : TopD l.prog w K mg base 2 "_law_aims" ["numbers", "at", "lengths", "gaps", "many"] (SpX0 (Rs__law_aims ) (P__law_aims ) (R__law_aims ) (G__law_aims )) := ⟨f__law_aims, _, ok__law_aims (P := l.prog) (w := w) (mg := mg) (base := base) F__law_aims t__law_crosses z_int z_len z_range z_sum, b__law_aims, PySem.W.mg_of X G a__law_aims, k__law_aims⟩
  have F__law_spoilt := fun_mk (st := s__law_spoilt) l__law_spoilt c__law_spoilt k__law_spoilt
  have b__law_spoilt := F__law_spoilt.binds (ps := ["line"]) fun _ _ _ _ _ _ us hl => match us, hl with | [_], _ => rfl
  have t__law_spoilt : TopD l.prog w K mg base 1 "_law_spoilt" ["line"] (SpN (Rs__law_spoilt ) (P__law_spoilt ) (R__law_spoilt )) := ⟨f__law_spoilt, _, ok__law_spoilt (P := l.prog) (w := w) (mg := mg) (base := base) F__law_spoilt, b__law_spoilt, PySem.W.mg_of X G a__law_spoilt, k__law_spoilt⟩
  exact ok_law CT CIT T0 f_Task___init__ _ (P := l.prog) (w := w) (mg := mg) (base := base) F_law t__law_numbers t__law_parts t__law_aims MT gTk b_Task___init__ (PySem.W.mg_of X G a_CT) t_format_task t__law_told z_len z_int t__law_spoilt z_range z_str t_format_walk
theorem tabB0 {base : Heap} {mg : Str → Option Value} {c P : Addr} (h : LamX.TabB base mg c P) : TabB base mg c P := ⟨h.code, h.bm, h.gP⟩
theorem tabG0 {H : Hp} {P : Addr} (h : H P = some (.tbl #[])) : TabG H P := ⟨#[], h, trivial⟩
theorem walk {l : PySem.W.OpenLaw} {q : Program} {loose : List Str} {XP : (Str → Option Value) → Heap → Prop} {YP : World → Heap → Prop} {d : DefRec} {K : Params → PySem.W.Frag} {c0 T0 : Addr}
    (hn : l.most = some 63) (hdf : d.params.defaults = []) (hY : ∀ (w : World) (h : Heap), YP w h → (K w.params).In h) (hT : ∀ (w : World) (h : Heap), YP w h → ∀ P ∈ [T0], h.get? P = some (PySem.W.tabObj #[]))
    (n0 : ∀ w : World, (K w.params).lookup T0 = none) (e0 : ∀ w : World, PySem.W.codeHdIn (K w.params) c0 T0 = true)
    (F : ∀ (w : World) (mg : Str → Option Value) (fa : Addr) (h : Heap), (K w.params).In h → h.Ns mainGlobals mg → mg d.name = some (.ref fa) →
      ∃ fd : FuncData, (∀ (s : Shared) (u : Value), BindsTo s fd ⟨[u], []⟩ [("script", u)]) ∧
        ∀ base : Heap, (K w.params).In base → base.Ns mainGlobals mg → TabB base mg c0 T0 → FnOk l.prog w (K w.params) mg base CX0 11 fa fd ["script"] (spLawT (K w.params) [T0])) :
    PySem.W.WalkO q loose XP YP l.row.toRowW d [] (fun f vs => PySem.call f vs) := by
  refine LamX.walk_ofTs (n := 63) (k := 11) (x := "script") (CX := fun _ => CX0) hn (by decide) hdf ⟨rfl, by decide, by decide⟩ hY (fun w mg fa h Y KX G hmg => ?_) (fun _ _ _ _ _ z => z)
  obtain ⟨fd, hb, hF⟩ := F w mg fa h KX G hmg
  refine ⟨fd, [(c0, T0)], spLawT (K w.params) [T0], fun p hp => ?_, fun p hp => ?_, fun p hp => ?_, hb, fun H a ns hl _ hS hq => ⟨a, ns, rfl, hq, hl, fun T hT => ?_, fun _ => rfl⟩, fun base b1 b2 T => hF base b1 b2 (tabB0 (T (c0, T0) (by simp)))⟩
  all_goals simp only [List.mem_cons, List.mem_nil_iff, or_false] at *
  · subst hp
    exact hT w h Y _ (by simp)
  · subst hp
    exact n0 w
  · subst hp
    exact PySem.W.codeHd_of_K KX (e0 w)
  · rcases hT with hT
    · rw [hT]; exact tabG0 (hS (c0, T0) (by simp))
end
end Pk
open PySem PySem.W PyProof.Rows
local macro_rules | `(tactic| o_head ($_ $k $a $e)) => `(tactic| o_head (kmHook $k $a $e [212]))
set_option maxRecDepth 100000 in
set_option maxHeartbeats 0 in
theorem PySem.Challenge.cw_pickaisle_k10_texts_of_tasks_and_walks_r_holds : PySem.Challenge.rw_pickaisle_k10_texts_of_tasks_and_walks_r.Holds := by
  w_on; o_law; k_head; (case hw => w_witness2)
  k_fill
  refine Pk.walk (l := PySem.Challenge.rw_pickaisle_k10_texts_of_tasks_and_walks_r) (c0 := 214) (T0 := 212) rfl rfl (fun w h Y => km_in_of Y) (fun w h Y P hP => km_tabs_of Y P (by simp only [List.mem_cons, List.not_mem_nil, or_false] at hP ⊢; omega)) (fun w => by kernel_rfl) (fun w => by kernel_rfl) ?F
  case F =>
    intro w mg fa h KX G hmg
    refine' Pk.all_mk KX G hmg ?a_CL ?kpCL ?sbCL ?tyCL ?exCL ?a_CT ?pg_CT ?hd_CT ?po_CT ?sa_CT ?mk_CT ?kc_CT ?a_CIT ?kpCIT ?sbCIT ?tyCIT ?exCIT ?tstart ?tend ?tppicks ?c_MOST_PICKS ?z_len ?z_set ?z_sorted ?z_list ?a_Task___init__ ?i_Task___init__ ?l_Task___init__ ?c_Task___init__ ?k_Task___init__ ?pa_Task_picks ?pg_Task_picks ?pt_Task_picks ?pr_Task_picks ?l_Task_picks ?c_Task_picks ?k_Task_picks ?a_CTK ?kpCTK ?sbCTK ?tyCTK ?a_Pe ?dcCTK ?ssCTK ?xlCTK ?saCTK ?noCTK ?gaCTK ?ggCTK ?a_iCTK ?tiCTK ?l_iCTK ?c_iCTK ?k_iCTK ?a_CN ?kpCN ?sbCN ?tyCN ?dcCN ?ssCN ?xlCN ?saCN ?noCN ?gaCN ?ggCN ?a_iCN ?tiCN ?l_iCN ?c_iCN ?k_iCN ?z_str ?z_all ?z_int ?z_range ?z_max ?z_isinstance ?z_bool ?z_abs ?z_sum ?c_MOST_DIGITS ?c_GREATEST_OF_TASK ?a__law_row ?l__law_row ?c__law_row ?k__law_row ?a__law_numbers ?l__law_numbers ?c__law_numbers ?k__law_numbers ?acCN ?asCN ?atCN ?amCN ?kNI ?eTT ?eTL ?a_Task_has_pick ?i_Task_has_pick ?l_Task_has_pick ?c_Task_has_pick ?k_Task_has_pick ?a_Task_with_pick ?i_Task_with_pick ?l_Task_with_pick ?c_Task_with_pick ?k_Task_with_pick ?a__row ?l__row ?c__row ?k__row ?a_is_number ?l_is_number ?c_is_number ?k_is_number ?a__numbers_of ?l__numbers_of ?c__numbers_of ?k__numbers_of ?a__numbers_in ?l__numbers_in ?c__numbers_in ?k__numbers_in ?a__place_in ?l__place_in ?c__place_in ?k__place_in ?a__task_with_line ?l__task_with_line ?c__task_with_line ?k__task_with_line ?a_parse_task ?l_parse_task ?c_parse_task ?k_parse_task ?a_parse_walk ?l_parse_walk ?c_parse_walk ?k_parse_walk ?a_format_task ?l_format_task ?c_format_task ?k_format_task ?a_format_walk ?l_format_walk ?c_format_walk ?k_format_walk ?a__law_told ?l__law_told ?c__law_told ?k__law_told ?a__law_parts ?l__law_parts ?c__law_parts ?k__law_parts ?a__law_crosses ?l__law_crosses ?c__law_crosses ?k__law_crosses ?a__law_aims ?l__law_aims ?c__law_aims ?k__law_aims ?a__law_spoilt ?l__law_spoilt ?c__law_spoilt ?k__law_spoilt ?a_law ?l_law ?c_law ?k_law
    (case a_CL => k_is)
    (case kpCL => k_is)
    (case sbCL => k_is)
    (case tyCL => k_is)
    (case exCL => k_exc)
    (case a_CT => k_is)
    (case pg_CT => k_is)
    (case hd_CT => k_is)
    (case po_CT => k_is)
    (case sa_CT => k_is)
    (case mk_CT => k_is)
    (case kc_CT => k_is)
    (case a_CIT => k_is)
    (case kpCIT => k_is)
    (case sbCIT => k_is)
    (case tyCIT => k_is)
    (case exCIT => k_exc)
    (case tstart => k_is)
    (case tend => k_is)
    (case tppicks => k_is)
    (case c_MOST_PICKS => k_is)
    (case z_len => k_is)
    (case z_set => k_is)
    (case z_sorted => k_is)
    (case z_list => k_is)
    (case a_Task___init__ => k_is)
    (case i_Task___init__ => k_is)
    (case l_Task___init__ => k_is)
    (case c_Task___init__ => k_is)
    (case k_Task___init__ => k_is)
    (case pa_Task_picks => k_is)
    (case pg_Task_picks => k_is)
    (case pt_Task_picks => k_is)
    (case pr_Task_picks => k_is)
    (case l_Task_picks => k_is)
    (case c_Task_picks => k_is)
    (case k_Task_picks => k_is)
    (case a_CTK => k_is)
    (case kpCTK => k_is)
    (case sbCTK => k_is)
    (case tyCTK => k_is)
    (case a_Pe => k_is)
    (case dcCTK => k_is)
    (case ssCTK => first | k_is | rfl)
    (case xlCTK => k_is)
    (case saCTK => k_is)
    (case noCTK => k_is)
    (case gaCTK => k_is)
    (case ggCTK => k_is)
    (case a_iCTK => k_is)
    (case tiCTK => k_is)
    (case l_iCTK => k_is)
    (case c_iCTK => k_is)
    (case k_iCTK => k_is)
    (case a_CN => k_is)
    (case kpCN => k_is)
    (case sbCN => k_is)
    (case tyCN => k_is)
    (case dcCN => k_is)
    (case ssCN => first | k_is | rfl)
    (case xlCN => k_is)
    (case saCN => k_is)
    (case noCN => k_is)
    (case gaCN => k_is)
    (case ggCN => k_is)
    (case a_iCN => k_is)
    (case tiCN => k_is)
    (case l_iCN => k_is)
    (case c_iCN => k_is)
    (case k_iCN => k_is)
    (case z_str => k_is)
    (case z_all => k_is)
    (case z_int => k_is)
    (case z_range => k_is)
    (case z_max => k_is)
    (case z_isinstance => k_is)
    (case z_bool => k_is)
    (case z_abs => k_is)
    (case z_sum => k_is)
    (case c_MOST_DIGITS => k_is)
    (case c_GREATEST_OF_TASK => k_is)
    (case a__law_row => k_is)
    (case l__law_row => k_is)
    (case c__law_row => k_is)
    (case k__law_row => k_is)
    (case a__law_numbers => k_is)
    (case l__law_numbers => k_is)
    (case c__law_numbers => k_is)
    (case k__law_numbers => k_is)
    (case acCN => k_is)
    (case asCN => k_is)
    (case atCN => k_is)
    (case amCN => k_is)
    (case kNI => first | k_is | kernel_rfl)
    (case eTT => first | k_is | kernel_rfl)
    (case eTL => first | k_is | kernel_rfl)
    (case a_Task_has_pick => k_is)
    (case i_Task_has_pick => k_is)
    (case l_Task_has_pick => k_is)
    (case c_Task_has_pick => k_is)
    (case k_Task_has_pick => k_is)
    (case a_Task_with_pick => k_is)
    (case i_Task_with_pick => k_is)
    (case l_Task_with_pick => k_is)
    (case c_Task_with_pick => k_is)
    (case k_Task_with_pick => k_is)
    (case a__row => k_is)
    (case l__row => k_is)
    (case c__row => k_is)
    (case k__row => k_is)
    (case a_is_number => k_is)
    (case l_is_number => k_is)
    (case c_is_number => k_is)
    (case k_is_number => k_is)
    (case a__numbers_of => k_is)
    (case l__numbers_of => k_is)
    (case c__numbers_of => k_is)
    (case k__numbers_of => k_is)
    (case a__numbers_in => k_is)
    (case l__numbers_in => k_is)
    (case c__numbers_in => k_is)
    (case k__numbers_in => k_is)
    (case a__place_in => k_is)
    (case l__place_in => k_is)
    (case c__place_in => k_is)
    (case k__place_in => k_is)
    (case a__task_with_line => k_is)
    (case l__task_with_line => k_is)
    (case c__task_with_line => k_is)
    (case k__task_with_line => k_is)
    (case a_parse_task => k_is)
    (case l_parse_task => k_is)
    (case c_parse_task => k_is)
    (case k_parse_task => k_is)
    (case a_parse_walk => k_is)
    (case l_parse_walk => k_is)
    (case c_parse_walk => k_is)
    (case k_parse_walk => k_is)
    (case a_format_task => k_is)
    (case l_format_task => k_is)
    (case c_format_task => k_is)
    (case k_format_task => k_is)
    (case a_format_walk => k_is)
    (case l_format_walk => k_is)
    (case c_format_walk => k_is)
    (case k_format_walk => k_is)
    (case a__law_told => k_is)
    (case l__law_told => k_is)
    (case c__law_told => k_is)
    (case k__law_told => k_is)
    (case a__law_parts => k_is)
    (case l__law_parts => k_is)
    (case c__law_parts => k_is)
    (case k__law_parts => k_is)
    (case a__law_crosses => k_is)
    (case l__law_crosses => k_is)
    (case c__law_crosses => k_is)
    (case k__law_crosses => k_is)
    (case a__law_aims => k_is)
    (case l__law_aims => k_is)
    (case c__law_aims => k_is)
    (case k__law_aims => k_is)
    (case a__law_spoilt => k_is)
    (case l__law_spoilt => k_is)
    (case c__law_spoilt => k_is)
    (case k__law_spoilt => k_is)
    (case a_law => k_is)
    (case l_law => k_is)
    (case c_law => k_is)
    (case k_law => k_is)

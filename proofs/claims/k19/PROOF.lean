import PyProof.Rows.All
import Wide.All
import OpenK.AllK
import Wide.FinOn
import KE.KExcIs
import KE.SortData
import KE.KNestM
import PyProof.StrBlock2
import HandS.ForMost
import HandS.Deep
import HandS.TupSets
import HandS.SortRule
import HandS.ForExc
import HandS.ExcInit
import HandS.ExcIs
import HandS.ExcField
import HandS.ExcValue
import HandS.ExcOwn
import HandS.Property
import HandS.CallSlots
import HandS.Style
import HandS.IsInst
import HandS.Codes
import HandS.TupLen
import HandS.Small
import HandS.EndTab
import KE.DataMinMax
import HandS.Dict
import HandS.DictComp
import HandS.Comp
import HandS.Conv
import HandS.Exc
import HandS.GenList
import HandS.Nested
import HandS.AnyAll
import HandS.TryOnly
import HandS.Words
import HandS.WordsExc
import HandS.SetFor
import HandS.Strs
import KE.KDictDisplayH
import HandS.Evl
import HandS.Iter
import KE.KItemsList
import HandS.ListItems
import PyProof.ReprBulk
import PyProof.ReprText
import PyProof.SetRoads
import HandS.Flow
import HandS.WrittenGet
import KE.DataCmp
import HandS.Gcd
import KE.LtData
import KE.KEqDict
import HandS.DictEq
import HandS.DictTup
import KE.KDictWalk
import PyProof.Rows.TupTab
import KE.KeyNested
import PySem.Challenge.RW_pickaisle_k19_least_trees
set_option Elab.async false
set_option linter.all false
set_option maxRecDepth 100000
set_option maxHeartbeats 8000000
namespace Pk
open PySem L2
/-- at a: an error of the class at D that is held; fs: its own attributes -/
def XvAt (H : Hp) (a D : Addr) (fs : List (Str × V)) : Prop :=
  (H a = some (ExO (.ref D) a) ∧ fs = []) ∨ ∃ d, H a = some (exo a D (some d)) ∧ H d = some (exd d fs)
theorem XvAt.same {H H' : Hp} {a D : Addr} {fs : List (Str × V)} (h : XvAt H a D fs) (k : Same H H') : XvAt H' a D fs := by
  rcases h with ⟨h, e⟩ | ⟨d, h, e⟩
  · exact .inl ⟨k _ _ h, e⟩
  · exact .inr ⟨d, k _ _ h, k _ _ e⟩
/-- __init__(self, v): self.f = v, of an own class of errors -/
def spXI (K : PySem.W.Frag) (C : Addr) (f : Str) : Sp := fun vs H Q _ => ∃ (a : Addr) (v : V), vs = [.ref a, v] ∧ OexC K C ∧ PySem.W.findIn K (.ref C) f = some none ∧ H a = some (exo a C none) ∧
  ∀ dx, H dx = none → dx ≠ a → Q .non (upd (upd H dx (exd dx [(f, v)])) a (exo a C (some dx)))
end Pk
namespace Pk
open PySem L2 PySem.Spec PyProof.Rows GenW GxR NdefX
/-- the generator's own frame -/
abbrev envG (X : Cx) (sc : Scope) (C : Addr) (cd : Value) : Env := genEnv sc (cloFrom X.env.cells sc.names []) C cd builtinsNs X.env
/-- and its surroundings; s0, H0: ahead of its frame; fp: the iterator's objects -/
abbrev cxG (X : Cx) (N : List Str) (sc : Scope) (B : Around) (s0 : Shared) (H0 : Hp) (cd : Value) (fp : List Addr) : Cx :=
  { X with
    A := B
    N := N
    s_0 := s0
    H_0 := H0
    env := envG X sc s0.heap.objs.size cd
    outer := X.stack
    stack := envG X sc s0.heap.objs.size cd :: X.stack
    ex := fp
    fn := fun _ => false
    calm := true
    pn := []
    xe := fun _ _ => False }
/-- what its scope must keep -/
structure GSc (env : Env) (sc : Scope) : Prop where
  kind : sc.kind = .function
  co : sc.isCoroutine = false
  cell : ∀ y ∈ sc.names, y.2 ≠ .cell
  dot : sc.names.lookup (".0" : Str) = some NameKind.local
  free : ∀ y ∈ sc.names, y.2 = .free → ∃ c, env.cells.lookup y.1 = some c
/-- the free names' slots: fr tells for each name its slot outside, none for an own one -/
def slotsG (fr : List (Option Nat)) (σ : L2.St) : L2.St := fr.map fun o => match o with
  | none => none
  | some j => (σ[j]?).join
structure GFr (X : Cx) (sc : Scope) (N : List Str) (fr : List (Option Nat)) : Prop where
  len : fr.length = N.length
  at_ : ∀ (i : Nat) (y : Str) (j : Nat), N[i]? = some y → fr[i]? = some (some j) → sc.names.lookup y = some .free ∧ X.N[j]? = some y ∧ (X.env.scope.names.lookup y = some .cell ∨ X.env.scope.names.lookup y = some .free)
theorem slotsG_some {fr : List (Option Nat)} {σ : L2.St} {i : Nat} {v : V} (h : (slotsG fr σ)[i]? = some (some v)) : ∃ j, fr[i]? = some (some j) ∧ σ[j]? = some (some v) := by
  unfold slotsG at h
  rw [List.getElem?_map] at h
  cases e : fr[i]? with
  | none => rw [e] at h; cases h
  | some o =>
    rw [e] at h
    cases o with
    | none => simp at h
    | some j =>
      refine ⟨j, rfl, ?_⟩
      have h2 : (σ[j]?).join = some v := by simpa using h
      cases q : σ[j]? with
      | none => rw [q] at h2; cases h2
      | some w => rw [q] at h2; cases w with
        | none => cases h2
        | some v' => cases h2; rfl
section
variable {X : Cx} {pins : List (Addr × Obj)} {σ : L2.St} {H : Hp} {s0 s5 : Shared}
/-- all stands that stood -/
theorem Inv.stood (I : Inv X pins σ H s0) (os : s5.os = s0.os) (k : ∀ b o, s0.heap.get? b = some o → s5.heap.get? b = some o) (hb : AllBare s5.gens) : Inv X pins σ H s5 :=
  I.call' (ch := []) os (Un.kept k) (I.hok.kept k) hb fun b z => absurd z (by simp)
theorem start_gen {N : List Str} {sc : Scope} {B : Around} {cd : Value} {fp : List Addr} {a : Addr} {o : Obj} {m : Str → Option Value}
    {fr : List (Option Nat)} (I : Inv X pins σ H s0) (S : GSc X.env sc) (FR : GFr X sc N fr) (hf : ∀ b ∈ fp, FpOk X pins H b ∧ b < s0.heap.objs.size) (hB : B.handled = none)
    (hfr : B.frames = some (envG X sc s0.heap.objs.size cd :: X.stack)) (os : s5.os = s0.os) (hb : AllBare s5.gens)
    (k : ∀ b u, s0.heap.get? b = some u → s5.heap.get? b = some u) (hn : s5.heap.Ns s0.heap.objs.size m)
    (ha : s0.heap.objs.size < a) (hao : s5.heap.get? a = some o) (hod : ∀ v, o.data ≠ .cell v) :
    Inv (cxG X N sc B s0 H cd fp) [(a, o)] (slotsG fr σ) H s5 := by
  have cm : ∀ {y c}, (cloFrom X.env.cells sc.names []).lookup y = some c → X.env.cells.lookup y = some c := fun {y c} e => clo_cm S.free e
  have nofs : ∀ b ∈ frs X.stack, b < s0.heap.objs.size := fun b hb => by
    rcases List.mem_cons.mp (I.stkSub b hb) with z | z
    · rw [z]; exact I.lt
    · obtain ⟨_, u, hu, _⟩ := I.funs.mem z
      exact Heap.lt_size hu
  refine ⟨⟨I.ok.mod, S.kind, I.ok.glob, rfl, Nat.le_refl _, fun y z c e1 e2 => I.ok.inj y z c (cm e1) (cm e2), fun y hy => ?_, fun y c z => ?_, fun _ => hB, hfr, .inr ⟨rfl, rfl⟩,
      fun b hb => ⟨Nat.ne_of_lt (hf b hb).2, fun y c e z => (hf b hb).1.2.2.2.2.1 y c (cm e) z⟩, I.bs, Nat.le_trans I.ok.bsz I.sz, fun b u e hb => ?_, fun b hb z => ?_, I.stack, I.stkFree⟩,
    os, hb, Un.kept k, ⟨m, hn, fun i y v h1 h2 => ?_⟩, fun y c e => ?_, I.hok.fresh (Nat.le_refl _), fun y c e => I.freeC y c (cm e), fun p hp => ?_, I.hok.kept k, ?_⟩
  · have hy : sc.names.lookup y = some .cell ∨ sc.names.lookup y = some .free := hy
    rcases hy with hy | hy
    · exact absurd rfl (S.cell _ (PySem.mem_of_lookup hy))
    · have hm := PySem.mem_of_lookup hy
      obtain ⟨c, hc⟩ := S.free _ hm rfl
      exact ⟨c, clo_has S.free hm hc⟩
  · exact absurd (show (false : Bool) = true from z) (by decide)
  · rcases (hf b hb).1.2.2.2.1 with z | z
    · exact I.ok.noex b u e z
    · exact absurd (Nat.lt_of_lt_of_le (Heap.lt_size e) (Nat.le_trans I.ok.bsz z)) (Nat.lt_irrefl _)
  · rcases List.mem_cons.mp (I.stkSub b z) with z | z
    · exact (hf b hb).1.2.1 z
    · exact (hf b hb).1.2.2.1 z
  · obtain ⟨j, e1, e2⟩ := slotsG_some h2
    obtain ⟨f1, f2, f3⟩ := FR.at_ i y j h1 e1
    obtain ⟨m0, _, hl⟩ := I.loc
    obtain ⟨u, r, lk⟩ := hl j y v f2 e2 (f3.elim (fun z => .inr (.inl z)) fun z => .inr (.inr z))
    refine fun _ => ⟨u, r, .inr ⟨.inr f1, ?_⟩⟩
    rcases lk with ⟨z, _⟩ | ⟨_, c, hc, hv⟩
    · have z : X.env.scope.names.lookup y = some .local := z
      rcases f3 with q | q <;> rw [q] at z <;> cases z
    · exact ⟨c, clo_has S.free (PySem.mem_of_lookup f1) hc, hv.keeps k⟩
  · obtain ⟨v, hv⟩ := I.cell y c (cm e)
    exact ⟨v, hv.keeps k⟩
  · have hp : p ∈ [(a, o)] := hp
    obtain rfl : p = (a, o) := by simpa using hp
    exact ⟨hao, I.hok.fresh (Nat.le_of_lt ha), Nat.ne_of_gt ha, fun z => absurd (Nat.lt_trans ha (nofs _ z)) (Nat.lt_irrefl _), hod⟩
  · show (slotsG fr σ).length = N.length
    unfold slotsG
    rw [List.length_map]
    exact FR.len
end
end Pk
namespace Pk
open PySem L2 PySem.Spec PyProof.Rows GenW GxR
/-- what it hands out; st: the answer at which the asker stops -/
def YG (Y : Cx) (pins : List (Addr × Obj)) (st : Bool) (Q : VK) : Protocol := fun _ _ v s kap =>
  ∃ σ' H' c, v = .bool c ∧ Inv Y pins σ' H' s ∧ (c = st → Q (.bl st) H') ∧
    (c ≠ st → ∀ s2 : Shared, s2.heap = s.heap → s2.os = s.os → AllBare s2.gens → kap (.send .none) s2)
def RG (Y : Cx) (pins : List (Addr × Obj)) (st : Bool) (Q : VK) : GenEnd := fun n s₀ r s₁ =>
  ((r = .ok (.ret .none) ∨ r = .ok .next) ∧ (fun (_ : Nat) (_ t : Shared) => ∃ σ' H', Inv Y pins σ' H' t ∧ Q (.bl (!st)) H') n s₀ s₁) ∨ ∃ e, r = .error e ∧ (fun (_ : Value) (_ : Shared) => False) e s₁
/-- the loop of the promise -/
def Turns (J : It) (g : TG) (te : TE) (st : Bool) (Q : VK) (W : Nat → Nat → L2.St → Hp → Prop) : Prop := ∀ i m σ H, W i m σ H →
  (J.stop i H ∧ Q (.bl (!st)) H) ∨ (J.go i H ∧ ∃ N : L2.St → Hp → Prop, (∀ σ' H', N σ' H' → ∃ m', m' < m ∧ W (i + 1) m' σ' H') ∧
    ∀ x H', J.yld i H x H' → g x σ H' fun σ2 H2 => te σ2 H2 fun y H3 => ∃ c, y = .bl c ∧ if c = st then Q (.bl st) H3 else N σ2 H3)
section
variable {Y : Cx} {A : Around} {tg elt iter : Expr} {sc : Scope} {pos : Pos} {it : Addr} {fp : List Addr} {tn : Nat → Heap → Prop} {J : It} {g : TG} {te : TE} {st : Bool} {Q : VK}
  {W : Nat → Nat → L2.St → Hp → Prop} {pins : List (Addr × Obj)}
theorem seg_turns (hc : Y.calm = true) (hco : Y.env.scope.isCoroutine = false)
    (hA : A.over (.compLoop (.GeneratorExp elt [⟨tg, iter, [], 0⟩] sc pos) 0 (.ref it) .none Y.env) [] = Y.A)
    (T : Turn Y.prog Y.w Y.K tg J fp it tn) (hg : PG Y tg g) (he : PE Y elt te) (hx : ∀ e s, Y.xe e s → False)
    (ff : ∀ b ∈ fp, ∀ H : Hp, H b = none → FpOk Y pins H b) (turn : Turns J g te st Q W) :
    ∀ (m n i : Nat) (σ : L2.St) (H : Hp) (s₀ s : Shared), m < n → Inv Y pins σ H s → tn i s.heap → (∀ b ∈ fp, H b = none) → W i m σ H →
      Seg (model Y.prog Y.w) A (RG Y pins st Q) (YG Y pins st Q) n s₀ (.compLoop (.GeneratorExp elt [⟨tg, iter, [], 0⟩] sc pos) 0 (.ref it) .none Y.env)
        ((model Y.prog Y.w).den (.compLoop (.GeneratorExp elt [⟨tg, iter, [], 0⟩] sc pos) 0 (.ref it) .none Y.env)) [] s := by
  intro m
  induction m using Nat.strongRecOn with
  | _ m ih =>
    intro n i σ H s₀ s hmn I ht hf hw
    have fpo : ∀ {H' : Hp}, (∀ b ∈ fp, H' b = none) → ∀ b ∈ fp, FpOk Y pins H' b := fun q b hb => ff b hb _ (q b hb)
    show Seg _ A _ _ n s₀ _ ((compTurn (.GeneratorExp elt [⟨tg, iter, [], 0⟩] sc pos) 0 (.ref it) .none Y.env).onRaise (leaving Y.env)) [] s
    rw [compTurn_gen, Sem.onRaise_eq_wrap]
    refine seg_bind_wrap (wpAny_standAt ?_)
    rcases turn i m σ H hw with ⟨hstop, q⟩ | ⟨go, N, hN, step⟩
    · refine seg_bind_wrap ?_
      rw [hA]
      refine wpAny_mono (T.done Y rfl rfl rfl hc i pins s σ H (fun _ _ => False) I (fpo hf) ht hstop) (fun r s4 h4 => ?_) fun _ _ e => e.elim
      obtain ⟨rfl, I4⟩ := h4
      exact seg_end (.ok .next) (.inl ⟨.inr rfl, σ, H, I4, q⟩)
    · refine seg_bind_wrap ?_
      rw [hA]
      refine wpAny_mono (T.item Y rfl rfl rfl hc i pins s σ H (fun _ _ => False) I (fpo hf) ht go) (fun r s4 h4 => ?_) fun _ _ e => e.elim
      obtain ⟨u, rfl, h4⟩ := h4
      refine seg_bind_wrap ?_
      rw [hA]
      refine wpAny_mono h4 (fun _ s5 h5 => ?_) fun _ _ e => e.elim
      obtain ⟨x, H5, I5, r5, y5, t5, f5⟩ := h5
      have I5' := I5.pinned (fpo f5) (T.obj _ _ t5)
      refine seg_bind_wrap ?_
      rw [hA]
      refine wpAny_mono (hg.run _ s5 σ H5 x u _ I5' r5 (step x H5 y5)) (fun _ s6 h6 => ?_) fun _ _ e => (hx _ _ e).elim
      obtain ⟨σ6, H6, I6, q6⟩ := h6
      simp only [List.forIn_nil]
      refine seg_bind_wrap (wpAny_pure ?_)
      simp only [if_true]
      have hy : ∀ v, yieldOut Y.env v = yieldValue v := fun v => by simp only [yieldOut, hco, Bool.false_eq_true, if_false]
      simp only [hy]
      rw [Sem.bind_eq_wrap', Sem.bind_eq_wrap', Sem.wrap_wrap, Sem.wrap_wrap]
      refine seg_wrap ?_
      rw [hA]
      refine wpAny_mono (he.run _ s6 σ6 H6 _ I6 q6) (fun y s7 h7 => ?_) fun _ _ e => (hx _ _ e).elim
      obtain ⟨v7, H7, I7, r7, c, rfl, q7⟩ := h7
      obtain rfl : y = .bool c := r7
      have J7 : Inv Y pins σ6 H7 s7 := I7.unpinned
      have t7 : tn (i + 1) s7.heap := T.keep _ _ _ t5 fun b hb o e => (I7.pin (b, o) (List.mem_append_right _ (List.mem_append_right _ (mem_pinsAt hb e)))).1
      have f7 : ∀ b ∈ fp, H7 b = none := fun b hb => by
        obtain ⟨o, e, _⟩ := T.obj _ _ t5 b hb
        exact (I7.pin (b, o) (List.mem_append_right _ (List.mem_append_right _ (mem_pinsAt hb e)))).2.1
      obtain ⟨k, rfl⟩ : ∃ k, n = k + 1 := ⟨n - 1, by omega⟩
      refine seg_at (seg_yield rfl rfl rfl ⟨σ6, H7, c, rfl, J7, fun e => ?_, fun e s2 eh eo eb => ?_⟩)
      · rw [if_pos e] at q7
        exact q7
      · rw [if_neg e] at q7
        obtain ⟨m', hm, w7⟩ := hN σ6 H7 q7
        exact seg_again rfl (ih m' hm k (i + 1) σ6 H7 s2 s2 (by omega) (Inv.stood J7 eo (fun b o z => by rw [eh]; exact z) eb) (by rw [eh]; exact t7) f7 w7)
/-- from its beginning -/
theorem seg_begins (hc : Y.calm = true) (hco : Y.env.scope.isCoroutine = false)
    (hA : A.over (.compLoop (.GeneratorExp elt [⟨tg, iter, [], 0⟩] sc pos) 0 (.ref it) .none Y.env) [] = Y.A)
    (T : Turn Y.prog Y.w Y.K tg J fp it tn) (hg : PG Y tg g) (he : PE Y elt te) (hx : ∀ e s, Y.xe e s → False)
    (ff : ∀ b ∈ fp, ∀ H : Hp, H b = none → FpOk Y pins H b) (turn : Turns J g te st Q W)
    (m n : Nat) (σ : L2.St) (H : Hp) (s₀ s : Shared) (hmn : m < n) (I : Inv Y pins σ H s) (ht : tn 0 s.heap) (hf : ∀ b ∈ fp, H b = none) (hw : W 0 m σ H) :
      Seg (model Y.prog Y.w) A (RG Y pins st Q) (YG Y pins st Q) n s₀ (.compStart (.GeneratorExp elt [⟨tg, iter, [], 0⟩] sc pos) 0 (.ref it) .none Y.env)
        ((model Y.prog Y.w).den (.compStart (.GeneratorExp elt [⟨tg, iter, [], 0⟩] sc pos) 0 (.ref it) .none Y.env)) [] s := by
  have rest := seg_turns hc hco hA T hg he hx ff turn m n 0 σ H s₀ s hmn I ht hf hw
  show Seg _ A _ _ n s₀ _ ((compStart (.GeneratorExp elt [⟨tg, iter, [], 0⟩] sc pos) 0 (.ref it) .none Y.env).onRaise (leaving Y.env)) [] s
  unfold compStart
  rw [Sem.onRaise_eq_wrap]
  show Seg _ A _ _ n s₀ _ ((ask >>= _).wrap _ _ _ _) [] s
  refine seg_bind_wrap (wpAny_askSetting ?_)
  split
  · exact seg_again rfl rest
  · refine seg_bind_wrap (wpAny_rule ?_)
    first
      | exact seg_bind_wrap (wpAny_standAt (seg_bind_wrap (T.self _ 0 s _ _ ht (seg_again rfl rest))))
      | (show Seg _ A _ _ n s₀ _ ((standAt iter.pos >>= _).wrap _ _ _ _) [] s
         exact seg_bind_wrap (wpAny_standAt (seg_bind_wrap (T.self _ 0 s _ _ ht (seg_again rfl rest)))))
end
end Pk
namespace Pk
open PySem L2 PySem.Spec PyProof.Rows GenW GxR
section
variable {Y : Cx} {A : Around} {st : Bool} {Q : VK} {pins : List (Addr × Obj)} {R : Result → Shared → Prop} {a : Addr} {g : Nat}
theorem all_asks (hh : A.handled = none) (hd : A.depth < recursionLimit) (hp : ∀ σ' H' t, Inv Y pins σ' H' t → t.heap.IsGen a g)
    (hend : ∀ σ' H' b t, Inv Y pins σ' H' t → Q (.bl b) H' → R (.ok (.ret (.bool b))) t) :
    ∀ (n : Nat) (s : Shared), s.heap.IsGen a g → s.heap.NoLimit →
      (∃ gs, s.gens[g]? = some gs ∧ gs.Goes (model Y.prog Y.w) A.in1.in1 (RG Y pins false Q) (YG Y pins false Q) n (.send .none) (s.setGen g .running)) →
      codeAny (model Y.prog Y.w) A (.builtin "all.loop" ⟨[.ref a], []⟩) R s := by
  intro n
  induction n with
  | zero =>
    intro s hg hl ⟨gs, hgs, hgo⟩
    refine codeAny_builtin F.entry_all_loop ?_
    rw [Around.under_plainId F.plain_all_loop _]
    show wpAny _ A.in1 (pyNext (.ref a) >>= _) _ _ s
    refine wpAny_bind (next_genG (A := A.in1) hh hl hd hg hgs hgo (fun v s₁ gs' hbare hv => ?_) (fun s₁ hf h' hk => ?_) fun e s₁ he => he.elim)
    · obtain ⟨σ', H', c, rfl, J, h1, h2⟩ := hv
      refine wpAny_bind (wpAny_holding (wpAny_truthy_bool ?_))
      refine wpAny_bind (wpAny_letGo ?_)
      cases c with
      | true => exact (h2 (by decide) _ rfl rfl J.bare).elim
      | false =>
        simp only [Bool.false_eq_true, if_false]
        refine wpAny_bind (wpAny_rule (wpAny_pure ?_))
        exact hend σ' H' false _ (Inv.stood (s5 := s₁.setGen g gs') J rfl (fun _ _ z => z) (allBare_setGen J.bare hbare)) (h1 rfl)
    · obtain ⟨σ', H', J, q⟩ := hf
      refine wpAny_bind (wpAny_rule (wpAny_pure ?_))
      exact hend σ' H' true _ (Inv.stood (s5 := { s₁.setGen g .finished with heap := h' }) J rfl hk (allBare_setGen J.bare rfl)) q
  | succ n ih =>
    intro s hg hl ⟨gs, hgs, hgo⟩
    have hgl : g < s.gens.size := (Array.getElem?_eq_some_iff.mp hgs).1
    refine codeAny_builtin F.entry_all_loop ?_
    rw [Around.under_plainId F.plain_all_loop _]
    show wpAny _ A.in1 (pyNext (.ref a) >>= _) _ _ s
    refine wpAny_bind (wpAny_gsz (n := g + 1) hgl (next_genG (A := A.in1) hh hl hd hg hgs hgo (fun v s₁ gs' hbare hv => ?_) (fun s₁ hf h' hk => ?_) fun e s₁ he => he.elim))
    · intro hsz
      obtain ⟨σ', H', c, rfl, J, h1, h2⟩ := hv
      have J2 : Inv Y pins σ' H' (s₁.setGen g gs') := Inv.stood J rfl (fun _ _ z => z) (allBare_setGen J.bare hbare)
      have hs1 : g < s₁.gens.size := by
        have q : (s₁.setGen g gs').gens.size = s₁.gens.size := setGen_size _ _ _
        have q2 : g + 1 ≤ (s₁.setGen g gs').gens.size := hsz
        omega
      refine wpAny_bind (wpAny_holding (wpAny_truthy_bool ?_))
      refine wpAny_bind (wpAny_letGo ?_)
      cases c with
      | true =>
        simp only [if_true]
        exact wpAny_pure ⟨plainId_quiet F.plain_all_loop _, ih _ (hp _ _ _ J2) J2.nolimit ⟨gs', setGen_at hs1, h2 (by decide) _ rfl rfl (allBare_setGen J2.bare rfl)⟩⟩
      | false =>
        simp only [Bool.false_eq_true, if_false]
        refine wpAny_bind (wpAny_rule (wpAny_pure ?_))
        exact hend σ' H' false _ J2 (h1 rfl)
    · intro hsz
      obtain ⟨σ', H', J, q⟩ := hf
      refine wpAny_bind (wpAny_rule (wpAny_pure ?_))
      exact hend σ' H' true _ (Inv.stood (s5 := { s₁.setGen g .finished with heap := h' }) J rfl hk (allBare_setGen J.bare rfl)) q
end
end Pk
namespace Pk
open PySem L2 PySem.Spec PyProof.Rows GenW GxR NdefX
/-- where the generator's code runs, asked from A -/
abbrev arG (A : Around) (tg elt iter : Expr) (sc : Scope) (pos : Pos) (it : Addr) (env : Env) : Around :=
  A.in1.in1.over (.compLoop (.GeneratorExp elt [⟨tg, iter, [], 0⟩] sc pos) 0 (.ref it) .none env) []
theorem arG_frames {A : Around} {tg elt iter : Expr} {sc : Scope} {pos : Pos} {it : Addr} {env : Env} {l : List Env} (h : A.frames = some l) : (arG A tg elt iter sc pos it env).frames = some (env :: l) := by
  obtain ⟨hd, d, f, gs, u⟩ := A
  obtain rfl : f = some l := h
  rfl
theorem arG_room {k : Nat} {A : Around} {tg elt iter : Expr} {sc : Scope} {pos : Pos} {it : Addr} {env : Env} (r : Room (k + 1) A) : Room k (arG A tg elt iter sc pos it env) :=
  ⟨r.hd, by have := r.dp; show A.depth + 0 + 1 + 3 * k + 5 < _; omega, by have := r.un; show A.units + 1 + 1 + 0 + 3 + 16 * k + 200 < _; omega⟩
/-- a generator stands at a and has handed out nothing -/
def GReady (X : Cx) (pins : List (Addr × Obj)) (σ : L2.St) (N : List Str) (sc : Scope) (st : Bool) (Q : VK) (a : Addr) (s5 : Shared) : Prop :=
  ∃ (g : Nat) (B : Around) (s0 : Shared) (H0 : Hp) (cd : Value) (fp : List Addr) (ps : List (Addr × Obj)) (n : Nat),
    s5.heap.IsGen a g ∧ s5.heap.NoLimit ∧ (∀ σ' H' t, Inv (cxG X N sc B s0 H0 cd fp) ps σ' H' t → t.heap.IsGen a g) ∧
    (∀ σ' H' t, Inv (cxG X N sc B s0 H0 cd fp) ps σ' H' t → Inv X pins σ H' t) ∧
    ∃ gs, s5.gens[g]? = some gs ∧ gs.Goes (model X.prog X.w) X.A.in1.in1 (RG (cxG X N sc B s0 H0 cd fp) ps st Q) (YG (cxG X N sc B s0 H0 cd fp) ps st Q) n (.send .none) (s5.setGen g .running)
/-- the answer: the element's readings, one after another -/
def tAns (st : Bool) (te : TE) : TS := fun D σ H => te σ H fun y H3 => ∃ c, y = .bl c ∧ if c = st then D.rt (.bl st) H3 else D.nx σ H3
def tGen (P : Addr) (fr : List (Option Nat)) (wi : TI) (g : TG) (te : TE) (st : Bool) : TE := fun σ H Q => wi σ H fun J H1 => TabG H1 P ∧ ∀ H2, Tabbed P H1 H2 →
  ∃ W : Nat → Nat → L2.St → Hp → Prop, (∃ m, W 0 m (slotsG fr σ) H2) ∧ ∀ i m σ H, W i m σ H →
    (J.stop i H ∧ (Ends.mk (fun _ H' => Q (.bl (!st)) H') Q (fun _ _ => False) (fun _ _ => False)).nx σ H) ∨ (J.go i H ∧ ∃ N : L2.St → Hp → Prop, (∀ σ' H', N σ' H' → ∃ m', m' < m ∧ W (i + 1) m' σ' H') ∧
      ∀ x H', J.yld i H x H' → g x σ H' fun σ2 H2 => tAns st te { (Ends.mk (fun _ H' => Q (.bl (!st)) H') Q (fun _ _ => False) (fun _ _ => False)) with nx := N, ct := N, bk := fun _ H' => Q (.bl (!st)) H' } σ2 H2)
section
variable {X : Cx} {pins : List (Addr × Obj)} {σ : L2.St} {H : Hp} {s : Shared}
theorem make_gen {c P : Addr} {tg elt iter : Expr} {gpos : Pos} {sc : Scope} {N : List Str} {fr : List (Option Nat)} {wi : TI} {g : TG} {te : TE} {k : Nat} {st : Bool} {Q : VK} {Q' : Value → Shared → Prop}
    (hr : Room (k + 1) X.A) (TB : TabB X.base X.mg c P) (hcode : X.env.code = .ref c) (S : GSc X.env sc) (FR : GFr X sc N fr) (hi : PI X tg iter wi)
    (hb : ∀ (B : Around) (s0 : Shared) (H0 : Hp) (cd : Value) (fp : List Addr), Room k B → PG (cxG X N sc B s0 H0 cd fp) tg g ∧ PE (cxG X N sc B s0 H0 cd fp) elt te)
    (hs : ∀ v, genFold iter X.env v = pure v) (I : Inv X pins σ H s) (h : tGen P fr wi g te st σ H Q)
    (hQ : ∀ a s5, GReady X pins σ N sc st Q a s5 → Q' (.ref a) s5) :
    wpAny (model X.prog X.w) X.A (eval (.GeneratorExp elt [⟨tg, iter, [], 0⟩] sc gpos) X.env) Q' X.xe s := by
  refine wpAny_GeneratorExp_make S.co (closure_ok S.free) S.cell S.dot S.kind (by have := hr.dp; omega) ?_ hs
  refine thn (hi.run pins s σ H _ I h) fun xv s1 h1 => thn h1 fun itv s2 h2 => ?_
  obtain ⟨it, fp, tn, J, H2, rfl, I2, T, t2, f2, ⟨ps, hP, htr⟩, hW⟩ := h2
  have hPs : s2.heap.get? P = some { cls := .none, data := .fields ps } := I2.hok P _ hP
  have cd : PySem.W.CodeHd s2.heap c P := TB.code.keeps fun b u e => I2.bk b u e
  refine ⟨I2.nolimit, ?_⟩
  have cont : ∀ (code : Value) (h3 : Heap) (tk : Nat) (ps' : Array Value), Heap.ExtBut P s2.heap h3 → s2.heap.objs.size ≤ h3.objs.size → h3.get? P = some { cls := .none, data := .fields ps' } → (∃ more, ps' = ps ++ more) → TriplesOk ps'.toList →
      wpAny (model X.prog X.w) X.A (builtinsFor X.env.globals X.env.builtins) (fun bi s₄ => ∀ h', h'.Ns s₄.heap.objs.size (fun y => if y = ".0" then some (Value.ref it) else none) →
        Heap.SameBut s₄.heap.objs.size (s₄.heap.push { cls := .type "frame", data := .dict #[] }) h' →
          Q' (.ref h'.objs.size) { s₄ with
            gens := s₄.gens.push (.fresh (.compStart (.GeneratorExp elt [⟨tg, iter, [], 0⟩] sc gpos) 0 (.ref it) .none (genEnv sc (cloFrom X.env.cells sc.names []) s₄.heap.objs.size code bi X.env))),
            toks := s₄.toks + 1 + 1 + 1,
            heap := h'.push { cls := .type "generator", data := .fields #[.int s₄.gens.size 0, .str "<genexpr>" (s₄.toks + 1), .str (X.env.qual ++ "<genexpr>") (s₄.toks + 1 + 1)] } }) X.xe { s2 with heap := h3, toks := tk } := by
    intro code h3 tk ps' hx3 hsz hP3 hmore ht3
    obtain ⟨more, rfl⟩ := hmore
    obtain ⟨bm, ob, e1, e2, e3, e4, e5, e6, e7, e8⟩ := TB.bm
    have keep3 : ∀ b u, b ≠ P → s2.heap.get? b = some u → h3.get? b = some u := fun b u z e => hx3 b u z e
    have I3 : Inv X pins σ (upd H2 P (.tbl (ps ++ more))) { s2 with heap := h3, toks := tk } := inv_tab (g' := s2.gens) (d' := s2.drawn) I2 hP keep3 hP3 I2.bare
    have TT : Tabbed P H2 (upd H2 P (.tbl (ps ++ more))) := ⟨⟨ps ++ more, upd_same, ht3⟩, fun b z => upd_ne z⟩
    refine wpAny_builtinsFor (m := X.mg) (by rw [I3.ok.glob]; exact I3.mod.glob.keeps I3.bk) e1 e2 (I3.bk _ _ e5) e6 e7 e8 ?_
    intro h' hn' hs'
    -- the new frame at C, the generator behind it
    have sz' : h'.objs.size = h3.objs.size + 1 := by rw [hs'.1, Heap.size_push]
    have keep' : ∀ b u, h3.get? b = some u → h'.get? b = some u := fun b u e => hs'.extBut b u (Nat.ne_of_lt (Heap.lt_size e)) (Heap.get?_push_of_some _ e)
    obtain ⟨W, ⟨m0, w0⟩, turn⟩ := hW _ TT
    have neP : ∀ b ∈ fp, b ≠ P := fun b hb z => by
      have q := (f2 b hb).1
      rw [z, hP] at q
      cases q
    have ltC : ∀ b ∈ fp, b < h3.objs.size := fun b hb => by
      obtain ⟨u, hu, _⟩ := T.obj _ _ t2 b hb
      exact Nat.lt_of_lt_of_le (Heap.lt_size hu) hsz
    have f3 : ∀ b ∈ fp, FpOk X pins (upd H2 P (.tbl (ps ++ more))) b := fun b hb => ⟨by rw [upd_ne (neP b hb)]; exact (f2 b hb).1, (f2 b hb).2⟩
    have aC : h3.objs.size < h'.objs.size := by rw [sz']; exact Nat.lt_succ_self _
    generalize hgo : ({ cls := .type "generator", data := .fields #[.int s2.gens.size 0, .str "<genexpr>" (tk + 1), .str (X.env.qual ++ "<genexpr>") (tk + 1 + 1)] } : Obj) = genO
    have isg : ∀ {h : Heap}, h.get? h'.objs.size = some genO → h.IsGen h'.objs.size s2.gens.size := fun {h} e => by
      subst hgo
      exact ⟨_, _, _, e, rfl, rfl, rfl⟩
    have atA : (h'.push genO).get? h'.objs.size = some genO := Heap.get?_push_size _ (by subst hgo; rfl)
    have keep5 : ∀ b u, h3.get? b = some u → (h'.push genO).get? b = some u := fun b u e => Heap.get?_push_of_some _ (keep' b u e)
    let B : Around := arG X.A tg elt iter sc gpos it (envG X sc h3.objs.size code)
    have rB : Room k B := arG_room hr
    have nofs : ∀ b ∈ fp, b ∉ frs X.stack := fun b hb z => by
      rcases List.mem_cons.mp (I3.stkSub b z) with q | q
      · exact (f2 b hb).2.1 q
      · exact (f2 b hb).2.2.1 q
    refine hQ _ _ ⟨s2.gens.size, B, { s2 with heap := h3, toks := tk }, upd H2 P (.tbl (ps ++ more)), code, fp, [(h'.objs.size, genO)], m0 + 1, isg atA, I3.nolimit.keeps keep5,
      fun σ' H' t J => isg (J.pin (h'.objs.size, genO) (by simp)).1, fun σ' H' t J => ?_, _, Array.getElem?_push_size .., rfl, ?_⟩
    · exact I3.call' (ch := fp) J.os J.base J.hok J.bare fun b hb => ⟨(f2 b hb).2.2.2.1, (f2 b hb).2.1, (f2 b hb).2.2.2.2.1, (f2 b hb).2.2.2.2.2⟩
    · have I5 := start_gen (N := N) (B := B) (cd := code) (fp := fp) (a := h'.objs.size) (o := genO) I3 S FR (fun b hb => ⟨f3 b hb, ltC b hb⟩) rB.hd (arG_frames I3.ok.frames)
        (s5 := { s2 with gens := s2.gens.push (.fresh (.compStart (.GeneratorExp elt [⟨tg, iter, [], 0⟩] sc gpos) 0 (.ref it) .none (envG X sc h3.objs.size code))), toks := tk + 1 + 1 + 1, heap := h'.push genO })
        rfl (I3.bare.push rfl) keep5 (hn'.push _) aC atA (by subst hgo; intro v z; cases z)
      have I6 := Inv.stood (s5 := Shared.setGen { s2 with gens := s2.gens.push (.fresh (.compStart (.GeneratorExp elt [⟨tg, iter, [], 0⟩] sc gpos) 0 (.ref it) .none (envG X sc h3.objs.size code))), toks := tk + 1 + 1 + 1, heap := h'.push genO } s2.gens.size .running) I5 rfl (fun _ _ e => e) (allBare_setGen I5.bare rfl)
      have hb' := hb B { s2 with heap := h3, toks := tk } (upd H2 P (.tbl (ps ++ more))) code fp rB
      refine seg_begins (Y := cxG X N sc B { s2 with heap := h3, toks := tk } (upd H2 P (.tbl (ps ++ more))) code fp) (A := X.A.in1.in1) (tn := tn) (J := J) rfl S.co rfl T hb'.1 hb'.2 (fun _ _ e => e)
        (fun b hb H' hn => ⟨hn, Nat.ne_of_lt (ltC b hb), nofs b hb, .inl hb, fun y e he => (f2 b hb).2.2.2.2.1 y e (clo_cm S.free he), fun p hp => ?_⟩) turn m0 (m0 + 1) _ _ _ _ (Nat.lt_succ_self _) I6
        (T.keep 0 _ _ t2 fun b hb o e => keep5 b o (keep3 b o (neP b hb) e)) (fun b hb => (f3 b hb).1) w0
      have hp : p ∈ [(h'.objs.size, genO)] := hp
      obtain rfl : p = (h'.objs.size, genO) := by simpa using hp
      exact Nat.ne_of_gt (Nat.lt_trans (ltC b hb) aC)
  cases hf : codeAmong gpos ps.toList with
  | none =>
    refine wpAny_genexprCodeX hcode (cd.code hPs htr) (cd.tab hPs) hf fun c' h' tk hx hge hlt hco' _ htab' _ => ?_
    obtain ⟨o1, vs, f1, tf, fl, tg', inF, tx, tt, op, _, _, _, _, _, _, _, _, _, htr', _⟩ := hco'
    exact cont _ h' tk _ hx (Nat.le_trans hge (Nat.le_of_lt hlt)) htab'.2 ⟨_, rfl⟩ htr'
  | some cv =>
    refine wpAny_genexprCode_hit hcode (cd.code hPs htr) hf ?_
    exact cont cv s2.heap s2.toks ps (Heap.ExtBut.refl _ _) (Nat.le_refl _) hPs ⟨#[], by simp⟩ htr
theorem pe_allG {c P : Addr} {tg elt iter : Expr} {p pos gpos : Pos} {sc : Scope} {N : List Str} {fr : List (Option Nat)} {wi : TI} {g : TG} {te : TE} {k : Nat}
    (hr : Room (k + 1) X.A) (hg : Gl X "all") (hm : X.mg "all" = none) (hbt : bootBuiltins "all" = some (.builtin "all")) (TB : TabB X.base X.mg c P) (hcode : X.env.code = .ref c) (S : GSc X.env sc) (FR : GFr X sc N fr) (hi : PI X tg iter wi)
    (hb : ∀ (B : Around) (s0 : Shared) (H0 : Hp) (cd : Value) (fp : List Addr), Room k B → PG (cxG X N sc B s0 H0 cd fp) tg g ∧ PE (cxG X N sc B s0 H0 cd fp) elt te)
    (hs : ∀ v, genFold iter X.env v = pure v)
    (he : starEach [.GeneratorExp elt [⟨tg, iter, [], 0⟩] sc gpos] X.env = (false, eval (.GeneratorExp elt [⟨tg, iter, [], 0⟩] sc gpos) X.env) :: starEach [] X.env := by rfl) :
    PE X (.Call (.Name "all" p) [.GeneratorExp elt [⟨tg, iter, [], 0⟩] sc gpos] [] pos) (tGen P fr wi g te false) := by
  refine ⟨fun pins s σ H Q I h => ?_⟩
  refine wpAny_Call_Name_kw (ld_blt I hg hm hbt ?_)
  refine PyProof.Rows.callWith_builtin1 ?_ he (by rfl)
  rw [he]
  show wpAny _ X.A (spliced ((false, eval (.GeneratorExp elt [⟨tg, iter, [], 0⟩] sc gpos) X.env) :: backTo pos (starEach [] X.env))) _ _ s
  refine Calls.spliced_cons (make_gen hr TB hcode S FR hi hb hs I h fun a s5 hG => ?_)
  refine Calls.spliced_nil ?_
  obtain ⟨n, B, s0, H0, cd, fp, ps, m, q1, q2, q3, q4, q5⟩ := hG
  refine call_function_tree F.kind_all F.plain_all F.entry_all (F.args_all1 _) ?_
  unfold Builtin.«all»
  refine wpAny_bind (m := oneArg "all" _) (wpAny_pure ?_)
  refine wpAny_bind (wpAny_pyIter_gen q1 ?_)
  refine wpAny_pure ⟨plainId_quiet F.plain_all_loop _, ?_⟩
  exact all_asks (Y := cxG X N sc B s0 H0 cd fp) hr.hd (by have := hr.dp; omega) q3 (fun σ' H' b t J q => ⟨.bl b, H', q4 σ' H' t J, rfl, q⟩) m s5 q1 q2 q5
end
end Pk
namespace Pk
open PySem L2 PySem.Spec PyProof.Rows
section
variable {X : Cx} {pins : List (Addr × Obj)} {σ : L2.St} {H : Hp} {s : Shared}
/-- an entry is laid under a tuple -/
theorem lay_entry {A : Around} {E : Value → Shared → Prop} {D b : Addr} {kvs : List (List Key × V)} {k : List Key} {v : V} {r : Value} {Q : Unit → Shared → Prop}
    (hu : A.units < cLine) (I : Inv X pins σ H s) (hD : H D = some (.dT kvs)) (hb : H b = some (.tup (k.map kV))) (hl : kvs.length < sizeLine) (rv : RelV v r)
    (h : ∀ s', Inv X pins σ (upd H D (.dT (putK kvs k v))) s' → Q () s') : wpAny (model X.prog X.w) A (dictSet D (.ref b) r) Q E s := by
  obtain ⟨le, nd, xs, rel, dd⟩ := dt_of I.hok hD
  have small : xs.length ≤ sizeLine := by rw [← Paired.length rel]; exact le
  have small2 : (putK kvs k v).length ≤ sizeLine := by
    have q := length_putK kvs k v
    omega
  refine wpAny_dictSet_heap (hsz := small) (show (tupleKind (mixKind X.prog X.w)).room A from hu) (key_of I.hok hb) dd fun h2 dd2 same => h _ ?_
  obtain ⟨o, es, ep, ho, p2, p3, p4, _, p5⟩ := dd2
  refine d_write I (by rw [hD]; exact True.intro) same ⟨o, ho⟩ ⟨small2, nd, _, (rel.put k hb rv).keeps fun c ys ec => ?_, o, es, ep, ho, p2, p3, p4, p5⟩
  have cD : c ≠ D := ne_of ec hD fun z => nomatch z
  rw [upd_ne cD]
  exact ec
/-- D: the new dict -/
def tDcT (wi : TI) (g : TG) (tk tv : TE) (vs : List Nat) : TE := fun σ H Q => wi σ H fun J H1 => ∀ D, H1 D = none → ∃ W : Nat → Nat → Hp → Prop, (∃ m, W 0 m (upd H1 D (.dT []))) ∧ ∀ i m H, W i m H →
  (J.stop i H ∧ Q (.ref D) H) ∨ (J.go i H ∧ ∃ Nx : Hp → Prop, (∀ H', Nx H' → ∃ m', m' < m ∧ W (i + 1) m' H') ∧
    ∀ x H', J.yld i H x H' → g x (wipe σ vs) H' fun σ2 H2 => wipe σ2 vs = wipe σ vs ∧ tk σ2 H2 fun y H4 => tv σ2 H4 fun z H5 =>
      ∃ b kvs k, y = .ref b ∧ H5 b = some (.tup (k.map kV)) ∧ H5 D = some (.dT kvs) ∧ kvs.length < sizeLine ∧ Nx (upd H5 D (.dT (putK kvs k z))))
theorem pe_dcT {kx vx tg iter : Expr} {scope : Scope} {own : List (Str × Nat)} {pos : Pos} {wi : TI} {g : TG} {tk tv : TE} (hc : X.calm = true) (hu : X.A.units < cLine) (hN : X.N.Nodup) (hi : PI X tg iter wi) (ok : BlkOk X.N X.env.scope scope own)
    (hb : ∀ (s : Shared) (H : Hp) (C : Addr) (cl : List (Str × Addr)) (fp : List Addr), PG (X.blk s H scope (compEnvC scope cl C X.env) fp) tg g ∧ PE (X.blk s H scope (compEnvC scope cl C X.env) fp) kx tk ∧ PE (X.blk s H scope (compEnvC scope cl C X.env) fp) vx tv)
    (hs : ∀ x, foldedSetIterable iter X.env x = pure x := by intro _; rfl) :
    PE X (.DictComp kx vx [⟨tg, iter, [], 0⟩] scope pos) (tDcT wi g tk tv (own.map (·.2))) := by
  refine ⟨fun pins s σ H Q I h => ?_⟩
  rw [arm_eval_DictComp]
  have caught : ∀ y ∈ scope.names, y.2 = .free → ∃ c, X.env.cells.lookup y.1 = some c := fun y hy e => by
    have q := ok.free y hy e
    exact I.ok.has _ (q.elim .inl .inr)
  refine wpAny_comprehension_free (use := none) rfl hs (closure_ok caught) ok.kind (fun y hy e => by rw [ok.uniq y hy, e]) ?_
  refine thn (hi.run pins s σ H _ I h) fun xv s1 h1 => thn h1 fun itv s2 h2 => ?_
  obtain ⟨it, fp, tn, J, H2, rfl, I2, T, t2, f2, rest⟩ := h2
  refine wpAny_newObj_type (newEnv_comp ?_)
  generalize eD : s2.heap.objs.size = D
  have nD : H2 D = none := I2.hok.fresh (Nat.le_of_eq eD)
  obtain ⟨W, ⟨m0, w0⟩, turn⟩ := rest D nD
  generalize e3 : ({ s2 with heap := s2.heap.push { cls := .type "dict", data := .dict #[] } } : Shared) = s3
  have heap3 : s3.heap = s2.heap.push { cls := .type "dict", data := .dict #[] } := by rw [← e3]
  have I3 : Inv X pins σ (upd H2 D (.dT [])) s3 := by
    rw [← e3]
    refine I2.laid (t' := s2.toks) (fun b o e => Heap.get?_push_of_some _ e) (Nat.le_of_eq eD) ?_
    rw [← eD]
    exact dt_empty s2.heap I2.big
  have old : ∀ b ∈ fp, b < s2.heap.objs.size := fun b hb => by
    obtain ⟨o, e, _⟩ := T.obj _ _ t2 b hb
    exact Heap.lt_size e
  have f3 : ∀ b ∈ fp, FpOk X pins (upd H2 D (.dT [])) b ∧ b < s3.heap.objs.size := fun b hb => by
    have lt := old b hb
    refine ⟨⟨?_, (f2 b hb).2⟩, by rw [heap3, Heap.size_push]; exact Nat.lt_succ_of_lt lt⟩
    rw [upd_ne (by rw [← eD]; exact Nat.ne_of_lt lt)]
    exact (f2 b hb).1
  have t3 : tn 0 s3.heap := T.keep _ _ _ t2 fun b _ o e => by rw [heap3]; exact Heap.get?_push_of_some _ e
  have I4 := block_start I3 ok hN f3
  obtain ⟨pg, pk, pv⟩ := hb s3 (upd H2 D (.dT [])) s3.heap.objs.size (cellsFrom (s3.heap.objs.size + 1) scope.names (cloFrom X.env.cells scope.names [])) fp
  show codeAny _ _ (.compStart (.DictComp kx vx [⟨tg, iter, [], 0⟩] scope pos) 0 (.ref it) (.ref D) (compEnvC scope (cellsFrom (s3.heap.objs.size + 1) scope.names (cloFrom X.env.cells scope.names [])) s3.heap.objs.size X.env))
    (compPost (model X.prog X.w) X.A X.xe none _ (.ref D) s3.heap.objs.size) { s3 with heap := pushCells (s3.heap.push { cls := .type "dict", data := .dict #[] }) scope.names }
  have none3 : ∀ b ∈ fp, (upd H2 D (.dT [])) b = none := fun b hb => (f3 b hb).1.1
  generalize ece : compEnvC scope (cellsFrom (s3.heap.objs.size + 1) scope.names (cloFrom X.env.cells scope.names [])) s3.heap.objs.size X.env = ce at I4 pg pk pv ⊢
  have ceL : ce.locals = s3.heap.objs.size := by subst ece; rfl
  generalize eH3 : upd H2 D (.dT []) = H3 at I3 I4 pg pk pv w0 none3 f3
  generalize e4 : ({ s3 with heap := pushCells (s3.heap.push { cls := .type "dict", data := .dict #[] }) scope.names } : Shared) = s4 at I4 ⊢
  have t4 : tn 0 s4.heap := T.keep _ _ _ t3 fun b _ o e => by rw [← e4]; exact pushCells_keeps _ _ _ _ (Heap.get?_push_of_some _ e)
  have fpo : ∀ {σ' : L2.St} {H' : Hp} {s' : Shared}, Inv (X.blk s3 H3 scope ce fp) [] σ' H' s' → (∀ b ∈ fp, H' b = none) → ∀ b ∈ fp, FpOk (X.blk s3 H3 scope ce fp) [] H' b := fun {σ' H' s'} I' hn b hb =>
    ⟨hn b hb, (I'.ok.exf b hb).1, I'.ok.exfs b hb, .inl hb, fun x c e => (I'.ok.exf b hb).2 x c e, fun p hp => absurd (show p ∈ ([] : List (Addr × Obj)) ++ [] from hp) (by simp)⟩
  have loop : codeAny (model X.prog X.w) X.A (.compLoop (.DictComp kx vx [⟨tg, iter, [], 0⟩] scope pos) 0 (.ref it) (.ref D) ce) (compPost (model X.prog X.w) X.A X.xe none (EP X pins σ Q) (.ref D) s3.heap.objs.size) s4 := by
    refine compLoop_anyD (fun n s' => ∃ i H', Inv (X.blk s3 H3 scope ce fp) [] (wipe σ (own.map (·.2))) H' s' ∧ tn i s'.heap ∧ (∀ b ∈ fp, H' b = none) ∧ W i n H') ?_ m0 ⟨0, H3, I4, t4, none3, w0⟩
    rintro n s5 ⟨i, H5, I5, t5, n5, w5⟩
    rcases turn i n H5 w5 with ⟨hstop, qq⟩ | ⟨go, Nx, hNx, step⟩
    · refine thnF (T.done (X.blk s3 H3 scope ce fp) rfl rfl rfl hc i [] s5 _ H5 (fun _ _ => False) I5 (fpo I5 n5) t5 hstop) fun r s6 h6 => ?_
      obtain ⟨rfl, I6⟩ := h6
      have I7 : Inv X pins σ H5 s6 := I3.call' (ch := fp) I6.os I6.base I6.hok I6.bare fun b hb =>
        have z := (f3 b hb).1.2
        ⟨z.2.2.1, z.1, z.2.2.2.1, z.2.2.2.2⟩
      have nC : H5 s3.heap.objs.size = none := by
        have z : H5 ce.locals = none := I6.free
        rwa [ceL] at z
      obtain ⟨m, hn, _⟩ := I6.loc
      have hn : s6.heap.Ns ce.locals m := hn
      rw [ceL] at hn
      obtain ⟨_, g1, _, g3, g4, g5⟩ := I3.fpOk (Nat.le_refl _) nC
      exact ⟨m, hn, fun h2 sb => ⟨.ref D, H5, I7.turned (t' := s6.toks) (fun b o ne e => (sb.2 b ne).trans e) nC g1 g3 g4 g5, rfl, qq⟩⟩
    · refine thnF (T.item (X.blk s3 H3 scope ce fp) rfl rfl rfl hc i [] s5 _ H5 (fun _ _ => False) I5 (fpo I5 n5) t5 go) fun r s6 h6 => ?_
      obtain ⟨u, rfl, h6⟩ := h6
      refine thnF h6 fun _ s7 ⟨x, H7, I7, r7, y7, t7, n7⟩ => ?_
      have J7 := I7.pinned (fpo I7 n7) (T.obj _ _ t7)
      refine thnF (pg.run _ s7 _ H7 x u _ J7 r7 (step x H7 y7)) fun _ s8 ⟨σ8, H8, I8, ew, q8⟩ => ?_
      simp only [List.forIn_nil]
      refine wpAny_pure ?_
      simp only [if_true]
      refine thnF (pk.run _ s8 σ8 H8 _ I8 q8) fun u1 s10 ⟨yk, H10, I10, r10, q10⟩ => ?_
      refine thnF (pv.run _ s10 σ8 H10 _ I10 q10) fun u2 s11 ⟨yv, H11, I11, r11, b, kvs, k, ek, hb11, hD11, hl11, nx⟩ => ?_
      subst ek
      obtain rfl : u1 = .ref b := r10
      refine lay_entry (X := X.blk s3 H3 scope ce fp) hu I11 hD11 hb11 hl11 r11 fun s12 I12 => ?_
      obtain ⟨m', lt, w'⟩ := hNx _ nx
      have len8 : (wipe σ (own.map (·.2))).length = σ8.length := by rw [← ew, wipe_length]
      have stay : ∀ c ∈ fp, ∀ o, s7.heap.get? c = some o → s12.heap.get? c = some o ∧ (upd H11 D (.dT (putK kvs k yv))) c = none := fun c hc' o e =>
        have z := I12.pin (c, o) (List.mem_append_right _ (List.mem_append_right _ (mem_pinsAt hc' e)))
        ⟨z.1, z.2.1⟩
      refine ⟨m', lt, i + 1, _, (I12.unpinned (pins := [])).weak len8 (fun j v e => ?_), T.keep _ _ _ t7 fun c hc' o e => (stay c hc' o e).1, fun c hc' => ?_, w'⟩
      · rw [← ew] at e
        exact (wipe_some e).1
      · obtain ⟨o, e, _⟩ := T.obj _ _ t7 c hc'
        exact (stay c hc' o e).2
  exact codeAny_compStart_dict loop (T.self X.A 0 _ _ _ t4 loop)
end
end Pk
namespace Pk
open PySem L2
abbrev Pl := Int × Int
/-- v is a tuple that holds the place p -/
def Pr (H : Hp) (v : V) (p : Pl) : Prop := ∃ t, v = .ref t ∧ H t = some (.tup [.int p.1, .int p.2])
theorem Pr.same {H H' : Hp} {v : V} {p : Pl} (h : Pr H v p) (k : Same H H') : Pr H' v p := by
  obtain ⟨t, rfl, h⟩ := h
  exact ⟨t, rfl, k _ _ h⟩
inductive Prs (H : Hp) : List V → List Pl → Prop
  | nil : Prs H [] []
  | cons {v : V} {p : Pl} {vs : List V} {ps : List Pl} : Pr H v p → Prs H vs ps → Prs H (v :: vs) (p :: ps)
theorem Prs.same {H H' : Hp} {vs : List V} {ps : List Pl} (h : Prs H vs ps) (k : Same H H') : Prs H' vs ps := by
  induction h with
  | nil => exact .nil
  | cons a _ ih => exact .cons (a.same k) ih
theorem Prs.len {H : Hp} {vs : List V} {ps : List Pl} (h : Prs H vs ps) : vs.length = ps.length := by
  induction h with
  | nil => rfl
  | cons a _ ih => exact congrArg (· + 1) ih
theorem Prs.app {H : Hp} {vs us : List V} {ps qs : List Pl} (h : Prs H vs ps) (k : Prs H us qs) : Prs H (vs ++ us) (ps ++ qs) := by
  induction h with
  | nil => exact k
  | cons a _ ih => exact .cons a ih
theorem Prs.snoc {H : Hp} {vs : List V} {v : V} {ps : List Pl} {p : Pl} (h : Prs H vs ps) (k : Pr H v p) : Prs H (vs ++ [v]) (ps ++ [p]) := h.app (.cons k .nil)
theorem Prs.at {H : Hp} {vs : List V} {ps : List Pl} (h : Prs H vs ps) : ∀ {i : Nat} {v : V}, vs[i]? = some v → ∃ p, ps[i]? = some p ∧ Pr H v p := by
  induction h with
  | nil => intro i v e; cases e
  | cons a _ ih =>
    intro i v e
    cases i with
    | zero => cases e; exact ⟨_, rfl, a⟩
    | succ i => exact ih e
theorem Prs.take {H : Hp} {vs : List V} {ps : List Pl} (h : Prs H vs ps) : ∀ n, Prs H (vs.take n) (ps.take n) := by
  induction h with
  | nil => intro n; cases n <;> exact .nil
  | cons a _ ih => intro n; cases n with
    | zero => exact .nil
    | succ n => exact .cons a (ih n)
theorem Prs.drop {H : Hp} {vs : List V} {ps : List Pl} (h : Prs H vs ps) : ∀ n, Prs H (vs.drop n) (ps.drop n) := by
  induction h with
  | nil => intro n; cases n <;> exact .nil
  | cons a r ih => intro n; cases n with
    | zero => exact .cons a r
    | succ n => exact ih n
theorem Prs.mem {H : Hp} {vs : List V} {ps : List Pl} (h : Prs H vs ps) {v : V} (m : v ∈ vs) : ∃ p ∈ ps, Pr H v p := by
  induction h with
  | nil => cases m
  | cons a _ ih =>
    rcases List.mem_cons.mp m with e | m
    · subst e; exact ⟨_, List.mem_cons_self, a⟩
    · obtain ⟨p, hp, k⟩ := ih m
      exact ⟨p, List.mem_cons_of_mem _ hp, k⟩
def dP (p : Pl) : PyData := .tuple [.int p.1, .int p.2]
def dL (ps : List Pl) : PyData := .list (ps.map dP)
theorem Pr.dp {K : PySem.W.Frag} {H : Hp} {v : V} {p : Pl} (h : Pr H v p) : Dp K H v (dP p) := by
  obtain ⟨t, rfl, h⟩ := h
  exact .tup (SqT.of h) (.cons (.int _) (.cons (.int _) .nil))
theorem Prs.dps {K : PySem.W.Frag} {H : Hp} {vs : List V} {ps : List Pl} (h : Prs H vs ps) : DpAll K H vs (ps.map dP) := by
  induction h with
  | nil => exact .nil
  | cons a _ ih => exact .cons a.dp ih
theorem Prs.dl {K : PySem.W.Frag} {H : Hp} {l : Addr} {vs : List V} {ps : List Pl} (h : Prs H vs ps) (e : SqL K H l vs) : Dp K H (.ref l) (dL ps) := .lst e h.dps
theorem eqv_int (a b : Int) : PyData.eqv (.int a) (.int b) = decide (a = b) := by
  rw [PyData.eqv]
  rfl
theorem eqv_dP (p q : Pl) : PyData.eqv (dP p) (dP q) = decide (p = q) := by
  obtain ⟨a, b⟩ := p
  obtain ⟨c, d⟩ := q
  show PyData.eqvAll [.int a, .int b] [.int c, .int d] = _
  simp only [PyData.eqvAll, eqv_int, Prod.ext_iff, Bool.and_true, Bool.decide_and]
theorem sh_dP (p : Pl) : SeqAt.shaped (dP p) = true := rfl
end Pk
namespace Pk
open PySem L2
def lp (p q : Pl) : Prop := p.1 < q.1 ∨ (p.1 = q.1 ∧ p.2 ≤ q.2)
instance : DecidableRel lp := fun p q => inferInstanceAs (Decidable (p.1 < q.1 ∨ (p.1 = q.1 ∧ p.2 ≤ q.2)))
theorem lp_trans {p q r : Pl} (h : lp p q) (k : lp q r) : lp p r := by unfold lp at *; omega
theorem lp_total (p q : Pl) : lp p q ∨ lp q p := by unfold lp; omega
theorem lp_anti {p q : Pl} (h : lp p q) (k : lp q p) : p = q := by
  unfold lp at *
  exact Prod.ext (by omega) (by omega)
def insP (p : Pl) : List Pl → List Pl
  | [] => [p]
  | q :: r => if lp p q then p :: q :: r else q :: insP p r
def sortP : List Pl → List Pl
  | [] => []
  | p :: r => insP p (sortP r)
theorem insP_perm (p : Pl) : ∀ r, (insP p r).Perm (p :: r)
  | [] => .refl _
  | q :: r => by
    unfold insP
    split
    · exact .refl _
    · exact ((insP_perm p r).cons q).trans (.swap p q r)
theorem sortP_perm : ∀ r, (sortP r).Perm r
  | [] => .nil
  | p :: r => (insP_perm p (sortP r)).trans ((sortP_perm r).cons p)
theorem insP_pw (p : Pl) : ∀ {r}, List.Pairwise lp r → (insP p r).Pairwise lp
  | [], _ => List.pairwise_singleton _ _
  | q :: r, h => by
    unfold insP
    have hq : ∀ {x}, x ∈ r → lp q x := fun m => List.rel_of_pairwise_cons h m
    split
    · rename_i c
      refine List.pairwise_cons.mpr ⟨fun x hx => ?_, h⟩
      rcases List.mem_cons.mp hx with e | hx
      · rw [e]; exact c
      · exact lp_trans c (hq hx)
    · rename_i c
      refine List.pairwise_cons.mpr ⟨fun x hx => ?_, insP_pw p (List.Pairwise.of_cons h)⟩
      rcases List.mem_cons.mp ((insP_perm p r).mem_iff.mp hx) with e | hx
      · rw [e]; exact (lp_total p q).resolve_left c
      · exact hq hx
theorem sortP_pw : ∀ r, (sortP r).Pairwise lp
  | [] => .nil
  | p :: r => insP_pw p (sortP_pw r)
theorem pw_uniq : ∀ {a b : List Pl}, a.Perm b → a.Pairwise lp → b.Pairwise lp → a = b
  | [], b, h, _, _ => h.nil_eq
  | p :: a, [], h, _, _ => absurd h.length_eq (by simp)
  | p :: a, q :: b, h, ha, hb => by
    have e : p = q := by
      rcases List.mem_cons.mp (h.mem_iff.mp List.mem_cons_self) with e | m
      · exact e
      · rcases List.mem_cons.mp (h.mem_iff.mpr List.mem_cons_self) with e | m'
        · exact e.symm
        · exact lp_anti (List.rel_of_pairwise_cons ha m') (List.rel_of_pairwise_cons hb m)
    subst e
    rw [pw_uniq ((List.perm_cons p).mp h) ha.of_cons hb.of_cons]
theorem sortP_of {a b : List Pl} (h : a.Perm b) (ha : a.Pairwise lp) : a = sortP b := pw_uniq (h.trans (sortP_perm b).symm) ha (sortP_pw b)
theorem sortP_mem {p : Pl} {r : List Pl} : p ∈ sortP r ↔ p ∈ r := (sortP_perm r).mem_iff
theorem sortP_len (r : List Pl) : (sortP r).length = r.length := (sortP_perm r).length_eq
theorem sortP_nd {r : List Pl} : (sortP r).Nodup ↔ r.Nodup := (sortP_perm r).nodup_iff
/-- each place once -/
def nub : List Pl → List Pl
  | [] => []
  | p :: r => if p ∈ r then nub r else p :: nub r
theorem nub_mem {p : Pl} : ∀ {r : List Pl}, p ∈ nub r ↔ p ∈ r
  | [] => Iff.rfl
  | q :: r => by
    unfold nub
    split
    · rename_i h
      rw [nub_mem (r := r), List.mem_cons]
      exact ⟨.inr, fun k => k.elim (fun e => by rw [e]; exact h) id⟩
    · rw [List.mem_cons, List.mem_cons, nub_mem (r := r)]
theorem nub_nd : ∀ r : List Pl, (nub r).Nodup
  | [] => .nil
  | p :: r => by
    unfold nub
    split
    · exact nub_nd r
    · rename_i h
      exact List.nodup_cons.mpr ⟨fun m => h (nub_mem.mp m), nub_nd r⟩
theorem nub_le : ∀ r : List Pl, (nub r).length ≤ r.length
  | [] => Nat.le_refl _
  | p :: r => by
    unfold nub
    have := nub_le r
    split
    · rw [List.length_cons]; omega
    · rw [List.length_cons, List.length_cons]; omega
theorem nub_lt : ∀ r : List Pl, (nub r).length < r.length ↔ ¬ r.Nodup
  | [] => by simp [nub]
  | p :: r => by
    have ih := nub_lt r
    have hl := nub_le r
    unfold nub
    rw [List.nodup_cons]
    split
    · rename_i h
      rw [List.length_cons]
      exact ⟨fun _ k => k.1 h, fun _ => by omega⟩
    · rename_i h
      rw [List.length_cons, List.length_cons, Nat.add_lt_add_iff_right, ih]
      exact ⟨fun k z => k z.2, fun k z => k ⟨h, z⟩⟩
/-- in order, each once -/
def marksP (r : List Pl) : List Pl := sortP (nub r)
theorem marksP_of {a r : List Pl} (hn : a.Nodup) (hm : ∀ p, p ∈ a ↔ p ∈ r) (ho : a.Pairwise lp) : a = marksP r :=
  sortP_of ((List.perm_ext_iff_of_nodup hn (nub_nd r)).mpr fun p => (hm p).trans nub_mem.symm) ho
theorem perm_lift {α β : Type} {f : α → β} {us vs : List β} (h : us.Perm vs) : ∀ L : List α, us = L.map f → ∃ L1 : List α, vs = L1.map f ∧ L1.Perm L := by
  induction h with
  | nil =>
    intro L e
    cases L with
    | nil => exact ⟨[], rfl, .nil⟩
    | cons b L => cases e
  | cons x _ ih =>
    intro L e
    cases L with
    | nil => cases e
    | cons b L =>
      injection e with e1 e2
      obtain ⟨L1, e3, p⟩ := ih L e2
      exact ⟨b :: L1, by rw [List.map_cons, e1, e3], p.cons b⟩
  | swap x y l =>
    intro L e
    match L, e with
    | b :: c :: L, e =>
      injection e with e1 e
      injection e with e2 e3
      exact ⟨c :: b :: L, by rw [List.map_cons, List.map_cons, e1, e2, e3], .swap b c L⟩
  | trans _ _ ih1 ih2 =>
    intro L e
    obtain ⟨L1, e1, p1⟩ := ih1 L e
    obtain ⟨L2, e2, p2⟩ := ih2 L1 e1
    exact ⟨L2, e2, p2.trans p1⟩
/-- a set of places stands at a -/
def SetOf (P : Program) (w : World) (H : Hp) (a : Addr) (ps : List Pl) : Prop := ∃ L : List (Addr × List Int), H a = some (SetTO P w a L) ∧
  (∀ x ∈ L, ∃ p ∈ ps, x.2 = [p.1, p.2] ∧ H x.1 = some (.tup [.int p.1, .int p.2])) ∧ ∀ p ∈ ps, [p.1, p.2] ∈ L.map (·.2)
section
variable {X : Cx} {pins : List (Addr × Obj)} {σ : St} {H : Hp} {s : Shared}
def toP (x : Addr × List Int) : Pl := (x.2.getD 0 0, x.2.getD 1 0)
theorem setOf_list {P : Program} {w : World} {a : Addr} {ps : List Pl} {L : List (Addr × List Int)}
    (h1 : ∀ x ∈ L, ∃ p ∈ ps, x.2 = [p.1, p.2] ∧ H x.1 = some (.tup [.int p.1, .int p.2])) (h2 : ∀ p ∈ ps, [p.1, p.2] ∈ L.map (·.2)) (nd : (L.map (·.2)).Nodup) :
    (L.map toP).Nodup ∧ ∀ p, p ∈ L.map toP ↔ p ∈ ps := by
  constructor
  · refine List.pairwise_map.mpr (List.Pairwise.imp_of_mem (fun {x y} hx hy ne e => ?_) (List.pairwise_map.mp nd))
    obtain ⟨p, _, ep, _⟩ := h1 x hx
    obtain ⟨q, _, eq, _⟩ := h1 y hy
    unfold toP at e
    rw [ep, eq] at e
    apply ne
    rw [ep, eq]
    have e1 : p.1 = q.1 := (Prod.mk.inj e).1
    have e2 : p.2 = q.2 := (Prod.mk.inj e).2
    rw [e1, e2]
  · intro p
    constructor
    · intro m
      obtain ⟨x, hx, rfl⟩ := List.mem_map.mp m
      obtain ⟨p, hp, ep, _⟩ := h1 x hx
      unfold toP
      rw [ep]
      exact hp
    · intro m
      obtain ⟨x, hx, e⟩ := List.mem_map.mp (h2 p m)
      refine List.mem_map.mpr ⟨x, hx, ?_⟩
      unfold toP
      rw [e]
      rfl
/-- set(xs), xs a list of places -/
def rSetP (K : PySem.W.Frag) (P : Program) (w : World) : List V → Hp → VK → Prop := fun xs H Q => ∃ (l : Addr) (vs : List V) (ps : List Pl), xs = [.ref l] ∧ SqL K H l vs ∧ Prs H vs ps ∧ ps.length < 64 ∧
  ∀ (H' : Hp) (a : Addr), H a = none → Same H H' → SetOf P w H' a ps → Q (.ref a) H'
theorem prs_ks {K : PySem.W.Frag} {vs : List V} {ps : List Pl} (h : Prs H vs ps) : ∃ ks : List (Addr × List Int), vs = ks.map (fun p => V.ref p.1) ∧ (∀ x ∈ ks, ∃ p ∈ ps, x.2 = [p.1, p.2] ∧ H x.1 = some (.tup [.int p.1, .int p.2])) ∧ ks.map (·.2) = ps.map (fun p => [p.1, p.2]) := by
  induction h with
  | nil => exact ⟨[], rfl, fun x hx => (nomatch hx), rfl⟩
  | @cons v p vs ps a _ ih =>
    obtain ⟨t, rfl, ht⟩ := a
    obtain ⟨ks, e, k, m⟩ := ih
    refine ⟨(t, [p.1, p.2]) :: ks, by rw [e]; rfl, fun x hx => ?_, by rw [List.map_cons, m]; rfl⟩
    rcases List.mem_cons.mp hx with z | z
    · subst z
      exact ⟨p, List.mem_cons_self, rfl, ht⟩
    · obtain ⟨q, hq, r⟩ := k x z
      exact ⟨q, List.mem_cons_of_mem _ hq, r⟩
theorem cr_setP (hc : X.calm = true) (hu : X.A.units + 64 < cLine) : CallR X (.type "set") (rSetP X.K X.prog X.w) := by
  intro pins s σ H xs us Q I r h
  obtain ⟨l, vs, ps, rfl, hl, hp, hn, q⟩ := h
  obtain ⟨ks, rfl, hk, hm⟩ := prs_ks (K := X.K) hp
  refine cr_setOfT hc hu pins s σ H [.ref l] us Q I r ⟨l, ks, rfl, hl, fun x hx => ?_, ?_, fun a L ha h1 h2 => ?_⟩
  · obtain ⟨p, _, e, k⟩ := hk x hx
    rw [e]
    exact SqT.of k
  · have e := congrArg List.length hm
    rw [List.length_map, List.length_map] at e
    omega
  · have sm : Same H (upd H a (SetTO X.prog X.w a L)) := fun b o e => by
      rw [upd_ne (ne_of_none e ha)]
      exact e
    refine q _ a ha sm ⟨L, upd_same, fun x hx => ?_, fun p hp => ?_⟩
    · obtain ⟨p, hp, e, k⟩ := hk x (h1 x hx)
      exact ⟨p, hp, e, sm _ _ k⟩
    · have m : [p.1, p.2] ∈ ks.map (·.2) := by
        rw [hm]
        exact List.mem_map.mpr ⟨p, hp, rfl⟩
      obtain ⟨x, hx, e⟩ := List.mem_map.mp m
      rw [← e]
      exact h2 x hx
/-- len(s), s a set of places -/
theorem call_lenP : CallR X (.builtin "len") (fun xs H Q => ∃ (a : Addr) (ps : List Pl), xs = [.ref a] ∧ SetOf X.prog X.w H a ps ∧ Q (.int (nub ps).length) H) := by
  intro pins s σ H xs us Q I r h
  obtain ⟨a, ps, rfl, ⟨L, ha, h1, h2⟩, q⟩ := h
  rw [Vals.ref1 r]
  have R0 : SetT0 X.prog X.w s.heap a L := (I.hok a _ ha).1
  obtain ⟨es, ep, t, R⟩ := R0.full fun x hx => by
    obtain ⟨p, _, e, k⟩ := h1 x hx
    have z : SqT X.K H x.1 (x.2.map V.int) := by rw [e]; exact SqT.of k
    exact I.isT z
  obtain ⟨o, ho, hex, hd⟩ := R.ob
  obtain ⟨n1, n2⟩ := setOf_list (P := X.prog) (w := X.w) (a := a) h1 h2 R0.ex.choose_spec.choose_spec.choose_spec.2.2.2.1
  have hl : L.length = (nub ps).length := by
    have z : (L.map toP).Perm (nub ps) := (List.perm_ext_iff_of_nodup n1 (nub_nd ps)).mpr fun p => (n2 p).trans nub_mem.symm
    have z2 := z.length_eq
    rw [List.length_map] at z2
    exact z2
  have hsz := R.size
  have hfew := R.few
  refine call_len_set ho hex hd R.fits (by omega) ⟨.int (nub ps).length, H, I.tok _, ⟨_, by rw [hsz, hl]⟩, q⟩
end
end Pk
namespace Pk
open PySem L2 PyProof.Rows
/-- what place a value stands for -/
def plAt (H : Hp) (v : V) : Pl := match v with
  | .ref t => (match H t with
    | some (.tup [.int a, .int b]) => (a, b)
    | _ => (0, 0))
  | _ => (0, 0)
theorem plAt_of {H : Hp} {v : V} {p : Pl} (h : Pr H v p) : plAt H v = p := by
  obtain ⟨t, rfl, h⟩ := h
  show (match H t with
    | some (.tup [.int a, .int b]) => (a, b)
    | _ => (0, 0)) = p
  rw [h]
theorem prs_plAt {H : Hp} {vs : List V} {ps : List Pl} (h : Prs H vs ps) : vs.map (plAt H) = ps := by
  induction h with
  | nil => rfl
  | cons a _ ih => rw [List.map_cons, ih, plAt_of a]
theorem prs_of_mem {H : Hp} : ∀ {ys : List V}, (∀ y ∈ ys, ∃ p, Pr H y p) → Prs H ys (ys.map (plAt H))
  | [], _ => .nil
  | y :: ys, h => by
    obtain ⟨p, hp⟩ := h y List.mem_cons_self
    refine .cons ?_ (prs_of_mem fun z hz => h z (List.mem_cons_of_mem _ hz))
    rw [plAt_of hp]
    exact hp
theorem prs_perm {H : Hp} {xs ys : List V} {ps : List Pl} (h : Prs H xs ps) (m : ys.Perm xs) : Prs H ys (ys.map (plAt H)) ∧ (ys.map (plAt H)).Perm ps := by
  refine ⟨prs_of_mem fun y hy => ?_, ?_⟩
  · obtain ⟨p, _, k⟩ := h.mem (m.mem_iff.mp hy)
    exact ⟨p, k⟩
  · have e := m.map (plAt H)
    rw [prs_plAt h] at e
    exact e
def rSortP (K : PySem.W.Frag) : List V → Hp → VK → Prop := fun vs H Q => ∃ (a : Addr) (xs : List V) (ps : List Pl), vs = [.ref a] ∧ SqL K H a xs ∧ Prs H xs ps ∧
  ∀ (p : Addr) (ys : List V), H p = none → Prs H ys (sortP ps) → Q (.ref p) (upd H p (.lst ys))
section
variable {X : Cx}
theorem call_sortP : CallR X (.builtin "sorted") (rSortP X.K) := by
  intro pins s σ H vs us Q I r h
  obtain ⟨a, xs, ps, rfl, hs, hp, q⟩ := h
  refine cr_sortedPO pins s σ H [.ref a] us Q I r ⟨a, xs, plAt H, rfl, hs, fun x hx => ?_, fun ys p h1 h2 hn => ?_⟩
  · obtain ⟨p, _, t, e, k⟩ := hp.mem hx
    refine ⟨t, e, ?_⟩
    have z : plAt H x = p := plAt_of ⟨t, e, k⟩
    rw [z]
    exact k
  · obtain ⟨k1, k2⟩ := prs_perm hp h2.perm
    have e : ys.map (plAt H) = sortP ps := sortP_of k2 (List.pairwise_map.mpr (List.Pairwise.imp (fun {x y} z => by
      have z1 : SrtO.lexB (plAt H y) (plAt H x) = false := z
      have z2 := SrtO.lexB_no.mp z1
      unfold lp
      omega) h1))
    rw [e] at k1
    exact q p ys hn k1
def rSortS (P : Program) (w : World) : List V → Hp → VK → Prop := fun vs H Q => ∃ (a : Addr) (ps : List Pl), vs = [.ref a] ∧ SetOf P w H a ps ∧
  ∀ (p : Addr) (ys : List V), H p = none → Prs H ys (marksP ps) → Q (.ref p) (upd H p (.lst ys))
theorem eachIs_map {α β : Type} {R : α → β → Prop} (f : β → α) : ∀ {bs : List β}, (∀ b ∈ bs, R (f b) b) → PySem.W.EachIs R (bs.map f) bs
  | [], _ => .nil
  | b :: bs, h => .cons (h b List.mem_cons_self) (eachIs_map f fun c hc => h c (List.mem_cons_of_mem _ hc))
theorem eachIs_back {α β : Type} {f : β → α} : ∀ {out : List α} {bs : List β}, PySem.W.EachIs (fun v b => v = f b) out bs → out = bs.map f
  | _, _, .nil => rfl
  | _, _, .cons e r => by rw [e, eachIs_back r]; rfl
theorem reads_two {h : Heap} {t : Addr} {a b : Int} (k : TS.TupInts h (.ref t) [a, b]) : ∃ as, Reads h (.ref t) (.tuple [.int a, .int b]) as ∧ as = [] := by
  obtain ⟨t', its, e, ⟨o, ho, hc, n, hd⟩, hi⟩ := k
  cases e
  generalize he : its.toList = l at hi
  cases hi with
  | cons _ t1 hi =>
    cases hi with
    | cons _ t2 hi =>
      cases hi
      exact ⟨[], .tuple ho hc hd (by rw [he]; exact .cons (.int _ _) (.cons (.int _ _) .nil)), rfl⟩
section
variable {P : Program} {w : World} {A : Around} {E : Value → Shared → Prop} {s : Shared}
theorem sorted_setP {a : Addr} {L : List (Addr × List Int)} {es : Array (Int × Value)} {ep : Nat} {t : SetTable} {Q : Value → Shared → Prop} (R : SetTR P w s.heap a L es ep t) (hh : A.handled = none) (hu : A.units + 64 < cLine)
    (hxy : ∀ b ∈ L, b.2 = [(toP b).1, (toP b).2])
    (hQ : ∀ (s' : Shared) (p : Addr) (out : Array Value) (c : Nat) (L' : List (Addr × List Int)), (∀ b o, s.heap.get? b = some o → s'.heap.get? b = some o) → s'.gens = s.gens → s'.os = s.os → s.heap.objs.size ≤ p →
      s'.heap.get? p = some (seqObj "list" out c) → out.toList = L'.map (fun q => Value.ref q.1) → L'.Perm L → L'.Pairwise (fun q r => lp (toP q) (toP r)) → Q (.ref p) s') :
    wpAny (model P w) A (call (.builtin "sorted") [.ref a]) Q E s := by
  obtain ⟨so, sho, shex, shd⟩ := R.ob
  have ssz := R.size
  have sfew := R.few
  have hcl : cLine = 10000 ∨ True := .inr trivial
  refine Calls.call_function_entry kind_sorted plain_sorted entry_sorted (args_sorted1 _) ?_
  unfold Builtin.«sorted»
  refine wpAny_bind (m := checkCount "sorted" 1 1 _) (wpAny_pure ?_)
  refine wpAny_bind (collect_set (A := A.in1) hh ⟨so, sho, shex.1, shd⟩ R.fits (by unfold scanBound; omega) R.tab.ris R.led fun s1 vs k1 z1 g1 o1 pm => ?_)
  have hes : es.toList.map (·.2) = L.map fun q => Value.ref q.1 := by
    rw [R.rows]
    unfold rowsOf
    rw [List.map_map]
    rfl
  rw [hes] at pm
  obtain ⟨L1, rfl, p1⟩ := perm_lift pm.symm L rfl
  have hvl : (L1.map fun q : Addr × List Int => Value.ref q.1).length < 64 := by
    rw [List.length_map, p1.length_eq]
    exact sfew
  refine wpAny_bind (wpAny_newList ?_ (by rw [sizeLine_eq]; omega))
  generalize hvs : (L1.map fun q : Addr × List Int => Value.ref q.1) = vs at *
  have hoL : (s1.heap.push (seqObj "list" vs.toArray 0)).get? s1.heap.objs.size = some (seqObj "list" vs.toArray 0) := Heap.get?_push_size _ rfl
  have tk : ∀ q ∈ L1, TS.TupInts (s1.heap.push (seqObj "list" vs.toArray 0)) (.ref q.1) [(toP q).1, (toP q).2] := fun q hq => by
    have hq' := p1.mem_iff.mp hq
    have z : TS.TupInts (s1.heap.push (seqObj "list" vs.toArray 0)) (.ref q.1) q.2 := tupInts_of (P := P) (w := w) (isT_keep (R.tup q hq') fun b u e => Heap.get?_push_of_some _ (k1 b u e))
    rw [hxy q hq'] at z
    exact z
  have er : PySem.W.EachIs (fun v (b : Addr × List Int) => ∃ as, Reads (s1.heap.push (seqObj "list" vs.toArray 0)) v (.tuple [.int (toP b).1, .int (toP b).2]) as ∧ s1.heap.objs.size ∉ as) vs L1 := by
    subst hvs
    refine eachIs_map _ fun b hb => ?_
    obtain ⟨as, k, e⟩ := reads_two (tk b hb)
    exact ⟨as, k, by rw [e]; simp⟩
  have ev : PySem.W.EachIs (fun v (b : Addr × List Int) => v = Value.ref b.1) vs L1 := by
    rw [← hvs]
    exact eachIs_map _ fun b _ => rfl
  refine wpAny_bind (wpAny_holding (PySem.W.list_sort_data (s := { s1 with heap := s1.heap.push (seqObj "list" vs.toArray 0) }) (enc := fun b : Addr × List Int => .tuple [.int (toP b).1, .int (toP b).2]) hoL ev er
    (PySem.W.AllAlike.of fun b b' => by rfl) (PySem.W.Sortable.tuples fun b => ⟨_, _, rfl⟩) ?_ (fun b _ => ?_) fun out ho he => ?_))
  · rw [← hvs, List.length_map] at hvl
    rw [sizeLine_eq]
    omega
  · have z : A.in1.units ≤ A.units + 3 := by
      unfold Around.in1
      simp
    show A.in1.units + 1 + 1 < cLine
    omega
  obtain ⟨c, hc⟩ := sortedHeap_at (vs := vs) (out := out.toArray) hoL
  have eo := eachIs_back he
  refine wpAny_pure ⟨_, rfl, hQ _ s1.heap.objs.size out.toArray c _ (fun b u e => ?_) g1 o1 z1 hc (by rw [List.toList_toArray]; exact eo) ((List.mergeSort_perm _ _).trans p1) ?_⟩
  · have q := k1 b u e
    have hlt := Heap.lt_size q
    show (sortedHeap _ s1.heap.objs.size vs out.toArray).get? b = some u
    rw [sortedHeap_old (Nat.ne_of_lt hlt) (by rw [size_push']; exact Nat.lt_succ_of_lt hlt)]
    exact Heap.get?_push_of_some _ q
  · rw [PySem.W.dataLe_ii]
    have z := List.pairwise_mergeSort (le := fun p q : Addr × List Int => decide ((toP p).1 < (toP q).1 ∨ ((toP p).1 = (toP q).1 ∧ (toP p).2 ≤ (toP q).2)))
      (fun a b c h1 h2 => decide_eq_true (by have k1 := of_decide_eq_true h1; have k2 := of_decide_eq_true h2; omega))
      (fun a b => by
        rw [Bool.or_eq_true, decide_eq_true_eq, decide_eq_true_eq]
        omega) L1
    exact List.Pairwise.imp (fun h => of_decide_eq_true h) z
end
theorem call_sortS (hc : X.calm = true) (hu : X.A.units + 64 < cLine) : CallR X (.builtin "sorted") (rSortS X.prog X.w) := by
  intro pins s σ H vs us Q I r h
  obtain ⟨a, ps, rfl, ⟨L, ha, h1, h2⟩, q⟩ := h
  rw [Vals.ref1 r]
  have R0 : SetT0 X.prog X.w s.heap a L := (I.hok a _ ha).1
  obtain ⟨es, ep, t, R⟩ := R0.full fun x hx => by
    obtain ⟨p, _, e, k⟩ := h1 x hx
    have z : SqT X.K H x.1 (x.2.map V.int) := by rw [e]; exact SqT.of k
    exact I.isT z
  obtain ⟨n1, n2⟩ := setOf_list (P := X.prog) (w := X.w) (a := a) h1 h2 R.nd
  have hxy : ∀ b ∈ L, b.2 = [(toP b).1, (toP b).2] := fun b hb => by
    obtain ⟨p, _, e, _⟩ := h1 b hb
    unfold toP
    rw [e]
    rfl
  refine sorted_setP R (I.ok.hd hc) hu hxy fun s' p out c L' kp kg ko hp hg hout pm pw => ?_
  have few := R.few
  have hl' : L'.length < 64 := by rw [pm.length_eq]; exact few
  have fresh : H p = none := I.hok.fresh hp
  have hz : (L'.map fun q => V.ref q.1).length ≤ sizeLine := by
    rw [List.length_map, sizeLine_eq]
    omega
  have hv : Vals (L'.map fun q => V.ref q.1) out.toList := by
    rw [hout]
    exact vals_of_refs L'
  have J : Inv X pins σ (upd H p (.lst (L'.map fun q => V.ref q.1))) { s with heap := s'.heap, gens := s'.gens, drawn := s'.drawn, toks := s'.toks } :=
    I.call (ch := []) (Un.laid kp hp fresh) (I.hok.laid kp hp ⟨hz, out.toList, c, hv, hg⟩) (by rw [kg]; exact I.bare) (fun _ z => nomatch z)
  have es' : s' = { s with heap := s'.heap, gens := s'.gens, drawn := s'.drawn, toks := s'.toks } := by
    obtain ⟨a1, a2, a3, a4, a5⟩ := s'
    obtain ⟨b1, b2, b3, b4, b5⟩ := s
    cases ko
    rfl
  rw [es']
  refine ⟨.ref p, _, J, rfl, q p _ fresh ?_⟩
  have e : L'.map toP = marksP ps := by
    refine marksP_of ((pm.map toP).nodup_iff.mpr n1) (fun p => ((pm.map toP).mem_iff).trans (n2 p)) (List.pairwise_map.mpr pw)
  rw [← e]
  have all : ∀ M : List (Addr × List Int), (∀ x ∈ M, x ∈ L) → Prs H (M.map fun q => V.ref q.1) (M.map toP) := by
    intro M
    induction M with
    | nil => intro _; exact .nil
    | cons x M ih =>
      intro hm
      obtain ⟨p, _, ep, k⟩ := h1 x (hm x List.mem_cons_self)
      refine .cons ⟨x.1, rfl, ?_⟩ (ih fun y hy => hm y (List.mem_cons_of_mem _ hy))
      rw [k]
      unfold toP
      rw [ep]
      rfl
  exact all L' fun x hx => pm.mem_iff.mp hx
end
end Pk
namespace Pk
open PySem L2 PySem.Spec PyProof.Rows
/-- the ends of a clause whose name stands in slot i: behind it the slot is empty -/
def asEnds (i : Nat) (D : Ends) : Ends := { nx := fun τ G => D.nx (τ.set i none) G, rt := D.rt, bk := fun τ G => D.bk (τ.set i none) G, ct := fun τ G => D.ct (τ.set i none) G }
abbrev Sui := Addr → Value → Option Addr → TS
/-- what the clauses wish of an error of the body -/
def wNext (K : PySem.W.Frag) (Wo : WX) (D : Ends) : List (Value × Option Nat × Sui) → WX
  | [] => Wo
  | (c, none, ts) :: more => fun cls d τ G => ∃ b, PySem.W.exmOne K cls c = some b ∧ (b = true → ∀ x, G x = none → ts x cls d D τ G) ∧ (b = false → wNext K Wo D more cls d τ G)
  | (c, some i, ts) :: more => fun cls d τ G => ∃ b, PySem.W.exmOne K cls c = some b ∧ (b = true → ∀ x, G x = none → ts x cls d (asEnds i D) (τ.set i (some (.ref x))) G) ∧ (b = false → wNext K Wo D more cls d τ G)
/-- try: the body's reading, its errors wished for as the clauses take them -/
def tTry (K : PySem.W.Frag) (Wo : WX) (l : List (Value × Option Nat × Sui)) (tb : WX → TS) : TS := fun D τ G => tb (wNext K Wo D l) D τ G
inductive Clauses (X : Cx) : List ExceptHandler → List (Value × Option Nat × Sui) → Prop
  | nil : Clauses X [] []
  | plain {x : Str} {c : Value} {ts : Sui} {s0 : Stmt} {su : List Stmt} {p1 p2 : Pos} {hs : List ExceptHandler} {l : List (Value × Option Nat × Sui)} (hc : Names X x c)
      (hsu : ∀ (a : Addr) (oe : Obj) (cls : Value) (d : Option Addr) (pn : List (Addr × Obj)), Zc cls d oe → (∃ vs, oe.data = .fields vs) → PSs (X.suite a ((a, oe) :: pn)) (s0 :: su) (ts a cls d)) (more : Clauses X hs l) :
      Clauses X (.ExceptHandler (some (.Name x p1)) none (s0 :: su) p2 :: hs) ((c, none, ts) :: l)
  | named {x n : Str} {i : Nat} {c : Value} {ts : Sui} {s0 : Stmt} {su : List Stmt} {p1 p2 : Pos} {hs : List ExceptHandler} {l : List (Value × Option Nat × Sui)} (hN : X.N.Nodup) (hi : X.N[i]? = some n) (hn : X.env.kindOf n = some .local) (hc : Names X x c)
      (hsu : ∀ (a : Addr) (oe : Obj) (cls : Value) (d : Option Addr) (pn : List (Addr × Obj)), Zc cls d oe → (∃ vs, oe.data = .fields vs) → PSs (X.suite a ((a, oe) :: pn)) (s0 :: su) (ts a cls d)) (more : Clauses X hs l) :
      Clauses X (.ExceptHandler (some (.Name x p1)) (some n) (s0 :: su) p2 :: hs) ((c, some i, ts) :: l)
section
variable {X : Cx} {body : List Stmt} {c0 : ExceptHandler} {cs : List ExceptHandler} {l : List (Value × Option Nat × Sui)} {pos : Pos} {tb : WX → TS} {Wo : WX}
theorem ps_try_next (hst : X.stack = X.env :: X.outer) (hfm : X.env.frame = some X.env.locals) (tk : Takes X Wo)
    (hbody : ∀ (W : WX) (pn : List (Addr × Obj)) (xe : Value → Shared → Prop), Takes (X.tr pn xe) W → PassesOwn (model X.prog X.w) X.A X.env xe → PSs (X.tr pn xe) body (tb W))
    (hcs : Clauses X (c0 :: cs) l) : PS X (.Try body (c0 :: cs) [] [] pos) (tTry X.K Wo l tb) := by
  refine ⟨fun pins s τ G D I hw => ?_⟩
  have kk := I.ok
  have hfrs : X.A.frames = some (X.env :: X.outer) := by rw [kk.frames, hst]
  let M := model X.prog X.w
  refine wpAny_Try_except ?_
  refine wpAny_mono ((hbody (wNext X.K Wo D l) (X.pn ++ pins) (fun e s₁ => wpAny M X.A (noteFrame e X.env) (fun _ s₂ => wpAny M X.A (setFlight e none) (fun _ s₃ => wpAny M X.A (handleBy e X.env (c0 :: cs)) (SP X pins D) X.xe s₃) X.xe s₂) X.xe s₁)
    (fun u s' xx => ?_) PassesOwn.looking).run [] s τ G D (I.toTry _) hw) (fun fl s1 hsp => ?_) (fun e s1 he => he)
  · obtain ⟨a, B, sI, pins', τ', G', cls, d, rfl, J0, nb, up, sky, na, hos, hag, wish⟩ := xx
    have J : Inv X pins τ' G' sI := J0.ofTry kk
    have sk : Sky B (X.env :: X.outer) a (Zc cls d) X.env.locals s'.heap := hst ▸ sky
    show wpAny M X.A (noteFrame (.ref a) X.env) _ _ _
    refine Sky.land Zc.steady hfrs hfm sk fun h3 fl3 up3 => ?_
    have J3 : Inv X pins τ' G' { s' with heap := h3 } := J.landed nb fl3.1 (up.trans up3) hos hag
    obtain ⟨oe3, vs3, he3, hz3, hd3⟩ := fl3.there
    have nfr : a ∉ frs (X.env :: X.outer) := fun hm => by
      obtain ⟨_, o', e', hnf⟩ := fl3.2.2.1.mem hm
      rw [he3] at e'
      cases e'
      exact hnf _ hd3
    have nL : a ≠ X.env.locals := fun z => nfr (List.mem_filterMap.mpr ⟨X.env, List.mem_cons_self, by rw [hfm, z]⟩)
    have nF : a ∉ X.fs := fun hm => by
      obtain ⟨e, he, q⟩ := List.mem_filterMap.mp hm
      exact nfr (List.mem_filterMap.mpr ⟨e, List.mem_cons_of_mem _ he, q⟩)
    have S3 := J3.suite he3 hd3 na nL nF
    have LT : PySem.W.Looks M h3 (typeOf (.ref a)) cls := fun A Q E s k q => wpAny_typeOf_ref (k _ _ he3) (by rw [hz3.1]; exact q)
    have test : ∀ {x : Str} {c : Value} {p1 : Pos} {Q : Value → Shared → Prop} {E : Value → Shared → Prop}, Names X x c → Q c { s' with heap := h3 } → wpAny M (X.A.mark (some (.ref a))) (eval (.Name x p1) X.env) Q E { s' with heap := h3 } :=
      fun {x c p1 Q E} hc q => by
        obtain ⟨hg, hdbg, hm | ⟨hm, hv, hnn⟩⟩ := hc
        · exact ld_glob (X := X.suite a ((a, oe3) :: (X.pn ++ pins))) S3 hg hm q hdbg
        · exact ld_blt (X := X.suite a ((a, oe3) :: (X.pn ++ pins))) S3 hg hm hv q hnn hdbg
    have each : ∀ {hs : List ExceptHandler} {l' : List (Value × Option Nat × Sui)}, Clauses X hs l' → wNext X.K Wo D l' cls d τ' G' → wpAny M X.A (handleBy (.ref a) X.env hs) (SP X pins D) X.xe { s' with heap := h3 } := by
      intro hs l' hk
      induction hk with
      | nil =>
        intro wish
        refine wpAny_handleBy_nil ?_
        obtain ⟨k1, k2, k3, oe, vs, T, oT, ts', he, hz, hd, hf1, hr⟩ := id fl3
        unfold PySem.passOn
        refine wpAny_bind (wpAny_field he hd hf1 ?_)
        rw [if_neg (show ¬ ((Value.ref T == Value.none) = true) from by simp)]
        have out : wpAny M X.A (setFlight (.ref a) X.env.frame) (fun _ s4 => wpAny M X.A (throw (.ref a) : Sem Flow) (SP X pins D) X.xe s4) X.xe { s' with heap := h3 } := by
          rw [hfm]
          refine HandSPX.setFlight_upZ fl3 fun h4 hh4 up4 => wpAny_throw (tk _ _ ?_)
          exact ⟨a, B, sI, pins, τ', G', cls, d, rfl, J, nb, (up.trans up3).trans up4, .inr (.inr (hst ▸ hh4)), na, hos, hag, wish⟩
        first
          | exact wpAny_bind (wpAny_pure (wpAny_bind out))
          | exact wpAny_bind out
      | plain hc hsu more ih =>
        intro wish
        obtain ⟨b, hb1, yes, no⟩ := wish
        refine wpAny_handleBy_cons (codeAny_handlers_test ?_) (by intro q; cases q)
        refine test hc ((PySem.W.exm_one (M := M) J3.kIn LT hb1).here ?_)
        cases b with
        | false => exact ih (no rfl)
        | true =>
          refine codeAny_handlers_suite (HandSPX.lands_againZ fl3 fun h4 fl4 up4 => ?_)
          have J4 : Inv X pins τ' G' { s' with heap := h4 } := J.landed nb fl4.1 ((up.trans up3).trans up4) hos hag
          obtain ⟨oe4, vs4, he4, hz4, hd4⟩ := fl4.there
          refine wpAny_mono ((hsu a oe4 cls d (X.pn ++ pins) hz4 ⟨_, hd4⟩).run [] _ _ G' _ (J4.suite he4 hd4 na nL nF) (yes rfl a na)) (fun f s6 hsp => ?_) (fun _ _ z => z.elim)
          cases f with
          | ret u =>
            obtain ⟨v6, τ6, G6, S6, r6, q6⟩ := hsp
            exact ⟨v6, τ6, G6, S6.unsuite kk, r6, q6⟩
          | next =>
            obtain ⟨τ6, G6, S6, q6⟩ := hsp
            exact ⟨τ6, G6, S6.unsuite kk, q6⟩
          | brk =>
            obtain ⟨τ6, G6, S6, q6⟩ := hsp
            exact ⟨τ6, G6, S6.unsuite kk, q6⟩
          | cont =>
            obtain ⟨τ6, G6, S6, q6⟩ := hsp
            exact ⟨τ6, G6, S6.unsuite kk, q6⟩
      | named hN hi hn hc hsu more ih =>
        intro wish
        obtain ⟨b, hb1, yes, no⟩ := wish
        refine wpAny_handleBy_cons (codeAny_handlers_test ?_) (by intro q; cases q)
        refine test hc ((PySem.W.exm_one (M := M) J3.kIn LT hb1).here ?_)
        cases b with
        | false => exact ih (no rfl)
        | true =>
          refine codeAny_handlers_suite_as (HandSPX.lands_againZ fl3 fun h4 fl4 up4 => ?_)
          have J4 : Inv X pins τ' G' { s' with heap := h4 } := J.landed nb fl4.1 ((up.trans up3).trans up4) hos hag
          obtain ⟨oe4, vs4, he4, hz4, hd4⟩ := fl4.there
          refine store_ok (X := X.suite a ((a, oe4) :: (X.pn ++ pins))) (v := .ref a) (J4.suite he4 hd4 na nL nF) hN hi (.inl hn) rfl (fun s5 S5 => ?_) (.inr hn)
          refine wpAny_mono ((hsu a oe4 cls d (X.pn ++ pins) hz4 ⟨_, hd4⟩).run [] s5 _ G' _ S5 (yes rfl a na)) (fun f s6 hsp => ?_) (fun _ _ z => z.elim)
          cases f with
          | ret u =>
            obtain ⟨v6, τ6, G6, S6, r6, q6⟩ := hsp
            exact gone_ok (S6.unsuite kk) hN hi hn fun s7 J7 => ⟨v6, _, G6, J7, r6, q6⟩
          | next =>
            obtain ⟨τ6, G6, S6, q6⟩ := hsp
            exact gone_ok (S6.unsuite kk) hN hi hn fun s7 J7 => ⟨_, G6, J7, q6⟩
          | brk =>
            obtain ⟨τ6, G6, S6, q6⟩ := hsp
            exact gone_ok (S6.unsuite kk) hN hi hn fun s7 J7 => ⟨_, G6, J7, q6⟩
          | cont =>
            obtain ⟨τ6, G6, S6, q6⟩ := hsp
            exact gone_ok (S6.unsuite kk) hN hi hn fun s7 J7 => ⟨_, G6, J7, q6⟩
    exact each hcs wish
  · cases fl with
    | ret u =>
      obtain ⟨v, τ', G', J', r, q⟩ := hsp
      exact ⟨v, τ', G', J'.ofTry kk, r, q⟩
    | next =>
      obtain ⟨τ', G', J', q⟩ := hsp
      exact wpAny_execs_nil ⟨τ', G', J'.ofTry kk, q⟩
    | brk =>
      obtain ⟨τ', G', J', q⟩ := hsp
      exact ⟨τ', G', J'.ofTry kk, q⟩
    | cont =>
      obtain ⟨τ', G', J', q⟩ := hsp
      exact ⟨τ', G', J'.ofTry kk, q⟩
end
end Pk
namespace Pk
open PySem L2 PySem.Spec PyProof.Rows
theorem Pr.over {H : Hp} {m : Addr} {zs ws : List V} {v : V} {p : Pl} (h : Pr H v p) (hm : H m = some (.lst zs)) : Pr (upd H m (.lst ws)) v p := by
  obtain ⟨t, rfl, h⟩ := h
  exact ⟨t, rfl, by rw [upd_ne (ne_of h hm (by intro z; cases z))]; exact h⟩
theorem Prs.over {H : Hp} {m : Addr} {zs ws vs : List V} {ps : List Pl} (h : Prs H vs ps) (hm : H m = some (.lst zs)) : Prs (upd H m (.lst ws)) vs ps := by
  induction h with
  | nil => exact .nil
  | cons a _ ih => exact .cons (a.over hm) ih
theorem Same.over {H0 H : Hp} {m : Addr} {o : HO} (k : Same H0 H) (n : H0 m = none) : Same H0 (upd H m o) := fun b u e => by
  rw [upd_ne (ne_of_none e n)]
  exact k b u e
end Pk
namespace Pk
open PySem L2 PySem.Spec PyProof.Rows
abbrev Tk := List L2.Key
/-- v is a tuple that holds k -/
def Kr (H : Hp) (v : V) (k : Tk) : Prop := ∃ t, v = .ref t ∧ H t = some (.tup (k.map kV))
theorem Kr.same {H H' : Hp} {v : V} {k : Tk} (h : Kr H v k) (z : Same H H') : Kr H' v k := by
  obtain ⟨t, rfl, h⟩ := h
  exact ⟨t, rfl, z _ _ h⟩
theorem Kr.over {H : Hp} {m : Addr} {zs ws : List V} {v : V} {k : Tk} (h : Kr H v k) (hm : H m = some (.lst zs)) : Kr (upd H m (.lst ws)) v k := by
  obtain ⟨t, rfl, h⟩ := h
  refine ⟨t, rfl, ?_⟩
  rw [upd_ne (ne_of h hm fun z => nomatch z)]
  exact h
inductive Krs (H : Hp) : List V → List Tk → Prop
  | nil : Krs H [] []
  | cons {v : V} {k : Tk} {vs : List V} {ks : List Tk} : Kr H v k → Krs H vs ks → Krs H (v :: vs) (k :: ks)
section
variable {H H' : Hp} {vs us : List V} {ks ls : List Tk}
theorem Krs.same (h : Krs H vs ks) (z : Same H H') : Krs H' vs ks := by
  induction h with
  | nil => exact .nil
  | cons a _ ih => exact .cons (a.same z) ih
theorem Krs.over {m : Addr} {zs ws : List V} (h : Krs H vs ks) (hm : H m = some (.lst zs)) : Krs (upd H m (.lst ws)) vs ks := by
  induction h with
  | nil => exact .nil
  | cons a _ ih => exact .cons (a.over hm) ih
theorem Krs.len (h : Krs H vs ks) : vs.length = ks.length := by
  induction h with
  | nil => rfl
  | cons a _ ih => exact congrArg (· + 1) ih
theorem Krs.app (h : Krs H vs ks) (g : Krs H us ls) : Krs H (vs ++ us) (ks ++ ls) := by
  induction h with
  | nil => exact g
  | cons a _ ih => exact .cons a ih
theorem Krs.snoc {v : V} {k : Tk} (h : Krs H vs ks) (g : Kr H v k) : Krs H (vs ++ [v]) (ks ++ [k]) := h.app (.cons g .nil)
theorem Krs.at (h : Krs H vs ks) : ∀ {i : Nat} {v : V}, vs[i]? = some v → ∃ k, ks[i]? = some k ∧ Kr H v k := by
  induction h with
  | nil => intro i v e; cases e
  | cons a _ ih =>
    intro i v e
    cases i with
    | zero => cases e; exact ⟨_, rfl, a⟩
    | succ i => exact ih e
theorem Krs.mem (h : Krs H vs ks) {v : V} (m : v ∈ vs) : ∃ k ∈ ks, Kr H v k := by
  induction h with
  | nil => cases m
  | cons a _ ih =>
    rcases List.mem_cons.mp m with e | m
    · subst e; exact ⟨_, List.mem_cons_self, a⟩
    · obtain ⟨k, hk, q⟩ := ih m
      exact ⟨k, List.mem_cons_of_mem _ hk, q⟩
/-- by their addresses -/
theorem Krs.split (h : Krs H vs ks) : ∃ L : List (Addr × Tk), vs = L.map (fun p => V.ref p.1) ∧ ks = L.map (·.2) ∧ ∀ p ∈ L, H p.1 = some (.tup (p.2.map kV)) := by
  induction h with
  | nil => exact ⟨[], rfl, rfl, fun p z => nomatch z⟩
  | cons a _ ih =>
    obtain ⟨t, rfl, e⟩ := a
    obtain ⟨L, rfl, rfl, q⟩ := ih
    refine ⟨(t, _) :: L, rfl, rfl, fun p hp => ?_⟩
    rcases List.mem_cons.mp hp with rfl | hp
    · exact e
    · exact q p hp
theorem krs_of {L : List (Addr × Tk)} (h : ∀ p ∈ L, H p.1 = some (.tup (p.2.map kV))) : Krs H (L.map fun p => V.ref p.1) (L.map (·.2)) := by
  induction L with
  | nil => exact .nil
  | cons p L ih => exact .cons ⟨p.1, rfl, h p List.mem_cons_self⟩ (ih fun q hq => h q (List.mem_cons_of_mem _ hq))
end
def kd : L2.Key → PyData
  | .inl i => .int i
  | .inr x => .str x
def dK (k : Tk) : PyData := .tuple (k.map kd)
def dKs (ks : List Tk) : PyData := .list (ks.map dK)
theorem eqv_kd (a b : L2.Key) : PyData.eqv (kd a) (kd b) = decide (a = b) := by
  cases a <;> cases b <;> simp only [kd, PyData.eqv, Sum.inl.injEq, Sum.inr.injEq, reduceCtorEq, decide_false] <;> first | rfl | (simp [PyData.eqv]; done) | skip
theorem eqvAll_kd : ∀ a b : Tk, PyData.eqvAll (a.map kd) (b.map kd) = decide (a = b)
  | [], [] => by simp [PyData.eqvAll]
  | [], _ :: _ => by simp [PyData.eqvAll]
  | _ :: _, [] => by simp [PyData.eqvAll]
  | p :: ps, q :: qs => by
    simp only [List.map_cons, PyData.eqvAll, eqv_kd, eqvAll_kd ps qs, List.cons.injEq]
    by_cases h1 : p = q <;> by_cases h2 : ps = qs <;> simp [h1, h2]
theorem eqv_dK (a b : Tk) : PyData.eqv (dK a) (dK b) = decide (a = b) := by
  unfold dK
  rw [PyData.eqv, eqvAll_kd]
instance (k : Tk) (ks : List Tk) : Decidable (k ∈ ks) := decidable_of_iff (ks.any (fun q => decide (q = k)) = true) (by simp)
theorem any_dK (ks : List Tk) (k : Tk) : ((ks.map dK).any fun z => PyData.eqv z (dK k)) = decide (k ∈ ks) := by
  induction ks with
  | nil => simp
  | cons q ks ih =>
    rw [List.map_cons, List.any_cons, ih, eqv_dK]
    by_cases h1 : q = k
    · subst h1; simp
    · have h2 : ¬ k = q := fun z => h1 z.symm
      simp [h1, h2]
theorem dp_keys {K : PySem.W.Frag} {H : Hp} : ∀ k : Tk, DpAll K H (k.map kV) (k.map kd)
  | [] => .nil
  | .inl i :: k => .cons (.int i) (dp_keys k)
  | .inr x :: k => .cons (.str x) (dp_keys k)
theorem Kr.dp {K : PySem.W.Frag} {H : Hp} {v : V} {k : Tk} (h : Kr H v k) : Dp K H v (dK k) := by
  obtain ⟨t, rfl, h⟩ := h
  exact .tup (SqT.of h) (dp_keys k)
theorem Krs.dps {K : PySem.W.Frag} {H : Hp} {vs : List V} {ks : List Tk} (h : Krs H vs ks) : DpAll K H vs (ks.map dK) := by
  induction h with
  | nil => exact .nil
  | cons a _ ih => exact .cons a.dp ih
theorem Krs.dl {K : PySem.W.Frag} {H : Hp} {l : Addr} {vs : List V} {ks : List Tk} (h : Krs H vs ks) (e : SqL K H l vs) : Dp K H (.ref l) (dKs ks) := .lst e h.dps
theorem depth_kds : ∀ k : Tk, PyData.depthAll (k.map kd) = 0
  | [] => rfl
  | .inl _ :: k => by
    show max 0 (PyData.depthAll (k.map kd)) = 0
    rw [depth_kds k]
    rfl
  | .inr _ :: k => by
    show max 0 (PyData.depthAll (k.map kd)) = 0
    rw [depth_kds k]
    rfl
/-- its texts are texts -/
def okk (k : Tk) : Bool := PyData.canLayAll0 (k.map kd)
theorem lay_dKs : ∀ ks : List Tk, (∀ k ∈ ks, okk k = true) → PyData.canLayAll0 (ks.map dK) = true
  | [], _ => rfl
  | k :: ks, h => by
    show (PyData.canLayAll0 (k.map kd) && PyData.canLayAll0 (ks.map dK)) = true
    rw [lay_dKs ks fun q hq => h q (List.mem_cons_of_mem _ hq), show PyData.canLayAll0 (k.map kd) = true from h k List.mem_cons_self]
    rfl
theorem depth_dKs : ∀ ks : List Tk, PyData.depthAll (ks.map dK) ≤ 1
  | [] => by show 0 ≤ 1; omega
  | k :: ks => by
    have ih := depth_dKs ks
    show max (PyData.depthAll (k.map kd) + 1) (PyData.depthAll (ks.map dK)) ≤ 1
    rw [depth_kds]
    omega
theorem sh_dK {k : Tk} (h : okk k = true) : SeqAt.shaped (dK k) = true := by
  unfold SeqAt.shaped dK
  rw [show PyData.canLay0 (.tuple (k.map kd)) = PyData.canLayAll0 (k.map kd) from rfl, show PyData.canLayAll0 (k.map kd) = true from h]
  refine decide_eq_true ?_
  show PyData.depthAll (k.map kd) + 1 ≤ 64
  rw [depth_kds]
  omega
theorem sh_dKs {ks : List Tk} (hk : ∀ k ∈ ks, okk k = true) : SeqAt.shaped (dKs ks) = true := by
  unfold SeqAt.shaped dKs
  rw [show PyData.canLay0 (.list (ks.map dK)) = PyData.canLayAll0 (ks.map dK) from rfl, lay_dKs ks hk]
  have h := depth_dKs ks
  refine decide_eq_true ?_
  show PyData.depthAll (ks.map dK) + 1 ≤ 64
  omega
end Pk
namespace Pk
open PySem L2 PySem.Spec PyProof.Rows
/-- where the texts stand -/
def shp (k : Tk) : List Bool := k.map fun x => match x with
  | .inl _ => false
  | .inr _ => true
def leK : Tk → Tk → Bool := PySem.W.dataLe false dK
def sortK (ks : List Tk) : List Tk := ks.mergeSort leK
theorem sortK_perm (ks : List Tk) : (sortK ks).Perm ks := List.mergeSort_perm _ _
theorem alike_kd : ∀ a b : Tk, shp a = shp b → PySem.W.alikeAll (a.map kd) (b.map kd) = true
  | [], [], _ => by simp [PySem.W.alikeAll]
  | [], _ :: _, h => by simp [shp] at h
  | _ :: _, [], h => by simp [shp] at h
  | x :: a, y :: b, h => by
    have h2 : shp a = shp b := by
      unfold shp at h ⊢
      simp only [List.map_cons, List.cons.injEq] at h
      exact h.2
    rw [List.map_cons, List.map_cons, PySem.W.alikeAll, alike_kd a b h2]
    unfold shp at h
    simp only [List.map_cons, List.cons.injEq] at h
    cases x <;> cases y <;> simp at h <;> simp [kd, PySem.W.alike]
theorem alike_dK {a b : Tk} (h : shp a = shp b) : PySem.W.alike (dK a) (dK b) = true := by
  unfold dK
  rw [PySem.W.alike]
  exact alike_kd a b h
theorem reads_keys {h : Heap} : ∀ (k : Tk) {its : List Value}, Vals (k.map kV) its → ReadsAll h its (k.map kd) []
  | [], _, .nil => .nil
  | .inl i :: k, _, .cons r t => by
    obtain ⟨u, rfl⟩ := (show ∃ u, _ = Value.int i u from r)
    exact .cons (.int i u) (reads_keys k t)
  | .inr x :: k, _, .cons r t => by
    obtain ⟨u, rfl⟩ := (show ∃ u, _ = Value.str x u from r)
    exact .cons (.str x u) (reads_keys k t)
theorem reads_k {P : Program} {w : World} {H : Hp} {h : Heap} {t : Addr} {k : Tk} (ok : HOk P w H h) (e : H t = some (.tup (k.map kV))) : Reads h (.ref t) (dK k) [] := by
  obtain ⟨_, its, r, o, ho, hc, n, hd⟩ := (show ObjOk P w H h t (.tup (k.map kV)) from ok t _ e)
  exact .tuple ho hc hd (reads_keys k (by simpa using r))
theorem each_map {α β : Type} {R : α → β → Prop} (f : β → α) : ∀ {bs : List β}, (∀ b ∈ bs, R (f b) b) → PySem.W.EachIs R (bs.map f) bs
  | [], _ => .nil
  | b :: bs, h => .cons (h b List.mem_cons_self) (each_map f fun c hc => h c (List.mem_cons_of_mem _ hc))
theorem refs_vals (L : List (Addr × Tk)) : Vals (L.map fun p => V.ref p.1) (L.map fun p => Value.ref p.1) := by
  induction L with
  | nil => exact .nil
  | cons p L ih => exact .cons rfl ih
theorem sort_pairs (L : List (Addr × Tk)) : (L.mergeSort (PySem.W.dataLe false fun b => dK b.2)).map (·.2) = sortK (L.map (·.2)) := List.map_mergeSort fun a _ b _ => rfl
/-- the order sorts: all alike, none empty -/
def Fit (ks : List Tk) : Prop := ∃ sh : List Bool, sh ≠ [] ∧ ∀ k ∈ ks, shp k = sh
theorem Fit.alike {L : List (Addr × Tk)} (h : Fit (L.map (·.2))) : PySem.W.AllAlike (L.map fun b => dK b.2) := by
  obtain ⟨sh, _, q⟩ := h
  intro d hd d' hd'
  obtain ⟨b, hb, rfl⟩ := List.mem_map.mp hd
  obtain ⟨c, hc, rfl⟩ := List.mem_map.mp hd'
  exact alike_dK ((q _ (List.mem_map_of_mem hb)).trans (q _ (List.mem_map_of_mem hc)).symm)
theorem Fit.sortable {L : List (Addr × Tk)} (h : Fit (L.map (·.2))) : PySem.W.Sortable (L.map fun b => dK b.2) := .inl fun d hd => by
  obtain ⟨sh, q0, q⟩ := h
  obtain ⟨b, hb, rfl⟩ := List.mem_map.mp hd
  have e := q _ (List.mem_map_of_mem hb)
  cases hk : b.2 with
  | nil =>
    have hk2 : (b.2 : Tk) = [] := hk
    rw [show shp ((fun x : Addr × Tk => x.2) b) = shp b.2 from rfl, hk2] at e
    exact absurd e.symm q0
  | cons x r => exact ⟨kd x, r.map kd, rfl⟩
theorem depth_dK (k : Tk) : (dK k).depth = 1 := by
  show PyData.depthAll (k.map kd) + 1 = 1
  rw [depth_kds]
section
variable {X : Cx}
def rSortDT : List V → Hp → VK → Prop := fun vs H Q => ∃ (a : Addr) (kvs : List (Tk × V)), vs = [.ref a] ∧ Rd H a (.dT kvs) ∧ Fit (kvs.map (·.1)) ∧
  ∀ (p : Addr) (ys : List V), H p = none → Krs H ys (sortK (kvs.map (·.1))) → Q (.ref p) (upd H p (.lst ys))
theorem call_sortDT (hc : X.calm = true) (hu : X.A.units + 64 < cLine) : CallR X (.builtin "sorted") rSortDT := by
  intro pins s σ H vs us Q I r h
  obtain ⟨a, kvs, rfl, hd, hf, q⟩ := h
  rw [Vals.ref1 r]
  obtain ⟨z, lo, es0, pr, o, es, ep, ho, hx, hdt, he, hn⟩ := (show ObjOk X.prog X.w H s.heap a (.dT kvs) from hd.ok I.hok)
  have l1 : es.size = es0.length := size_of_entries he
  have l2 : kvs.length = es0.length := Paired.length pr
  refine Calls.call_function_entry PyProof.Rows.kind_sorted PyProof.Rows.plain_sorted PyProof.Rows.entry_sorted (PyProof.Rows.args_sorted1 _) ?_
  unfold Builtin.«sorted»
  refine wpAny_bind (m := checkCount "sorted" 1 1 _) (wpAny_pure ?_)
  refine wpAny_bind (PySem.W.kdu_collect (A := X.A.in1) (kdl_raw lo hx hdt) (I.ok.hd hc) ho (by omega) fun h' tk acc hk hacc => ?_)
  -- what was collected: the keys' addresses
  have ea : acc.toList = es0.map fun x => Value.ref x.2.1 := by
    have hl : acc.toList.length = es0.length := by rw [Array.length_toList, hacc.1]; exact l1
    refine List.ext_getElem? fun j => ?_
    rw [List.getElem?_map]
    cases hj : acc.toList[j]? with
    | none =>
      have h1 := List.getElem?_eq_none_iff.mp hj
      rw [List.getElem?_eq_none (by omega)]
      rfl
    | some v =>
      obtain ⟨en, hen, hv⟩ := hacc.2 j v (by rw [← Array.getElem?_toList]; exact hj)
      have qe := entry_at he j
      rw [hen] at qe
      cases hb : es0[j]? with
      | none =>
        rw [hb] at qe
        exact nomatch (show some en = none from qe)
      | some b =>
        rw [hb] at qe
        have e2 : en = entryOfKey (tupleKind (mixKind X.prog X.w)) b := Option.some.inj qe
        rw [hv, e2]
        rfl
  obtain ⟨L, eL1, eL2, hL⟩ : ∃ L : List (Addr × Tk), (es0.map fun x => Value.ref x.2.1) = L.map (fun p => Value.ref p.1) ∧ kvs.map (·.1) = L.map (·.2) ∧ ∀ p ∈ L, H p.1 = some (.tup (p.2.map kV)) := by
    clear ea hacc he l1 l2 q hf hd
    induction pr with
    | nil => exact ⟨[], rfl, rfl, fun p z => nomatch z⟩
    | cons h1 _ ih =>
      obtain ⟨L, e1, e2, e3⟩ := ih (by simp at z; omega) (by simp at hn; exact hn.2)
      rename_i p0 q0 _ _ _
      refine ⟨(q0.2.1, p0.1) :: L, by rw [List.map_cons, List.map_cons, e1], by rw [List.map_cons, List.map_cons, e2], fun p hp => ?_⟩
      rcases List.mem_cons.mp hp with rfl | hp
      · exact h1.2.1
      · exact e3 p hp
  rw [eL1] at ea
  rw [eL2] at hf q
  have hlen0 : L.length ≤ sizeLine := by
    have e := congrArg List.length eL2
    rw [List.length_map, List.length_map] at e
    omega
  have I1 : Inv X pins σ H { s with heap := h', toks := tk } := I.kept hk
  rw [ea]
  refine wpAny_bind (wpAny_newList ?_ (by rw [List.length_map]; exact hlen0))
  have hoL : (h'.push (seqObj "list" (L.map fun p => Value.ref p.1).toArray 0)).get? h'.objs.size = some (seqObj "list" (L.map fun p => Value.ref p.1).toArray 0) := Heap.get?_push_size _ rfl
  show wpAny _ _ _ _ _ { s with heap := h'.push (seqObj "list" (L.map fun p => Value.ref p.1).toArray 0), toks := tk }
  have ok2 : HOk X.prog X.w H (h'.push (seqObj "list" (L.map fun p => Value.ref p.1).toArray 0)) := I1.hok.kept fun b u e => Heap.get?_push_of_some _ e
  refine wpAny_bind (wpAny_holding (PySem.W.list_sort_data (s := { s with heap := h'.push (seqObj "list" (L.map fun p => Value.ref p.1).toArray 0), toks := tk }) (bs := L) (enc := fun b : Addr × Tk => dK b.2) (R := fun v b => v = Value.ref b.1)
    hoL (each_map _ fun b _ => rfl) (each_map _ fun b hb => ⟨[], reads_k ok2 (hL b hb), by simp⟩) hf.alike hf.sortable hlen0 (fun b _ => ?_) fun out hout eo => ?_))
  · have z1 : X.A.in1.units ≤ X.A.units + 3 := by
      unfold Around.in1
      simp
    show X.A.in1.units + 1 + (dK b.2).depth < cLine
    rw [depth_dK]
    omega
  have eo2 := eachIs_back eo
  obtain ⟨c, hcc⟩ := PyProof.Rows.sortedHeap_at (vs := L.map fun p => Value.ref p.1) (out := out.toArray) hoL
  have hlen : ((L.mergeSort (PySem.W.dataLe false fun b => dK b.2)).map fun p => V.ref p.1).length ≤ sizeLine := by
    rw [List.length_map, (List.mergeSort_perm _ _).length_eq]
    exact hlen0
  refine wpAny_pure ⟨_, rfl, .ref h'.objs.size, upd H h'.objs.size (.lst ((L.mergeSort (PySem.W.dataLe false fun b => dK b.2)).map fun p => V.ref p.1)), I1.laid (t' := tk) (fun b u e => ?_) (Nat.le_refl _)
    ⟨hlen, out, c, by rw [eo2]; exact refs_vals _, hcc⟩, rfl, q _ _ (I1.hok.fresh (Nat.le_refl _)) ?_⟩
  · have lt : b < h'.objs.size := Heap.lt_size e
    rw [PyProof.Rows.sortedHeap_old (Nat.ne_of_lt lt) (by rw [size_push']; exact Nat.lt_succ_of_lt lt)]
    exact Heap.get?_push_of_some _ e
  · rw [← sort_pairs]
    exact krs_of fun p hp => hL p ((List.mergeSort_perm _ _).mem_iff.mp hp)
end
end Pk
namespace Pk
open PySem L2 PySem.Spec PyProof.Rows GxR NdefX
structure Kp (H H' : Hp) : Prop where
  at_ : ∀ b o, H b = some o → (∀ ps, o ≠ .tbl ps) → H' b = some o
  tab : ∀ P, TabG H P → TabG H' P
theorem kpS {H H' : Hp} (h : Same H H') : Kp H H' := ⟨fun b o e _ => h b o e, fun P ⟨ps, e, t⟩ => ⟨ps, h _ _ e, t⟩⟩
theorem Kp.refl (H : Hp) : Kp H H := kpS (Same.refl H)
theorem Kp.trans {H H1 H2 : Hp} (a : Kp H H1) (b : Kp H1 H2) : Kp H H2 := ⟨fun c o e n => b.at_ c o (a.at_ c o e n) n, fun P h => b.tab P (a.tab P h)⟩
theorem Tabbed.kp {P : Addr} {H H' : Hp} (h : Tabbed P H H') (t : TabG H P) : Kp H H' := by
  obtain ⟨ps, e0, t0⟩ := t
  refine ⟨fun b o e n => ?_, fun P' ⟨qs, e, t'⟩ => ?_⟩
  · rw [h.2 b fun z => by rw [z, e0] at e; exact n ps (Option.some.inj e).symm]
    exact e
  · by_cases z : P' = P
    · rw [z]
      exact h.1
    · exact ⟨qs, by rw [h.2 _ z]; exact e, t'⟩
section
variable {H H' : Hp}
theorem Kp.ins (k : Kp H H') {b C dx : Addr} {fs : List (Str × V)} (e : H b = some (.ins C dx fs)) : H' b = some (.ins C dx fs) := k.at_ _ _ e fun _ z => nomatch z
theorem Kp.lst (k : Kp H H') {b : Addr} {xs : List V} (e : H b = some (.lst xs)) : H' b = some (.lst xs) := k.at_ _ _ e fun _ z => nomatch z
theorem Kp.tup (k : Kp H H') {b : Addr} {xs : List V} (e : H b = some (.tup xs)) : H' b = some (.tup xs) := k.at_ _ _ e fun _ z => nomatch z
theorem Kp.dT (k : Kp H H') {b : Addr} {kvs : List (Tk × V)} (e : H b = some (.dT kvs)) : H' b = some (.dT kvs) := k.at_ _ _ e fun _ z => nomatch z
theorem Kp.frz (k : Kp H H') {b : Addr} {o : Obj} {u : HO} (e : H b = some (.frz o u)) : H' b = some (.frz o u) := k.at_ _ _ e fun _ z => nomatch z
theorem Kp.seq {K : PySem.W.Frag} (k : Kp H H') {a : Addr} {xs : List V} (h : SqL K H a xs) : SqL K H' a xs := by
  rcases h with (h | ⟨o, h⟩) | h
  · exact .inl (.inl (k.lst h))
  · exact .inl (.inr ⟨o, k.frz h⟩)
  · exact .inr h
theorem Kp.free (k : Kp H H') {l : Addr} (h : H' l = none) : H l = none ∨ ∃ ps, H l = some (.tbl ps) := by
  cases q : H l with
  | none => exact .inl rfl
  | some o =>
    by_cases t : ∃ ps, o = .tbl ps
    · obtain ⟨ps, rfl⟩ := t
      exact .inr ⟨ps, rfl⟩
    · rw [k.at_ _ _ q fun ps z => t ⟨ps, z⟩] at h
      cases h
theorem Kr.kp {v : V} {x : Tk} (h : Kr H v x) (k : Kp H H') : Kr H' v x := by
  obtain ⟨t, rfl, h⟩ := h
  exact ⟨t, rfl, k.tup h⟩
theorem Krs.kp {vs : List V} {ks : List Tk} (h : Krs H vs ks) (k : Kp H H') : Krs H' vs ks := by
  induction h with
  | nil => exact .nil
  | cons a _ ih => exact .cons (a.kp k) ih
theorem Pr.kp {v : V} {p : Pl} (h : Pr H v p) (k : Kp H H') : Pr H' v p := by
  obtain ⟨t, rfl, h⟩ := h
  exact ⟨t, rfl, k.tup h⟩
theorem Prs.kp {vs : List V} {ps : List Pl} (h : Prs H vs ps) (k : Kp H H') : Prs H' vs ps := by
  induction h with
  | nil => exact .nil
  | cons a _ ih => exact .cons (a.kp k) ih
end
structure FunC (K : PySem.W.Frag) (x qual : Str) (st : Stmt) (f c : Addr) (fd : FuncData) : Prop where
  ex : ∃ (oc : Value) (od : Option Addr) (kV doc pm : Value) (an : Option Addr) (ct : Value) (osl : Array (Option Value)),
    fd = PySem.W.fnOf x qual (defArgs st) (defBody st) (defScope st) .none kV doc pm an (.ref c) ct ∧ K.lookup f = some ⟨oc, od, .func fd, osl⟩ ∧ PySem.W.codeIn K (.ref c) qual = true
  kp : PySem.W.keepIn K (.ref f) = true
section
variable {P : Program} {w : World} {K : PySem.W.Frag} {mg : Str → Option Value} {base : Heap}
theorem FunC.ok {x qual : Str} {st : Stmt} {f c : Addr} {fd : FuncData} {N ps : List Str} {k : Nat} {sp : Sp} (F : FunC K x qual st f c fd) (S : FnScope N ps (defScope st)) (len : ∀ vs H Q E, sp vs H Q E → vs.length = ps.length)
    (hbody : ∀ (A : Around) (outer : List Env) (s : Shared) (H : Hp) (vs : List V) (Q : VK) (E : XK), Room k (A.deeper (envOfC qual (defScope st) s.heap.objs.size f (.ref c))) → sp vs H Q E →
      ∃ t, PSs (cxOf CX0 P w K mg base N qual (defScope st) f (.ref c) A outer s H E).nox (defBody st) t ∧ t { nx := fun _ H' => Q .non H', rt := Q } (start N vs) H) : FnOk P w K mg base CX0 (k + 1) f fd ps sp := by
  obtain ⟨oc, od, kV, doc, pm, an, ct, osl, rfl, lk, hcd⟩ := F.ex
  refine fn_of lk hcd S len fun A outer s H vs Q E hr h => ?_
  obtain ⟨t, z, q⟩ := hbody A outer s H vs Q E hr h
  exact ⟨t, z.nox, q⟩
theorem FunC.okX {x qual : Str} {st : Stmt} {f c : Addr} {fd : FuncData} {N ps : List Str} {k : Nat} {sp : Sp} (F : FunC K x qual st f c fd) (S : FnScope N ps (defScope st)) (len : ∀ vs H Q E, sp vs H Q E → vs.length = ps.length)
    (hbody : ∀ (A : Around) (outer : List Env) (s : Shared) (H : Hp) (vs : List V) (Q : VK) (E : XK), Room k (A.deeper (envOfC qual (defScope st) s.heap.objs.size f (.ref c))) → sp vs H Q E →
      ∃ t, PSs (cxOf (L2.CX P w) P w K mg base N qual (defScope st) f (.ref c) A outer s H E) (defBody st) t ∧ t { nx := fun _ H' => Q .non H', rt := Q } (start N vs) H) : FnOk P w K mg base (L2.CX P w) (k + 1) f fd ps sp := by
  obtain ⟨oc, od, kV, doc, pm, an, ct, osl, rfl, lk, hcd⟩ := F.ex
  exact fn_of lk hcd S len fun A outer s H vs Q E hr h => hbody A outer s H vs Q E hr h
end
def gscC (outer sc : Scope) : Bool := (match sc.kind with | .function => true | _ => false) && !sc.isCoroutine && (match sc.names.lookup (".0" : Str) with | some .local => true | _ => false) &&
  (sc.names.all fun y => match y.2 with
    | .cell => false
    | .free => (match outer.names.lookup y.1 with | some .cell => true | _ => false)
    | _ => true)
theorem gsc_by {env : Env} {outer sc : Scope} (ho : env.scope = outer) (hc : env.cells = cellsFrom (env.locals + 1) env.scope.names []) (h : gscC outer sc = true) : GSc env sc := by
  subst ho
  unfold gscC at h
  simp only [Bool.and_eq_true, List.all_eq_true] at h
  obtain ⟨⟨⟨h1, h2⟩, h3⟩, h4⟩ := h
  refine ⟨?_, by simpa using h2, fun y hy e => ?_, ?_, fun y hy e => ?_⟩
  · split at h1
    · assumption
    · cases h1
  · have q := h4 y hy
    rw [e] at q
    cases q
  · split at h3
    · assumption
    · cases h3
  · have q := h4 y hy
    rw [e] at q
    have q2 : (match env.scope.names.lookup y.1 with | some .cell => true | _ => false) = true := q
    split at q2
    · rename_i z
      rw [hc]
      exact cell_has z
    · cases q2
def gfrC (XN : List Str) (outer sc : Scope) (N : List Str) (fr : List (Option Nat)) : Bool := decide (fr.length = N.length) && ((N.zip fr).all fun p => match p.2 with
  | none => true
  | some j => (match sc.names.lookup p.1 with | some .free => true | _ => false) && decide (XN[j]? = some p.1) && (match outer.names.lookup p.1 with | some .cell => true | _ => false))
theorem gfr_by {X : Cx} {outer sc : Scope} {XN N : List Str} {fr : List (Option Nat)} (ho : X.env.scope = outer) (hn : X.N = XN) (h : gfrC XN outer sc N fr = true) : GFr X sc N fr := by
  subst ho hn
  unfold gfrC at h
  simp only [Bool.and_eq_true, List.all_eq_true, decide_eq_true_eq] at h
  obtain ⟨h1, h2⟩ := h
  refine ⟨h1, fun i y j e1 e2 => ?_⟩
  have m : (y, some j) ∈ N.zip fr := by
    refine List.mem_of_getElem? (i := i) ?_
    rw [List.getElem?_zip_eq_some]
    exact ⟨e1, e2⟩
  have q := h2 _ m
  simp only [Bool.and_eq_true, decide_eq_true_eq] at q
  obtain ⟨⟨q1, q2⟩, q3⟩ := q
  refine ⟨?_, q2, .inl ?_⟩
  · split at q1
    · assumption
    · cases q1
  · split at q3
    · assumption
    · cases q3
end Pk
namespace Pk
open PySem L2 PySem.Spec PyProof.Rows
theorem dcT_list {K : PySem.W.Frag} {a : Addr} {xs : List V} {g : TG} {tk tv : TE} {vs : List Nat} {σ : L2.St} {H1 : Hp} {D : Addr} {Qd : Hp → Prop} (Pv : Nat → Hp → Prop) (h0 : Pv 0 (upd H1 D (.dT []))) (hl : ∀ i H, i ≤ xs.length → Pv i H → SqL K H a xs)
    (hs : ∀ i x H, xs[i]? = some x → Pv i H → g x (wipe σ vs) H fun σ2 H2 => wipe σ2 vs = wipe σ vs ∧ tk σ2 H2 fun y H4 => tv σ2 H4 fun z H5 =>
      ∃ b kvs k, y = .ref b ∧ H5 b = some (.tup (k.map kV)) ∧ H5 D = some (.dT kvs) ∧ kvs.length < sizeLine ∧ Pv (i + 1) (upd H5 D (.dT (putK kvs k z)))) (hd : ∀ H, Pv xs.length H → Qd H) :
    ∃ W : Nat → Nat → Hp → Prop, (∃ m, W 0 m (upd H1 D (.dT []))) ∧ ∀ i m H, W i m H →
      ((Itl K a).stop i H ∧ Qd H) ∨ ((Itl K a).go i H ∧ ∃ Nx : Hp → Prop, (∀ H', Nx H' → ∃ m', m' < m ∧ W (i + 1) m' H') ∧
        ∀ x H', (Itl K a).yld i H x H' → g x (wipe σ vs) H' fun σ2 H2 => wipe σ2 vs = wipe σ vs ∧ tk σ2 H2 fun y H4 => tv σ2 H4 fun z H5 =>
          ∃ b kvs k, y = .ref b ∧ H5 b = some (.tup (k.map kV)) ∧ H5 D = some (.dT kvs) ∧ kvs.length < sizeLine ∧ Nx (upd H5 D (.dT (putK kvs k z)))) := by
  refine ⟨fun i m H => m = xs.length - i ∧ i ≤ xs.length ∧ Pv i H, ⟨xs.length, by simp, Nat.zero_le _, h0⟩, fun i m H w => ?_⟩
  obtain ⟨rfl, le, p⟩ := w
  have q := hl i H le p
  by_cases lt : i < xs.length
  · refine .inr ⟨⟨xs, xs[i], q, List.getElem?_eq_getElem lt⟩, Pv (i + 1), fun H' p' => ⟨xs.length - (i + 1), by omega, rfl, lt, p'⟩, fun x H' y => ?_⟩
    obtain ⟨rfl, y⟩ := y
    exact hs i x _ (y xs q) p
  · obtain rfl : i = xs.length := by omega
    exact .inl ⟨⟨xs, q, Nat.le_refl _⟩, hd H p⟩
theorem snoc_ind {α : Type} {P : List α → Prop} (h0 : P []) (h1 : ∀ l x, P l → P (l ++ [x])) (l : List α) : P l := by
  rw [← List.reverse_reverse l]
  induction l.reverse with
  | nil => exact h0
  | cons x r ih =>
    rw [List.reverse_cons]
    exact h1 _ _ ih
/-- laid one after another -/
def ded (ks : List Tk) : List (Tk × V) := ks.foldl (fun kvs k => putK kvs k (.bl true)) []
theorem ded_snoc (ks : List Tk) (k : Tk) : ded (ks ++ [k]) = putK (ded ks) k (.bl true) := by
  unfold ded
  rw [List.foldl_append]
  rfl
theorem ded_mem : ∀ (ks : List Tk) (k : Tk), (valV (ded ks) k).isSome = decide (k ∈ ks) := by
  intro ks
  refine snoc_ind (P := fun ks : List Tk => ∀ k : Tk, (valV (ded ks) k).isSome = decide (k ∈ ks)) (fun k => by simp [ded, valV_nil]) (fun ks x ih k => ?_) ks
  rw [ded_snoc, valV_put]
  by_cases h : k = x
  · subst h
    simp
  · rw [if_neg h, ih k]
    simp [h]
theorem ded_le (ks : List Tk) : (ded ks).length ≤ ks.length := by
  refine snoc_ind (P := fun ks : List Tk => (ded ks).length ≤ ks.length) (Nat.le_refl _) (fun ks x ih => ?_) ks
  rw [ded_snoc, List.length_append]
  have q := length_putK (ded ks) x (.bl true)
  show _ ≤ ks.length + 1
  omega
theorem putK_old {kvs : List (Tk × V)} {k : Tk} (v : V) (h : (valV kvs k).isSome = true) : (putK kvs k v).length = kvs.length := by
  unfold putK
  rw [if_pos (by rw [valV_any]; exact h), List.length_map]
theorem ded_eq (ks : List Tk) : (ks.Nodup → ded ks = ks.map fun k => (k, V.bl true)) ∧ (¬ ks.Nodup → (ded ks).length < ks.length) := by
  refine snoc_ind (P := fun ks : List Tk => (ks.Nodup → ded ks = ks.map fun k => (k, V.bl true)) ∧ (¬ ks.Nodup → (ded ks).length < ks.length)) ⟨fun _ => rfl, fun h => (h .nil).elim⟩ (fun ks x ih => ?_) ks
  obtain ⟨ih1, ih2⟩ := ih
  have le := ded_le ks
  by_cases hx : x ∈ ks
  · have hv : (valV (ded ks) x).isSome = true := by rw [ded_mem]; exact decide_eq_true hx
    refine ⟨fun h => ?_, fun _ => ?_⟩
    · have z := (List.nodup_append.mp h).2.2 x hx x (by simp)
      exact (z rfl).elim
    · rw [ded_snoc, putK_old _ hv, List.length_append]
      show _ < ks.length + 1
      omega
  · have hv : valV (ded ks) x = none := by
      have q := ded_mem ks x
      rw [decide_eq_false hx] at q
      cases e : valV (ded ks) x with
      | none => rfl
      | some y => rw [e] at q; cases q
    have step : ded (ks ++ [x]) = ded ks ++ [(x, .bl true)] := by rw [ded_snoc, putK_new _ hv]
    refine ⟨fun h => ?_, fun h => ?_⟩
    · rw [step, ih1 (List.nodup_append.mp h).1, List.map_append]
      rfl
    · have hn : ¬ ks.Nodup := fun z => h (List.nodup_append.mpr ⟨z, by simp, fun y hy y' hy' e => by
        rw [List.mem_singleton.mp hy'] at e
        rw [e] at hy
        exact hx hy⟩)
      have q := ih2 hn
      rw [step, List.length_append, List.length_append]
      show (ded ks).length + 1 < ks.length + 1
      omega
end Pk
namespace Pk
open PySem PySem.Spec PyProof.Rows L2
/-- the set as it is made -/
abbrev nuI (w : World) : Obj := { cls := .type "set", dict := none, data := .set #[] 0 (.fresh 0 0 (!w.params.followText "set-order")) }
/-- what set.__init__ leaves of the numbers -/
def LeftI (w : World) (s : Shared) (ns : List Int) (s2 : Shared) : Prop := ∃ h' tk c, s2 = { s with heap := h', toks := tk } ∧ SetR w h' s.heap.objs.size (fun j => decide (j ∈ ns)) c ∧ c ≤ ns.length ∧ ∀ b o, s.heap.get? b = some o → h'.get? b = some o
section
variable {P : Program} {w : World} {A : Around} {E : Value → Shared → Prop} {s : Shared} {ns : List Int}
theorem wide_ints {l : Addr} {items : Array Value} {Q : Value → Shared → Prop} (hh : A.handled = none) (hl : s.heap.IsList l items) (hit : IntsAre items.toList ns) (few : ns.length + 1 < scanBound)
    (h : ∀ s2, LeftI w s ns s2 → Q (.ref s.heap.objs.size) s2) : wpAny (model P w) A (call (.type "set") [.ref l]) Q E s := by
  have size : items.size = ns.length := by
    rw [← Array.length_toList, IntsAre.length hit]
  obtain ⟨c, tl, mro⟩ := F.called_set.mro
  have made' := F.called_set.made
  have sub' := F.called_set.sub
  have not' := F.called_set.notType
  have can' := F.called_set.canCreate
  have chk' := F.typeCall_set_1 (.ref l)
  refine wpAny_call (codeAny_of_tree ?_)
  show wpAny _ _ (callAny (.type "set") _) _ _ _
  refine wpAny_pure ⟨Code.quiet_builtin _ (by decide +kernel), codeAny_builtin F.entry_type_call ?_⟩
  rw [Around.under_plain (weight_type_call_type "set" [.ref l] []) rfl]
  repeat (any_goals (first | assumption | wp_step))
  refine codeAny_mono (code_set_led1 (.ref l) (E := E) (Q₁ := fun v s1 => v = .ref s.heap.objs.size ∧ s1 = { s with heap := s.heap.push (nuI w) }) ⟨rfl, rfl⟩) fun r s1 hr => ?_
  cases r with
  | error e => exact hr
  | ok fl =>
    cases fl with
    | ret obj =>
      obtain ⟨rfl, rfl⟩ := hr
      have at_ : (s.heap.push (nuI w)).get? s.heap.objs.size = some (nuI w) := Heap.get?_push_size _ rfl
      have isS : Shared.TypeIs { s with heap := s.heap.push (nuI w) } (.ref s.heap.objs.size) "set" := ⟨_, at_, rfl⟩
      have look' := F.called_set.init.lookup
      have bind' := F.called_set.init.bind (.ref s.heap.objs.size)
      repeat (any_goals (first | assumption | wp_step))
      refine codeAny_mono (codeAny_call_builtin (R := wants (fun r s2 => r = .none ∧ LeftI w s ns s2) E) F.called_set.init.plain F.entry_set_init (check_set_init_1 isS ?_)) fun r2 s2 hr2 => ?_
      · obtain ⟨⟨cl, di, da, sl⟩, ho, hc, n0, hd⟩ := hl
        cases (hc : cl = .type "list")
        cases (hd : da = .seq items n0)
        have ho1 := Heap.get?_push_of_some (nuI w) ho
        have il : (s.heap.push (nuI w)).IsList l items := ⟨_, ho1, rfl, n0, rfl⟩
        have a1 := F.sub_list_set
        have a2 := F.sub_list_frozenset
        have a3 : (Value.type "list" == Value.type "dict") = false := by decide
        unfold Builtin.«set.__init__» noKeywords Builtin.Frozenset.updateFrom
        generalize hy : pyIter = Y
        wp_walk
        subst hy
        refine wpAny_pyIter_list il (wpAny_bind (wpAny_runValue ?_))
        have ls : l < s.heap.objs.size := Heap.lt_size ho
        have sz : (s.heap.push (nuI w)).objs.size = s.heap.objs.size + 1 := Heap.size_push ..
        have calm : A.in1.in1.in1.handled = none := by simp [hh]
        have apart : l ≠ (s.heap.push (nuI w)).objs.size := Nat.ne_of_lt (by rw [sz]; exact Nat.lt_succ_of_lt ls)
        refine set_update_ints ((Walks.list calm _ l apart items).toS) s.heap.objs.size ?_ ns size few (fun i v hv => ?_) (items.size - 0) 0 _ (by omega) (Nat.zero_le _) ⟨⟨_, Heap.get?_push_size _ rfl, rfl, rfl⟩, il.push _⟩ ⟨0, Nat.le_refl 0, setR_new_at (Heap.get?_push_of_some _ at_)⟩ fun s3 c3 mv le3 f => ?_
        · rw [sz]
          simp only [List.mem_cons, List.not_mem_nil, or_false, not_or]
          exact ⟨Nat.ne_of_lt (Nat.lt_succ_self _), Nat.ne_of_gt ls⟩
        · have lt : i < ns.length := by
            rw [← size]
            exact (Array.getElem?_eq_some_iff.mp hv).1
          obtain ⟨t, e⟩ := IntsAre.int_at hit i v (by rw [Array.getElem?_toList]; exact hv)
          refine ⟨ns[i], t, List.getElem?_eq_getElem lt, ?_⟩
          rw [e, List.getD_eq_getElem?_getD, List.getElem?_eq_getElem lt]
          rfl
        · obtain ⟨h3, g3, d3, k3, o3⟩ := s3
          cases (mv.gens : g3 = s.gens)
          cases (mv.drawn : d3 = s.drawn)
          cases (mv.os : o3 = s.os)
          rw [size] at le3
          refine wpAny_pure ?_
          refine wpAny_pure ⟨rfl, h3, k3, c3, rfl, f, le3, fun b o z => ?_⟩
          have lb : b < s.heap.objs.size := Heap.lt_size z
          exact mv.heap b o (by rw [sz]; simp only [List.mem_cons, List.not_mem_nil, or_false, not_or]; exact ⟨Nat.ne_of_lt lb, Nat.ne_of_lt (Nat.lt_succ_of_lt lb)⟩) (Heap.get?_push_of_some _ (Heap.get?_push_of_some _ z))
      · cases r2 with
        | error e => exact hr2
        | ok fl2 =>
          cases fl2 with
          | ret r =>
            obtain ⟨rfl, lf⟩ := hr2
            repeat (any_goals (first | assumption | wp_step))
            exact h _ lf
          | _ => exact hr2.elim
    | _ => exact hr.elim
end
/-- set(xs) of at most 60 numbers -/
def rSetI (K : PySem.W.Frag) (w : World) : List V → Hp → VK → Prop := fun xs H Q => ∃ (l : Addr) (ns : List Int), xs = [.ref l] ∧ SqL K H l (ns.map V.int) ∧ ns.length ≤ 60 ∧
  ∀ (a : Addr) (c : Nat), H a = none → c ≤ ns.length → Q (.ref a) (upd H a (SetO w a (fun j => decide (j ∈ ns)) c))
section
variable {X : Cx}
theorem cr_setI (hc : X.calm = true) : CallR X (.type "set") (rSetI X.K X.w) := by
  intro pins s σ H xs us Q I r h
  obtain ⟨l, ns, rfl, hl, hn, q⟩ := h
  rw [Vals.ref1 r]
  obtain ⟨its, rv, pl, hz⟩ := I.list hl
  refine wide_ints (P := X.prog) (w := X.w) (ns := ns) (I.ok.hd hc) pl.isList (by simpa using Vals.ints rv) (by unfold scanBound; omega) ?_
  rintro s2 ⟨h2, tk, c, rfl, f, le, kp⟩
  exact ⟨.ref s.heap.objs.size, upd H s.heap.objs.size (SetO X.w s.heap.objs.size (fun j => decide (j ∈ ns)) c), I.laid (t' := tk) kp (Nat.le_refl _) (setO_new f), rfl, q _ c (I.hok.fresh (Nat.le_refl _)) le⟩
end
/-- ascending lists with the same numbers are the same -/
theorem rise_uniq : ∀ {a b : List Int}, a.Pairwise (· < ·) → b.Pairwise (· < ·) → (∀ k, k ∈ a ↔ k ∈ b) → a = b
  | [], [], _, _, _ => rfl
  | [], y :: b, _, _, h => absurd ((h y).mpr List.mem_cons_self) (by simp)
  | x :: a, [], _, _, h => absurd ((h x).mp List.mem_cons_self) (by simp)
  | x :: a, y :: b, ha, hb, h => by
    have hx := fun {z} (m : z ∈ a) => List.rel_of_pairwise_cons ha m
    have hy := fun {z} (m : z ∈ b) => List.rel_of_pairwise_cons hb m
    have e : x = y := by
      rcases List.mem_cons.mp ((h x).mp List.mem_cons_self) with z | z
      · exact z
      · rcases List.mem_cons.mp ((h y).mpr List.mem_cons_self) with z' | z'
        · exact z'.symm
        · have := hx z'
          have := hy z
          omega
    subst e
    rw [rise_uniq ha.of_cons hb.of_cons fun k => ?_]
    constructor
    · intro m
      rcases List.mem_cons.mp ((h k).mp (List.mem_cons_of_mem _ m)) with z | z
      · have := hx m
        omega
      · exact z
    · intro m
      rcases List.mem_cons.mp ((h k).mpr (List.mem_cons_of_mem _ m)) with z | z
      · have := hy m
        omega
      · exact z
end Pk
namespace Pk
open PySem L2 PySem.Spec PyProof.Rows
section
variable {X : Cx} {pos : Pos} {k v : Expr} {tk tv : TE}
def tDisp1T (tk tv : TE) : TE := fun σ H Q => ∀ D, H D = none → tk σ (upd H D (.dT [])) fun y H1 => tv σ H1 fun z H2 => ∃ (b : Addr) (c : List L2.Key), y = .ref b ∧ H2 b = some (.tup (c.map kV)) ∧ H2 D = some (.dT []) ∧ Q (.ref D) (upd H2 D (.dT [(c, z)]))
theorem pe_disp1T (hu : X.A.units < cLine) (hk : PE X k tk) (hv : PE X v tv) : PE X (.Dict [some k] [v] pos) (tDisp1T tk tv) := by
  refine ⟨fun pins s σ H Q I q => ?_⟩
  have hn := I.hok.fresh (Nat.le_refl s.heap.objs.size)
  have I1 := I.laid (a := s.heap.objs.size) (o := .dT []) (h' := s.heap.push { cls := .type "dict", data := .dict #[] }) (t' := s.toks) (fun _ _ q => Heap.get?_push_of_some _ q) (Nat.le_refl _) (dt_empty s.heap I.big)
  rw [arm_eval_Dict, zip_pairTrees [some k] [v] X.env pos rfl rfl, dictDisplay_pairs _ (by simp [pairTrees]) (by rw [pairTrees_length _ _ _ _ rfl rfl]; show 1 < 17; decide)]
  refine wpAny_bind (wpAny_standAt (wpAny_bind ?_))
  unfold subDict
  refine wpAny_bind (wpAny_alloc ?_)
  refine wpAny_bind (wpAny_holding ?_)
  rw [if_pos (by rw [pairTrees_length _ _ _ _ rfl rfl]; show 1 ≤ 15; decide)]
  refine wpAny_bind (wpAny_mono ((pps_cons hk hv pps_nil).run pins _ σ _ (fun ps H2 => match ps with
    | [(y, z)] => ∃ (b : Addr) (c : List L2.Key), y = .ref b ∧ H2 b = some (.tup (c.map kV)) ∧ H2 s.heap.objs.size = some (.dT []) ∧ Q (.ref s.heap.objs.size) (upd H2 s.heap.objs.size (.dT [(c, z)]))
    | _ => False) I1 (q _ hn)) (fun ws s2 z => ?_) fun _ _ e => e)
  · obtain ⟨ps, H2, I2, rel, hz⟩ := z
    match ps, hz with
    | [(y, z)], hz =>
    obtain ⟨b, c, rfl, hb, hD, q2⟩ := hz
    obtain ⟨⟨u, r⟩, rfl, ru, rr⟩ : ∃ p : Value × Value, ws = [p] ∧ RelV (.ref b) p.1 ∧ RelV z p.2 := by
      cases rel with
      | cons h t =>
        cases t
        exact ⟨_, rfl, h.1, h.2⟩
    cases (show u = Value.ref b from ru)
    refine wpAny_holding ?_
    refine wpAny_bind ?_
    rw [List.forIn_cons]
    refine wpAny_bind (wpAny_bind (lay_entry hu I2 hD hb (by decide) rr fun s3 I3 => wpAny_pure ?_))
    exact wpAny_pure (wpAny_pure (wpAny_pure (wpAny_pure ⟨.ref s.heap.objs.size, _, I3, rfl, q2⟩)))
end
end Pk
namespace Pk
open PySem L2 PySem.Spec PyProof.Rows GxR NdefX
/-- a relation of a value in a heap, kept as heaps grow -/
structure Rel where
  p : Hp → V → Prop
  mn : ∀ {H H' : Hp} {v : V}, Kp H H' → p H v → p H' v
/-- what an object that is being changed is -/
structure Own where
  p : Hp → HO → Prop
  mn : ∀ {H H' : Hp} {o : HO}, Kp H H' → p H o → p H' o
  ok : ∀ {H : Hp} {o : HO}, p H o → Mut (some o)
inductive Slot where
  | any
  | fz (R : Rel)
  | own (C : Own)
/-- where one stands: the heap at the start, facts of the heap, what is hidden, the slots -/
structure Ct where
  hs : Hp
  h0 : Hp
  om : Addr → Prop
  g : List Slot
abbrev Ct.set (c : Ct) (i : Nat) (s : Slot) : Ct := { c with g := c.g.set i s }
abbrev Ct.at (c : Ct) (g : List Slot) : Ct := { c with g := g }
def isOwn (g : List Slot) (σ : L2.St) (a : Addr) : Prop := ∃ (i : Nat) (C : Own), g[i]? = some (.own C) ∧ σ[i]? = some (some (.ref a))
open Classical in
/-- the heap without these -/
noncomputable def less (H : Hp) (M : Addr → Prop) : Hp := fun a => if M a then none else H a
noncomputable abbrev bas (c : Ct) (σ : L2.St) (H : Hp) : Hp := less H fun a => isOwn c.g σ a ∨ c.om a
theorem less_in {H : Hp} {M : Addr → Prop} {a : Addr} (h : M a) : less H M a = none := if_pos h
theorem less_out {H : Hp} {M : Addr → Prop} {a : Addr} (h : ¬ M a) : less H M a = H a := if_neg h
theorem less_some {H : Hp} {M : Addr → Prop} {a : Addr} {o : HO} (e : less H M a = some o) : ¬ M a ∧ H a = some o := by
  by_cases h : M a
  · rw [less_in h] at e
    cases e
  · rw [less_out h] at e
    exact ⟨h, e⟩
theorem bas_in {c : Ct} {σ : L2.St} {H : Hp} {a : Addr} (h : isOwn c.g σ a ∨ c.om a) : bas c σ H a = none := if_pos h
theorem bas_out {c : Ct} {σ : L2.St} {H : Hp} {a : Addr} (h : ¬ (isOwn c.g σ a ∨ c.om a)) : bas c σ H a = H a := if_neg h
theorem kp_of {H H' : Hp} (h : ∀ b o, H b = some o → H' b = some o) : Kp H H' := kpS h
theorem kp_less {H : Hp} {M : Addr → Prop} : Kp (less H M) H := kp_of fun b o e => (less_some e).2
theorem less_kp {H H' : Hp} {M : Addr → Prop} (k : Kp H H') : Kp (less H M) (less H' M) := by
  refine ⟨fun b o e n => ?_, fun P ⟨ps, e, t⟩ => ?_⟩
  · obtain ⟨h, e⟩ := less_some e
    rw [less_out h]
    exact k.at_ b o e n
  · obtain ⟨h, e⟩ := less_some e
    obtain ⟨qs, e', t'⟩ := k.tab P ⟨ps, e, t⟩
    exact ⟨qs, by rw [less_out h]; exact e', t'⟩
/-- less is hidden: more stands -/
theorem less_mono {H : Hp} {M M' : Addr → Prop} (h : ∀ a, M' a → M a) : Kp (less H M) (less H M') := kp_of fun b o e => by
  obtain ⟨n, e⟩ := less_some e
  rw [less_out fun z => n (h b z)]
  exact e
theorem kp_new {H : Hp} {p : Addr} {o : HO} (n : H p = none) : Kp H (upd H p o) := kp_of fun b u e => by
  rw [upd_ne (ne_of_none e n)]
  exact e
/-- new behind the heap at the start -/
def Fre (hs : Hp) (p : Addr) : Prop := (∀ o, hs p = some o → ∃ ps, o = .tbl ps) ∧ ¬ TabG hs p
theorem Fre.of {hs H : Hp} {p : Addr} (k : Kp hs H) (n : H p = none) : Fre hs p := by
  refine ⟨fun o e => ?_, fun t => ?_⟩
  · by_cases z : ∃ ps, o = .tbl ps
    · exact z
    · have := k.at_ p o e fun ps q => z ⟨ps, q⟩
      rw [n] at this
      cases this
  · obtain ⟨ps, e, _⟩ := k.tab p t
    rw [n] at e
    cases e
theorem Fre.upd {hs H : Hp} {p : Addr} {o : HO} (f : Fre hs p) (k : Kp hs H) : Kp hs (upd H p o) := by
  refine ⟨fun b u e n => ?_, fun P t => ?_⟩
  · have hb : b ≠ p := fun z => by
      subst z
      obtain ⟨ps, z⟩ := f.1 u e
      exact n ps z
    rw [upd_ne hb]
    exact k.at_ b u e n
  · have hb : P ≠ p := fun z => by
      subst z
      exact f.2 t
    obtain ⟨qs, e, t'⟩ := k.tab P t
    exact ⟨qs, by rw [upd_ne hb]; exact e, t'⟩
/-- the slots hold what they should -/
structure Sta (c : Ct) (σ : L2.St) (H : Hp) : Prop where
  len : σ.length = c.g.length
  fz : ∀ (i : Nat) (R : Rel), c.g[i]? = some (.fz R) → ∃ v, σ[i]? = some (some v) ∧ R.p (bas c σ H) v
  own : ∀ (i : Nat) (C : Own), c.g[i]? = some (.own C) → ∃ p o, σ[i]? = some (some (.ref p)) ∧ H p = some o ∧ C.p (bas c σ H) o ∧ Fre c.hs p ∧ ¬ c.om p
  ne : ∀ (i j : Nat) (C C' : Own) (p : Addr), c.g[i]? = some (.own C) → c.g[j]? = some (.own C') → σ[i]? = some (some (.ref p)) → σ[j]? = some (some (.ref p)) → i = j
  k0 : Kp c.h0 (bas c σ H)
  ks : Kp c.hs H
  hid : ∀ a, c.om a → ∃ o, H a = some o ∧ Mut (some o)
theorem notTbl {o : HO} (h : Mut (some o)) : ∀ ps, o ≠ .tbl ps := fun ps e => by
  subst e
  exact h
/-- a heap that grows -/
theorem Sta.kp {c : Ct} {σ : L2.St} {H H' : Hp} (h : Sta c σ H) (k : Kp H H') : Sta c σ H' := by
  have kb : Kp (bas c σ H) (bas c σ H') := less_kp k
  refine ⟨h.len, fun i R e => ?_, fun i C e => ?_, h.ne, h.k0.trans kb, h.ks.trans k, fun a z => ?_⟩
  · obtain ⟨v, e1, e2⟩ := h.fz i R e
    exact ⟨v, e1, R.mn kb e2⟩
  · obtain ⟨p, o, e1, e2, e3, e4, e5⟩ := h.own i C e
    exact ⟨p, o, e1, k.at_ p o e2 (notTbl (C.ok e3)), C.mn kb e3, e4, e5⟩
  · obtain ⟨o, e, m⟩ := h.hid a z
    exact ⟨o, k.at_ a o e (notTbl m), m⟩
theorem Sta.kb {c : Ct} {σ : L2.St} {H H' : Hp} (h : Sta c σ H) (k : Kp H H') : Kp (bas c σ H) (bas c σ H') := less_kp k
/-- what is new is not hidden -/
theorem Sta.free {c : Ct} {σ : L2.St} {H : Hp} (h : Sta c σ H) {p : Addr} (n : H p = none) : ¬ (isOwn c.g σ p ∨ c.om p) := by
  rintro (⟨i, C, e1, e2⟩ | z)
  · obtain ⟨q, o, e3, e4, _⟩ := h.own i C e1
    rw [e2] at e3
    cases e3
    rw [n] at e4
    cases e4
  · obtain ⟨o, e, _⟩ := h.hid p z
    rw [n] at e
    cases e
theorem getset {α : Type} {l : List α} {i j : Nat} {a b : α} (h : (l.set i a)[j]? = some b) : (j = i ∧ b = a) ∨ (j ≠ i ∧ l[j]? = some b) := by
  by_cases e : i = j
  · subst e
    left
    rw [List.getElem?_set] at h
    simp only [if_pos rfl, ite_true] at h
    split at h
    · cases h
      exact ⟨rfl, rfl⟩
    · cases h
  · right
    rw [List.getElem?_set_ne e] at h
    exact ⟨fun z => e z.symm, h⟩
theorem setget {α : Type} {l : List α} {i : Nat} {a : α} (h : i < l.length) : (l.set i a)[i]? = some a := by
  rw [List.getElem?_set]
  simp [h]
/-- a name holds a value that stays -/
theorem Sta.set {c : Ct} {σ : L2.St} {H : Hp} (h : Sta c σ H) {i : Nat} {R : Rel} {v : V} (hi : i < c.g.length) (hv : R.p (bas c σ H) v) :
    Sta (c.set i (.fz R)) (σ.set i (some v)) H ∧ Kp (bas c σ H) (bas (c.set i (.fz R)) (σ.set i (some v)) H) := by
  have back : ∀ {j : Nat} {C : Own}, (c.g.set i (.fz R))[j]? = some (.own C) → j ≠ i ∧ c.g[j]? = some (.own C) := fun {j C} e => by
    rcases getset e with ⟨_, z⟩ | z
    · cases z
    · exact z
  have kb : Kp (bas c σ H) (bas (c.set i (.fz R)) (σ.set i (some v)) H) := less_mono fun a => by
    rintro (⟨j, C, e1, e2⟩ | z)
    · obtain ⟨n, e1⟩ := back e1
      rw [List.getElem?_set_ne fun z => n z.symm] at e2
      exact .inl ⟨j, C, e1, e2⟩
    · exact .inr z
  refine ⟨⟨by rw [List.length_set, List.length_set]; exact h.len, fun j S e => ?_, fun j C e => ?_, fun j k C C' p e1 e2 e3 e4 => ?_, h.k0.trans kb, h.ks, h.hid⟩, kb⟩
  · rcases getset e with ⟨rfl, z⟩ | ⟨n, z⟩
    · cases z
      exact ⟨v, setget (by rw [h.len]; exact hi), R.mn kb hv⟩
    · obtain ⟨u, e1, e2⟩ := h.fz j S z
      exact ⟨u, by rw [List.getElem?_set_ne fun z => n z.symm]; exact e1, S.mn kb e2⟩
  · obtain ⟨n, z⟩ := back e
    obtain ⟨p, o, e1, e2, e3, e4, e5⟩ := h.own j C z
    exact ⟨p, o, by rw [List.getElem?_set_ne fun z => n z.symm]; exact e1, e2, C.mn kb e3, e4, e5⟩
  · obtain ⟨n1, e1⟩ := back e1
    obtain ⟨n2, e2⟩ := back e2
    rw [List.getElem?_set_ne fun z => n1 z.symm] at e3
    rw [List.getElem?_set_ne fun z => n2 z.symm] at e4
    exact h.ne j k C C' p e1 e2 e3 e4
/-- a slot of which nothing more is said -/
theorem Sta.drop {c : Ct} {σ : L2.St} {H : Hp} (h : Sta c σ H) (i : Nat) (o : Option V) : Sta (c.set i .any) (σ.set i o) H ∧ Kp (bas c σ H) (bas (c.set i .any) (σ.set i o) H) := by
  have back : ∀ {j : Nat} {s : Slot}, s ≠ .any → (c.g.set i .any)[j]? = some s → j ≠ i ∧ c.g[j]? = some s := fun {j s} ns e => by
    rcases getset e with ⟨_, z⟩ | z
    · exact absurd z ns
    · exact z
  have kb : Kp (bas c σ H) (bas (c.set i .any) (σ.set i o) H) := less_mono fun a => by
    rintro (⟨j, C, e1, e2⟩ | z)
    · obtain ⟨n, e1⟩ := back (by intro z; cases z) e1
      rw [List.getElem?_set_ne fun z => n z.symm] at e2
      exact .inl ⟨j, C, e1, e2⟩
    · exact .inr z
  refine ⟨⟨by rw [List.length_set, List.length_set]; exact h.len, fun j S e => ?_, fun j C e => ?_, fun j k C C' p e1 e2 e3 e4 => ?_, h.k0.trans kb, h.ks, h.hid⟩, kb⟩
  · obtain ⟨n, z⟩ := back (by intro z; cases z) e
    obtain ⟨u, e1, e2⟩ := h.fz j S z
    exact ⟨u, by rw [List.getElem?_set_ne fun z => n z.symm]; exact e1, S.mn kb e2⟩
  · obtain ⟨n, z⟩ := back (by intro z; cases z) e
    obtain ⟨p, u, e1, e2, e3, e4, e5⟩ := h.own j C z
    exact ⟨p, u, by rw [List.getElem?_set_ne fun z => n z.symm]; exact e1, e2, C.mn kb e3, e4, e5⟩
  · obtain ⟨n1, e1⟩ := back (by intro z; cases z) e1
    obtain ⟨n2, e2⟩ := back (by intro z; cases z) e2
    rw [List.getElem?_set_ne fun z => n1 z.symm] at e3
    rw [List.getElem?_set_ne fun z => n2 z.symm] at e4
    exact h.ne j k C C' p e1 e2 e3 e4
theorem setsame {α : Type} {l : List α} {i : Nat} {a : α} (h : l[i]? = some a) : l.set i a = l := by
  refine List.ext_getElem? fun j => ?_
  by_cases e : i = j
  · subst e
    obtain ⟨hi, _⟩ := List.getElem?_eq_some_iff.mp h
    rw [setget hi, h]
  · rw [List.getElem?_set_ne e]
/-- the slot of a name, weakened -/
theorem Sta.weak {c : Ct} {σ : L2.St} {H : Hp} (h : Sta c σ H) {i : Nat} {R S : Rel} (e : c.g[i]? = some (.fz R)) (k : ∀ H v, R.p H v → S.p H v) : Sta (c.set i (.fz S)) σ H := by
  obtain ⟨v, e1, e2⟩ := h.fz i R e
  have hi : i < c.g.length := (List.getElem?_eq_some_iff.mp e).1
  have := (h.set (R := S) hi (k _ _ e2)).1
  rw [setsame e1] at this
  exact this
/-- a name holds a new object that is going to be changed -/
theorem Sta.new {c : Ct} {σ : L2.St} {H : Hp} (h : Sta c σ H) {i : Nat} {C : Own} {p : Addr} {o : HO} (hi : i < c.g.length) (n : H p = none) (hv : C.p (bas c σ H) o) :
    Sta (c.set i (.own C)) (σ.set i (some (.ref p))) (upd H p o) ∧ Kp (bas c σ H) (bas (c.set i (.own C)) (σ.set i (some (.ref p))) (upd H p o)) := by
  have hf := h.free n
  have kb : Kp (bas c σ H) (bas (c.set i (.own C)) (σ.set i (some (.ref p))) (upd H p o)) := kp_of fun b u e => by
    obtain ⟨nb, e⟩ := less_some e
    have bp : b ≠ p := ne_of_none e n
    rw [bas_out, upd_ne bp]
    · exact e
    · rintro (⟨j, C', e1, e2⟩ | z)
      · by_cases ji : j = i
        · subst ji
          rw [setget (by rw [h.len]; exact hi)] at e2
          cases e2
          exact bp rfl
        · rcases getset e1 with ⟨z, _⟩ | ⟨_, z⟩
          · exact ji z
          · rw [List.getElem?_set_ne fun z => ji z.symm] at e2
            exact nb (.inl ⟨j, C', z, e2⟩)
      · exact nb (.inr z)
  have old : ∀ {j : Nat} {C' : Own} {q : Addr}, c.g[j]? = some (.own C') → σ[j]? = some (some (.ref q)) → q ≠ p := fun {j C' q} e1 e2 z => hf (.inl ⟨j, C', e1, by rw [← z]; exact e2⟩)
  refine ⟨⟨by rw [List.length_set, List.length_set]; exact h.len, fun j S e => ?_, fun j C' e => ?_, fun j k C1 C2 q e1 e2 e3 e4 => ?_, h.k0.trans kb, h.ks.trans (kp_new n), fun a z => ?_⟩, kb⟩
  · rcases getset e with ⟨_, z⟩ | ⟨nj, z⟩
    · cases z
    · obtain ⟨u, e1, e2⟩ := h.fz j S z
      exact ⟨u, by rw [List.getElem?_set_ne fun z => nj z.symm]; exact e1, S.mn kb e2⟩
  · rcases getset e with ⟨rfl, z⟩ | ⟨nj, z⟩
    · cases z
      exact ⟨p, o, setget (by rw [h.len]; exact hi), upd_same, C.mn kb hv, .of h.ks n, fun z => hf (.inr z)⟩
    · obtain ⟨q, u, e1, e2, e3, e4, e5⟩ := h.own j C' z
      exact ⟨q, u, by rw [List.getElem?_set_ne fun z => nj z.symm]; exact e1, by rw [upd_ne (old z e1)]; exact e2, C'.mn kb e3, e4, e5⟩
  · rcases getset e1 with ⟨rfl, z⟩ | ⟨nj, z⟩ <;> rcases getset e2 with ⟨rfl, y⟩ | ⟨nk, y⟩
    · rfl
    · rw [setget (by rw [h.len]; exact hi)] at e3
      cases e3
      rw [List.getElem?_set_ne fun z => nk z.symm] at e4
      exact absurd rfl (old y e4)
    · rw [setget (by rw [h.len]; exact hi)] at e4
      cases e4
      rw [List.getElem?_set_ne fun z => nj z.symm] at e3
      exact absurd rfl (old z e3)
    · rw [List.getElem?_set_ne fun z => nj z.symm] at e3
      rw [List.getElem?_set_ne fun z => nk z.symm] at e4
      exact h.ne j k C1 C2 q z y e3 e4
  · obtain ⟨u, e, m⟩ := h.hid a z
    exact ⟨u, by rw [upd_ne (ne_of_none e n)]; exact e, m⟩
/-- the object at a name is changed -/
theorem Sta.mut {c : Ct} {σ : L2.St} {H : Hp} (h : Sta c σ H) {i : Nat} {C C' : Own} {p : Addr} {o : HO} (e : c.g[i]? = some (.own C)) (es : σ[i]? = some (some (.ref p))) (hv : C'.p (bas c σ H) o) :
    Sta (c.set i (.own C')) σ (upd H p o) ∧ bas (c.set i (.own C')) σ (upd H p o) = bas c σ H := by
  have hi : i < c.g.length := (List.getElem?_eq_some_iff.mp e).1
  obtain ⟨p', o0, e1, e2, e3, e4, e5⟩ := h.own i C e
  rw [es] at e1
  cases e1
  have own' : ∀ a, isOwn (c.g.set i (.own C')) σ a ↔ isOwn c.g σ a := fun a => by
    constructor
    · rintro ⟨j, C1, q1, q2⟩
      rcases getset q1 with ⟨rfl, z⟩ | ⟨_, z⟩
      · exact ⟨j, C, e, q2⟩
      · exact ⟨j, C1, z, q2⟩
    · rintro ⟨j, C1, q1, q2⟩
      by_cases ji : j = i
      · subst ji
        exact ⟨j, C', setget hi, q2⟩
      · exact ⟨j, C1, by rw [List.getElem?_set_ne fun z => ji z.symm]; exact q1, q2⟩
  have hp : isOwn c.g σ p := ⟨i, C, e, es⟩
  have eb : bas (c.set i (.own C')) σ (upd H p o) = bas c σ H := by
    funext a
    by_cases m : isOwn c.g σ a ∨ c.om a
    · rw [bas_in m]
      exact bas_in (c := c.set i (.own C')) (m.elim (fun z => .inl ((own' a).mpr z)) .inr)
    · rw [bas_out m]
      refine (bas_out (c := c.set i (.own C')) fun z => m (z.elim (fun y => .inl ((own' a).mp y)) .inr)).trans (upd_ne ?_)
      intro z
      subst z
      exact m (.inl hp)
  refine ⟨⟨by show _ = (c.g.set i (.own C')).length; rw [List.length_set]; exact h.len, fun j S q => ?_, fun j C1 q => ?_, fun j k C1 C2 q q1 q2 q3 q4 => ?_, by rw [eb]; exact h.k0, e4.upd h.ks, fun a z => ?_⟩, eb⟩
  · rcases getset q with ⟨_, z⟩ | ⟨_, z⟩
    · cases z
    · obtain ⟨u, q1, q2⟩ := h.fz j S z
      exact ⟨u, q1, by rw [eb]; exact q2⟩
  · rcases getset q with ⟨rfl, z⟩ | ⟨nj, z⟩
    · cases z
      exact ⟨p, o, es, upd_same, by rw [eb]; exact hv, e4, e5⟩
    · obtain ⟨q, u, q1, q2, q3, q4, q5⟩ := h.own j C1 z
      refine ⟨q, u, q1, ?_, by rw [eb]; exact q3, q4, q5⟩
      rw [upd_ne fun y => ?_]
      · exact q2
      · subst y
        exact nj (h.ne j i C1 C q z e q1 es)
  · have f : ∀ {j : Nat} {D : Own}, (c.g.set i (.own C'))[j]? = some (.own D) → ∃ D', c.g[j]? = some (.own D') := fun {j D} y => by
      rcases getset y with ⟨rfl, _⟩ | ⟨_, z⟩
      · exact ⟨C, e⟩
      · exact ⟨D, z⟩
    obtain ⟨D1, y1⟩ := f q1
    obtain ⟨D2, y2⟩ := f q2
    exact h.ne j k D1 D2 q y1 y2 q3 q4
  · obtain ⟨u, y, m⟩ := h.hid a z
    refine ⟨u, ?_, m⟩
    rw [upd_ne fun x => ?_]
    · exact y
    · subst x
      exact e5 z
/-- what was changed now stays -/
theorem Sta.fix {c : Ct} {σ : L2.St} {H : Hp} (h : Sta c σ H) {i : Nat} {C : Own} {R : Rel} (e : c.g[i]? = some (.own C)) (k : ∀ B p o, B p = some o → C.p B o → R.p B (.ref p)) :
    Sta (c.set i (.fz R)) σ H ∧ Kp (bas c σ H) (bas (c.set i (.fz R)) σ H) := by
  have hi : i < c.g.length := (List.getElem?_eq_some_iff.mp e).1
  obtain ⟨p, o, e1, e2, e3, e4, e5⟩ := h.own i C e
  have back : ∀ {j : Nat} {C' : Own}, (c.g.set i (.fz R))[j]? = some (.own C') → j ≠ i ∧ c.g[j]? = some (.own C') := fun {j C'} e => by
    rcases getset e with ⟨_, z⟩ | z
    · cases z
    · exact z
  have kb : Kp (bas c σ H) (bas (c.set i (.fz R)) σ H) := less_mono fun a => by
    rintro (⟨j, C', q1, q2⟩ | z)
    · exact .inl ⟨j, C', (back q1).2, q2⟩
    · exact .inr z
  have hb : bas (c.set i (.fz R)) σ H p = some o := by
    rw [bas_out]
    · exact e2
    · rintro (⟨j, C', q1, q2⟩ | z)
      · obtain ⟨n, q1⟩ := back q1
        exact n (h.ne j i C' C p q1 e q2 e1)
      · exact e5 z
  refine ⟨⟨by show _ = (c.g.set i (.fz R)).length; rw [List.length_set]; exact h.len, fun j S q => ?_, fun j C1 q => ?_, fun j k C1 C2 q q1 q2 q3 q4 => h.ne j k C1 C2 q (back q1).2 (back q2).2 q3 q4, h.k0.trans kb, h.ks, h.hid⟩, kb⟩
  · rcases getset q with ⟨rfl, z⟩ | ⟨_, z⟩
    · cases z
      exact ⟨.ref p, e1, k _ _ _ hb (C.mn kb e3)⟩
    · obtain ⟨u, q1, q2⟩ := h.fz j S z
      exact ⟨u, q1, S.mn kb q2⟩
  · obtain ⟨q, u, q1, q2, q3, q4, q5⟩ := h.own j C1 (back q).2
    exact ⟨q, u, q1, q2, C1.mn kb q3, q4, q5⟩
/-- more is known of the heap -/
theorem Sta.h0 {c : Ct} {σ : L2.St} {H : Hp} (h : Sta c σ H) {h1 : Hp} (k : Kp h1 (bas c σ H)) : Sta { c with h0 := h1 } σ H := ⟨h.len, h.fz, h.own, h.ne, k, h.ks, h.hid⟩
end Pk
namespace Pk
open PySem L2 PySem.Spec PyProof.Rows GxR NdefX
mutual
inductive Dt (H : Hp) : V → PyData → Prop
  | non : Dt H .non .none
  | bl (b : Bool) : Dt H (.bl b) (.bool b)
  | int (i : Int) : Dt H (.int i) (.int i)
  | str (x : Str) : Dt H (.str x) (.str x)
  | lst {a : Addr} {xs : List V} {ds : List PyData} : H a = some (.lst xs) → DtAll H xs ds → Dt H (.ref a) (.list ds)
  | tup {a : Addr} {xs : List V} {ds : List PyData} : H a = some (.tup xs) → DtAll H xs ds → Dt H (.ref a) (.tuple ds)
  | dT {a : Addr} {kvs : List (Tk × V)} {ds : List (PyData × PyData)} : H a = some (.dT kvs) → DtKv H dK kvs ds → Dt H (.ref a) (.dict ds)
  | dK {a : Addr} {kvs : List (L2.Key × V)} {ds : List (PyData × PyData)} : H a = some (.dK kvs) → DtKk H kvs ds → Dt H (.ref a) (.dict ds)
inductive DtAll (H : Hp) : List V → List PyData → Prop
  | nil : DtAll H [] []
  | cons {v : V} {vs : List V} {d : PyData} {ds : List PyData} : Dt H v d → DtAll H vs ds → DtAll H (v :: vs) (d :: ds)
inductive DtKv (H : Hp) : (Tk → PyData) → List (Tk × V) → List (PyData × PyData) → Prop
  | nil {f : Tk → PyData} : DtKv H f [] []
  | cons {f : Tk → PyData} {k : Tk} {v : V} {vs : List (Tk × V)} {d : PyData} {ds : List (PyData × PyData)} : Dt H v d → DtKv H f vs ds → DtKv H f ((k, v) :: vs) ((f k, d) :: ds)
inductive DtKk (H : Hp) : List (L2.Key × V) → List (PyData × PyData) → Prop
  | nil : DtKk H [] []
  | cons {k : L2.Key} {v : V} {vs : List (L2.Key × V)} {d : PyData} {ds : List (PyData × PyData)} : Dt H v d → DtKk H vs ds → DtKk H ((k, v) :: vs) ((kd k, d) :: ds)
end
section
variable {H H' : Hp}
mutual
theorem Dt.kp (k : Kp H H') : ∀ {v : V} {d : PyData}, Dt H v d → Dt H' v d
  | _, _, .non => .non
  | _, _, .bl b => .bl b
  | _, _, .int i => .int i
  | _, _, .str x => .str x
  | _, _, .lst e a => .lst (k.lst e) (DtAll.kp k a)
  | _, _, .tup e a => .tup (k.tup e) (DtAll.kp k a)
  | _, _, .dT e a => .dT (k.dT e) (DtKv.kp k a)
  | _, _, .dK e a => .dK (k.at_ _ _ e fun _ z => nomatch z) (DtKk.kp k a)
theorem DtAll.kp (k : Kp H H') : ∀ {vs : List V} {ds : List PyData}, DtAll H vs ds → DtAll H' vs ds
  | _, _, .nil => .nil
  | _, _, .cons a b => .cons (Dt.kp k a) (DtAll.kp k b)
theorem DtKv.kp (k : Kp H H') : ∀ {f : Tk → PyData} {vs : List (Tk × V)} {ds : List (PyData × PyData)}, DtKv H f vs ds → DtKv H' f vs ds
  | _, _, _, .nil => .nil
  | _, _, _, .cons a b => .cons (Dt.kp k a) (DtKv.kp k b)
theorem DtKk.kp (k : Kp H H') : ∀ {vs : List (L2.Key × V)} {ds : List (PyData × PyData)}, DtKk H vs ds → DtKk H' vs ds
  | _, _, .nil => .nil
  | _, _, .cons a b => .cons (Dt.kp k a) (DtKk.kp k b)
end
end
mutual
/-- data without lists and dicts -/
def flat : PyData → Bool
  | .list _ => false
  | .dict _ => false
  | .tuple ds => flats ds
  | _ => true
def flats : List PyData → Bool
  | [] => true
  | d :: ds => flat d && flats ds
end
section
variable {H : Hp} {M : Addr → Prop} (hM : ∀ a, M a → ∃ o, H a = some o ∧ Mut (some o))
include hM
mutual
theorem Dt.less : ∀ {v : V} {d : PyData}, Dt H v d → flat d = true → Dt (less H M) v d
  | _, _, .non, _ => .non
  | _, _, .bl b, _ => .bl b
  | _, _, .int i, _ => .int i
  | _, _, .str x, _ => .str x
  | _, _, .lst _ _, h => by cases h
  | _, _, .dT _ _, h => by cases h
  | _, _, .dK _ _, h => by cases h
  | _, .tuple ds, .tup (a := a) e q, h => by
    refine .tup ?_ (DtAll.less q h)
    rw [less_out]
    · exact e
    · intro z
      obtain ⟨o, e1, e2⟩ := hM a z
      rw [e] at e1
      cases e1
      exact e2
theorem DtAll.less : ∀ {vs : List V} {ds : List PyData}, DtAll H vs ds → flats ds = true → DtAll (less H M) vs ds
  | _, _, .nil, _ => .nil
  | _, d :: ds, .cons a b, h => by
    have h' : (flat d && flats ds) = true := h
    rw [Bool.and_eq_true] at h'
    exact .cons (Dt.less a h'.1) (DtAll.less b h'.2)
end
end
section
variable {H : Hp} {K : PySem.W.Frag}
mutual
/-- no dict within -/
def nod : PyData → Bool
  | .dict _ => false
  | .tuple ds => nods ds
  | .list ds => nods ds
  | _ => true
def nods : List PyData → Bool
  | [] => true
  | d :: ds => nod d && nods ds
end
mutual
theorem Dt.dp : ∀ {v : V} {d : PyData}, Dt H v d → nod d = true → Dp K H v d
  | _, _, .non, _ => .non
  | _, _, .bl b, _ => .bl b
  | _, _, .int i, _ => .int i
  | _, _, .str x, _ => .str x
  | _, .list ds, .lst e q, h => .lst (SqL.of e) (DtAll.dp q h)
  | _, _, .dT _ _, h => by cases h
  | _, _, .dK _ _, h => by cases h
  | _, .tuple ds, .tup (a := a) e q, h => .tup (SqT.of e) (DtAll.dp q h)
theorem DtAll.dp : ∀ {vs : List V} {ds : List PyData}, DtAll H vs ds → nods ds = true → DpAll K H vs ds
  | _, _, .nil, _ => .nil
  | _, d :: ds, .cons a b, h => by
    have h' : (nod d && nods ds) = true := h
    rw [Bool.and_eq_true] at h'
    exact .cons (Dt.dp a h'.1) (DtAll.dp b h'.2)
end
theorem DtAll.len : ∀ {vs : List V} {ds : List PyData}, DtAll H vs ds → vs.length = ds.length
  | _, _, .nil => rfl
  | _, _, .cons _ b => congrArg (· + 1) b.len
theorem DtAll.app : ∀ {vs us : List V} {ds es : List PyData}, DtAll H vs ds → DtAll H us es → DtAll H (vs ++ us) (ds ++ es)
  | _, _, _, _, .nil, h => h
  | _, _, _, _, .cons a b, h => .cons a (b.app h)
theorem DtAll.at {vs : List V} {ds : List PyData} (h : DtAll H vs ds) : ∀ {i : Nat} {d : PyData}, ds[i]? = some d → ∃ v, vs[i]? = some v ∧ Dt H v d := by
  induction vs generalizing ds with
  | nil => cases h; intro i d e; cases e
  | cons v vs ih =>
    cases h with
    | cons a b =>
      intro i d e
      cases i with
      | zero => cases e; exact ⟨_, rfl, a⟩
      | succ i => exact ih b e
theorem DtAll.at' {vs : List V} {ds : List PyData} (h : DtAll H vs ds) : ∀ {i : Nat} {v : V}, vs[i]? = some v → ∃ d, ds[i]? = some d ∧ Dt H v d := by
  induction vs generalizing ds with
  | nil => intro i d e; cases e
  | cons v vs ih =>
    cases h with
    | cons a b =>
      intro i d e
      cases i with
      | zero => cases e; exact ⟨_, rfl, a⟩
      | succ i => exact ih b e
theorem DtAll.atI {vs : List V} {ds : List PyData} (h : DtAll H vs ds) {i : Int} {d : PyData} (e : L2.atI ds i = some d) : ∃ v, L2.atI vs i = some v ∧ Dt H v d := by
  unfold L2.atI at *
  rw [← h.len] at e
  cases q : ixN vs.length i with
  | none => rw [q] at e; cases e
  | some j => rw [q] at e; exact h.at e
theorem DtAll.take {vs : List V} {ds : List PyData} (h : DtAll H vs ds) : ∀ n, DtAll H (vs.take n) (ds.take n) := by
  induction vs generalizing ds with
  | nil => cases h; intro n; simp only [List.take_nil]; exact .nil
  | cons v vs ih =>
    cases h with
    | cons a b =>
      intro n
      cases n with
      | zero => exact .nil
      | succ n => exact .cons a (ih b n)
theorem DtAll.drop {vs : List V} {ds : List PyData} (h : DtAll H vs ds) : ∀ n, DtAll H (vs.drop n) (ds.drop n) := by
  induction vs generalizing ds with
  | nil => cases h; intro n; simp only [List.drop_nil]; exact .nil
  | cons v vs ih =>
    cases h with
    | cons a b =>
      intro n
      cases n with
      | zero => exact .cons a b
      | succ n => exact ih b n
end
/-- data of a type, by its picture -/
def RD (d : PyData) : Rel := ⟨fun H v => Dt H v d, fun k h => h.kp k⟩
/-- a list that is being changed -/
def OL (ds : List PyData) : Own := ⟨fun H o => ∃ vs, o = .lst vs ∧ DtAll H vs ds, fun k ⟨vs, e, h⟩ => ⟨vs, e, h.kp k⟩, fun ⟨vs, e, _⟩ => by subst e; exact trivial⟩
theorem OL.fix {ds : List PyData} {B : Hp} {p : Addr} {o : HO} (e : B p = some o) (h : (OL ds).p B o) : (RD (.list ds)).p B (.ref p) := by
  obtain ⟨vs, rfl, h⟩ := h
  exact .lst e h
noncomputable def msk (b : Bool) (c : Ct) (σ : L2.St) : Addr → Prop := fun a => b = true ∧ (isOwn c.g σ a ∨ c.om a)
noncomputable abbrev hb (b : Bool) (c : Ct) (σ : L2.St) (H : Hp) : Hp := less H (msk b c σ)
theorem hb_t {c : Ct} {σ : L2.St} {H : Hp} : hb true c σ H = bas c σ H := by
  funext a
  by_cases h : isOwn c.g σ a ∨ c.om a
  · rw [bas_in h]
    exact less_in ⟨rfl, h⟩
  · rw [bas_out h]
    exact less_out fun z => h z.2
theorem hb_f {c : Ct} {σ : L2.St} {H : Hp} : hb false c σ H = H := by
  funext a
  exact less_out fun z => Bool.false_ne_true z.1
theorem hb_kp {b : Bool} {c : Ct} {σ : L2.St} {H H' : Hp} (k : Kp H H') : Kp (hb b c σ H) (hb b c σ H') := less_kp k
theorem bas_hb {b : Bool} {c : Ct} {σ : L2.St} {H : Hp} : Kp (bas c σ H) (hb b c σ H) := less_mono fun _ z => z.2
theorem hb_in {b : Bool} {c : Ct} {σ : L2.St} {H : Hp} : Kp (hb b c σ H) H := kp_less
/-- what is hidden stands, and is of those that may change -/
theorem Sta.hides {c : Ct} {σ : L2.St} {H : Hp} (h : Sta c σ H) {b : Bool} (a : Addr) (m : msk b c σ a) : ∃ o, H a = some o ∧ Mut (some o) := by
  rcases m.2 with ⟨i, C, e1, e2⟩ | z
  · obtain ⟨p, o, e3, e4, e5, _⟩ := h.own i C e1
    rw [e2] at e3
    cases e3
    exact ⟨o, e4, C.ok e5⟩
  · exact h.hid a z
/-- a value's reading: it gives a value as R says, in the heap (false), in the heap without what is being changed (true) -/
def E (b : Bool) (c : Ct) (t : TE) (R : Rel) : Prop := ∀ σ H, Sta c σ H → ∀ Q : VK, (∀ H' v, Kp H H' → R.p (hb b c σ H') v → Q v H') → t σ H Q
def ET (c : Ct) (t : TT) (b : Bool) : Prop := ∀ σ H, Sta c σ H → ∀ Q : Bool → Hp → Prop, (∀ H', Kp H H' → Q b H') → t σ H Q
def Rok : List Rel → Hp → List V → Prop
  | [], _, vs => vs = []
  | R :: Rs, H, vs => ∃ v r, vs = v :: r ∧ R.p H v ∧ Rok Rs H r
theorem Rok.kp {H H' : Hp} (k : Kp H H') : ∀ {Rs : List Rel} {vs : List V}, Rok Rs H vs → Rok Rs H' vs
  | [], _, h => h
  | R :: _, _, ⟨v, r, e, h1, h2⟩ => ⟨v, r, e, R.mn k h1, Rok.kp k h2⟩
def EA (b : Bool) (c : Ct) (t : TA) (Rs : List Rel) : Prop := ∀ σ H, Sta c σ H → ∀ Q : List V → Hp → Prop, (∀ H' vs, Kp H H' → Rok Rs (hb b c σ H') vs → Q vs H') → t σ H Q
/-- a list whose items stay, itself perhaps among what is being changed -/
def EI (c : Ct) (t : TE) (ds : List PyData) : Prop := ∀ σ H, Sta c σ H → ∀ Q : VK, (∀ H' a vs, Kp H H' → H' a = some (.lst vs) → DtAll (bas c σ H') vs ds → Q (.ref a) H') → t σ H Q
section
variable {b : Bool} {c : Ct} {R S : Rel} {t ta tb tc : TE} {d e : PyData}
theorem E.low (h : E true c t R) : E b c t R := fun σ H s Q q => h σ H s Q fun H' v k r => q H' v k (R.mn (by rw [hb_t]; exact bas_hb) r)
theorem E.imp (h : E b c t R) (k : ∀ H v, R.p H v → S.p H v) : E b c t S := fun σ H s Q q => h σ H s Q fun H' v k' r => q H' v k' (k _ _ r)
theorem E.eq (h : E b c t (RD d)) (z : d = e) : E b c t (RD e) := z ▸ h
theorem E.flat (h : E false c t (RD d)) (f : flat d = true) : E b c t (RD d) := fun σ H s Q q => h σ H s Q fun H' v k r => by
  rw [hb_f] at r
  exact q H' v k (Dt.less (fun a m => (s.kp k).hides a m) r f)
theorem ET.eq {t : TT} {a a' : Bool} (h : ET c t a) (z : a = a') : ET c t a' := z ▸ h
theorem e_var {i : Nat} (h : c.g[i]? = some (.fz R)) : E b c (tVar i) R := fun σ H s Q q => by
  obtain ⟨v, e, r⟩ := s.fz i R h
  exact ⟨v, e, q H v (Kp.refl _) (R.mn bas_hb r)⟩
/-- a list that is being changed, read -/
theorem e_own {i : Nat} {ds : List PyData} (h : c.g[i]? = some (.own (OL ds))) : E false c (tVar i) (RD (.list ds)) := fun σ H s Q q => by
  obtain ⟨p, o, e1, e2, ⟨vs, rfl, a⟩, _⟩ := s.own i _ h
  refine ⟨.ref p, e1, q H _ (Kp.refl _) ?_⟩
  rw [hb_f]
  exact .lst e2 (a.kp kp_less)
theorem i_own {i : Nat} {ds : List PyData} (h : c.g[i]? = some (.own (OL ds))) : EI c (tVar i) ds := fun σ H s Q q => by
  obtain ⟨p, o, e1, e2, ⟨vs, rfl, a⟩, _⟩ := s.own i _ h
  exact ⟨.ref p, e1, q H p vs (Kp.refl _) e2 a⟩
theorem i_of {ds : List PyData} (h : E true c t (RD (.list ds))) : EI c t ds := fun σ H s Q q => h σ H s Q fun H' v k r => by
  rw [hb_t] at r
  cases r with
  | lst e a => exact q H' _ _ k (less_some e).2 a
theorem e_int {i : Int} : E b c (tC (.int i)) (RD (.int i)) := fun σ H s Q q => q H _ (Kp.refl _) (.int i)
theorem e_bl {x : Bool} : E b c (tC (.bl x)) (RD (.bool x)) := fun σ H s Q q => q H _ (Kp.refl _) (.bl x)
theorem e_non : E b c (tC .non) (RD .none) := fun σ H s Q q => q H _ (Kp.refl _) .non
/-- an operation on values: M is hidden from it -/
def Hd (H : Hp) (M : Addr → Prop) : Prop := ∀ a, M a → ∃ o, H a = some o ∧ Mut (some o)
def O2 (r : R2) (R1 R2 R : Rel) : Prop := ∀ H M x y, Hd H M → R1.p (less H M) x → R2.p (less H M) y → ∀ Q : VK, (∀ H' v, Kp H H' → R.p (less H' M) v → Q v H') → r x y H Q
def On (r : List V → Hp → VK → Prop) (Rs : List Rel) (R : Rel) : Prop := ∀ H M vs, Hd H M → Rok Rs (less H M) vs → ∀ Q : VK, (∀ H' v, Kp H H' → R.p (less H' M) v → Q v H') → r vs H Q
theorem e_op {r : R2} {R1 R2 : Rel} (o : O2 r R1 R2 R) (ha : E b c ta R1) (hc : E b c tb R2) : E b c (tOp r ta tb) R := fun σ H s Q q =>
  ha σ H s _ fun H1 x k1 r1 => hc σ H1 (s.kp k1) _ fun H2 y k2 r2 => o H2 (msk b c σ) x y (fun a m => ((s.kp k1).kp k2).hides a m) (R1.mn (hb_kp k2) r1) r2 Q fun H' v k r => q H' v ((k1.trans k2).trans k) r
theorem a_nil : EA b c tNil [] := fun σ H s Q q => q H [] (Kp.refl _) rfl
theorem a_cons {u : TA} {Rs : List Rel} (ha : E b c t R) (hr : EA b c u Rs) : EA b c (tCons t u) (R :: Rs) := fun σ H s Q q =>
  ha σ H s _ fun H1 x k1 r1 => hr σ H1 (s.kp k1) _ fun H2 vs k2 r2 => q H2 _ (k1.trans k2) ⟨x, vs, rfl, R.mn (hb_kp k2) r1, r2⟩
theorem e_cb {r : List V → Hp → VK → Prop} {u : TA} {Rs : List Rel} (o : On r Rs R) (ha : EA b c u Rs) : E b c (tCB r u) R := fun σ H s Q q =>
  ha σ H s _ fun H1 vs k1 r1 => o H1 (msk b c σ) vs (fun a m => (s.kp k1).hides a m) r1 Q fun H' v k r => q H' v (k1.trans k) r
theorem o_I0 {g : Int → Int → Int} {i j : Int} : O2 (rI0 fun i j => .int (g i j)) (RD (.int i)) (RD (.int j)) (RD (.int (g i j))) := fun H M x y _ r1 r2 Q q => by
  cases r1
  cases r2
  exact ⟨i, j, rfl, rfl, q H _ (Kp.refl _) (.int _)⟩
theorem o_I {C : Int → Int → Prop} {g : Int → Int → Int} {i j : Int} (h : C i j) : O2 (rI C fun i j => .int (g i j)) (RD (.int i)) (RD (.int j)) (RD (.int (g i j))) := fun H M x y _ r1 r2 Q q => by
  cases r1
  cases r2
  exact ⟨i, j, rfl, rfl, h, q H _ (Kp.refl _) (.int _)⟩
theorem o_add {i j : Int} : O2 (rI0 fun i j => .int (i + j)) (RD (.int i)) (RD (.int j)) (RD (.int (i + j))) := o_I0
theorem o_sub {i j : Int} : O2 (rI0 fun i j => .int (i - j)) (RD (.int i)) (RD (.int j)) (RD (.int (i - j))) := o_I0
theorem o_eqI {i j : Int} : O2 rEq (RD (.int i)) (RD (.int j)) (RD (.bool (decide (i = j)))) := fun H M x y _ r1 r2 Q q => by
  cases r1
  cases r2
  refine ⟨rfl, q H _ (Kp.refl _) ?_⟩
  rw [show decide (V.int i = V.int j) = decide (i = j) by simp]
  exact .bl _
theorem o_neI {i j : Int} : O2 rNe (RD (.int i)) (RD (.int j)) (RD (.bool (!decide (i = j)))) := fun H M x y _ r1 r2 Q q => by
  cases r1
  cases r2
  refine ⟨rfl, q H _ (Kp.refl _) ?_⟩
  rw [show decide (V.int i = V.int j) = decide (i = j) by simp]
  exact .bl _
def isN : PyData → Bool
  | .none => true
  | _ => false
theorem Dt.nonv {H : Hp} {x : V} {d : PyData} (h : Dt H x d) : decide (x = .non) = isN d := by
  cases h <;> simp [isN]
theorem t_B {x : Bool} (h : E false c t (RD (.bool x))) : ET c (tB t) x := fun σ H s Q q => h σ H s _ fun H' v k r => by
  cases r
  exact ⟨x, rfl, q H' k⟩
theorem t_T {x : Bool} (h : E false c t (RD (.bool x))) : ET c (tTest t) x := fun σ H s Q q => h σ H s _ fun H' v k r => by
  cases r
  exact ⟨x, rfl, q H' k⟩
theorem t_or {t u : TT} {x y : Bool} (h : ET c t x) (g : x = false → ET c u y) : ET c (tOr t u) (x || y) := fun σ H s Q q => h σ H s _ fun H1 k1 => by
  cases x with
  | true => rw [if_pos rfl]; exact q H1 k1
  | false => rw [if_neg Bool.false_ne_true]; exact g rfl σ H1 (s.kp k1) Q fun H2 k2 => q H2 (k1.trans k2)
theorem t_not {t : TT} {x : Bool} (h : ET c t x) : ET c (tNot t) (!x) := fun σ H s Q q => h σ H s _ fun H1 k1 => q H1 k1
theorem e_if {tt : TT} {x : Bool} (h : ET c tt x) (ha : x = true → E b c ta R) (hc : x = false → E b c tb R) : E b c (tIf tt ta tb) R := fun σ H s Q q => h σ H s _ fun H1 k1 => by
  cases x with
  | true => rw [if_pos rfl]; exact ha rfl σ H1 (s.kp k1) Q fun H' v k r => q H' v (k1.trans k) r
  | false => rw [if_neg Bool.false_ne_true]; exact hc rfl σ H1 (s.kp k1) Q fun H' v k r => q H' v (k1.trans k) r
theorem o_notN {d : PyData} : O2 (fun x y H Q => y = .non ∧ Q (.bl (!decide (x = .non))) H) (RD d) (RD .none) (RD (.bool (!isN d))) := fun H M x y _ r1 r2 Q q => by
  cases r2
  refine ⟨rfl, q H _ (Kp.refl _) ?_⟩
  rw [Dt.nonv r1]
  exact .bl _
end
end Pk
namespace Pk
open PySem L2 PySem.Spec PyProof.Rows GxR NdefX
/-- the picture of a type's things: told apart by ==, of depth n at most, laid out where P -/
structure Enc {α : Type} [DecidableEq α] (f : α → PyData) (n : Nat) (P : α → Prop) : Prop where
  eqv : ∀ a b, PyData.eqv (f a) (f b) = decide (a = b)
  lay : ∀ a, P a → (f a).canLay0 = true
  dep : ∀ a, (f a).depth ≤ n
  nod : ∀ a, Pk.nod (f a) = true
theorem layAll {α : Type} {f : α → PyData} {P : α → Prop} (h : ∀ a, P a → (f a).canLay0 = true) : ∀ xs : List α, (∀ a ∈ xs, P a) → PyData.canLayAll0 (xs.map f) = true
  | [], _ => rfl
  | x :: xs, k => by
    show (PyData.canLay0 (f x) && PyData.canLayAll0 (xs.map f)) = true
    rw [h x (k x (.head _)), layAll h xs fun a m => k a (.tail _ m)]
    rfl
theorem depAll {α : Type} {f : α → PyData} {n : Nat} (h : ∀ a, (f a).depth ≤ n) : ∀ xs : List α, PyData.depthAll (xs.map f) ≤ n
  | [] => Nat.zero_le _
  | x :: xs => by
    show max (PyData.depth (f x)) (PyData.depthAll (xs.map f)) ≤ n
    exact Nat.max_le.mpr ⟨h x, depAll h xs⟩
theorem nodAll {α : Type} {f : α → PyData} (h : ∀ a, Pk.nod (f a) = true) : ∀ xs : List α, nods (xs.map f) = true
  | [] => rfl
  | x :: xs => by
    show (Pk.nod (f x) && nods (xs.map f)) = true
    rw [h x, nodAll h xs]
    rfl
theorem eqvAllE {α : Type} [DecidableEq α] {f : α → PyData} (h : ∀ a b, PyData.eqv (f a) (f b) = decide (a = b)) : ∀ xs ys : List α, PyData.eqvAll (xs.map f) (ys.map f) = decide (xs = ys)
  | [], [] => rfl
  | [], _ :: _ => rfl
  | _ :: _, [] => rfl
  | x :: xs, y :: ys => by
    show (PyData.eqv (f x) (f y) && PyData.eqvAll (xs.map f) (ys.map f)) = decide (x :: xs = y :: ys)
    rw [h x y, eqvAllE h xs ys]
    by_cases e : x = y <;> by_cases k : xs = ys <;> simp [e, k]
theorem enc_int : Enc PyData.int 0 (fun _ => True) := ⟨eqv_int, fun _ _ => rfl, fun _ => Nat.zero_le _, fun _ => rfl⟩
section
variable {α β γ : Type} [DecidableEq α] [DecidableEq β] [DecidableEq γ] {f : α → PyData} {g : β → PyData} {k : γ → PyData} {n m l : Nat} {P : α → Prop} {S : β → Prop} {T : γ → Prop}
theorem Enc.up (h : Enc f n P) (e : n ≤ m) : Enc f m P := ⟨h.eqv, h.lay, fun a => Nat.le_trans (h.dep a) e, h.nod⟩
theorem Enc.imp {P' : α → Prop} (h : Enc f n P) (e : ∀ a, P' a → P a) : Enc f n P' := ⟨h.eqv, fun a k => h.lay a (e a k), h.dep, h.nod⟩
theorem enc_list (h : Enc f n P) : Enc (fun xs : List α => .list (xs.map f)) (n + 1) (fun xs => ∀ a ∈ xs, P a) :=
  ⟨fun a b => eqvAllE h.eqv a b, fun xs q => layAll h.lay xs q, fun xs => Nat.succ_le_succ (depAll h.dep xs), fun xs => nodAll h.nod xs⟩
theorem enc_pair (h : Enc f n P) (q : Enc g n S) : Enc (fun p : α × β => .tuple [f p.1, g p.2]) (n + 1) (fun p => P p.1 ∧ S p.2) := by
  refine ⟨fun a b => ?_, fun a z => ?_, fun a => ?_, fun a => ?_⟩
  · show (PyData.eqv (f a.1) (f b.1) && (PyData.eqv (g a.2) (g b.2) && true)) = _
    rw [h.eqv, q.eqv, Bool.and_true, Bool.eq_iff_iff]
    simp [Prod.ext_iff]
  · show (PyData.canLay0 (f a.1) && (PyData.canLay0 (g a.2) && true)) = true
    rw [h.lay _ z.1, q.lay _ z.2]
    rfl
  · show max (PyData.depth (f a.1)) (max (PyData.depth (g a.2)) 0) + 1 ≤ n + 1
    have := h.dep a.1
    have := q.dep a.2
    omega
  · show (Pk.nod (f a.1) && (Pk.nod (g a.2) && true)) = true
    rw [h.nod, q.nod]
    rfl
/-- None, or a thing -/
def eO (f : α → PyData) : Option α → PyData
  | none => .none
  | some a => f a
theorem Enc.shaped (h : Enc f n P) (hn : n ≤ 64) {a : α} (q : P a) : SeqAt.shaped (f a) = true := by
  unfold SeqAt.shaped
  rw [h.lay a q, Bool.true_and]
  exact decide_eq_true (Nat.le_trans (h.dep a) hn)
theorem dec_bl {p : Prop} (i j : Decidable p) (u : Bool → Bool) {H : Hp} : Dt H (.bl (u (@decide p i))) (.bool (u (@decide p j))) := by
  cases Subsingleton.elim i j
  exact .bl _
theorem o_eqE {K : PySem.W.Frag} (h : Enc f n P) (hn : n ≤ 64) {a b : α} {hd : Decidable (a = b)} (qa : P a) (qb : P b) : O2 (rEqD K) (RD (f a)) (RD (f b)) (RD (.bool (@decide (a = b) hd))) := fun H M x y _ r1 r2 Q q => by
  refine ⟨f a, f b, (Dt.kp kp_less r1).dp (h.nod a), (Dt.kp kp_less r2).dp (h.nod b), h.shaped hn qa, h.shaped hn qb, q H _ (Kp.refl _) ?_⟩
  rw [h.eqv]
  exact dec_bl _ _ id
theorem o_neE {K : PySem.W.Frag} (h : Enc f n P) (hn : n ≤ 64) {a b : α} {hd : Decidable (a = b)} (qa : P a) (qb : P b) : O2 (rNeD K) (RD (f a)) (RD (f b)) (RD (.bool (!@decide (a = b) hd))) := fun H M x y _ r1 r2 Q q => by
  refine ⟨f a, f b, (Dt.kp kp_less r1).dp (h.nod a), (Dt.kp kp_less r2).dp (h.nod b), h.shaped hn qa, h.shaped hn qb, q H _ (Kp.refl _) ?_⟩
  rw [h.eqv]
  exact dec_bl _ _ not
theorem any_enc (h : Enc f n P) (xs : List α) (a : α) : ((xs.map f).any fun z => PyData.eqv z (f a)) = decide (a ∈ xs) := by
  induction xs with
  | nil => rfl
  | cons x xs ih =>
    rw [List.map_cons, List.any_cons, ih, h.eqv]
    by_cases e : x = a
    · subst e
      simp
    · rw [decide_eq_false e, Bool.false_or, Bool.eq_iff_iff, decide_eq_true_iff, decide_eq_true_iff, List.mem_cons]
      exact ⟨.inr, fun z => z.elim (fun y => absurd y.symm e) id⟩
theorem o_niE {K : PySem.W.Frag} (h : Enc f n P) (hn : n ≤ 63) {a : α} {xs : List α} {hd : Decidable (a ∈ xs)} (qa : P a) (qb : ∀ x ∈ xs, P x) : O2 (rNotInD K) (RD (f a)) (RD (.list (xs.map f))) (RD (.bool (!@decide (a ∈ xs) hd))) := fun H M x y _ r1 r2 Q q => by
  have hl := enc_list h
  refine ⟨f a, xs.map f, (Dt.kp kp_less r1).dp (h.nod a), (Dt.kp kp_less r2).dp (hl.nod xs), h.shaped (by omega) qa, hl.shaped (by omega) qb, q H _ (Kp.refl _) ?_⟩
  rw [any_enc h]
  exact dec_bl _ _ not
end
theorem new_at {H : Hp} {M : Addr → Prop} (h : Hd H M) {p : Addr} {o : HO} (n : H p = none) : less (upd H p o) M = upd (less H M) p o := by
  have np : ¬ M p := fun z => by
    obtain ⟨o, e, _⟩ := h p z
    rw [n] at e
    cases e
  funext a
  by_cases e : a = p
  · subst e
    rw [upd_same, less_out np, upd_same]
  · rw [upd_ne e]
    by_cases m : M a
    · rw [less_in m, less_in m]
    · rw [less_out m, less_out m, upd_ne e]
theorem hb_new {b : Bool} {c : Ct} {σ : L2.St} {H : Hp} (s : Sta c σ H) {p : Addr} {o : HO} (n : H p = none) : hb b c σ (upd H p o) = upd (hb b c σ H) p o := new_at (fun a m => s.hides a m) n
theorem less_none {H : Hp} {M : Addr → Prop} {p : Addr} (n : H p = none) : less H M p = none := by
  by_cases m : M p
  · exact less_in m
  · rw [less_out m]
    exact n
section
variable {b : Bool} {c : Ct} {R S : Rel} {t ta tb tc : TE} {d e : PyData}
/-- a reading gives a new object -/
def EN (c : Ct) (t : TE) (C : Own) : Prop := ∀ σ H, Sta c σ H → ∀ Q : VK, (∀ H' p o, Kp H H' → H' p = none → C.p (bas c σ H') o → Q (.ref p) (upd H' p o)) → t σ H Q
theorem n_e {ds : List PyData} (h : EN c t (OL ds)) : E b c t (RD (.list ds)) := fun σ H s Q q => h σ H s Q fun H' p o k n ⟨vs, e, a⟩ => by
  subst e
  refine q _ _ (k.trans (kp_new n)) ?_
  rw [hb_new (s.kp k) n]
  exact .lst upd_same ((a.kp bas_hb).kp (kp_new (less_none n)))
theorem i_n {ds : List PyData} (h : EN c t (OL ds)) : EI c t ds := i_of (n_e h)
/-- the values of arguments that are data -/
def EM (b : Bool) (c : Ct) (t : TA) (ds : List PyData) : Prop := ∀ σ H, Sta c σ H → ∀ Q : List V → Hp → Prop, (∀ H' vs, Kp H H' → DtAll (hb b c σ H') vs ds → Q vs H') → t σ H Q
theorem m_nil : EM b c tNil [] := fun σ H s Q q => q H [] (Kp.refl _) .nil
theorem m_cons {u : TA} {ds : List PyData} (ha : E b c t (RD d)) (hr : EM b c u ds) : EM b c (tCons t u) (d :: ds) := fun σ H s Q q =>
  ha σ H s _ fun H1 x k1 r1 => hr σ H1 (s.kp k1) _ fun H2 vs k2 r2 => q H2 _ (k1.trans k2) (.cons (Dt.kp (hb_kp k2) r1) r2)
theorem e_tup {u : TA} {ds : List PyData} (h : EM b c u ds) (l : Nat.ble ds.length sizeLine = true := by rfl) : E b c (tTup u) (RD (.tuple ds)) := fun σ H s Q q =>
  h σ H s _ fun H1 vs k1 r1 => ⟨by rw [r1.len]; exact Nat.le_of_ble_eq_true l, fun p n => q _ _ (k1.trans (kp_new n)) (by
    rw [hb_new (s.kp k1) n]
    exact .tup upd_same (r1.kp (kp_new (less_none n))))⟩
theorem n_lst {u : TA} {ds : List PyData} (h : EM true c u ds) (l : Nat.ble ds.length sizeLine = true := by rfl) : EN c (tLst u) (OL ds) := fun σ H s Q q =>
  h σ H s _ fun H1 vs k1 r1 => ⟨by rw [r1.len]; exact Nat.le_of_ble_eq_true l, fun p n => q H1 p _ k1 n ⟨vs, rfl, by rw [← hb_t]; exact r1⟩⟩
theorem o_ixL {K : PySem.W.Frag} {ds : List PyData} {i : Int} {d : PyData} (h : atI ds i = some d) : O2 (rIxL K) (RD (.list ds)) (RD (.int i)) (RD d) := fun H M x y _ r1 r2 Q q => by
  cases r2
  cases r1 with
  | lst e a =>
    obtain ⟨v, h1, h2⟩ := a.atI h
    exact ⟨_, _, i, v, rfl, rfl, SqL.of (less_some e).2, h1, q H _ (Kp.refl _) h2⟩
theorem o_ixT {K : PySem.W.Frag} {ds : List PyData} {i : Int} {d : PyData} (h : atI ds i = some d) : O2 (rIxT K) (RD (.tuple ds)) (RD (.int i)) (RD d) := fun H M x y _ r1 r2 Q q => by
  cases r2
  cases r1 with
  | tup e a =>
    obtain ⟨v, h1, h2⟩ := a.atI h
    exact ⟨_, _, i, v, rfl, rfl, SqT.of (less_some e).2, h1, q H _ (Kp.refl _) h2⟩
theorem n_cat {ds es : List PyData} (h : EI c ta ds) (g : EI c tb es) (l : ds.length + es.length ≤ sizeLine) : EN c (tOp rCat ta tb) (OL (ds ++ es)) := fun σ H s Q q =>
  h σ H s _ fun H1 a vs k1 e1 r1 => g σ H1 (s.kp k1) _ fun H2 a2 ws k2 e2 r2 =>
    ⟨a, a2, vs, ws, rfl, rfl, k2.lst e1, e2, by rw [r1.len, r2.len]; exact l, fun p n => q H2 p _ (k1.trans k2) n ⟨_, rfl, (r1.kp ((s.kp k1).kb k2)).app r2⟩⟩
theorem o_lenL {K : PySem.W.Frag} {ds : List PyData} : On (fun xs H Q => ∃ x n, xs = [x] ∧ LenV K x H n ∧ Q (.int n) H) [RD (.list ds)] (RD (.int ds.length)) := fun H M vs _ r Q q => by
  obtain ⟨v, r', rfl, h1, rfl⟩ := r
  cases h1 with
  | lst e a => exact ⟨_, _, rfl, .inl ⟨_, SqL.of (less_some e).2, rfl⟩, by rw [a.len]; exact q H _ (Kp.refl _) (.int _)⟩
theorem o_int {i : Int} : On (fun xs H Q => (∃ i, xs = [.int i] ∧ Q (.int i) H) ∨ ∃ k, xs = [.bl k] ∧ Q (.int (if k then 1 else 0)) H) [RD (.int i)] (RD (.int i)) := fun H M vs _ r Q q => by
  obtain ⟨v, r', rfl, h1, rfl⟩ := r
  cases h1
  exact .inl ⟨_, rfl, q H _ (Kp.refl _) (.int _)⟩
/-- list(..) of a list, of a tuple -/
theorem n_list {K : PySem.W.Frag} {ds : List PyData} (h : EI c t ds) : EN c (tCB (fun xs H Q => ∃ p ys, xs = [.ref p] ∧ (SqL K H p ys ∨ SqT K H p ys) ∧ ∀ l, H l = none → Q (.ref l) (upd H l (.lst ys))) (tCons t tNil)) (OL ds) := fun σ H s Q q =>
  h σ H s _ fun H1 a vs k1 e1 r1 => ⟨a, vs, rfl, .inl (SqL.of e1), fun l n => q H1 l _ k1 n ⟨vs, rfl, r1⟩⟩
end
end Pk
namespace Pk
open PySem L2 PySem.Spec PyProof.Rows GxR NdefX
def notOwn : Option Slot → Bool
  | some (.own _) => false
  | _ => true
theorem bas_iff {c c' : Ct} {σ σ' : L2.St} {H H' : Hp} (h : ∀ a, (isOwn c.g σ a ∨ c.om a) ↔ (isOwn c'.g σ' a ∨ c'.om a)) (e : ∀ a, ¬ (isOwn c.g σ a ∨ c.om a) → H a = H' a) : bas c σ H = bas c' σ' H' := by
  funext a
  by_cases m : isOwn c.g σ a ∨ c.om a
  · rw [bas_in m, bas_in ((h a).mp m)]
  · rw [bas_out m, bas_out fun z => m ((h a).mpr z)]
    exact e a m
theorem own_set {g : List Slot} {σ : L2.St} {i : Nat} {s : Slot} {o : Option V} (h : notOwn g[i]? = true) (hs : notOwn (some s) = true) (a : Addr) : isOwn (g.set i s) (σ.set i o) a ↔ isOwn g σ a := by
  constructor
  · rintro ⟨j, C, e1, e2⟩
    rcases getset e1 with ⟨_, z⟩ | ⟨n, z⟩
    · rw [← z] at hs
      cases hs
    · rw [List.getElem?_set_ne fun z => n z.symm] at e2
      exact ⟨j, C, z, e2⟩
  · rintro ⟨j, C, e1, e2⟩
    have n : i ≠ j := fun z => by
      subst z
      rw [e1] at h
      cases h
    exact ⟨j, C, by rw [List.getElem?_set_ne n]; exact e1, by rw [List.getElem?_set_ne n]; exact e2⟩
theorem wipe_set {σ : L2.St} {i : Nat} {o : Option V} : ∀ {vs : List Nat}, i ∈ vs → wipe (σ.set i o) vs = wipe σ vs
  | v :: vs, h => by
    show (wipe (σ.set i o) vs).set v none = (wipe σ vs).set v none
    by_cases m : i ∈ vs
    · rw [wipe_set m]
    · have e : i = v := by
        rcases List.mem_cons.mp h with z | z
        · exact z
        · exact absurd z m
      subst e
      have : ∀ (ws : List Nat), i ∉ ws → wipe (σ.set i o) ws = (wipe σ ws).set i o := fun ws => by
        induction ws with
        | nil => intro _; rfl
        | cons w ws ih =>
          intro q
          show (wipe (σ.set i o) ws).set w none = ((wipe σ ws).set w none).set i o
          rw [ih fun z => q (.tail _ z), List.set_comm _ _ (fun z => q (by rw [z]; exact .head _))]
      rw [this vs m, List.set_set]
theorem wipe_wipe {σ : L2.St} : ∀ {vs ws : List Nat}, (∀ i ∈ vs, i ∈ ws) → wipe (wipe σ vs) ws = wipe σ ws
  | [], _, _ => rfl
  | v :: vs, ws, h => by
    show wipe ((wipe σ vs).set v none) ws = wipe σ ws
    rw [wipe_set (h v (.head _)), wipe_wipe fun i m => h i (.tail _ m)]
theorem own_wipe {g : List Slot} {σ : L2.St} : ∀ {vs : List Nat}, (∀ i ∈ vs, g[i]? = some .any) → ∀ a, isOwn g (wipe σ vs) a ↔ isOwn g σ a
  | [], _, _ => Iff.rfl
  | v :: vs, h, a => by
    have e := h v (.head _)
    have := own_set (σ := wipe σ vs) (o := none) (s := .any) (by rw [e]; rfl) rfl a
    rw [setsame e] at this
    exact this.trans (own_wipe (fun i m => h i (.tail _ m)) a)
theorem Sta.wipe {c : Ct} {σ : L2.St} {H : Hp} (s : Sta c σ H) : ∀ {vs : List Nat}, (∀ i ∈ vs, c.g[i]? = some .any) → Sta c (wipe σ vs) H
  | [], _ => s
  | v :: vs, h => by
    have q := ((s.wipe (vs := vs) fun i m => h i (.tail _ m)).drop v none).1
    rw [show c.set v .any = c by unfold Ct.set; rw [setsame (h v (.head _))]] at q
    exact q
/-- a target takes a value: the slots are then g', those at `is` new -/
def EG (c : Ct) (g : TG) (R : Rel) (g' : List Slot) (is : List Nat) : Prop := ∀ σ H v, Sta c σ H → R.p (bas c σ H) v → ∀ Q : L2.St → Hp → Prop,
  (∀ σ', Sta (c.at g') σ' H → (∀ H', bas (c.at g') σ' H' = bas c σ H') → (∀ vs, (∀ i ∈ is, i ∈ vs) → wipe σ' vs = wipe σ vs) → Q σ' H) → g v σ H Q
def EGs (c : Ct) (u : TGs) (ds : List PyData) (g' : List Slot) (is : List Nat) : Prop := ∀ σ H vs, Sta c σ H → DtAll (bas c σ H) vs ds → ∀ Q : L2.St → Hp → Prop,
  (∀ σ', Sta (c.at g') σ' H → (∀ H', bas (c.at g') σ' H' = bas c σ H') → (∀ vs, (∀ i ∈ is, i ∈ vs) → wipe σ' vs = wipe σ vs) → Q σ' H) → u vs σ H Q
section
variable {c : Ct} {R : Rel} {g1 g2 : List Slot} {is js : List Nat} {d : PyData} {ds : List PyData}
theorem g_name {i : Nat} (hi : Nat.blt i c.g.length = true := by rfl) (hn : notOwn c.g[i]? = true := by rfl) : EG c (gName i) R (c.g.set i (.fz R)) [i] := fun σ H v s r Q q => by
  have hi' : i < c.g.length := by simpa using hi
  refine q _ (s.set hi' r).1 (fun H' => ?_) fun vs h => wipe_set (h i (.head _))
  exact bas_iff (fun a => or_congr (own_set hn rfl a) Iff.rfl) fun _ _ => rfl
theorem gs_nil : EGs c gNil [] c.g [] := fun σ H vs s r Q q => by
  cases r
  exact ⟨rfl, q σ s (fun _ => rfl) fun _ _ => rfl⟩
theorem gs_cons {t : TG} {u : TGs} (h : EG c t (RD d) g1 is) (k : EGs (c.at g1) u ds g2 js) : EGs c (gCons t u) (d :: ds) g2 (is ++ js) := fun σ H vs s r Q q => by
  cases r with
  | cons a b =>
    refine ⟨_, _, rfl, h σ H _ s a _ fun σ1 s1 e1 w1 => k σ1 H _ s1 (by rw [e1]; exact b) Q fun σ2 s2 e2 w2 => q σ2 s2 (fun H' => (e2 H').trans (e1 H')) fun vs hv => ?_⟩
    exact (w2 vs fun i m => hv i (List.mem_append_right _ m)).trans (w1 vs fun i m => hv i (List.mem_append_left _ m))
theorem g_tup {K : PySem.W.Frag} {n : Nat} {u : TGs} (h : EGs c u ds g1 is) (e : ds.length = n := by rfl) : EG c (gTup K n u) (RD (.tuple ds)) g1 is := fun σ H v s r Q q => by
  cases r with
  | tup e1 a => exact ⟨_, _, rfl, SqT.of (less_some e1).2, by rw [a.len]; exact e, h σ H _ s a Q q⟩
end
/-- a new object is hidden -/
theorem Sta.hide {c : Ct} {σ : L2.St} {H : Hp} (s : Sta c σ H) {p : Addr} {o : HO} (n : H p = none) (m : Mut (some o)) :
    Sta ⟨c.hs, c.h0, fun a => c.om a ∨ a = p, c.g⟩ σ (upd H p o) ∧ bas ⟨c.hs, c.h0, fun a => c.om a ∨ a = p, c.g⟩ σ (upd H p o) = bas c σ H := by
  have eb : bas ⟨c.hs, c.h0, fun a => c.om a ∨ a = p, c.g⟩ σ (upd H p o) = bas c σ H := by
    funext a
    by_cases e : a = p
    · subst e
      rw [bas_in (c := ⟨c.hs, c.h0, fun b => c.om b ∨ b = a, c.g⟩) (.inr (.inr rfl)), bas_out (s.free n), n]
    · by_cases z : isOwn c.g σ a ∨ c.om a
      · rw [bas_in z]
        exact bas_in (c := ⟨c.hs, c.h0, fun b => c.om b ∨ b = p, c.g⟩) (z.elim .inl fun y => .inr (.inl y))
      · rw [bas_out z]
        refine (bas_out (c := ⟨c.hs, c.h0, fun b => c.om b ∨ b = p, c.g⟩) fun y => z (y.elim .inl fun x => x.elim .inr fun w => absurd w e)).trans (upd_ne e)
  refine ⟨⟨s.len, fun i R e => by rw [eb]; exact s.fz i R e, fun i C e => ?_, s.ne, by rw [eb]; exact s.k0, s.ks.trans (kp_new n), fun a z => ?_⟩, eb⟩
  · obtain ⟨q, u, e1, e2, e3, e4, e5⟩ := s.own i C e
    have qp : q ≠ p := ne_of_none e2 n
    exact ⟨q, u, e1, by rw [upd_ne qp]; exact e2, by rw [eb]; exact e3, e4, fun y => y.elim e5 qp⟩
  · rcases z with z | z
    · obtain ⟨u, e, k⟩ := s.hid a z
      exact ⟨u, by rw [upd_ne (ne_of_none e n)]; exact e, k⟩
    · subst z
      exact ⟨o, upd_same, m⟩
/-- a hidden object is changed -/
theorem Sta.hmut {c : Ct} {σ : L2.St} {H : Hp} (s : Sta c σ H) {p : Addr} {o : HO} (hp : c.om p) (f : Fre c.hs p) (m : Mut (some o)) : Sta c σ (upd H p o) ∧ bas c σ (upd H p o) = bas c σ H := by
  have eb : bas c σ (upd H p o) = bas c σ H := bas_iff (fun _ => Iff.rfl) fun a z => upd_ne fun e => z (.inr (e ▸ hp))
  refine ⟨⟨s.len, fun i R e => by rw [eb]; exact s.fz i R e, fun i C e => ?_, s.ne, by rw [eb]; exact s.k0, f.upd s.ks, fun a z => ?_⟩, eb⟩
  · obtain ⟨q, u, e1, e2, e3, e4, e5⟩ := s.own i C e
    exact ⟨q, u, e1, by rw [upd_ne fun z => e5 (by rw [z]; exact hp)]; exact e2, by rw [eb]; exact e3, e4, e5⟩
  · obtain ⟨u, e, k⟩ := s.hid a z
    by_cases y : a = p
    · subst y
      exact ⟨o, upd_same, m⟩
    · exact ⟨u, by rw [upd_ne y]; exact e, k⟩
noncomputable def wo (H : Hp) (p : Addr) : Hp := less H fun a => a = p
theorem wo_at {H : Hp} {p : Addr} : wo H p p = none := if_pos rfl
theorem wo_ne {H : Hp} {p a : Addr} (h : ¬ a = p) : wo H p a = H a := if_neg h
theorem wo_some {H : Hp} {p a : Addr} {o : HO} (e : wo H p a = some o) : H a = some o := (less_some e).2
theorem wo_kp {H H' : Hp} {p : Addr} (k : Kp H H') : Kp (wo H p) (wo H' p) := less_kp k
theorem upd_less {H : Hp} {p : Addr} {o : HO} (e : H p = some o) : upd (wo H p) p o = H := by
  funext a
  by_cases z : a = p
  · subst z
    rw [upd_same, e]
  · rw [upd_ne z, wo_ne z]
theorem bas_less {c : Ct} {σ : L2.St} {H : Hp} {p : Addr} : bas c σ (wo H p) = bas ⟨c.hs, c.h0, fun a => c.om a ∨ a = p, c.g⟩ σ H := by
  funext a
  by_cases z : isOwn c.g σ a ∨ c.om a
  · rw [bas_in z]
    exact (bas_in (c := ⟨c.hs, c.h0, fun b => c.om b ∨ b = p, c.g⟩) (z.elim .inl fun y => .inr (.inl y))).symm
  · rw [bas_out z]
    by_cases e : a = p
    · subst e
      rw [wo_at]
      exact (bas_in (c := ⟨c.hs, c.h0, fun b => c.om b ∨ b = a, c.g⟩) (.inr (.inr rfl))).symm
    · rw [wo_ne e]
      exact (bas_out (c := ⟨c.hs, c.h0, fun b => c.om b ∨ b = p, c.g⟩) fun y => z (y.elim .inl fun x => x.elim .inr fun w => absurd w e)).symm
theorem less_upd {H : Hp} {p : Addr} {o : HO} : wo (upd H p o) p = wo H p := by
  funext a
  by_cases z : a = p
  · subst z
    rw [wo_at, wo_at]
  · rw [wo_ne z, wo_ne z, upd_ne z]
/-- what a comprehension keeps -/
structure Kc (c : Ct) (σ : L2.St) (H1 : Hp) (D : Addr) (ds : List PyData) (H : Hp) : Prop where
  ex : ∃ acc, H D = some (.lst acc) ∧ DtAll (bas ⟨c.hs, c.h0, fun a => c.om a ∨ a = D, c.g⟩ σ H) acc ds
  st : Sta ⟨c.hs, c.h0, fun a => c.om a ∨ a = D, c.g⟩ σ H
  kp : Kp H1 (wo H D)
theorem Kc.grow {c : Ct} {σ : L2.St} {H1 H H' : Hp} {D : Addr} {ds : List PyData} (h : Kc c σ H1 D ds H) (k : Kp H H') : Kc c σ H1 D ds H' := by
  obtain ⟨acc, e, a⟩ := h.ex
  exact ⟨⟨acc, k.lst e, a.kp (h.st.kb k)⟩, h.st.kp k, h.kp.trans (wo_kp k)⟩
theorem Kc.put {c : Ct} {σ : L2.St} {H1 H : Hp} {D : Addr} {acc : List V} {ds : List PyData} {y : V} {d : PyData} (h : Kc c σ H1 D ds H) (f : Fre c.hs D) (e : H D = some (.lst acc)) (r : Dt (bas ⟨c.hs, c.h0, fun a => c.om a ∨ a = D, c.g⟩ σ H) y d) :
    Kc c σ H1 D (ds ++ [d]) (upd H D (.lst (acc ++ [y]))) := by
  obtain ⟨acc', e', a⟩ := h.ex
  rw [e] at e'
  cases e'
  obtain ⟨s, eb⟩ := h.st.hmut (p := D) (o := .lst (acc ++ [y])) (.inr rfl) f trivial
  exact ⟨⟨_, upd_same, by rw [eb]; exact a.app (.cons r .nil)⟩, s, by rw [less_upd]; exact h.kp⟩
theorem ft_succ {α : Type} {p : α → Bool} {f : α → PyData} {xs : List α} {i : Nat} {x : α} (h : xs[i]? = some x) : ((xs.take (i + 1)).filter p).map f = ((xs.take i).filter p).map f ++ (if p x = true then [f x] else []) := by
  have hi : i < xs.length := (List.getElem?_eq_some_iff.mp h).1
  have e : xs[i] = x := (List.getElem?_eq_some_iff.mp h).2
  rw [List.take_succ_eq_append_getElem hi, e, List.filter_append, List.map_append]
  congr 1
  cases hp : p x <;> simp [hp]
section
variable {c : Ct} {K : PySem.W.Frag} {α : Type} {xs : List α} {enc : α → PyData} {G : α → List Slot} {is vs : List Nat} {p : α → Bool} {f : α → PyData} {tl te : TE} {tt : TT} {g : TG}
theorem lc_len {xs : List α} {p : α → Bool} {f : α → PyData} {i n : Nat} (h : xs.length ≤ n) : (((xs.take i).filter p).map f).length ≤ n := by
  rw [List.length_map]
  refine Nat.le_trans (List.length_filter_le _ _) (Nat.le_trans ?_ h)
  rw [List.length_take]
  omega
/-- [e for x in xs if t] -/
theorem n_lc (hs : EI c tl (xs.map enc)) (hw : ∀ i ∈ vs, c.g[i]? = some .any) (his : ∀ i ∈ is, i ∈ vs)
    (hg : ∀ om, ∀ x ∈ xs, EG ⟨c.hs, c.h0, om, c.g⟩ g (RD (enc x)) (G x) is) (ht : ∀ om, ∀ x ∈ xs, ET ⟨c.hs, c.h0, om, G x⟩ tt (p x))
    (he : ∀ om, ∀ x ∈ xs, p x = true → E true ⟨c.hs, c.h0, om, G x⟩ te (RD (f x))) (hl : xs.length < sizeLine) : EN c (tLc (iList K tl) g tt te vs) (OL ((xs.filter p).map f)) := fun σ H s Q q => by
  refine hs σ H s _ fun H1 a us k1 e1 r1 => ⟨a, rfl, ⟨us, SqL.of e1⟩, fun D nD => ?_⟩
  have s1 := s.kp k1
  have fD : Fre c.hs D := .of s1.ks nD
  have hul : us.length = xs.length := by rw [r1.len, List.length_map]
  have sw := s1.wipe hw
  have ew : ∀ H', bas c (wipe σ vs) H' = bas c σ H' := fun H' => bas_iff (fun a => or_congr (own_wipe hw a) Iff.rfl) fun _ _ => rfl
  refine lc_list (K := K) (a := a) (xs := us) (fun i H' => Kc c (wipe σ vs) H1 D (((xs.take i).filter p).map f) H') ?_ ?_ ?_ ?_
  · obtain ⟨sh, eb⟩ := sw.hide (o := .lst []) nD trivial
    exact ⟨⟨[], upd_same, by simpa using DtAll.nil⟩, sh, by rw [less_upd]; exact kp_of fun b o e => by rw [wo_ne (ne_of_none e nD)]; exact e⟩
  · intro i H' hi h
    exact SqL.of (wo_some (h.kp.lst e1))
  · intro i v H' hx h
    obtain ⟨d0, hd0, hv⟩ := r1.at' hx
    rw [List.getElem?_map] at hd0
    obtain ⟨x, ex, rfl⟩ := Option.map_eq_some_iff.mp hd0
    have hm : x ∈ xs := List.mem_of_getElem? ex
    have hv' : Dt (bas ⟨c.hs, c.h0, fun b => c.om b ∨ b = D, c.g⟩ (wipe σ vs) H') v (enc x) := by
      rw [← bas_less, ew]
      exact hv.kp (s1.kb h.kp)
    refine hg _ x hm _ H' v h.st hv' _ fun σ2 s2 e2 w2 => ⟨(w2 vs his).trans (wipe_wipe fun _ m => m), ht _ x hm σ2 H' s2 _ fun H3 k3 => ?_⟩
    cases hp : p x with
    | false =>
      rw [if_neg Bool.false_ne_true, ft_succ ex, hp, if_neg Bool.false_ne_true, List.append_nil]
      exact h.grow k3
    | true =>
      rw [if_pos rfl]
      refine he _ x hm hp σ2 H3 (s2.kp k3) _ fun H4 y k4 r4 => ?_
      have h4 := (h.grow k3).grow k4
      obtain ⟨acc, ea, aa⟩ := h4.ex
      refine ⟨acc, ea, ?_, ?_⟩
      · have := lc_len (p := p) (f := f) (i := i) (Nat.le_refl xs.length)
        rw [aa.len]
        omega
      · rw [ft_succ ex, hp, if_pos rfl]
        refine h4.put fD ea ?_
        rw [hb_t] at r4
        rw [← e2]
        exact r4
  · intro H' h
    obtain ⟨acc, ea, aa⟩ := h.ex
    rw [← upd_less ea]
    refine q _ D _ (k1.trans h.kp) wo_at ⟨acc, rfl, ?_⟩
    rw [← ew, bas_less]
    rw [hul, List.take_length] at aa
    exact aa
/-- [e for i in range(..) if t] -/
theorem n_lcR {lo : Int} {n : Nat} {G : Int → List Slot} {p : Int → Bool} {f : Int → PyData} {wi : TI} (hs : ∀ σ H, Sta c σ H → ∀ R : It → Hp → Prop, (∀ H', Kp H H' → R (Itr lo n) H') → wi σ H R) (hw : ∀ i ∈ vs, c.g[i]? = some .any) (his : ∀ i ∈ is, i ∈ vs)
    (hg : ∀ om, ∀ k : Nat, k < n → EG ⟨c.hs, c.h0, om, c.g⟩ g (RD (.int (lo + k))) (G (lo + k)) is) (ht : ∀ om, ∀ k : Nat, k < n → ET ⟨c.hs, c.h0, om, G (lo + k)⟩ tt (p (lo + k)))
    (he : ∀ om, ∀ k : Nat, k < n → p (lo + k) = true → E true ⟨c.hs, c.h0, om, G (lo + k)⟩ te (RD (f (lo + k)))) (hl : n < sizeLine) :
    EN c (tLc wi g tt te vs) (OL ((((List.range n).map fun k : Nat => lo + (k : Int)).filter p).map f)) := fun σ H s Q q => by
  refine hs σ H s _ fun H1 k1 D nD => ?_
  have s1 := s.kp k1
  have fD : Fre c.hs D := .of s1.ks nD
  have sw := s1.wipe hw
  have ew : ∀ H', bas c (wipe σ vs) H' = bas c σ H' := fun H' => bas_iff (fun a => or_congr (own_wipe hw a) Iff.rfl) fun _ _ => rfl
  have at_ : ∀ {i : Nat}, i < n → ((List.range n).map fun k : Nat => lo + (k : Int))[i]? = some (lo + (i : Int)) := fun {i} hi => by
    rw [List.getElem?_map, List.getElem?_range hi]
    rfl
  have hln : ((List.range n).map fun k : Nat => lo + (k : Int)).length = n := by rw [List.length_map, List.length_range]
  generalize hX : ((List.range n).map fun k : Nat => lo + (k : Int)) = X at *
  refine lc_range (lo := lo) (n := n) (fun i H' => Kc c (wipe σ vs) H1 D (((X.take i).filter p).map f) H') ?_ ?_ ?_
  · obtain ⟨sh, eb⟩ := sw.hide (o := .lst []) nD trivial
    exact ⟨⟨[], upd_same, by simpa using DtAll.nil⟩, sh, by rw [less_upd]; exact kp_of fun b o e => by rw [wo_ne (ne_of_none e nD)]; exact e⟩
  · intro i H' hi h
    have ex := at_ hi
    refine hg _ i hi _ H' _ h.st (.int _) _ fun σ2 s2 e2 w2 => ⟨(w2 vs his).trans (wipe_wipe fun _ m => m), ht _ i hi σ2 H' s2 _ fun H3 k3 => ?_⟩
    cases hp : p (lo + (i : Int)) with
    | false =>
      rw [if_neg Bool.false_ne_true, ft_succ ex, hp, if_neg Bool.false_ne_true, List.append_nil]
      exact h.grow k3
    | true =>
      rw [if_pos rfl]
      refine he _ i hi hp σ2 H3 (s2.kp k3) _ fun H4 y k4 r4 => ?_
      have h4 := (h.grow k3).grow k4
      obtain ⟨acc, ea, aa⟩ := h4.ex
      refine ⟨acc, ea, ?_, ?_⟩
      · have := lc_len (xs := X) (p := p) (f := f) (i := i) (n := n) (by omega)
        rw [aa.len]
        omega
      · rw [ft_succ ex, hp, if_pos rfl]
        refine h4.put fD ea ?_
        rw [hb_t] at r4
        rw [← e2]
        exact r4
  · intro H' h
    obtain ⟨acc, ea, aa⟩ := h.ex
    rw [← upd_less ea]
    refine q _ D _ (k1.trans h.kp) wo_at ⟨acc, rfl, ?_⟩
    rw [← ew, bas_less]
    rw [← hln, List.take_length] at aa
    exact aa
end
/-- what a range walks -/
def EW (c : Ct) (wi : TI) (lo : Int) (n : Nat) : Prop := ∀ σ H, Sta c σ H → ∀ R : It → Hp → Prop, (∀ H', Kp H H' → R (Itr lo n) H') → wi σ H R
section
variable {c : Ct} {t ta tb : TE}
theorem w_rng1 {j : Int} (h : E false c t (RD (.int j))) (b : -(2 ^ 62) ≤ j ∧ j < 2 ^ 62) : EW c (iRng1 (tCons t tNil)) 0 j.toNat := fun σ H s R q => h σ H s _ fun H1 v k r => by
  cases r
  exact ⟨j, rfl, b.1, b.2, q H1 k⟩
end
end Pk
namespace Pk
open PySem L2 PySem.Spec PyProof.Rows GxR NdefX
/-- what is wanted holds wherever the slots hold what they should -/
def WC (c : Ct) (k : L2.St → Hp → Prop) : Prop := ∀ σ H, Sta c σ H → k σ H
/-- one of these holds -/
def Nx (c : Ct) (I : List Slot → Prop) : L2.St → Hp → Prop := fun σ H => ∃ g, I g ∧ Sta (c.at g) σ H
section
variable {c : Ct} {R S : Rel} {C : Own} {t te tl : TE} {tt : TT} {g : TG} {i : Nat} {D : Ends} {k : L2.St → Hp → Prop} {a u : TS} {K : PySem.W.Frag}
theorem s_of {I : List Slot → Prop} {hs h0 : Hp} {om : Addr → Prop} {gs : List Slot} (h : I gs) : WC ⟨hs, h0, om, gs⟩ (Nx ⟨hs, h0, om, []⟩ I) := fun σ H s => ⟨gs, h, s⟩
theorem s_seq (h : WC c (a { D with nx := u D })) : WC c (tSeq a u D) := h
theorem s_pass (h : WC c D.nx) : WC c (tNext D) := h
theorem s_set (h : E true c te R) (q : WC (c.set i (.fz R)) D.nx) (hi : Nat.blt i c.g.length = true := by rfl) : WC c (tAsg te (gName i) D) := fun σ H s => h σ H s _ fun H' v kp r => by
  rw [hb_t] at r
  exact q _ H' ((s.kp kp).set (by simpa using hi) r).1
theorem s_new (h : EN c te C) (q : WC (c.set i (.own C)) D.nx) (hi : Nat.blt i c.g.length = true := by rfl) : WC c (tAsg te (gName i) D) := fun σ H s => h σ H s _ fun H' p o kp n r =>
  q _ _ ((s.kp kp).new (by simpa using hi) n r).1
theorem s_expr (h : E false c te R) (q : WC c D.nx) : WC c (tDrop te D) := fun σ H s => h σ H s _ fun H' v kp _ => q σ H' (s.kp kp)
theorem s_if {x : Bool} (h : ET c tt x) (ha : x = true → WC c (a D)) (hb : x = false → WC c (u D)) : WC c (tIfS tt a u D) := fun σ H s => h σ H s _ fun H' kp => by
  cases x with
  | true => rw [if_pos rfl]; exact ha rfl σ H' (s.kp kp)
  | false => rw [if_neg Bool.false_ne_true]; exact hb rfl σ H' (s.kp kp)
theorem s_ret (h : E true c te R) (q : ∀ H' v, Kp c.hs H' → R.p (less H' c.om) v → D.rt v H') : WC c (tRet te D) := fun σ H s => h σ H s _ fun H' v kp r => by
  rw [hb_t] at r
  exact q H' v (s.ks.trans kp) (R.mn (less_mono fun _ z => .inr z) r)
theorem s_end (q : ∀ σ H', Kp c.hs H' → D.nx σ H') : WC c D.nx := fun σ H s => q σ H s.ks
/-- what was changed now stays -/
theorem s_fix (e : c.g[i]? = some (.own C)) (z : ∀ B p o, B p = some o → C.p B o → R.p B (.ref p)) (q : WC (c.set i (.fz R)) k) : WC c k := fun σ H s => q σ H (s.fix e z).1
theorem s_fixL {ds : List PyData} (i : Nat) (e : c.g[i]? = some (.own (OL ds))) (q : WC (c.set i (.fz (RD (.list ds)))) k) : WC c k := s_fix e (fun _ _ _ => OL.fix) q
/-- nothing more is said of a slot -/
theorem s_drop (i : Nat) (q : WC (c.set i .any) k) : WC c k := fun σ H s => by
  cases e : σ[i]? with
  | none =>
    have := (s.drop i none).1
    rw [List.set_eq_of_length_le (List.getElem?_eq_none_iff.mp e)] at this
    exact q σ H this
  | some o =>
    have := (s.drop i o).1
    rw [setsame e] at this
    exact q σ H this
/-- l.append(e), l being changed -/
theorem s_app {d : PyData} {ds : List PyData} (e : c.g[i]? = some (.own (OL ds))) (h : E true c te (RD d)) (l : ds.length < sizeLine) (q : WC (c.set i (.own (OL (ds ++ [d])))) D.nx) :
    WC c (tDrop (tBM K "list" rAppend (tVar i) (tCons te tNil)) D) := fun σ H s => by
  obtain ⟨p, o, e1, e2, ⟨vs, rfl, a⟩, _⟩ := s.own i _ e
  refine ⟨.ref p, e1, .inl ⟨rfl, vs, SqL.of e2⟩, h σ H s _ fun H1 v kp r => ⟨p, vs, v, rfl, rfl, kp.lst e2, by rw [a.len]; exact l, ?_⟩⟩
  rw [hb_t] at r
  exact q σ _ ((s.kp kp).mut (C' := OL (ds ++ [d])) e e1 ⟨_, rfl, (a.kp (s.kb kp)).app (.cons r .nil)⟩).1
end
section
variable {c : Ct} {tl : TE} {wi : TI} {g : TG} {D : Ends} {tb : TS} {K : PySem.W.Frag} {tt : TT}
abbrev inL (hs h1 : Hp) (om : Addr → Prop) (I : List Slot → Prop) (D : Ends) : Ends := { D with nx := Nx ⟨hs, h1, om, []⟩ I, ct := Nx ⟨hs, h1, om, []⟩ I, bk := D.nx }
theorem s_for {α : Type} {xs : List α} {enc : α → PyData} (I : Nat → List Slot → Prop) (hs : E true c tl (RD (.list (xs.map enc)))) (h0 : I 0 c.g)
    (hb : ∀ h1 i x gs, Kp c.h0 h1 → xs[i]? = some x → I i gs → ∃ g' is, EG ⟨c.hs, h1, c.om, gs⟩ g (RD (enc x)) g' is ∧ WC ⟨c.hs, h1, c.om, g'⟩ (tb (inL c.hs h1 c.om (I (i + 1)) D)))
    (hd : ∀ gs, I xs.length gs → WC (c.at gs) D.nx) : WC c (tFor (iList K tl) g tb D) := fun σ H s => hs σ H s _ fun H1 v k1 r1 => by
  rw [hb_t] at r1
  have s1 := s.kp k1
  cases r1 with
  | @lst a0 vs0 _ e a =>
    refine ⟨a0, rfl, ⟨vs0, SqL.of (less_some e).2⟩, ?_⟩
    have hl := a.len
    rw [List.length_map] at hl
    refine for_list (K := K) (a := a0) (xs := vs0) (fun i σ' H' => Nx ⟨c.hs, bas c σ H1, c.om, []⟩ (I i) σ' H') ⟨c.g, h0, s1.h0 (Kp.refl _)⟩ ?_ ?_ ?_
    · rintro i σ' H' _ ⟨gs, _, s'⟩
      exact SqL.of (less_some (s'.k0.lst e)).2
    · rintro i v σ' H' hv ⟨gs, hi, s'⟩
      obtain ⟨d, hd', rd⟩ := a.at' hv
      rw [List.getElem?_map] at hd'
      obtain ⟨x, ex, rfl⟩ := Option.map_eq_some_iff.mp hd'
      obtain ⟨g', is, hg, hw⟩ := hb (bas c σ H1) i x gs s1.k0 ex hi
      exact hg σ' H' v s' (rd.kp s'.k0) _ fun σ2 s2 _ _ => hw σ2 H' s2
    · rintro σ' H' ⟨gs, hi, s'⟩
      rw [hl] at hi
      exact hd gs hi σ' H' (s'.h0 (s1.k0.trans s'.k0))
theorem s_rng {lo : Int} {n : Nat} (I : Nat → List Slot → Prop) (hs : EW c wi lo n) (h0 : I 0 c.g)
    (hb : ∀ i gs, i < n → I i gs → ∃ g' is, EG (c.at gs) g (RD (.int (lo + (i : Int)))) g' is ∧ WC (c.at g') (tb (inL c.hs c.h0 c.om (I (i + 1)) D)))
    (hd : ∀ gs, I n gs → WC (c.at gs) D.nx) : WC c (tFor wi g tb D) := fun σ H s => hs σ H s _ fun H1 k1 => by
  refine for_range (fun i σ' H' => Nx ⟨c.hs, c.h0, c.om, []⟩ (I i) σ' H') ⟨c.g, h0, s.kp k1⟩ ?_ ?_
  · rintro i σ' H' hi ⟨gs, hg, s'⟩
    obtain ⟨g', is, hg', hw⟩ := hb i gs hi hg
    exact hg' σ' H' _ s' (.int _) _ fun σ2 s2 _ _ => hw σ2 H' s2
  · rintro σ' H' ⟨gs, hg, s'⟩
    exact hd gs hg σ' H' s'
theorem s_while (I : Nat → List Slot → Prop) (m0 : Nat) (h0 : I m0 c.g)
    (hb : ∀ m gs, I m gs → ∃ x, ET (c.at gs) tt x ∧ (x = true → WC (c.at gs) (tb (inL c.hs c.h0 c.om (fun g => ∃ m', m' < m ∧ I m' g) D))) ∧ (x = false → WC (c.at gs) D.nx)) : WC c (tWhile tt tb D) := fun σ H s => by
  refine ⟨fun m σ H => Nx ⟨c.hs, c.h0, c.om, []⟩ (I m) σ H, ⟨m0, c.g, h0, s⟩, ?_⟩
  rintro m σ' H' ⟨gs, hi, s'⟩
  obtain ⟨x, ht, h1, h2⟩ := hb m gs hi
  refine ht σ' H' s' _ fun H2 k2 => ?_
  cases x with
  | true =>
    rw [if_pos rfl]
    exact ⟨_, fun σ3 H3 ⟨g3, ⟨m', lt, i3⟩, s3⟩ => ⟨m', lt, g3, i3, s3⟩, h1 rfl σ' H2 (s'.kp k2)⟩
  | false => rw [if_neg Bool.false_ne_true]; exact h2 rfl σ' H2 (s'.kp k2)
end
/-- for arguments that are as Rs says, and P: a value as R says -/
def Sps {α : Type} (Rs : α → List Rel) (P : α → Hp → Prop) (R : α → Rel) : Sp := fun vs H Q _ => ∃ (a : α) (om : Addr → Prop), Hd H om ∧ Rok (Rs a) (less H om) vs ∧ P a (less H om) ∧ ∀ H' v, Kp H H' → (R a).p (less H' om) v → Q v H'
/-- a promise serves such arguments -/
def Sok (sp : Sp) (Rs : List Rel) (P : Hp → Prop) (R : Rel) : Prop := ∀ H om vs, Hd H om → Rok Rs (less H om) vs → P (less H om) → ∀ (Q : VK) (E : XK), (∀ H' v, Kp H H' → R.p (less H' om) v → Q v H') → sp vs H Q E
theorem sok_sps {α : Type} {Rs : α → List Rel} {P : α → Hp → Prop} {R : α → Rel} (a : α) : Sok (Sps Rs P R) (Rs a) (P a) (R a) := fun H om vs ho hr hp Q E q => ⟨a, om, ho, hr, hp, q⟩
section
variable {b : Bool} {c : Ct} {R R0 : Rel} {Rs : List Rel} {P : Hp → Prop} {sp : Sp} {te : TE} {ta : TA} {E' : XK} {C : Addr} {m : Str}
theorem Sta.hd {σ : L2.St} {H : Hp} (s : Sta c σ H) : Hd H (msk b c σ) := fun a m => s.hides a m
theorem c_call (hsp : Sok sp Rs P R) (ha : EA b c ta Rs) (hp : ∀ H, Kp c.h0 H → P H) : E b c (tCall sp [] E' ta) R := fun σ H s Q q => ha σ H s _ fun H1 vs k1 r1 => by
  rw [List.append_nil]
  exact hsp H1 (msk b c σ) vs (s.kp k1).hd r1 (hp _ ((s.kp k1).k0.trans bas_hb)) Q E' fun H' v k r => q H' v (k1.trans k) r
theorem c_meth (hi : ∀ H v, R0.p H v → ∃ a dx fs, v = .ref a ∧ H a = some (.ins C dx fs) ∧ fs.lookup m = none) (hsp : Sok sp (R0 :: Rs) P R) (ho : E b c te R0) (ha : EA b c ta Rs) (hp : ∀ H, Kp c.h0 H → P H) : E b c (tMeth C m sp [] E' te ta) R := fun σ H s Q q =>
  ho σ H s _ fun H1 x k1 r1 => by
    obtain ⟨a, dx, fs, rfl, e, l⟩ := hi _ _ r1
    refine ⟨a, dx, fs, rfl, (less_some e).2, l, ha σ H1 (s.kp k1) _ fun H2 vs k2 r2 => ?_⟩
    rw [List.append_nil]
    have s2 := (s.kp k1).kp k2
    exact hsp H2 (msk b c σ) _ s2.hd ⟨_, _, rfl, R0.mn (hb_kp k2) r1, r2⟩ (hp _ (s2.k0.trans bas_hb)) Q E' fun H' v k r => q H' v ((k1.trans k2).trans k) r
theorem c_prop (hi : ∀ H v, R0.p H v → ∃ a dx fs, v = .ref a ∧ H a = some (.ins C dx fs)) (hsp : Sok sp [R0] P R) (ho : E b c te R0) (hp : ∀ H, Kp c.h0 H → P H) : E b c (tProp C sp [] E' te) R := fun σ H s Q q =>
  ho σ H s _ fun H1 x k1 r1 => by
    obtain ⟨a, dx, fs, rfl, e⟩ := hi _ _ r1
    have s1 := s.kp k1
    exact ⟨a, dx, fs, rfl, (less_some e).2, hsp H1 (msk b c σ) _ s1.hd ⟨_, _, rfl, r1, rfl⟩ (hp _ (s1.k0.trans bas_hb)) Q E' fun H' v k r => q H' v (k1.trans k) r⟩
end
/-- the slots at the start of a def -/
def slots0 (Rs : List Rel) (n : Nat) : List Slot := Rs.map .fz ++ List.replicate (n - Rs.length) .any
theorem Rok.len : ∀ {Rs : List Rel} {H : Hp} {vs : List V}, Rok Rs H vs → vs.length = Rs.length
  | [], _, _, h => by rw [show _ = [] from h]; rfl
  | _ :: Rs, _, _, ⟨v, r, e, _, h⟩ => by rw [e]; exact congrArg (· + 1) h.len
theorem Rok.at : ∀ {Rs : List Rel} {H : Hp} {vs : List V}, Rok Rs H vs → ∀ {i : Nat} {R : Rel}, Rs[i]? = some R → ∃ v, vs[i]? = some v ∧ R.p H v
  | [], _, _, _, i, _, e => by simp at e
  | _ :: Rs, _, _, ⟨v, r, rfl, h1, h2⟩, 0, _, e => by cases e; exact ⟨v, rfl, h1⟩
  | _ :: Rs, _, _, ⟨v, r, rfl, h1, h2⟩, i + 1, _, e => h2.at e
theorem no_own {Rs : List Rel} {n : Nat} {i : Nat} {C : Own} : (slots0 Rs n)[i]? ≠ some (.own C) := fun e => by
  unfold slots0 at e
  have m := List.mem_of_getElem? e
  rcases List.mem_append.mp m with z | z
  · obtain ⟨R, _, q⟩ := List.mem_map.mp z
    cases q
  · cases (List.eq_of_mem_replicate z)
theorem sta_start {H : Hp} {om : Addr → Prop} {Rs : List Rel} {N : List Str} {vs : List V} (ho : Hd H om) (h : Rok Rs (less H om) vs) : Sta ⟨H, less H om, om, slots0 Rs N.length⟩ (L2.start N vs) H := by
  have hl := h.len
  have eb : bas ⟨H, less H om, om, slots0 Rs N.length⟩ (L2.start N vs) H = less H om := by
    funext a
    by_cases m : om a
    · rw [less_in m]
      exact bas_in (c := ⟨H, less H om, om, slots0 Rs N.length⟩) (.inr m)
    · rw [less_out m]
      exact bas_out (c := ⟨H, less H om, om, slots0 Rs N.length⟩) fun z => z.elim (fun ⟨i, C, e, _⟩ => no_own e) m
  refine ⟨?_, fun i R e => ?_, fun i C e => absurd e no_own, fun i j C _ _ e => absurd e no_own, by rw [eb]; exact Kp.refl _, Kp.refl _, ho⟩
  · show (vs.map some ++ List.replicate (N.length - vs.length) none).length = (Rs.map Slot.fz ++ List.replicate (N.length - Rs.length) Slot.any).length
    rw [List.length_append, List.length_append, List.length_map, List.length_map, List.length_replicate, List.length_replicate, hl]
  · rw [eb]
    have e : (Rs.map Slot.fz ++ List.replicate (N.length - Rs.length) Slot.any)[i]? = some (.fz R) := e
    by_cases hi : i < Rs.length
    · rw [List.getElem?_append_left (by rw [List.length_map]; exact hi), List.getElem?_map] at e
      obtain ⟨R', e1, e2⟩ := Option.map_eq_some_iff.mp e
      cases e2
      obtain ⟨v, e3, e4⟩ := h.at e1
      refine ⟨v, ?_, e4⟩
      show (vs.map some ++ List.replicate (N.length - vs.length) none)[i]? = _
      rw [List.getElem?_append_left (by rw [List.length_map, hl]; exact hi), List.getElem?_map, e3]
      rfl
    · rw [List.getElem?_append_right (by rw [List.length_map]; omega)] at e
      cases (List.eq_of_mem_replicate (List.mem_of_getElem? e))
section
variable {P : Program} {w : World} {K : PySem.W.Frag} {mg : Str → Option Value} {base : Heap}
/-- a def that keeps such a promise -/
theorem fn_ok {x qual : Str} {st : Stmt} {f : Addr} {fd : FuncData} {N ps : List Str} {k : Nat} {α : Type} {Rs : α → List Rel} {Pr : α → Hp → Prop} {R : α → Rel} (F : Fun K x qual st f fd) (S : FnScope N ps (defScope st)) (hl : ∀ a, (Rs a).length = ps.length)
    (hbody : ∀ (cdv : Value) (A : Around) (outer : List Env) (s : Shared) (H : Hp) (E : XK), Room k (A.deeper (envOfC qual (defScope st) s.heap.objs.size f cdv)) →
      ∃ t, PSs (cxOf CX0 P w K mg base N qual (defScope st) f cdv A outer s H E).nox (defBody st) t ∧ ∀ (a : α) (hs : Hp) (om : Addr → Prop) (Q : VK), Pr a (less hs om) → (∀ H' v, Kp hs H' → (R a).p (less H' om) v → Q v H') → WC ⟨hs, less hs om, om, slots0 (Rs a) N.length⟩ (t { nx := fun _ H' => Q .non H', rt := Q })) :
    FnOk P w K mg base CX0 (k + 1) f fd ps (Sps Rs Pr R) := by
  refine F.ok S (fun vs H Q E h => ?_) (fun cdv A outer s H vs Q E hr h => ?_)
  · obtain ⟨a, om, ho, hr, _⟩ := h
    rw [hr.len, hl]
  · obtain ⟨a, om, ho, hR, hP, q⟩ := h
    obtain ⟨t, ht, hw⟩ := hbody cdv A outer s H E hr
    exact ⟨t, ht, hw a H om Q hP q _ _ (sta_start ho hR)⟩
end
end Pk
namespace Pk
open PySem L2 PySem.Spec PyProof.Rows GxR NdefX
abbrev eL {α : Type} (f : α → PyData) : List α → PyData := fun xs => .list (xs.map f)
abbrev eT2 {α β : Type} (f : α → PyData) (g : β → PyData) : α × β → PyData := fun p => .tuple [f p.1, g p.2]
abbrev eT3 {α β γ : Type} (f : α → PyData) (g : β → PyData) (k : γ → PyData) : α × β × γ → PyData := fun p => .tuple [f p.1, g p.2.1, k p.2.2]
abbrev dLk : Str × Int × Int → PyData := fun c => .tuple [.str c.1, .int c.2.1, .int c.2.2]
theorem enc_P : Enc dP 1 (fun p : Pl => True ∧ True) := enc_pair enc_int enc_int
theorem enc_T2 {α β : Type} [DecidableEq α] [DecidableEq β] {f : α → PyData} {g : β → PyData} {n m : Nat} {P : α → Prop} {S : β → Prop} (h : Enc f n P) (q : Enc g m S) : Enc (eT2 f g) (max n m + 1) (fun p => P p.1 ∧ S p.2) :=
  enc_pair (h.up (Nat.le_max_left n m)) (q.up (Nat.le_max_right n m))
/-- the item at i, counted from the end if i is negative -/
def ix {α : Type} [Inhabited α] (xs : List α) (i : Int) : α := (atI xs i).getD default
theorem atI_in {α : Type} {xs : List α} {i : Int} (h : -(xs.length : Int) ≤ i ∧ i < xs.length) : ∃ a, atI xs i = some a := by
  unfold atI ixN
  by_cases h0 : 0 ≤ i
  · rw [if_pos h0, if_pos h.2]
    show ∃ a, xs[i.toNat]? = some a
    exact ⟨_, List.getElem?_eq_getElem (by omega)⟩
  · rw [if_neg h0, if_pos h.1]
    show ∃ a, xs[(i + xs.length).toNat]? = some a
    exact ⟨_, List.getElem?_eq_getElem (by omega)⟩
theorem atI_map {α β : Type} (f : α → β) (xs : List α) (i : Int) : atI (xs.map f) i = (atI xs i).map f := by
  unfold atI
  rw [List.length_map]
  cases ixN xs.length i with
  | none => rfl
  | some j => exact List.getElem?_map ..
theorem ix_some {α : Type} [Inhabited α] {xs : List α} {i : Int} (h : -(xs.length : Int) ≤ i ∧ i < xs.length) : atI xs i = some (ix xs i) := by
  obtain ⟨a, e⟩ := atI_in h
  unfold ix
  rw [e]
  rfl
theorem ix_at {α : Type} [Inhabited α] {enc : α → PyData} {xs : List α} {i : Int} (h : -(xs.length : Int) ≤ i ∧ i < xs.length) : atI (xs.map enc) i = some (enc (ix xs i)) := by
  rw [atI_map, ix_some h]
  rfl
theorem ix_nat {α : Type} [Inhabited α] {xs : List α} {j : Nat} {a : α} (h : xs[j]? = some a) : ix xs (j : Int) = a := by
  unfold ix
  rw [atI_nat h]
  rfl
def rgI (lo : Int) (n : Nat) : List Int := (List.range n).map fun k : Nat => lo + (k : Int)
section
variable {b : Bool} {c : Ct} {α β γ : Type} {t ta tb tc te tl : TE} {K : PySem.W.Frag} {R S : Rel} {d e : PyData}
theorem EN.eqL {ds es : List PyData} (h : EN c t (OL ds)) (e : ds = es) : EN c t (OL es) := e ▸ h
theorem n_catM {xs ys : List α} {enc : α → PyData} (h : EI c ta (xs.map enc)) (g : EI c tb (ys.map enc)) (l : xs.length + ys.length ≤ 16777216) : EN c (tOp rCat ta tb) (OL ((xs ++ ys).map enc)) :=
  (n_cat h g (by rw [List.length_map, List.length_map]; exact l)).eqL (List.map_append ..).symm
theorem n_lstM {xs : List α} {enc : α → PyData} {u : TA} (h : EM true c u (xs.map enc)) (l : Nat.ble (xs.map enc).length sizeLine = true := by rfl) : EN c (tLst u) (OL (xs.map enc)) := n_lst h l
theorem o_lenM {xs : List α} {enc : α → PyData} : On (fun xs H Q => ∃ x n, xs = [x] ∧ LenV K x H n ∧ Q (.int n) H) [RD (.list (xs.map enc))] (RD (.int xs.length)) := by
  have := o_lenL (K := K) (ds := xs.map enc)
  rw [List.length_map] at this
  exact this
theorem t_yes : ET c tYes true := fun σ H s Q q => q H (Kp.refl _)
theorem t_truL {xs : List α} {enc : α → PyData} (h : EI c t (xs.map enc)) : ET c (fun σ H Q => t σ H fun x H' => ∃ k, TruV K x H' k ∧ Q k H') (!xs.isEmpty) := fun σ H s Q q => h σ H s _ fun H1 a vs k1 e1 r1 => by
  refine ⟨!vs.isEmpty, .inl ⟨vs, SqL.of e1, rfl⟩, ?_⟩
  have hl := r1.len
  rw [List.length_map] at hl
  rw [show (!vs.isEmpty) = !xs.isEmpty by cases vs <;> cases xs <;> first | rfl | cases hl]
  exact q H1 k1
theorem e_ite {tt : TT} {x : Bool} {enc : α → PyData} {u v : α} (h : ET c tt x) (ha : x = true → E b c ta (RD (enc u))) (hc : x = false → E b c tb (RD (enc v))) : E b c (tIf tt ta tb) (RD (enc (if x = true then u else v))) := by
  refine e_if h (fun z => ?_) fun z => ?_
  · rw [if_pos z]; exact ha z
  · rw [if_neg (by rw [z]; exact Bool.false_ne_true)]; exact hc z
theorem o_mod {i j : Int} (h : 0 < j) : O2 (rI (fun _ j => 0 < j) fun i j => .int (i % j)) (RD (.int i)) (RD (.int j)) (RD (.int (i % j))) := o_I (C := fun _ j => 0 < j) h
theorem DtAll.bls {H : Hp} : ∀ {vs : List V} {bs : List Bool}, DtAll H vs (bs.map PyData.bool) → vs = bs.map V.bl
  | [], [], _ => rfl
  | [], _ :: _, h => by cases h
  | _ :: _, [], h => by cases h
  | v :: vs, x :: bs, .cons a r => by
    cases a
    rw [r.bls]
    rfl
theorem DtAll.ints {H : Hp} : ∀ {vs : List V} {ns : List Int}, DtAll H vs (ns.map PyData.int) → vs = ns.map V.int
  | [], [], _ => rfl
  | [], _ :: _, h => by cases h
  | _ :: _, [], h => by cases h
  | v :: vs, x :: ns, .cons a r => by
    cases a
    rw [r.ints]
    rfl
theorem DtAll.ofInts {H : Hp} : ∀ ns : List Int, DtAll H (ns.map V.int) (ns.map PyData.int)
  | [] => .nil
  | n :: ns => .cons (.int n) (DtAll.ofInts ns)
theorem o_all {bs : List Bool} : On (rAll K) [RD (.list (bs.map PyData.bool))] (RD (.bool (bs.all id))) := fun H M vs _ r Q q => by
  obtain ⟨v, r', rfl, h1, rfl⟩ := r
  cases h1 with
  | lst e a => exact ⟨_, bs, rfl, by rw [← a.bls]; exact SqL.of (less_some e).2, q H _ (Kp.refl _) (.bl _)⟩
theorem o_sum {ns : List Int} : On (rSum K) [RD (.list (ns.map PyData.int))] (RD (.int ns.sum)) := fun H M vs _ r Q q => by
  obtain ⟨v, r', rfl, h1, rfl⟩ := r
  cases h1 with
  | lst e a => exact ⟨_, ns, rfl, by rw [← a.ints]; exact SqL.of (less_some e).2, q H _ (Kp.refl _) (.int _)⟩
section
variable {xs : List α} {enc : α → PyData} {G : α → List Slot} {is vs : List Nat} {p : α → Bool} {h : α → β} {encB : β → PyData} {tt : TT} {g : TG}
def anyAt (g : List Slot) (vs : List Nat) : Bool := vs.all fun i => match g[i]? with
  | some .any => true
  | _ => false
theorem anyAt_of {g : List Slot} {vs : List Nat} (h : anyAt g vs = true) : ∀ i ∈ vs, g[i]? = some .any := fun i m => by
  have := List.all_eq_true.mp h i m
  cases e : g[i]? with
  | none => rw [e] at this; cases this
  | some s =>
    rw [e] at this
    cases s with
    | any => rfl
    | fz R => cases this
    | own C => cases this
theorem n_lcM (hs : EI c tl (xs.map enc)) (hw : anyAt c.g vs = true) (his : ∀ i ∈ is, i ∈ vs)
    (hg : ∀ om, ∀ x, x ∈ xs → EG ⟨c.hs, c.h0, om, c.g⟩ g (RD (enc x)) (G x) is) (ht : ∀ om, ∀ x, x ∈ xs → ET ⟨c.hs, c.h0, om, G x⟩ tt (p x))
    (he : ∀ om, ∀ x, x ∈ xs → p x = true → E true ⟨c.hs, c.h0, om, G x⟩ te (RD (encB (h x)))) (hl : xs.length < 16777216) : EN c (tLc (iList K tl) g tt te vs) (OL (((xs.filter p).map h).map encB)) :=
  (n_lc (f := fun x => encB (h x)) hs (anyAt_of hw) his (fun om x m => hg om x m) (fun om x m => ht om x m) (fun om x m q => he om x m q) hl).eqL (by rw [List.map_map]; rfl)
theorem n_lcM1 (hs : EI c tl (xs.map enc)) (hw : anyAt c.g vs = true) (his : ∀ i ∈ is, i ∈ vs)
    (hg : ∀ om, ∀ x, x ∈ xs → EG ⟨c.hs, c.h0, om, c.g⟩ g (RD (enc x)) (G x) is)
    (he : ∀ om, ∀ x, x ∈ xs → True → E true ⟨c.hs, c.h0, om, G x⟩ te (RD (encB (h x)))) (hl : xs.length < 16777216) : EN c (tLc (iList K tl) g tYes te vs) (OL ((xs.map h).map encB)) :=
  (n_lcM (p := fun _ => true) hs hw his hg (fun _ _ _ => t_yes) (fun om x m _ => he om x m trivial) hl).eqL (by rw [List.filter_eq_self.mpr (fun _ _ => rfl)])
end
section
variable {lo : Int} {n : Nat} {G : Int → List Slot} {is vs : List Nat} {p : Int → Bool} {h : Int → β} {encB : β → PyData} {tt : TT} {g : TG} {wi : TI}
theorem n_lcRM (hs : EW c wi lo n) (hw : anyAt c.g vs = true) (his : ∀ i ∈ is, i ∈ vs)
    (hg : ∀ om, ∀ k : Int, (lo ≤ k ∧ k < lo + n) → EG ⟨c.hs, c.h0, om, c.g⟩ g (RD (.int k)) (G k) is) (ht : ∀ om, ∀ k : Int, (lo ≤ k ∧ k < lo + n) → ET ⟨c.hs, c.h0, om, G k⟩ tt (p k))
    (he : ∀ om, ∀ k : Int, (lo ≤ k ∧ k < lo + n) → p k = true → E true ⟨c.hs, c.h0, om, G k⟩ te (RD (encB (h k)))) (hl : n < 16777216) : EN c (tLc wi g tt te vs) (OL ((((rgI lo n).filter p).map h).map encB)) :=
  (n_lcR (f := fun x => encB (h x)) hs (anyAt_of hw) his (fun om k m => hg om _ (by omega)) (fun om k m => ht om _ (by omega)) (fun om k m q => he om _ (by omega) q) hl).eqL (by rw [List.map_map]; rfl)
theorem n_lcRM1 (hs : EW c wi lo n) (hw : anyAt c.g vs = true) (his : ∀ i ∈ is, i ∈ vs)
    (hg : ∀ om, ∀ k : Int, (lo ≤ k ∧ k < lo + n) → EG ⟨c.hs, c.h0, om, c.g⟩ g (RD (.int k)) (G k) is)
    (he : ∀ om, ∀ k : Int, (lo ≤ k ∧ k < lo + n) → True → E true ⟨c.hs, c.h0, om, G k⟩ te (RD (encB (h k)))) (hl : n < 16777216) : EN c (tLc wi g tYes te vs) (OL (((rgI lo n).map h).map encB)) :=
  (n_lcRM (p := fun _ => true) hs hw his hg (fun _ _ _ => t_yes) (fun om x m _ => he om x m trivial) hl).eqL (by rw [List.filter_eq_self.mpr (fun _ _ => rfl)])
end
theorem s_appM {i : Nat} {D : Ends} {xs : List α} {enc : α → PyData} {a : α} (e : c.g[i]? = some (.own (OL (xs.map enc)))) (h : E true c te (RD (enc a))) (l : xs.length < 16777216) (q : WC (c.set i (.own (OL ((xs ++ [a]).map enc)))) D.nx) :
    WC c (tDrop (tBM K "list" rAppend (tVar i) (tCons te tNil)) D) := s_app e h (by rw [List.length_map]; exact l) (by rw [List.map_append] at q; exact q)
theorem s_fixM {i : Nat} {xs : List α} {enc : α → PyData} {k : L2.St → Hp → Prop} (e : c.g[i]? = some (.own (OL (xs.map enc)))) (q : WC (c.set i (.fz (RD (.list (xs.map enc))))) k) : WC c k := s_fixL i e q
end
end Pk
namespace Pk
open PySem PySem.Spec PyProof.Rows L2
abbrev zObj (f0 : Value) (g : Bool) (TI TO : Addr) : Obj := { cls := .type "zip", dict := none, data := .fields #[f0, .bool g, .bool false, .ref TI, .ref TO], slots := #[] }
/-- a zip in the midst of its walk; the tuple that it gave last still stands -/
structure ZS (h : Heap) (z TI TO i1 i2 l1 l2 : Addr) (i : Nat) (xs ys : Array Value) : Prop where
  ob : h.get? z = some (zObj .none false TI TO) ∨ ∃ (T : Addr) (o : Obj) (g : Bool), h.get? z = some (zObj (rawInt T) g TI TO) ∧ h.get? T = some o ∧ T ≠ z ∧ T ≠ TO ∧ T ≠ i1 ∧ T ≠ i2
  ti : IsPair h TI (.ref i1) (.ref i2)
  to_ : ∃ a b, IsPair h TO a b
  it1 : h.IsListIter i1 l1 i
  it2 : h.IsListIter i2 l2 i
  ls1 : h.IsList l1 xs
  ls2 : h.IsList l2 ys
section
variable {P : Program} {w : World} {A : Around} {E : Value → Shared → Prop} {s : Shared} {z TI TO i1 i2 l1 l2 : Addr} {i : Nat} {xs ys : Array Value}
theorem ZS.over {h h' : Heap} {n : Addr} (S : ZS h z TI TO i1 i2 l1 l2 i xs ys) (k : ∀ b u, b ≠ n → h.get? b = some u → h'.get? b = some u) (nz : z ≠ n) (nI : TI ≠ n) (nO : TO ≠ n) (n1 : i1 ≠ n) (n2 : i2 ≠ n) (m1 : l1 ≠ n) (m2 : l2 ≠ n)
    (nT : ∀ (T : Addr) (g : Bool), h.get? z = some (zObj (rawInt T) g TI TO) → T ≠ n) : ZS h' z TI TO i1 i2 l1 l2 i xs ys := by
  refine ⟨?_, k _ _ nI S.ti, ?_, S.it1.at fun o e => k _ o n1 e, S.it2.at fun o e => k _ o n2 e, S.ls1.at fun o e => k _ o m1 e, S.ls2.at fun o e => k _ o m2 e⟩
  · rcases S.ob with e | ⟨T, o, g, e, q, r⟩
    · exact .inl (k _ _ nz e)
    · exact .inr ⟨T, o, g, k _ _ nz e, k _ _ (nT T g e) q, r⟩
  · obtain ⟨a, b, e⟩ := S.to_
    exact ⟨a, b, k _ _ nO e⟩
/-- the pairs that were laid -/
structure Laid (h : Heap) (lo : Addr) (xs ys : Array Value) (as : List Addr) : Prop where
  rise : as.Pairwise (· < ·)
  above : ∀ a ∈ as, lo < a
  prs : ∀ (j : Nat) (a : Addr), as[j]? = some a → ∃ x y, xs[j]? = some x ∧ ys[j]? = some y ∧ IsPair h a x y
theorem Laid.there {h : Heap} {lo : Addr} {as : List Addr} (L : Laid h lo xs ys as) {a : Addr} (ha : a ∈ as) : a < h.objs.size := by
  obtain ⟨j, hj⟩ := List.mem_iff_getElem?.mp ha
  obtain ⟨_, _, _, _, e⟩ := L.prs j a hj
  exact Heap.lt_size e
section
variable {R : Result → Shared → Prop} {S : Addr}
theorem ZS.type {h : Heap} (S : ZS h z TI TO i1 i2 l1 l2 i xs ys) : ∃ o, h.get? z = some o ∧ o.cls = .type "zip" := by
  rcases S.ob with e | ⟨T, o, g, e, _⟩
  · exact ⟨_, e, rfl⟩
  · exact ⟨_, e, rfl⟩
/-- a fresh zip -/
structure Z0 (h : Heap) (z TI TO i1 i2 l1 l2 : Addr) (xs ys : Array Value) : Prop where
  ob : h.get? z = some (zObj .none false TI TO)
  zs : ZS h z TI TO i1 i2 l1 l2 0 xs ys
theorem Z0.over {h h' : Heap} {n : Addr} (S : Z0 h z TI TO i1 i2 l1 l2 xs ys) (k : ∀ b u, b ≠ n → h.get? b = some u → h'.get? b = some u) (nz : z ≠ n) (nI : TI ≠ n) (nO : TO ≠ n) (n1 : i1 ≠ n) (n2 : i2 ≠ n) (m1 : l1 ≠ n) (m2 : l2 ≠ n) : Z0 h' z TI TO i1 i2 l1 l2 xs ys := by
  refine ⟨k _ _ nz S.ob, S.zs.over k nz nI nO n1 n2 m1 m2 fun T g e => ?_⟩
  rw [S.ob] at e
  have q := congrArg Obj.data (Option.some.inj e)
  injection q with q
  have q2 := congrArg (fun v : Array Value => v[0]?) q
  simp [rawInt] at q2
end
end
end Pk
namespace Pk
open PySem PySem.Spec PyProof.Rows L2 GxR NdefX
theorem DtAll.zip {H : Hp} : ∀ {ts : List Addr} {ds es : List PyData}, ts.length = ds.length → es.length = ds.length → (∀ (j : Nat) (t : Addr) (d e : PyData), ts[j]? = some t → ds[j]? = some d → es[j]? = some e → ∃ x y, H t = some (.tup [x, y]) ∧ Dt H x d ∧ Dt H y e) → DtAll H (ts.map V.ref) ((ds.zip es).map fun p => .tuple [p.1, p.2])
  | [], [], [], _, _, _ => .nil
  | [], _ :: _, _, h, _, _ => by cases h
  | _ :: _, [], _, h, _, _ => by cases h
  | _, [], _ :: _, _, h, _ => by cases h
  | _, _ :: _, [], _, h, _ => by cases h
  | t :: ts, d :: ds, e :: es, h1, h2, f => by
    obtain ⟨x, y, q, r1, r2⟩ := f 0 t d e rfl rfl rfl
    exact .cons (.tup q (.cons r1 (.cons r2 .nil))) (DtAll.zip (Nat.succ.inj h1) (Nat.succ.inj h2) fun j t' d' e' a b c => f (j + 1) t' d' e' a b c)
end Pk
namespace Pk
open PySem L2 PySem.Spec PyProof.Rows GxR NdefX
def SpN {α : Type} (Rs : α → List Rel) (P : α → Hp → Prop) (C : α → Own) : Sp := fun vs H Q _ => ∃ (a : α) (om : Addr → Prop), Hd H om ∧ Rok (Rs a) (less H om) vs ∧ P a (less H om) ∧
  ∀ H' p o, Kp H H' → H' p = none → (C a).p (less H' om) o → Q (.ref p) (upd H' p o)
def Skn (sp : Sp) (Rs : List Rel) (P : Hp → Prop) (C : Own) : Prop := ∀ H om vs, Hd H om → Rok Rs (less H om) vs → P (less H om) → ∀ (Q : VK) (E : XK), (∀ H' p o, Kp H H' → H' p = none → C.p (less H' om) o → Q (.ref p) (upd H' p o)) → sp vs H Q E
theorem skn_spn {α : Type} {Rs : α → List Rel} {P : α → Hp → Prop} {C : α → Own} (a : α) : Skn (SpN Rs P C) (Rs a) (P a) (C a) := fun H om vs ho hr hp Q E q => ⟨a, om, ho, hr, hp, q⟩
/-- a result of which it is told that it is one of these -/
def SpX {α β : Type} (Rs : α → List Rel) (P : α → Hp → Prop) (R : β → Rel) (G : α → β → Prop) : Sp := fun vs H Q _ => ∃ (a : α) (om : Addr → Prop), Hd H om ∧ Rok (Rs a) (less H om) vs ∧ P a (less H om) ∧ ∀ H' v y, Kp H H' → G a y → (R y).p (less H' om) v → Q v H'
def Skx {β : Type} (sp : Sp) (Rs : List Rel) (P : Hp → Prop) (R : β → Rel) (G : β → Prop) : Prop := ∀ H om vs, Hd H om → Rok Rs (less H om) vs → P (less H om) → ∀ (Q : VK) (E : XK), (∀ H' v y, Kp H H' → G y → (R y).p (less H' om) v → Q v H') → sp vs H Q E
theorem skx_spx {α β : Type} {Rs : α → List Rel} {P : α → Hp → Prop} {R : β → Rel} {G : α → β → Prop} (a : α) : Skx (SpX Rs P R G) (Rs a) (P a) R (G a) := fun H om vs ho hr hp Q E q => ⟨a, om, ho, hr, hp, q⟩
/-- a reading gives a value of which it is told that it is one of these -/
def EX {β : Type} (c : Ct) (t : TE) (R : β → Rel) (G : β → Prop) : Prop := ∀ σ H, Sta c σ H → ∀ Q : VK, (∀ H' v y, Kp H H' → G y → (R y).p (bas c σ H') v → Q v H') → t σ H Q
section
variable {b : Bool} {c : Ct} {R R0 : Rel} {C : Own} {Rs : List Rel} {P : Hp → Prop} {sp : Sp} {te : TE} {ta : TA} {E' : XK} {Cl : Addr} {m : Str} {D : Ends} {i : Nat}
theorem n_call (hsp : Skn sp Rs P C) (ha : EA true c ta Rs) (hp : ∀ H, Kp c.h0 H → P H) : EN c (tCall sp [] E' ta) C := fun σ H s Q q => ha σ H s _ fun H1 vs k1 r1 => by
  rw [List.append_nil]
  refine hsp H1 (msk true c σ) vs (s.kp k1).hd r1 (hp _ ((s.kp k1).k0.trans bas_hb)) Q E' fun H' p o k n r => q H' p o (k1.trans k) n ?_
  rw [← hb_t]
  exact r
theorem n_meth (hi : ∀ H v, R0.p H v → ∃ a dx fs, v = .ref a ∧ H a = some (.ins Cl dx fs) ∧ fs.lookup m = none) (hsp : Skn sp (R0 :: Rs) P C) (ho : E true c te R0) (ha : EA true c ta Rs) (hp : ∀ H, Kp c.h0 H → P H) : EN c (tMeth Cl m sp [] E' te ta) C := fun σ H s Q q =>
  ho σ H s _ fun H1 x k1 r1 => by
    obtain ⟨a, dx, fs, rfl, e, l⟩ := hi _ _ r1
    refine ⟨a, dx, fs, rfl, (less_some e).2, l, ha σ H1 (s.kp k1) _ fun H2 vs k2 r2 => ?_⟩
    rw [List.append_nil]
    have s2 := (s.kp k1).kp k2
    refine hsp H2 (msk true c σ) _ s2.hd ⟨_, _, rfl, R0.mn (hb_kp k2) r1, r2⟩ (hp _ (s2.k0.trans bas_hb)) Q E' fun H' p o k n r => q H' p o ((k1.trans k2).trans k) n ?_
    rw [← hb_t]
    exact r
theorem x_call {β : Type} {R : β → Rel} {G : β → Prop} (hsp : Skx sp Rs P R G) (ha : EA true c ta Rs) (hp : ∀ H, Kp c.h0 H → P H) : EX c (tCall sp [] E' ta) R G := fun σ H s Q q => ha σ H s _ fun H1 vs k1 r1 => by
  rw [List.append_nil]
  refine hsp H1 (msk true c σ) vs (s.kp k1).hd r1 (hp _ ((s.kp k1).k0.trans bas_hb)) Q E' fun H' v y k g r => q H' v y (k1.trans k) g ?_
  rw [← hb_t]
  exact r
theorem s_setX {β : Type} {R : β → Rel} {G : β → Prop} (h : EX c te R G) (q : ∀ y, G y → WC (c.set i (.fz (R y))) D.nx) (hi : Nat.blt i c.g.length = true := by rfl) : WC c (tAsg te (gName i) D) := fun σ H s => h σ H s _ fun H' v y kp g r => 
  q y g _ H' ((s.kp kp).set (by simpa using hi) r).1
theorem s_retX {β : Type} {R : β → Rel} {G : β → Prop} (h : EX c te R G) (q : ∀ H' v y, Kp c.hs H' → G y → (R y).p (less H' c.om) v → D.rt v H') : WC c (tRet te D) := fun σ H s => h σ H s _ fun H' v y kp g r => q H' v y (s.ks.trans kp) g ((R y).mn (less_mono fun _ z => .inr z) r)
theorem ex_e {β : Type} {R : β → Rel} {G : β → Prop} (y : β) (h : E true c te (R y)) (g : G y) : EX c te R G := fun σ H s Q q => h σ H s _ fun H' v k r => q H' v y k g (by rw [← hb_t]; exact r)
/-- a new object is handed back -/
theorem s_retNew (h : EN c te C) (q : ∀ H' p o, Kp c.hs H' → H' p = none → C.p (less H' c.om) o → D.rt (.ref p) (upd H' p o)) : WC c (tRet te D) := fun σ H s => h σ H s _ fun H' p o kp n r => q H' p o (s.ks.trans kp) n (C.mn (less_mono fun _ z => .inr z) r)
theorem wo_less {H : Hp} {p : Addr} {M : Addr → Prop} : wo (less H M) p = less (wo H p) M := by
  funext a
  by_cases h : a = p
  · subst h
    by_cases m : M a
    · rw [wo_at, less_in m]
    · rw [wo_at, less_out m, wo_at]
  · by_cases m : M a
    · rw [wo_ne h, less_in m, less_in m]
    · rw [wo_ne h, less_out m, less_out m, wo_ne h]
/-- what was being changed is handed back -/
theorem s_retOwn (e : c.g[i]? = some (.own C)) (q : ∀ H' p o, Kp c.hs H' → H' p = none → C.p (less H' c.om) o → D.rt (.ref p) (upd H' p o)) : WC c (tRet (tVar i) D) := fun σ H s => by
  obtain ⟨p, o, e1, e2, e3, e4, e5⟩ := s.own i C e
  refine ⟨.ref p, e1, ?_⟩
  have := q (wo H p) p o ?_ wo_at ?_
  · rw [upd_less e2] at this
    exact this
  · refine ⟨fun b u hb nt => ?_, fun T t => ?_⟩
    · have n : b ≠ p := fun z => by
        subst z
        obtain ⟨ps, z⟩ := e4.1 u hb
        exact nt ps z
      rw [wo_ne n]
      exact s.ks.at_ b u hb nt
    · have n : T ≠ p := fun z => e4.2 (z ▸ t)
      obtain ⟨qs, h1, h2⟩ := s.ks.tab T t
      exact ⟨qs, by rw [wo_ne n]; exact h1, h2⟩
  · rw [← wo_less]
    refine C.mn (kp_of fun b u hb => ?_) e3
    obtain ⟨nb, hb'⟩ := less_some hb
    have n : b ≠ p := fun z => nb (.inl ⟨i, C, e, by rw [z]; exact e1⟩)
    rw [wo_ne n, less_out fun z => nb (.inr z)]
    exact hb'
end
section
variable {P : Program} {w : World} {K : PySem.W.Frag} {mg : Str → Option Value} {base : Heap} {x qual : Str} {st : Stmt} {f c : Addr} {fd : FuncData} {N ps : List Str} {k : Nat} {α β : Type} {Rs : α → List Rel} {Pr : α → Hp → Prop} {C : α → Own} {R : β → Rel} {G : α → β → Prop}
theorem fn_okN (F : Fun K x qual st f fd) (S : FnScope N ps (defScope st)) (hl : ∀ a, (Rs a).length = ps.length)
    (hbody : ∀ (cdv : Value) (A : Around) (outer : List Env) (s : Shared) (H : Hp) (E : XK), Room k (A.deeper (envOfC qual (defScope st) s.heap.objs.size f cdv)) →
      ∃ t, PSs (cxOf CX0 P w K mg base N qual (defScope st) f cdv A outer s H E).nox (defBody st) t ∧ ∀ (a : α) (hs : Hp) (om : Addr → Prop) (Q : VK), Pr a (less hs om) → (∀ H' p o, Kp hs H' → H' p = none → (C a).p (less H' om) o → Q (.ref p) (upd H' p o)) → WC ⟨hs, less hs om, om, slots0 (Rs a) N.length⟩ (t { nx := fun _ H' => Q .non H', rt := Q })) :
    FnOk P w K mg base CX0 (k + 1) f fd ps (SpN Rs Pr C) := by
  refine F.ok S (fun vs H Q E h => ?_) (fun cdv A outer s H vs Q E hr h => ?_)
  · obtain ⟨a, om, ho, hr, _⟩ := h
    rw [hr.len, hl]
  · obtain ⟨a, om, ho, hR, hP, q⟩ := h
    obtain ⟨t, ht, hw⟩ := hbody cdv A outer s H E hr
    exact ⟨t, ht, hw a H om Q hP q _ _ (sta_start ho hR)⟩
theorem fn_okX (F : Fun K x qual st f fd) (S : FnScope N ps (defScope st)) (hl : ∀ a, (Rs a).length = ps.length)
    (hbody : ∀ (cdv : Value) (A : Around) (outer : List Env) (s : Shared) (H : Hp) (E : XK), Room k (A.deeper (envOfC qual (defScope st) s.heap.objs.size f cdv)) →
      ∃ t, PSs (cxOf CX0 P w K mg base N qual (defScope st) f cdv A outer s H E).nox (defBody st) t ∧ ∀ (a : α) (hs : Hp) (om : Addr → Prop) (Q : VK), Pr a (less hs om) → (∀ H' v y, Kp hs H' → G a y → (R y).p (less H' om) v → Q v H') → WC ⟨hs, less hs om, om, slots0 (Rs a) N.length⟩ (t { nx := fun _ H' => Q .non H', rt := Q })) :
    FnOk P w K mg base CX0 (k + 1) f fd ps (SpX Rs Pr R G) := by
  refine F.ok S (fun vs H Q E h => ?_) (fun cdv A outer s H vs Q E hr h => ?_)
  · obtain ⟨a, om, ho, hr, _⟩ := h
    rw [hr.len, hl]
  · obtain ⟨a, om, ho, hR, hP, q⟩ := h
    obtain ⟨t, ht, hw⟩ := hbody cdv A outer s H E hr
    exact ⟨t, ht, hw a H om Q hP q _ _ (sta_start ho hR)⟩
end
/-- a list of the script's numbers, locked -/
def RScr (K : PySem.W.Frag) (ns : List Int) : Rel := ⟨fun H v => ∃ a, v = .ref a ∧ SqL K H a (ns.map V.int), fun k ⟨a, e, h⟩ => ⟨a, e, k.seq h⟩⟩
end Pk
namespace Pk
open PySem L2 PySem.Spec PyProof.Rows GxR NdefX
def noOwn (g : List Slot) : Bool := g.all fun s => notOwn (some s)
theorem bas_all {hs h0 : Hp} {g : List Slot} {σ : L2.St} {H : Hp} (h : noOwn g = true) : bas ⟨hs, h0, fun _ => False, g⟩ σ H = H := by
  funext a
  refine bas_out ?_
  rintro (⟨i, C, e, _⟩ | z)
  · have := List.all_eq_true.mp h _ (List.mem_of_getElem? e)
    cases this
  · exact z
theorem less_no {H : Hp} : less H (fun _ => False) = H := by
  funext a
  exact less_out id
/-- promises told of the whole heap -/
def Skx0 {β : Type} (sp : Sp) (Rs : List Rel) (P : Hp → Prop) (R : β → Rel) (G : β → Prop) : Prop := ∀ H vs, Rok Rs H vs → P H → ∀ (Q : VK) (E : XK), (∀ H' v y, Kp H H' → G y → (R y).p H' v → Q v H') → sp vs H Q E
section
variable {hs h0 : Hp} {g : List Slot} {R : Rel} {C : Own} {Rs : List Rel} {P : Hp → Prop} {sp : Sp} {te : TE} {ta : TA} {E' : XK} {Cl : Addr} {m : Str} {D : Ends}
theorem x_call0 {β : Type} {R : β → Rel} {G : β → Prop} (hsp : Skx0 sp Rs P R G) (ha : EA true ⟨hs, h0, fun _ => False, g⟩ ta Rs) (hp : ∀ H, Kp h0 H → P H) (no : noOwn g = true := by rfl) : EX ⟨hs, h0, fun _ => False, g⟩ (tCall sp [] E' ta) R G := fun σ H s Q q => ha σ H s _ fun H1 vs k1 r1 => by
  rw [List.append_nil]
  rw [hb_t, bas_all no] at r1
  have k0 := (s.kp k1).k0
  rw [bas_all no] at k0
  refine hsp H1 vs r1 (hp _ k0) Q E' fun H' v y k gd r => q H' v y (k1.trans k) gd ?_
  rw [bas_all no]
  exact r
end
section
variable {P : Program} {w : World} {K : PySem.W.Frag} {mg : Str → Option Value} {base : Heap} {x qual : Str} {st : Stmt} {f c : Addr} {fd : FuncData} {N ps : List Str} {k : Nat}
/-- a law: for each script, with these tables, True -/
def spLawT (K : PySem.W.Frag) (Ts : List Addr) : Sp := fun vs H Q _ => ∃ (a : Addr) (ns : List Int), vs = [.ref a] ∧ SqL K H a (ns.map V.int) ∧ ns.length ≤ 63 ∧ (∀ T ∈ Ts, TabG H T) ∧ ∀ H', Q (.bl true) H'
theorem fn_okL {Ts : List Addr} (F : Fun K x qual st f fd) (S : FnScope N ["script"] (defScope st))
    (hbody : ∀ (cdv : Value) (A : Around) (outer : List Env) (s : Shared) (H : Hp) (E : XK), Room k (A.deeper (envOfC qual (defScope st) s.heap.objs.size f cdv)) →
      ∃ t, PSs (cxOf CX0 P w K mg base N qual (defScope st) f cdv A outer s H E).nox (defBody st) t ∧ ∀ (ns : List Int) (hs : Hp) (Q : VK), ns.length ≤ 63 → (∀ T ∈ Ts, TabG hs T) → (∀ H', Q (.bl true) H') → WC ⟨hs, hs, fun _ => False, slots0 [RScr K ns] N.length⟩ (t { nx := fun _ H' => Q .non H', rt := Q })) :
    FnOk P w K mg base CX0 (k + 1) f fd ["script"] (spLawT K Ts) := by
  refine F.ok S (fun vs H Q E h => ?_) (fun cdv A outer s H vs Q E hr h => ?_)
  · obtain ⟨a, ns, rfl, _⟩ := h
    rfl
  · obtain ⟨a, ns, rfl, hS, hl, hT, q⟩ := h
    obtain ⟨t, ht, hw⟩ := hbody cdv A outer s H E hr
    have z := sta_start (H := H) (om := fun _ => False) (Rs := [RScr K ns]) (N := N) (vs := [.ref a]) (fun _ z => z.elim) ⟨_, _, rfl, ⟨a, rfl, by rw [less_no]; exact hS⟩, rfl⟩
    rw [less_no] at z
    exact ⟨t, ht, hw ns H Q hl hT q _ _ z⟩
end
end Pk
namespace Pk
open PySem L2 PySem.Spec PyProof.Rows GxR NdefX
theorem raisedQ {H : Hp} {a d C : Addr} {f : Str} {v : V} (ha : H a = none) (hd : (upd H a (exo a C none)) d = none) (hne : d ≠ a) :
    (upd (upd (upd H a (exo a C none)) d (exd d [(f, v)])) a (exo a C (some d))) a = some (exo a C (some d)) ∧ (upd (upd (upd H a (exo a C none)) d (exd d [(f, v)])) a (exo a C (some d))) d = some (exd d [(f, v)]) ∧ H d = none ∧
    Same H (upd (del (upd (upd (upd H a (exo a C none)) d (exd d [(f, v)])) a (exo a C (some d))) a) d (.xd [(f, v)])) := by
  have hdn : H d = none := by
    rw [upd_ne hne] at hd
    exact hd
  refine ⟨upd_same, by rw [upd_ne hne, upd_same], hdn, fun b o e => ?_⟩
  have h1 : b ≠ a := ne_of_none e ha
  have h2 : b ≠ d := ne_of_none e hdn
  rw [upd_ne h2, del_ne h1, upd_ne h1, upd_ne h2, upd_ne h1]
  exact e
section
variable {K : PySem.W.Frag} {C : Addr} {f : Str} {c : Ct} {te : TE} {R : Rel} {W : WX}
theorem s_raiseF (o : OexC K C) (n : PySem.W.findIn K (.ref C) f = some none) (ha : E true c te R) (q : ∀ σ H' d v, Kp c.hs H' → H' d = some (.xd [(f, v)]) → R.p (less H' c.om) v → W (.ref C) (some d) σ H') :
    WC c (fun σ H => tMkO C (spXI K C f) [] (tCons te tNil) σ H fun cls d H' => W cls d σ H') := fun σ H s => ha σ H s _ fun H1 v k1 r1 => ⟨by show 1 ≤ 1000; decide, fun y ny => ⟨y, v, rfl, o, n, upd_same, fun dd hd hne => ⟨rfl, dd, [(f, v)], by
  obtain ⟨g1, g2, g3, g4⟩ := raisedQ (f := f) (v := v) ny hd hne
  refine ⟨g1, g2, g3, q _ _ dd v (s.ks.trans (k1.trans (kpS g4))) upd_same (R.mn ?_ r1)⟩
  rw [hb_t]
  exact (less_mono fun _ z => .inr z).trans (less_kp (kpS g4))⟩⟩⟩
end
/-- a new list, or an error with one field -/
def SpE {α : Type} (Rs : α → List Rel) (P : α → Hp → Prop) (ok : α → Prop) (C : α → Own) (xc : Addr) (xf : Str) (xv : α → Rel) : Sp := fun vs H Q E => ∃ (a : α) (om : Addr → Prop), Hd H om ∧ Rok (Rs a) (less H om) vs ∧ P a (less H om) ∧
  (ok a → ∀ H' p o, Kp H H' → H' p = none → (C a).p (less H' om) o → Q (.ref p) (upd H' p o)) ∧ (¬ ok a → ∀ H' d v, Kp H H' → H' d = some (.xd [(xf, v)]) → (xv a).p (less H' om) v → E (.ref xc) (some d) H')
end Pk
namespace L2
open PySem PySem.Spec PyProof.Rows
section
variable {P : Program} {w : World} {A : Around} {E : Value → Shared → Prop} {s : Shared} {a x : Addr} {L : List (Addr × List Int)} {es : Array (Int × Value)} {ep : Nat} {t : SetTable} {k : List Int}
/-- what a search needs of the set -/
structure Seek (P : Program) (w : World) (h : Heap) (a : Addr) (L : List (Addr × List Int)) (es : Array (Int × Value)) (ep : Nat) (t : SetTable) : Prop where
  ob : ∃ o, h.get? a = some o ∧ o.ExactSet ∧ o.data = .set es ep t
  row : ∀ {i : Nat} {p : Addr × List Int}, L[i]? = some p → es[i]? = some (thash P w p.2, Value.ref p.1)
  all : es.toList = rowsOf P w L
  tab : TabOk t (L.map fun p => thash P w p.2)
  tup : ∀ p ∈ L, IsT P w h p.2 p.1
  room : L.length * 5 < t.mask * 3
theorem Seek.of (R : SetTR P w s.heap a L es ep t) : Seek P w s.heap a L es ep t := ⟨R.ob, fun h => R.entry h, R.rows, R.tab, R.tup, R.room⟩
variable {K : Nat} {Q : SetFound → Shared → Prop}
end
end L2
namespace Pk
open PySem L2 PySem.Spec PyProof.Rows GxR NdefX
section
variable {P : Program} {w : World} {K : PySem.W.Frag} {c : Ct} {b : Bool} {ta : TE} {ps : List Pl}
theorem SetOf.kp {H H' : Hp} {a : Addr} (h : SetOf P w H a ps) (k : Kp H H') : SetOf P w H' a ps := by
  obtain ⟨L, h1, h2, h3⟩ := h
  refine ⟨L, k.at_ _ _ h1 (fun _ z => nomatch z), fun x hx => ?_, h3⟩
  obtain ⟨p, m, e, z⟩ := h2 x hx
  exact ⟨p, m, e, k.tup z⟩
def RSet (P : Program) (w : World) (ps : List Pl) : Rel := ⟨fun H v => ∃ a, v = .ref a ∧ SetOf P w H a ps, fun k ⟨a, e, h⟩ => ⟨a, e, h.kp k⟩⟩
theorem Dt.plA {H : Hp} {v : V} {p : Pl} (h : Dt H v (dP p)) : ∃ t, v = .ref t ∧ H t = some (.tup [.int p.1, .int p.2]) := by
  cases h with
  | tup e a =>
    cases a with
    | cons a1 a =>
      cases a with
      | cons a2 a =>
        cases a
        cases a1
        cases a2
        exact ⟨_, rfl, e⟩
theorem Dt.prA {H : Hp} {v : V} {p : Pl} (h : Dt H v (dP p)) : Pr H v p := h.plA
theorem DtAll.prsA {H : Hp} : ∀ {vs : List V} {ps : List Pl}, DtAll H vs (ps.map dP) → Prs H vs ps
  | [], [], _ => .nil
  | [], _ :: _, h => by cases h
  | _ :: _, [], h => by cases h
  | _ :: _, _ :: _, .cons a b => .cons a.prA b.prsA
theorem Prs.dtA {H : Hp} {vs : List V} {ps : List Pl} (h : Prs H vs ps) : DtAll H vs (ps.map dP) := by
  induction h with
  | nil => exact .nil
  | cons a _ ih =>
    obtain ⟨t, rfl, e⟩ := a
    exact .cons (.tup e (.cons (.int _) (.cons (.int _) .nil))) ih
/-- set(xs) -/
theorem e_setP (h : EI c ta (ps.map dP)) (n : ps.length < 64) : E b c (tCB (rSetP K P w) (tCons ta tNil)) (RSet P w ps) := fun σ H s Q q =>
  h σ H s _ fun H1 l vs k1 e1 r1 => ⟨l, vs, ps, rfl, SqL.of e1, (r1.kp kp_less).prsA, n, fun H' a na sm so => by
    have k2 := kpS sm
    have s2 := (s.kp k1).kp k2
    refine q H' _ (k1.trans k2) ⟨a, rfl, ?_⟩
    obtain ⟨L, h1, h2, h3⟩ := so
    refine ⟨L, ?_, fun x hx => ?_, h3⟩
    · rw [hb, less_out]
      · exact h1
      · intro m
        obtain ⟨o, e, _⟩ := (s.kp k1).hides a m
        rw [na] at e
        cases e
    · obtain ⟨p, m, e, z⟩ := h2 x hx
      refine ⟨p, m, e, ?_⟩
      rw [hb, less_out]
      · exact z
      · intro m
        obtain ⟨o, e, mu⟩ := s2.hides x.1 m
        rw [z] at e
        cases e
        exact mu⟩
/-- sorted(s) -/
theorem n_sortSP (h : E true c ta (RSet P w ps)) : EN c (tCB (rSortS P w) (tCons ta tNil)) (OL ((marksP ps).map dP)) := fun σ H s Q q =>
  h σ H s _ fun H1 v k1 r1 => by
    obtain ⟨a, rfl, so⟩ := r1
    refine ⟨a, ps, rfl, so.kp kp_less, fun p ys n hy => q H1 p _ k1 n ⟨ys, rfl, ?_⟩⟩
    have := DtAll.less (M := msk true c σ) (fun a m => (s.kp k1).hides a m) hy.dtA ?_
    · rw [show less H1 (msk true c σ) = bas c σ H1 from hb_t] at this
      exact this
    · have : ∀ qs : List Pl, flats (qs.map dP) = true := fun qs => by
        induction qs with
        | nil => rfl
        | cons z zs ih => exact (Bool.and_eq_true _ _).mpr ⟨rfl, ih⟩
      exact this _
/-- sorted(set(xs)), xs numbers -/
theorem n_sortSetI {xs ys : List Int} (h : EI c ta (xs.map PyData.int)) (few : xs.length ≤ 60) (mem : ∀ k, k ∈ ys ↔ k ∈ xs) (pw : ys.Pairwise (· < ·)) : EN c (tCB (rSortedSet w) (tCons (tCB (rSetI K w) (tCons ta tNil)) tNil)) (OL (ys.map PyData.int)) := fun σ H s Q q =>
  h σ H s _ fun H1 l vs k1 e1 r1 => ⟨l, xs, rfl, by rw [← r1.ints]; exact SqL.of e1, few, fun a n na le => ⟨a, _, n, rfl, upd_same, by omega, fun ns p up me _ np => by
    have e : ns = ys := rise_uniq up pw fun k => (me k).trans (by rw [decide_eq_true_iff]; exact (mem k).symm)
    subst e
    exact q _ p _ (k1.trans (kp_new na)) np ⟨_, rfl, DtAll.ofInts _⟩⟩⟩
theorem o_notB {x y : Bool} : O2 rNotB (RD (.bool x)) (RD (.bool y)) (RD (.bool (!decide (x = y)))) := fun H M u v _ r1 r2 Q q => by
  cases r1
  cases r2
  exact ⟨x, y, rfl, rfl, q H _ (Kp.refl _) (.bl _)⟩
end
theorem s_retU {c : Ct} {R : Rel} {te : TE} {rt : VK} (h : E true c te R) (q : ∀ H' v, Kp c.hs H' → R.p (less H' c.om) v → rt v H') : WC c (fun σ H => te σ H rt) := fun σ H s => h σ H s _ fun H' v kp r => by
  rw [hb_t] at r
  exact q H' v (s.ks.trans kp) (R.mn (less_mono fun _ z => .inr z) r)
structure ShE (d : PyData) (n m : Nat) : Prop where
  sh : d.showable = true
  no : d.hasDict = false
  dp : d.depth ≤ n
  lv : d.leavesShort 13 = true
  bk : d.bulk ≤ m
theorem ShE.up {d : PyData} {n m n' m' : Nat} (h : ShE d n m) (hn : n ≤ n') (hm : m ≤ m') : ShE d n' m' := ⟨h.sh, h.no, Nat.le_trans h.dp hn, h.lv, Nat.le_trans h.bk hm⟩
end Pk
namespace Pk
open PySem PySem.Spec PyProof.Rows L2
abbrev Tps := List (Addr × List Int)
end Pk
namespace L2
open PySem PySem.Spec PyProof.Rows
section
variable {P : Program} {w : World} {A : Around} {E : Value → Shared → Prop} {s : Shared} {a x : Addr} {L : List (Addr × List Int)} {es : Array (Int × Value)} {ep : Nat} {t : SetTable} {k : List Int} {K : Nat} {Q : SetFound → Shared → Prop}
/-- a set of tuples, told without a bound of its own -/
structure SetTW (P : Program) (w : World) (h : Heap) (a : Addr) (L : List (Addr × List Int)) (es : Array (Int × Value)) (ep : Nat) (t : SetTable) : Prop extends Seek P w h a L es ep t where
  one : (L.map (·.2)).Nodup
  flat : t.plain = true
  told : w.params.followText "set-order" = true ∨ t.led = true
theorem SetTW.of (s : Shared) {h : Heap} (R : SetTR P w h a L es ep t) : SetTW P w h a L es ep t := { toSeek := Seek.of (s := { s with heap := h }) R, one := R.nd, flat := R.plain, told := R.led }
end
end L2
namespace Pk
open PySem PySem.Spec PyProof.Rows L2
theorem _root_.L2.SetTW.keep {P : Program} {w : World} {h h' : Heap} {a : Addr} {L : Tps} {es : Array (Int × Value)} {ep : Nat} {t : SetTable} (R : SetTW P w h a L es ep t) (ha : ∀ o, h.get? a = some o → h'.get? a = some o) (ht : ∀ p ∈ L, IsT P w h' p.2 p.1) : SetTW P w h' a L es ep t := by
  obtain ⟨o, ho, ex⟩ := R.ob
  exact { ob := ⟨o, ha o ho, ex⟩, row := R.row, all := R.all, tab := R.tab, tup := ht, room := R.room, one := R.one, flat := R.flat, told := R.told }
/-- what stands of such a set, its tuples aside -/
structure SetW0 (P : Program) (w : World) (h : Heap) (a : Addr) (L : Tps) : Prop where
  ex : ∃ es ep t, (∃ o, h.get? a = some o ∧ o.ExactSet ∧ o.data = .set es ep t) ∧ es.toList = rowsOf P w L ∧ TabOk t (L.map fun p => thash P w p.2) ∧ L.length * 5 < t.mask * 3
def SetWO (P : Program) (w : World) (a : Addr) (L : Tps) : HO := .ext fun h => SetW0 P w h a L
def SetOfW (P : Program) (w : World) (H : Hp) (a : Addr) (ps : List Pl) : Prop := ∃ L : Tps, H a = some (SetWO P w a L) ∧ (∀ x ∈ L, ∃ p ∈ ps, x.2 = [p.1, p.2] ∧ H x.1 = some (.tup [.int p.1, .int p.2])) ∧ ∀ p ∈ ps, [p.1, p.2] ∈ L.map (·.2)
section
variable {P : Program} {w : World} {K : PySem.W.Frag} {c : Ct} {b : Bool} {ta : TE} {ps : List Pl}
theorem SetOfW.kp {H H' : Hp} {a : Addr} (h : SetOfW P w H a ps) (k : Kp H H') : SetOfW P w H' a ps := by
  obtain ⟨L, h1, h2, h3⟩ := h
  refine ⟨L, k.at_ _ _ h1 (fun _ z => nomatch z), fun x hx => ?_, h3⟩
  obtain ⟨p, m, e, z⟩ := h2 x hx
  exact ⟨p, m, e, k.tup z⟩
end
end Pk
namespace Pk
open PySem L2 PySem.Spec PyProof.Rows GxR NdefX
structure ItOk {α : Type} (B : Hp) (J : It) (xs : List α) (R : α → Rel) : Prop where
  go : ∀ (i : Nat) (H : Hp) (M : Addr → Prop), Hd H M → Kp B (less H M) → i < xs.length → J.go i H
  stop : ∀ (i : Nat) (H : Hp) (M : Addr → Prop), Hd H M → Kp B (less H M) → xs.length ≤ i → J.stop i H
  yld : ∀ (i : Nat) (H : Hp) (M : Addr → Prop) (v : V) (H' : Hp), Hd H M → Kp B (less H M) → J.yld i H v H' → ∀ a, xs[i]? = some a → Kp H H' ∧ (R a).p (less H' M) v
def EWg {α : Type} (c : Ct) (wi : TI) (xs : List α) (R : α → Rel) : Prop := ∀ σ H, Sta c σ H → ∀ Q : It → Hp → Prop, (∀ H' J, Kp H H' → ItOk (bas c σ H') J xs R → Q J H') → wi σ H Q
theorem less_lst {B H : Hp} {M : Addr → Prop} (k : Kp B (less H M)) {a : Addr} {vs : List V} (e : B a = some (.lst vs)) : H a = some (.lst vs) := (less_some (k.lst e)).2
section
variable {c : Ct} {wi : TI} {ta : TA} {tl te ti : TE} {tt : TT} {g : TG} {D : Ends} {tb : TS} {K : PySem.W.Frag} {α β : Type} {xs : List α} {ys : List β} {R : α → Rel} {f : α → PyData} {h : β → PyData}
theorem Sta.hid' {σ : L2.St} {H : Hp} (s : Sta c σ H) : Hd H (fun a => isOwn c.g σ a ∨ c.om a) := fun a m => s.hides (b := true) a ⟨rfl, m⟩
theorem w_list (hl : E true c tl (RD (.list (xs.map f)))) : EWg c (iList K tl) xs (fun a => RD (f a)) := fun σ H s Q q => hl σ H s _ fun H1 v k1 r1 => by
  rw [hb_t] at r1
  cases r1 with
  | @lst a vs _ e r =>
    have n := r.len
    rw [List.length_map] at n
    refine ⟨a, rfl, ⟨vs, SqL.of (less_some e).2⟩, q H1 _ k1 ⟨fun i G M hd k hi => ?_, fun i G M hd k hi => ?_, fun i G M v G' hd k y x hx => ?_⟩⟩
    · exact ⟨vs, vs[i], SqL.of (less_lst k e), List.getElem?_eq_getElem (by omega)⟩
    · exact ⟨vs, SqL.of (less_lst k e), by omega⟩
    · obtain ⟨rfl, y⟩ := y
      obtain ⟨w, e1, e2⟩ := r.at (i := i) (d := f x) (by rw [List.getElem?_map, hx]; rfl)
      have := (y vs (SqL.of (less_lst k e))).symm.trans e1
      cases this
      exact ⟨Kp.refl _, e2.kp k⟩
/-- [e for x in .. if t] -/
theorem n_lcG {G : α → List Slot} {is vs : List Nat} {p : α → Bool} {fe : α → PyData} (hs : EWg c wi xs R) (hw : anyAt c.g vs = true) (his : ∀ i ∈ is, i ∈ vs)
    (hg : ∀ om, ∀ x, x ∈ xs → EG ⟨c.hs, c.h0, om, c.g⟩ g (R x) (G x) is) (ht : ∀ om, ∀ x, x ∈ xs → ET ⟨c.hs, c.h0, om, G x⟩ tt (p x))
    (he : ∀ om, ∀ x, x ∈ xs → p x = true → E true ⟨c.hs, c.h0, om, G x⟩ te (RD (fe x))) (hl : xs.length < 16777216) : EN c (tLc wi g tt te vs) (OL ((xs.filter p).map fe)) := fun σ H s Q q => by
  refine hs σ H s _ fun H1 J k1 ok D nD => ?_
  have s1 := s.kp k1
  have fD : Fre c.hs D := .of s1.ks nD
  have hw := anyAt_of hw
  have sw := s1.wipe hw
  have ew : ∀ H', bas c (wipe σ vs) H' = bas c σ H' := fun H' => bas_iff (fun a => or_congr (own_wipe hw a) Iff.rfl) fun _ _ => rfl
  refine ⟨fun i m H' => m = xs.length - i ∧ i ≤ xs.length ∧ Kc c (wipe σ vs) H1 D (((xs.take i).filter p).map fe) H', ⟨xs.length, rfl, Nat.zero_le _, ?_⟩, ?_⟩
  · obtain ⟨sh, eb⟩ := sw.hide (o := .lst []) nD trivial
    exact ⟨⟨[], upd_same, by simpa using DtAll.nil⟩, sh, by rw [less_upd]; exact kp_of fun b o e => by rw [wo_ne (ne_of_none e nD)]; exact e⟩
  rintro i m H' ⟨rfl, hi, h⟩
  have kB : Kp (bas c σ H1) (bas ⟨c.hs, c.h0, fun a => c.om a ∨ a = D, c.g⟩ (wipe σ vs) H') := by
    rw [← bas_less, ew]
    exact s1.kb h.kp
  by_cases hlt : i < xs.length
  · refine .inr ⟨ok.go i H' _ h.st.hid' kB hlt, Kc c (wipe σ vs) H1 D (((xs.take (i + 1)).filter p).map fe), fun H'' p' => ⟨xs.length - (i + 1), by omega, rfl, hlt, p'⟩, fun v H2 y => ?_⟩
    have ex := List.getElem?_eq_getElem hlt
    obtain ⟨k2, r⟩ := ok.yld i H' _ v H2 h.st.hid' kB y _ ex
    have h2 := h.grow k2
    have hm : xs[i] ∈ xs := List.getElem_mem hlt
    refine hg _ _ hm _ H2 v h2.st r _ fun σ2 s2 e2 w2 => ⟨(w2 vs his).trans (wipe_wipe fun _ m => m), ht _ _ hm σ2 H2 s2 _ fun H3 k3 => ?_⟩
    cases hp : p xs[i] with
    | false =>
      rw [if_neg Bool.false_ne_true, ft_succ ex, hp, if_neg Bool.false_ne_true, List.append_nil]
      exact h2.grow k3
    | true =>
      rw [if_pos rfl]
      refine he _ _ hm hp σ2 H3 (s2.kp k3) _ fun H4 y k4 r4 => ?_
      have h4 := (h2.grow k3).grow k4
      obtain ⟨acc, ea, aa⟩ := h4.ex
      refine ⟨acc, ea, ?_, ?_⟩
      · have := lc_len (p := p) (f := fe) (i := i) (Nat.le_refl xs.length)
        have hs : sizeLine = 16777216 := sizeLine_eq
        rw [aa.len]
        omega
      · rw [ft_succ ex, hp, if_pos rfl]
        refine h4.put fD ea ?_
        rw [hb_t] at r4
        rw [← e2]
        exact r4
  · have e : i = xs.length := by omega
    subst e
    refine .inl ⟨ok.stop _ H' _ h.st.hid' kB (Nat.le_refl _), ?_⟩
    obtain ⟨acc, ea, aa⟩ := h.ex
    rw [← upd_less ea]
    refine q _ D _ (k1.trans h.kp) wo_at ⟨acc, rfl, ?_⟩
    rw [← ew, bas_less]
    rw [List.take_length] at aa
    exact aa
theorem n_lcGM {γ : Type} {G : α → List Slot} {is vs : List Nat} {p : α → Bool} {fe : α → γ} {encB : γ → PyData} (hs : EWg c wi xs R) (hw : anyAt c.g vs = true) (his : ∀ i ∈ is, i ∈ vs)
    (hg : ∀ om, ∀ x, x ∈ xs → EG ⟨c.hs, c.h0, om, c.g⟩ g (R x) (G x) is) (ht : ∀ om, ∀ x, x ∈ xs → ET ⟨c.hs, c.h0, om, G x⟩ tt (p x))
    (he : ∀ om, ∀ x, x ∈ xs → p x = true → E true ⟨c.hs, c.h0, om, G x⟩ te (RD (encB (fe x)))) (hl : xs.length < 16777216) : EN c (tLc wi g tt te vs) (OL (((xs.filter p).map fe).map encB)) :=
  (n_lcG (fe := fun x => encB (fe x)) hs hw his hg ht he hl).eqL (by rw [List.map_map]; rfl)
theorem n_lcGM1 {γ : Type} {G : α → List Slot} {is vs : List Nat} {fe : α → γ} {encB : γ → PyData} (hs : EWg c wi xs R) (hw : anyAt c.g vs = true) (his : ∀ i ∈ is, i ∈ vs)
    (hg : ∀ om, ∀ x, x ∈ xs → EG ⟨c.hs, c.h0, om, c.g⟩ g (R x) (G x) is)
    (he : ∀ om, ∀ x, x ∈ xs → True → E true ⟨c.hs, c.h0, om, G x⟩ te (RD (encB (fe x)))) (hl : xs.length < 16777216) : EN c (tLc wi g tYes te vs) (OL ((xs.map fe).map encB)) :=
  (n_lcGM (p := fun _ => true) hs hw his hg (fun _ _ _ => t_yes) (fun om x m _ => he om x m trivial) hl).eqL (by rw [List.filter_eq_self.mpr (fun _ _ => rfl)])
theorem DtAll.set {H : Hp} {vs : List V} {ds : List PyData} (h : DtAll H vs ds) : ∀ {j : Nat} {v : V} {d : PyData}, Dt H v d → DtAll H (vs.set j v) (ds.set j d) := by
  induction vs generalizing ds with
  | nil => cases h; intro j v d _; exact .nil
  | cons u vs ih =>
    cases h with
    | cons a b =>
      intro j v d r
      cases j with
      | zero => exact .cons r b
      | succ j => exact .cons a (ih b r)
end
abbrev eH3 {α β γ : Type} (f : α → PyData) (g : β → PyData) (k : γ → PyData) : α × β × γ → PyData := fun p => .list [f p.1, g p.2.1, k p.2.2]
/-- a tuple of numbers, written or made -/
def RTI (K : PySem.W.Frag) (ns : List Int) : Rel := ⟨fun H v => ∃ a, v = .ref a ∧ SqT K H a (ns.map V.int), fun k ⟨a, e, h⟩ => ⟨a, e, by
  rcases h with (h | ⟨o, h⟩) | h
  · exact .inl (.inl (k.tup h))
  · exact .inl (.inr ⟨o, k.at_ _ _ h fun _ z => nomatch z⟩)
  · exact .inr h⟩⟩
theorem RTI.dp {K : PySem.W.Frag} {ns : List Int} {H : Hp} {v : V} (h : (RTI K ns).p H v) : Dp K H v (.tuple (ns.map PyData.int)) := by
  obtain ⟨a, rfl, h⟩ := h
  refine .tup h ?_
  clear h
  induction ns with
  | nil => exact .nil
  | cons n ns ih => exact .cons (.int n) ih
end Pk
namespace Pk
open PySem L2 PySem.Spec PyProof.Rows GxR NdefX
section
variable {α : Type} (lt : α → α → Bool)
structure Lo : Prop where
  tr : ∀ x y z, lt y x = false → lt z y = false → lt z x = false
  as : ∀ x y, lt x y = true → lt y x = false
/-- the item at i is not less than that above it -/
def OkH (ts : Array α) (i : Nat) : Prop := ∀ (h : i < ts.size) (_ : 0 < i), lt ts[i] (ts[(i - 1) / 2]'(by omega)) = false
/-- what stands below pos is not less than what stands above it -/
def Gr (ts : Array α) (pos : Nat) : Prop := ∀ (i : Nat) (h : i < ts.size) (_ : 0 < i) (_ : (i - 1) / 2 = pos) (_ : 0 < pos), lt ts[i] (ts[(pos - 1) / 2]'(by omega)) = false
structure UpI (ts : Array α) (pos : Nat) : Prop where
  ok : ∀ i, i ≠ pos → OkH lt ts i
  gr : Gr lt ts pos
structure DnI (ts : Array α) (pos : Nat) : Prop where
  ok : ∀ i, i ≠ pos → (i - 1) / 2 ≠ pos → OkH lt ts i
  gr : Gr lt ts pos
variable {lt}
theorem sw_at {ts : Array α} {p q : Nat} (hp : p < ts.size) (hq : q < ts.size) {i : Nat} (hi : i < (ts.swap p q).size) : (ts.swap p q)[i] = if i = p then ts[q] else if i = q then ts[p] else ts[i]'(by simpa using hi) := by
  rw [Array.getElem_swap]
theorem up_swap (O : Lo lt) {ts : Array α} {pos : Nat} (h : pos < ts.size) (h0 : 0 < pos) (I : UpI lt ts pos) (l : lt ts[pos] (ts[(pos - 1) / 2]'(by omega)) = true) :
    UpI lt (ts.swap ((pos - 1) / 2) pos (by omega) h) ((pos - 1) / 2) := by
  have hp : (pos - 1) / 2 < ts.size := by omega
  have lp := O.as _ _ l
  refine ⟨fun i ne hi i0 => ?_, fun i hi i0 e p0 => ?_⟩
  · have hi' : i < ts.size := by simpa using hi
    rw [sw_at hp h, sw_at hp h, if_neg ne]
    by_cases e1 : i = pos
    · subst e1
      rw [if_pos rfl, if_pos rfl]
      exact lp
    · rw [if_neg e1]
      have z := I.ok i e1 hi' i0
      by_cases e2 : (i - 1) / 2 = (pos - 1) / 2
      · rw [if_pos e2]
        simp only [e2] at z
        exact O.tr _ _ _ lp z
      · rw [if_neg e2]
        by_cases e3 : (i - 1) / 2 = pos
        · rw [if_pos e3]
          exact I.gr i hi' i0 e3 h0
        · rw [if_neg e3]
          exact z
  · have hi' : i < ts.size := by simpa using hi
    have zp := I.ok ((pos - 1) / 2) (by omega) hp p0
    rw [sw_at hp h, sw_at hp h, if_neg (show ¬ i = (pos - 1) / 2 by omega), if_neg (show ¬ ((pos - 1) / 2 - 1) / 2 = (pos - 1) / 2 by omega), if_neg (show ¬ ((pos - 1) / 2 - 1) / 2 = pos by omega)]
    by_cases e1 : i = pos
    · rw [if_pos e1]
      exact zp
    · rw [if_neg e1]
      have z := I.ok i e1 hi' i0
      simp only [e] at z
      exact O.tr _ _ _ zp z
theorem up_stop {ts : Array α} {pos : Nat} (I : UpI lt ts pos) (l : ∀ h : pos < ts.size, 0 < pos → lt ts[pos] (ts[(pos - 1) / 2]'(by omega)) = false) (i : Nat) : OkH lt ts i := by
  by_cases e : i = pos
  · subst e
    exact l
  · exact I.ok i e
theorem dn_leaf {ts : Array α} {pos : Nat} (I : DnI lt ts pos) (l : ts.size ≤ 2 * pos + 1) : UpI lt ts pos :=
  ⟨fun i ne hi i0 => I.ok i ne (fun e => by omega) hi i0, I.gr⟩
theorem dn_swap {ts : Array α} {pos c : Nat} (h : c < ts.size) (hc : (c - 1) / 2 = pos) (c0 : 0 < c) (I : DnI lt ts pos) (l : ∀ (i : Nat) (hi : i < ts.size), 0 < i → (i - 1) / 2 = pos → i ≠ c → lt ts[i] ts[c] = false) :
    DnI lt (ts.swap c pos h (by omega)) c := by
  have hp : pos < ts.size := by omega
  refine ⟨fun i ne np hi i0 => ?_, fun i hi i0 e p0 => ?_⟩
  · have hi' : i < ts.size := by simpa using hi
    rw [sw_at h hp, sw_at h hp, if_neg ne, if_neg np]
    by_cases e1 : i = pos
    · rw [if_pos e1, if_neg (show ¬ (i - 1) / 2 = pos by omega)]
      have := I.gr c h c0 hc (by omega)
      simp only [e1]
      exact this
    · rw [if_neg e1]
      by_cases e2 : (i - 1) / 2 = pos
      · rw [if_pos e2]
        exact l i hi' i0 e2 ne
      · rw [if_neg e2]
        exact I.ok i e1 e2 hi' i0
  · have hi' : i < ts.size := by simpa using hi
    rw [sw_at h hp, sw_at h hp, if_neg (show ¬ i = c by omega), if_neg (show ¬ i = pos by omega), if_neg (show ¬ (c - 1) / 2 = c by omega), if_pos hc]
    have z := I.ok i (by omega) (by omega) hi' i0
    simp only [e] at z
    exact z
/-- the first one is the least -/
theorem least_first (O : Lo lt) {ts : Array α} (ok : ∀ i, OkH lt ts i) (rf : ∀ x, lt x x = false) : ∀ (n i : Nat) (h : i < ts.size), i ≤ n → lt ts[i] (ts[0]'(by omega)) = false := fun n => by
  induction n with
  | zero =>
    intro i h e
    obtain rfl : i = 0 := by omega
    exact rf _
  | succ n ih =>
    intro i h e
    by_cases i0 : i = 0
    · subst i0; exact rf _
    · exact O.tr _ _ _ (ih ((i - 1) / 2) (by omega) (by omega)) (ok i h (by omega))
end
section
variable {prog : Program} {w : World} {A : Around} {s0 : Shared} {l : Addr} {α : Type} {val : α → Value} {lt : α → α → Bool} {R : Result → Shared → Prop} {res : Value}
/-- the list at l holds these; all else stands as it did -/
structure Hl (h0 : Heap) (l : Addr) (val : α → Value) (ts : Array α) (h : Heap) : Prop where
  at_ : ∃ n : Nat, h.get? l = some { cls := .type "list", data := .seq (ts.map val) n }
  keep : ∀ b o, b ≠ l → h0.get? b = some o → h.get? b = some o
/-- how two of them compare -/
def Cmp (prog : Program) (w : World) (A : Around) (s0 : Shared) (l : Addr) (val : α → Value) (lt : α → α → Bool) (ts : Array α) : Prop :=
  ∀ x ∈ ts, ∀ y ∈ ts, ∀ (h : Heap) (E : Value → Shared → Prop) (Q : Value → Shared → Prop), (∀ b o, b ≠ l → s0.heap.get? b = some o → h.get? b = some o) → Q (.bool (lt x y)) { s0 with heap := h } →
    wpAny (model prog w) A (richCompare .Lt (val x) (val y)) Q E { s0 with heap := h }
theorem swap_map {val : α → Value} {ts : Array α} {i j : Nat} (hi : i < ts.size) (hj : j < ts.size) : ((ts.map val).setIfInBounds i (val ts[j])).setIfInBounds j (val ts[i]) = (ts.swap i j hi hj).map val := by
  refine Array.ext_getElem? fun k => ?_
  rw [Array.getElem?_setIfInBounds, Array.getElem?_setIfInBounds, Array.getElem?_map, Array.getElem?_map]
  simp only [Array.size_setIfInBounds, Array.size_map]
  by_cases e1 : j = k
  · subst e1
    rw [if_pos rfl, if_pos hj, Array.getElem?_eq_getElem (by simpa using hj), Array.getElem_swap]
    by_cases e2 : j = i
    · subst e2; simp
    · rw [if_neg e2, if_pos rfl]; rfl
  · rw [if_neg e1]
    by_cases e2 : i = k
    · subst e2
      rw [if_pos rfl, if_pos hi, Array.getElem?_eq_getElem (by simpa using hi), Array.getElem_swap, if_pos rfl]; rfl
    · rw [if_neg e2]
      by_cases hk : k < ts.size
      · rw [Array.getElem?_eq_getElem hk, Array.getElem?_eq_getElem (by simpa using hk), Array.getElem_swap, if_neg (Ne.symm e2), if_neg (Ne.symm e1)]
      · rw [Array.getElem?_eq_none (by omega), Array.getElem?_eq_none (by simpa using hk)]
theorem Hl.swap {h0 h : Heap} {l : Addr} {val : α → Value} {ts : Array α} (H : Hl h0 l val ts h) {i j : Nat} (hi : i < ts.size) (hj : j < ts.size) :
    Hl h0 l val (ts.swap i j hi hj) (h.update l (Obj.mapSeq fun xs => (xs.setIfInBounds i (val ts[j])).setIfInBounds j (val ts[i]))) := by
  obtain ⟨n, e⟩ := H.at_
  have q := PySem.IsL.update e fun xs => (xs.setIfInBounds i (val ts[j])).setIfInBounds j (val ts[i])
  rw [swap_map hi hj] at q
  exact ⟨⟨_, q⟩, fun b o hb eo => (Heap.get?_update_other h _ (Ne.symm hb)).trans (H.keep b o hb eo)⟩
theorem e_sift : entryFor table "_heapq.heapify.sift" = some Builtin.«_heapq.heapify.sift» := entryFor_of_tree (by kernel_rfl)
theorem e_push : entryFor table "_heapq.heappush" = some Builtin.«_heapq.heappush» := entryFor_of_tree (by kernel_rfl)
theorem e_pop : entryFor table "_heapq.heappop" = some Builtin.«_heapq.heappop» := entryFor_of_tree (by kernel_rfl)
theorem p_sift : plainId "_heapq.heapify.sift" = true := by decide +kernel
theorem p_push : plainId "_heapq.heappush" = true := by decide +kernel
theorem p_pop : plainId "_heapq.heappop" = true := by decide +kernel
theorem k_push : builtinKind "_heapq.heappush" = none := by kernel_rfl
theorem k_pop : builtinKind "_heapq.heappop" = none := by kernel_rfl
theorem g_push (a b : Value) : argsOk "_heapq.heappush" ⟨[a, b], []⟩ := by unfold argsOk; kernel_rfl
theorem g_pop (a : Value) : argsOk "_heapq.heappop" ⟨[a], []⟩ := by unfold argsOk; kernel_rfl
theorem sift_up (O : Lo lt) (hR : ∀ h ts', Array.Perm ts' ts0 → (∀ i, OkH lt ts' i) → Hl s0.heap l val ts' h → R (.ok (.ret res)) { s0 with heap := h }) (cm : Cmp prog w A.in1 s0 l val lt ts0) (hz : ts0.size ≤ sizeLine) :
    ∀ (n pos : Nat) (ts : Array α) (h : Heap), pos < n → pos < ts.size → Array.Perm ts ts0 → UpI lt ts pos → Hl s0.heap l val ts h →
      codeAny (model prog w) A (.builtin "_heapq.heapify.sift" ⟨[.ref l, .bool false, .bool false, rawInt pos, rawInt (0 : Nat), res, rawInt (-1)], []⟩) R { s0 with heap := h } := fun n => by
  induction n with
  | zero => exact fun _ _ _ hn => absurd hn (Nat.not_lt_zero _)
  | succ n ih =>
    intro pos ts h hn hp pm I hl
    refine codeAny_builtin e_sift ?_
    rw [Around.under_plainId p_sift]
    unfold Builtin.«_heapq.heapify.sift»
    dsimp only [rawInt]
    obtain ⟨m, hm⟩ := hl.at_
    have e0 : ((0 : Nat) : Int).toNat = 0 := rfl
    have ep : ((pos : Nat) : Int).toNat = pos := rfl
    refine wpAny_bind (wpAny_bind (wpAny_seqItems hm rfl (wpAny_pure ?_)))
    rw [if_neg Bool.false_ne_true]
    rw [e0, ep]
    by_cases h0 : 0 < pos
    · rw [if_pos h0]
      have hq : (pos - 1) / 2 < ts.size := by omega
      have e1 : (ts.map val)[pos]? = some (val ts[pos]) := by rw [Array.getElem?_map, Array.getElem?_eq_getElem hp]; rfl
      have e2 : (ts.map val)[(pos - 1) / 2]? = some (val ts[(pos - 1) / 2]) := by rw [Array.getElem?_map, Array.getElem?_eq_getElem hq]; rfl
      refine wpAny_bind (?_ : wpAny _ _ (match (ts.map val)[pos]? with | some v => pure v | none => _) _ _ _)
      rw [e1]
      refine wpAny_pure ?_
      refine wpAny_bind (?_ : wpAny _ _ (match (ts.map val)[(pos - 1) / 2]? with | some v => pure v | none => _) _ _ _)
      rw [e2]
      refine wpAny_pure ?_
      rw [if_neg Bool.false_ne_true]
      refine wpAny_bind (wpAny_bind (wpAny_holding (wpAny_bind (cm _ (pm.mem_iff.mp (Array.getElem_mem hp)) _ (pm.mem_iff.mp (Array.getElem_mem hq)) h _ _ hl.keep ?_))))
      refine wpAny_truthy_bool ?_
      refine wpAny_bind (wpAny_bind (wpAny_seqItems hm rfl (wpAny_pure ?_)))
      rw [if_neg (show ¬ ((ts.map val).size != (ts.map val).size) = true by simp)]
      refine wpAny_pure ?_
      cases hc : lt ts[pos] ts[(pos - 1) / 2] with
      | true =>
        rw [if_pos rfl]
        refine wpAny_bind (wpAny_bind (wpAny_bind (wpAny_seqItems hm rfl (wpAny_pure ?_))))
        refine wpAny_bind (?_ : wpAny _ _ (match (ts.map val)[(pos - 1) / 2]? with | some v => pure v | none => _) _ _ _)
        rw [e2]
        refine wpAny_pure ?_
        refine wpAny_bind (?_ : wpAny _ _ (match (ts.map val)[pos]? with | some v => pure v | none => _) _ _ _)
        rw [e1]
        refine wpAny_pure ?_
        have hz1 : (ts.map val).size ≤ sizeLine := by rw [Array.size_map, pm.size_eq]; exact hz
        refine wpAny_updateSeq hm rfl ?_ hz1 (by simp only [Array.size_setIfInBounds]; omega)
        exact wpAny_pure ⟨plainId_quiet p_sift _, ih _ _ _ (by omega) (by simp only [Array.size_swap]; omega) (Array.swap_perm _ _ |>.trans pm) (up_swap O hp h0 I hc) (hl.swap hq hp)⟩
      | false =>
        rw [if_neg Bool.false_ne_true, if_pos (by decide)]
        exact wpAny_pure (hR h ts pm (up_stop I fun _ _ => hc) hl)
    · rw [if_neg h0, if_pos (by decide)]
      exact wpAny_pure (hR h ts pm (up_stop I fun _ z => absurd z h0) hl)
theorem child_of {i pos : Nat} (h0 : 0 < i) (e : (i - 1) / 2 = pos) : i = 2 * pos + 1 ∨ i = 2 * pos + 2 := by omega
theorem sift_down (O : Lo lt) (hR : ∀ h ts', Array.Perm ts' ts0 → (∀ i, OkH lt ts' i) → Hl s0.heap l val ts' h → R (.ok (.ret res)) { s0 with heap := h }) (cm : Cmp prog w A.in1 s0 l val lt ts0) (hz : ts0.size ≤ sizeLine) :
    ∀ (n pos : Nat) (ts : Array α) (h : Heap), ts.size < pos + n → pos < ts.size → Array.Perm ts ts0 → DnI lt ts pos → Hl s0.heap l val ts h →
      codeAny (model prog w) A (.builtin "_heapq.heapify.sift" ⟨[.ref l, .bool false, .bool true, rawInt pos, rawInt (0 : Nat), res, rawInt (-1)], []⟩) R { s0 with heap := h } := fun n => by
  induction n with
  | zero => exact fun _ _ _ hn hp => absurd hp (by omega)
  | succ n ih =>
    intro pos ts h hn hp pm I hl
    refine codeAny_builtin e_sift ?_
    rw [Around.under_plainId p_sift]
    unfold Builtin.«_heapq.heapify.sift»
    dsimp only [rawInt]
    obtain ⟨m, hm⟩ := hl.at_
    have e0 : ((0 : Nat) : Int).toNat = 0 := rfl
    have ep : ((pos : Nat) : Int).toNat = pos := rfl
    refine wpAny_bind (wpAny_bind (wpAny_seqItems hm rfl (wpAny_pure ?_)))
    rw [if_pos rfl, e0, ep, Array.size_map]
    have hz1 : (ts.map val).size ≤ sizeLine := by rw [Array.size_map, pm.size_eq]; exact hz
    have e1 : (ts.map val)[pos]? = some (val ts[pos]) := by rw [Array.getElem?_map, Array.getElem?_eq_getElem hp]; rfl
    by_cases hb : pos < ts.size / 2
    · rw [if_pos hb]
      have hc : 2 * pos + 1 < ts.size := by omega
      have e2 : (ts.map val)[2 * pos + 1]? = some (val ts[2 * pos + 1]) := by rw [Array.getElem?_map, Array.getElem?_eq_getElem hc]; rfl
      by_cases hd : 2 * pos + 1 + 1 < ts.size
      · rw [if_pos hd]
        have e3 : (ts.map val)[2 * pos + 1 + 1]? = some (val ts[2 * pos + 1 + 1]) := by rw [Array.getElem?_map, Array.getElem?_eq_getElem hd]; rfl
        refine wpAny_bind (?_ : wpAny _ _ (match (ts.map val)[2 * pos + 1]? with | some v => pure v | none => _) _ _ _)
        rw [e2]
        refine wpAny_pure ?_
        refine wpAny_bind (?_ : wpAny _ _ (match (ts.map val)[2 * pos + 1 + 1]? with | some v => pure v | none => _) _ _ _)
        rw [e3]
        refine wpAny_pure ?_
        rw [if_neg Bool.false_ne_true]
        refine wpAny_bind (wpAny_bind (wpAny_holding (wpAny_bind (cm _ (pm.mem_iff.mp (Array.getElem_mem hc)) _ (pm.mem_iff.mp (Array.getElem_mem hd)) h _ _ hl.keep ?_))))
        refine wpAny_truthy_bool ?_
        refine wpAny_bind (wpAny_bind (wpAny_seqItems hm rfl (wpAny_pure ?_)))
        rw [if_neg (show ¬ ((ts.map val).size != ts.size) = true by simp)]
        refine wpAny_pure ?_
        cases hl' : lt ts[2 * pos + 1] ts[2 * pos + 1 + 1] with
        | true =>
          rw [if_neg (by decide)]
          refine wpAny_bind (wpAny_bind (wpAny_bind (wpAny_seqItems hm rfl (wpAny_pure ?_))))
          refine wpAny_bind (?_ : wpAny _ _ (match (ts.map val)[2 * pos + 1]? with | some v => pure v | none => _) _ _ _)
          rw [e2]
          refine wpAny_pure ?_
          refine wpAny_bind (?_ : wpAny _ _ (match (ts.map val)[pos]? with | some v => pure v | none => _) _ _ _)
          rw [e1]
          refine wpAny_pure ?_
          refine wpAny_updateSeq hm rfl ?_ hz1 (by simp only [Array.size_setIfInBounds]; omega)
          refine wpAny_pure ⟨plainId_quiet p_sift _, ih _ _ _ (by simp only [Array.size_swap]; omega) (by simp only [Array.size_swap]; omega) (Array.swap_perm _ _ |>.trans pm) (dn_swap (pos := pos) hc (by omega) (by omega) I fun i hi i0 ei ne => ?_) (hl.swap hc hp)⟩
          obtain rfl : i = 2 * pos + 1 + 1 := by have := child_of i0 ei; omega
          exact O.as _ _ hl'
        | false =>
          rw [if_pos (by decide)]
          refine wpAny_bind (wpAny_bind (wpAny_bind (wpAny_seqItems hm rfl (wpAny_pure ?_))))
          refine wpAny_bind (?_ : wpAny _ _ (match (ts.map val)[2 * pos + 1 + 1]? with | some v => pure v | none => _) _ _ _)
          rw [e3]
          refine wpAny_pure ?_
          refine wpAny_bind (?_ : wpAny _ _ (match (ts.map val)[pos]? with | some v => pure v | none => _) _ _ _)
          rw [e1]
          refine wpAny_pure ?_
          refine wpAny_updateSeq hm rfl ?_ hz1 (by simp only [Array.size_setIfInBounds]; omega)
          refine wpAny_pure ⟨plainId_quiet p_sift _, ih _ _ _ (by simp only [Array.size_swap]; omega) (by simp only [Array.size_swap]; omega) (Array.swap_perm _ _ |>.trans pm) (dn_swap (pos := pos) hd (by omega) (by omega) I fun i hi i0 ei ne => ?_) (hl.swap hd hp)⟩
          obtain rfl : i = 2 * pos + 1 := by have := child_of i0 ei; omega
          exact hl'
      · rw [if_neg hd]
        refine wpAny_bind (wpAny_bind (wpAny_bind (wpAny_seqItems hm rfl (wpAny_pure ?_))))
        refine wpAny_bind (?_ : wpAny _ _ (match (ts.map val)[2 * pos + 1]? with | some v => pure v | none => _) _ _ _)
        rw [e2]
        refine wpAny_pure ?_
        refine wpAny_bind (?_ : wpAny _ _ (match (ts.map val)[pos]? with | some v => pure v | none => _) _ _ _)
        rw [e1]
        refine wpAny_pure ?_
        refine wpAny_updateSeq hm rfl ?_ hz1 (by simp only [Array.size_setIfInBounds]; omega)
        refine wpAny_pure ⟨plainId_quiet p_sift _, ih _ _ _ (by simp only [Array.size_swap]; omega) (by simp only [Array.size_swap]; omega) (Array.swap_perm _ _ |>.trans pm) (dn_swap (pos := pos) hc (by omega) (by omega) I fun i hi i0 ei ne => ?_) (hl.swap hc hp)⟩
        have := child_of i0 ei
        omega
    · rw [if_neg hb]
      exact wpAny_pure ⟨plainId_quiet p_sift _, sift_up O hR cm hz (pos + 1) pos ts h (Nat.lt_succ_self _) hp pm (dn_leaf I (by omega)) hl⟩
def RQ (Q : Value → Shared → Prop) (E : Value → Shared → Prop) : Result → Shared → Prop := fun r s' => match r with
  | .ok (.ret v) => Q v s'
  | .ok _ => False
  | .error e => E e s'
theorem call_fin {id : String} {b : Builtin} {args : List Value} {Q E : Value → Shared → Prop} {s : Shared} (hk : builtinKind id = none) (hp : plainId id = true) (hb : entryFor table id = some b) (ha : argsOk id ⟨args, []⟩)
    (hc : wpAny (model prog w) A.in1 (b ⟨args, []⟩) (fun fin s' => match fin with
      | .done f => RQ Q E (.ok f) s'
      | .again c' => c'.quiet = true ∧ codeAny (model prog w) A c' (RQ Q E) s') E s) : wpAny (model prog w) A (call (.builtin id) args) Q E s := by
  refine wpAny_call (codeAny_call_builtin hp hb ?_)
  have hfin := wpAny_mono hc (Q' := fun fin s' => match fin with
      | .done f => RQ Q E (.ok f) s'
      | .again c' => c'.quiet = true ∧ codeAny (model prog w) A c' (RQ Q E) s') (fun _ _ z => z) (E' := fun e s' => RQ Q E (.error e) s') fun _ _ z => z
  simp only [checkBuiltinCall, hk]
  cases hsig : Manifest.signature? id with
  | none => exact wpAny_pure hfin
  | some sig =>
    simp only [argsOk, hsig] at ha
    have h2 : Bind.checkArgs id sig ⟨args, []⟩ = pure () := ha
    show wpAny _ A.in1 (Bind.checkArgs id sig ⟨args, []⟩) _ _ s
    rw [h2]
    exact wpAny_pure hfin
theorem push_up {a : α} {ts : Array α} (ok : ∀ i, OkH lt ts i) : UpI lt (ts.push a) ts.size := by
  refine ⟨fun i ne hi i0 => ?_, fun i hi i0 e p0 => ?_⟩
  · have hi' : i < ts.size := by
      rw [Array.size_push] at hi
      omega
    rw [Array.getElem_push_lt hi', Array.getElem_push_lt (show (i - 1) / 2 < ts.size by omega)]
    exact ok i hi' i0
  · rw [Array.size_push] at hi
    omega
theorem Hl.push {h0 h : Heap} {l : Addr} {val : α → Value} {ts : Array α} (H : Hl h0 l val ts h) (a : α) : Hl h0 l val (ts.push a) (h.update l (Obj.mapSeq (·.push (val a)))) := by
  obtain ⟨n, e⟩ := H.at_
  have q := PySem.IsL.update e (·.push (val a))
  rw [← Array.map_push] at q
  exact ⟨⟨_, q⟩, fun b o hb eo => (Heap.get?_update_other h _ (Ne.symm hb)).trans (H.keep b o hb eo)⟩
theorem push_run {a : α} {ts : Array α} {Q E : Value → Shared → Prop} (O : Lo lt) (ok : ∀ i, OkH lt ts i) (hl : Hl s0.heap l val ts s0.heap) (cm : Cmp prog w A.in1 s0 l val lt (ts.push a)) (hz : ts.size < sizeLine)
    (hQ : ∀ h ts', Array.Perm ts' (ts.push a) → (∀ i, OkH lt ts' i) → Hl s0.heap l val ts' h → Q .none { s0 with heap := h }) : wpAny (model prog w) A (call (.builtin "_heapq.heappush") [.ref l, val a]) Q E s0 := by
  refine call_fin k_push p_push e_push (g_push _ _) ?_
  unfold Builtin.«_heapq.heappush»
  obtain ⟨m, hm⟩ := hl.at_
  refine wpAny_bind (wpAny_bind (wpAny_pure ?_))
  refine wpAny_bind (m := checkCount "heappush" 2 2 _) (wpAny_pure ?_)
  refine wpAny_bind (wpAny_bind (wpAny_isInstance (T := "list") ⟨_, hm, rfl⟩ (b := true) (by kernel_rfl) ?_))
  refine wpAny_pure (wpAny_pure ?_)
  have hs : (ts.map val).size = ts.size := Array.size_map ..
  refine wpAny_bind (wpAny_updateSeq hm rfl ?_ (by rw [hs]; omega) (by simp only [Array.size_push]; omega))
  have hl1 := hl.push a
  obtain ⟨m1, hm1⟩ := hl1.at_
  refine wpAny_bind (wpAny_bind (wpAny_seqItems hm1 rfl (wpAny_pure ?_)))
  have e1 : ((ts.push a).map val).size - 1 = ts.size := by simp
  rw [e1]
  refine wpAny_pure ⟨plainId_quiet p_sift _, ?_⟩
  exact sift_up (ts0 := ts.push a) (R := RQ Q E) O (fun h ts' p k x => hQ h ts' p k x) cm (by rw [Array.size_push]; omega) (ts.size + 1) ts.size (ts.push a) _ (Nat.lt_succ_self _) (by simp) (.refl _) (push_up ok) hl1
/-- the last one put in front -/
def headed (ts : Array α) (h : 0 < ts.size) : Array α := ts.pop.setIfInBounds 0 (ts[ts.size - 1])
theorem headed_size {ts : Array α} {h : 0 < ts.size} : (headed ts h).size = ts.size - 1 := by simp [headed]
theorem headed_at {ts : Array α} {h : 0 < ts.size} {i : Nat} (hi : i < (headed ts h).size) : (headed ts h)[i] = if i = 0 then ts[ts.size - 1] else ts[i]'(by rw [headed_size] at hi; omega) := by
  have e : (headed ts h)[i]? = some ((headed ts h)[i]) := Array.getElem?_eq_getElem hi
  have hi' : i < ts.size - 1 := by rw [headed_size] at hi; exact hi
  unfold headed at e
  rw [Array.getElem?_setIfInBounds, Array.size_pop] at e
  by_cases i0 : i = 0
  · subst i0
    rw [if_pos rfl, if_pos hi'] at e
    rw [if_pos rfl]
    exact (Option.some.inj e).symm
  · rw [if_neg (Ne.symm i0), Array.getElem?_pop, if_pos hi', Array.getElem?_eq_getElem (by omega)] at e
    rw [if_neg i0]
    exact (Option.some.inj e).symm
theorem headed_dn {ts : Array α} (h : 0 < ts.size) (ok : ∀ i, OkH lt ts i) : DnI lt (headed ts h) 0 := by
  refine ⟨fun i ne np hi i0 => ?_, fun i hi i0 e p0 => absurd p0 (Nat.lt_irrefl _)⟩
  rw [headed_at hi, headed_at, if_neg ne, if_neg np]
  exact ok i _ i0
theorem headed_perm {ts : Array α} (h : 0 < ts.size) (h2 : 2 ≤ ts.size) : ((ts[0] :: (headed ts h).toList)).Perm ts.toList := by
  obtain ⟨l⟩ := ts
  cases l with
  | nil => cases h
  | cons f r =>
    obtain ⟨mid, la, rfl⟩ : ∃ mid la, r = mid ++ [la] := by
      rcases List.eq_nil_or_concat r with rfl | ⟨mid, la, rfl⟩
      · exact absurd h2 (by show ¬ 2 ≤ 1; omega)
      · exact ⟨mid, la, List.concat_eq_append⟩
    have e : (headed (f :: (mid ++ [la])).toArray h).toList = la :: mid := by
      unfold headed
      rw [Array.toList_setIfInBounds, Array.toList_pop]
      show (List.dropLast (f :: (mid ++ [la]))).set 0 _ = _
      have z : (f :: (mid ++ [la])).dropLast = f :: mid := by rw [← List.cons_append, List.dropLast_concat]
      have z2 : (f :: (mid ++ [la]))[(f :: (mid ++ [la])).length - 1]'(by simp) = la := by simp
      refine (congrArg (fun q : List α => q.set 0 _) z).trans ?_
      show _ :: mid = _
      exact congrArg (fun q => q :: mid) z2
    rw [e]
    show (f :: la :: mid).Perm (f :: (mid ++ [la]))
    exact (List.perm_append_singleton la mid).symm.cons f
theorem pop_run1 {a : α} {Q E : Value → Shared → Prop} (hl : Hl s0.heap l val #[a] s0.heap)
    (hQ : ∀ h, Hl s0.heap l val (#[] : Array α) h → Q (val a) { s0 with heap := h }) : wpAny (model prog w) A (call (.builtin "_heapq.heappop") [.ref l]) Q E s0 := by
  refine call_fin k_pop p_pop e_pop (g_pop _) ?_
  unfold Builtin.«_heapq.heappop»
  obtain ⟨m, hm⟩ := hl.at_
  refine wpAny_bind (wpAny_bind (wpAny_pure ?_))
  refine wpAny_bind (wpAny_bind (wpAny_isInstance (T := "list") ⟨_, hm, rfl⟩ (b := true) (by kernel_rfl) ?_))
  refine wpAny_pure (wpAny_pure ?_)
  refine wpAny_bind (wpAny_bind (wpAny_seqItems hm rfl (wpAny_pure ?_)))
  rw [show ((#[a] : Array α).map val).back? = some (val a) by simp]
  refine wpAny_bind (wpAny_updateSeq (f := (·.pop)) hm rfl ?_ (by simp [sizeLine_eq]) (by simp))
  have q := PySem.IsL.update hm (·.pop)
  rw [show ((#[a] : Array α).map val).pop = (#[] : Array α).map val by simp] at q
  rw [if_pos (by simp)]
  exact wpAny_pure (hQ _ ⟨⟨_, q⟩, fun b o hb eo => (Heap.get?_update_other _ _ (Ne.symm hb)).trans eo⟩)
theorem pop_run {ts : Array α} {Q E : Value → Shared → Prop} (O : Lo lt) (ok : ∀ i, OkH lt ts i) (h2 : 2 ≤ ts.size) (hl : Hl s0.heap l val ts s0.heap) (cm : Cmp prog w A.in1 s0 l val lt ts) (hz : ts.size ≤ sizeLine)
    (hQ : ∀ h ts', Array.Perm ts' (headed ts (by omega)) → (∀ i, OkH lt ts' i) → Hl s0.heap l val ts' h → Q (val (ts[0]'(by omega))) { s0 with heap := h }) : wpAny (model prog w) A (call (.builtin "_heapq.heappop") [.ref l]) Q E s0 := by
  have h0 : 0 < ts.size := by omega
  refine call_fin k_pop p_pop e_pop (g_pop _) ?_
  unfold Builtin.«_heapq.heappop»
  obtain ⟨m, hm⟩ := hl.at_
  refine wpAny_bind (wpAny_bind (wpAny_pure ?_))
  refine wpAny_bind (wpAny_bind (wpAny_isInstance (T := "list") ⟨_, hm, rfl⟩ (b := true) (by kernel_rfl) ?_))
  refine wpAny_pure (wpAny_pure ?_)
  refine wpAny_bind (wpAny_bind (wpAny_seqItems hm rfl (wpAny_pure ?_)))
  have hs : (ts.map val).size = ts.size := Array.size_map ..
  have eb : (ts.map val).back? = some (val ts[ts.size - 1]) := by
    rw [Array.back?_eq_getElem?, hs, Array.getElem?_map, Array.getElem?_eq_getElem (by omega)]
    rfl
  rw [eb]
  refine wpAny_bind (wpAny_updateSeq hm rfl ?_ (by rw [hs]; omega) (by simp only [Array.size_pop]; omega))
  have q1 := PySem.IsL.update hm (·.pop)
  rw [if_neg (show ¬ ((ts.map val).size == 1) = true by rw [hs]; simp; omega)]
  have e0 : (ts.map val)[0]? = some (val ts[0]) := by rw [Array.getElem?_map, Array.getElem?_eq_getElem h0]; rfl
  refine wpAny_bind (?_ : wpAny _ _ (match (ts.map val)[0]? with | some v => pure v | none => _) _ _ _)
  rw [e0]
  refine wpAny_pure ?_
  refine wpAny_bind (wpAny_updateSeq q1 rfl ?_ (by simp only [Array.size_pop]; omega) (by simp only [Array.size_setIfInBounds, Array.size_pop]; omega))
  have q2 := PySem.IsL.update q1 (·.setIfInBounds 0 (val ts[ts.size - 1]))
  have em : ((ts.map val).pop.setIfInBounds 0 (val ts[ts.size - 1])) = (headed ts h0).map val := by
    unfold headed
    rw [← Array.map_pop, ← Array.map_setIfInBounds]
  rw [em] at q2
  refine wpAny_pure ⟨plainId_quiet p_sift _, ?_⟩
  refine sift_down (ts0 := headed ts h0) (R := RQ Q E) O (fun h ts' p k x => hQ h ts' p k x) (fun x hx y hy => cm x ?_ y ?_) (by rw [headed_size]; omega) ((headed ts h0).size + 1) 0 (headed ts h0) _ (by omega) (by rw [headed_size]; omega) (.refl _) (headed_dn h0 ok) ⟨⟨_, q2⟩, fun b o hb eo => ?_⟩
  · exact Array.mem_toList_iff.mp ((headed_perm h0 h2).mem_iff.mp (.tail _ (Array.mem_toList_iff.mpr hx)))
  · exact Array.mem_toList_iff.mp ((headed_perm h0 h2).mem_iff.mp (.tail _ (Array.mem_toList_iff.mpr hy)))
  · rw [Heap.get?_update_other _ _ (Ne.symm hb), Heap.get?_update_other _ _ (Ne.symm hb)]
    exact eo
end
abbrev QI : Type := Int × Pl
abbrev dQ : QI → PyData := eT2 PyData.int dP
def ltQ (p q : QI) : Bool := decide (p.1 < q.1 ∨ (p.1 = q.1 ∧ (p.2.1 < q.2.1 ∨ (p.2.1 = q.2.1 ∧ p.2.2 < q.2.2))))
open PySem.W in
theorem dataLt_q (p q : QI) : dataLt (dQ p) (dQ q) = ltQ p q := by
  show dataLt (.tuple [.int p.1, .tuple [.int p.2.1, .int p.2.2]]) (.tuple [.int q.1, .tuple [.int q.2.1, .int q.2.2]]) = _
  rw [dataLt_pair (by simp [alike]) (by simp [alike, alikeAll]), dataLt_ii, dataLt_int]
  unfold ltQ
  simp only [PyData.eqv, PyData.eqvAll, beq_iff_eq, Bool.and_true, Bool.and_eq_true]
  by_cases h1 : p.1 = q.1
  · rw [if_pos h1]
    by_cases h2 : p.2.1 = q.2.1 ∧ p.2.2 = q.2.2
    · rw [if_pos h2, eq_comm, decide_eq_false_iff_not]
      omega
    · rw [if_neg h2]
      exact decide_eq_decide.mpr (by omega)
  · rw [if_neg h1]
    exact decide_eq_decide.mpr (by omega)
theorem lo_q : Lo ltQ := by
  refine ⟨fun x y z h1 h2 => ?_, fun x y h => ?_⟩
  · unfold ltQ at *
    rw [decide_eq_false_iff_not] at *
    omega
  · unfold ltQ at *
    rw [decide_eq_false_iff_not]
    have := of_decide_eq_true h
    omega
theorem q_irr (x : QI) : ltQ x x = false := by
  unfold ltQ
  rw [decide_eq_false_iff_not]
  omega
def HeapQ (qs : List QI) : Prop := ∀ i, OkH ltQ qs.toArray i
theorem HeapQ.nil : HeapQ [] := fun i h => absurd h (Nat.not_lt_zero _)
theorem HeapQ.one (q : QI) : HeapQ [q] := fun i h h0 => by
  have : i < 1 := h
  omega
theorem HeapQ.least {q : QI} {qs : List QI} (h : HeapQ (q :: qs)) : ∀ p ∈ q :: qs, ltQ p q = false := fun p hp => by
  obtain ⟨i, hi, e⟩ := List.getElem_of_mem hp
  have := least_first lo_q h q_irr i i (by simpa using hi) (Nat.le_refl _)
  rw [← e]
  simpa using this
abbrev T3 : Type := V × Value × QI
theorem ra_cons {h : Heap} {vs : List Value} {d : PyData} {ds : List PyData} {as : List Addr} (r : ReadsAll h vs (d :: ds) as) : ∃ v vs' a b, vs = v :: vs' ∧ as = a ++ b ∧ Reads h v d a ∧ ReadsAll h vs' ds b := by
  cases r with
  | cons r1 r2 => exact ⟨_, _, _, _, rfl, rfl, r1, r2⟩
theorem ra_nil {h : Heap} {vs : List Value} {as : List Addr} (r : ReadsAll h vs [] as) : as = [] := by
  cases r
  rfl
theorem ra_int {h : Heap} {v : Value} {i : Int} {as : List Addr} (r : Reads h v (.int i) as) : as = [] := by
  cases r
  rfl
theorem ra_tup {h : Heap} {v : Value} {ds : List PyData} {as : List Addr} (r : Reads h v (.tuple ds) as) : ∃ vs : List Value, ReadsAll h vs ds as := by
  cases r with
  | tuple _ _ _ r => exact ⟨_, r⟩
theorem reads_q {h : Heap} {v : Value} {q : QI} {as : List Addr} (r : Reads h v (dQ q) as) : as = [] := by
  obtain ⟨vs, r⟩ := ra_tup (ds := [.int q.1, .tuple [.int q.2.1, .int q.2.2]]) r
  obtain ⟨_, _, _, _, _, rfl, r1, r2⟩ := ra_cons r
  obtain ⟨_, _, _, _, _, rfl, r3, r4⟩ := ra_cons r2
  obtain ⟨_, r3⟩ := ra_tup r3
  obtain ⟨_, _, _, _, _, rfl, r5, r6⟩ := ra_cons r3
  obtain ⟨_, _, _, _, _, rfl, r7, r8⟩ := ra_cons r6
  rw [ra_int r1, ra_nil r4, ra_int r5, ra_int r7, ra_nil r8]
  rfl
open PySem.W in
theorem alike_q (p q : QI) : alike (dQ p) (dQ q) = true := by
  show alike (.tuple [.int p.1, .tuple [.int p.2.1, .int p.2.2]]) (.tuple [.int q.1, .tuple [.int q.2.1, .int q.2.2]]) = true
  simp [alike, alikeAll]
/-- what is known of each of them -/
structure Tq (s : Shared) (t : T3) : Prop where
  rv : RelV t.1 t.2.1
  rd : Reads s.heap t.2.1 (dQ t.2.2) []
theorem cmp_q {prog : Program} {w : World} {A : Around} {s : Shared} {l : Addr} {ts : Array T3} (hl : ∀ o, s.heap.get? l = some o → o.cls = .type "list") (hu : A.units + 8 < cLine) (h : ∀ t ∈ ts, Tq s t) :
    Cmp prog w A s l (fun t : T3 => t.2.1) (fun a b => ltQ a.2.2 b.2.2) ts := fun x hx y hy h' E Q k q => by
  have r1 := PySem.W.Reads.keepBut k hl _ _ _ (alike_q _ _) (h x hx).rd (fun z => nomatch z)
  have r2 := PySem.W.Reads.keepBut k hl _ _ _ (alike_q _ _) (h y hy).rd (fun z => nomatch z)
  have e := dataLt_q x.2.2 y.2.2
  refine PySem.W.rcLt_alike (dQ x.2.2) (dQ y.2.2) A { s with heap := h' } _ _ [] [] r1 r2 (alike_q _ _) (fun z => nomatch z) ?_ prog w E Q (by rw [e]; exact q)
  show A.units + min 2 2 < cLine
  omega
theorem okH_map {α β : Type} {lt : β → β → Bool} {f : α → β} {ts : Array α} {i : Nat} : OkH lt (ts.map f) i ↔ OkH (fun a b => lt (f a) (f b)) ts i := by
  constructor
  · intro h hi i0
    have := h (by simpa using hi) i0
    simpa using this
  · intro h hi i0
    have := h (by simpa using hi) i0
    simpa using this
section
variable {X : Cx} {pins : List (Addr × Obj)} {σ : L2.St} {H : Hp} {s : Shared}
abbrev pr3 (t : T3) : V × QI := (t.1, t.2.2)
theorem t3_of (I : Inv X pins σ H s) : ∀ (L : List (V × QI)) (its : List Value), Vals (L.map (·.1)) its → (∀ p ∈ L, Dp X.K H p.1 (dQ p.2)) → ∃ T : List T3, T.map pr3 = L ∧ T.map (fun t => t.2.1) = its ∧ ∀ t ∈ T, Tq s t
  | [], its, r, _ => by
    cases r
    exact ⟨[], rfl, rfl, fun _ z => nomatch z⟩
  | p :: L, its, r, h => by
    cases r with
    | cons r1 r2 =>
      obtain ⟨T, e1, e2, e3⟩ := t3_of I L _ r2 fun q hq => h q (.tail _ hq)
      rename_i u _
      obtain ⟨as, rd⟩ := Dp.reads I _ _ _ (h p (.head _)) r1
      obtain rfl := reads_q rd
      refine ⟨(p.1, u, p.2) :: T, by rw [List.map_cons, e1], by rw [List.map_cons, e2], fun t ht => ?_⟩
      rcases List.mem_cons.mp ht with z | z
      · subst z
        exact ⟨r1, rd⟩
      · exact e3 t z
def rHPush (K : PySem.W.Frag) : List V → Hp → VK → Prop := fun vs H Q => ∃ (l : Addr) (v : V) (L : List (V × QI)) (q : QI), vs = [.ref l, v] ∧ H l = some (.lst (L.map (·.1))) ∧ (∀ p ∈ L, Dp K H p.1 (dQ p.2)) ∧ Dp K H v (dQ q) ∧ HeapQ (L.map (·.2)) ∧ L.length < sizeLine ∧
  ∀ L' : List (V × QI), L'.Perm (L ++ [(v, q)]) → HeapQ (L'.map (·.2)) → Q .non (upd H l (.lst (L'.map (·.1))))
theorem list_cls {h : Heap} {l : Addr} {its : Array Value} {n : Nat} (e : h.get? l = some { cls := .type "list", data := .seq its n }) : ∀ o, h.get? l = some o → o.cls = .type "list" := fun o eo => by
  rw [e] at eo
  cases eo
  rfl
theorem heapQ_ts {L : List (V × QI)} {T : List T3} (e : T.map pr3 = L) : HeapQ (L.map (·.2)) ↔ ∀ i, OkH (fun a b : T3 => ltQ a.2.2 b.2.2) T.toArray i := by
  subst e
  unfold HeapQ
  rw [List.map_map]
  refine forall_congr' fun i => ?_
  rw [← okH_map (lt := ltQ) (f := fun t : T3 => t.2.2)]
  rw [List.map_toArray]
  rfl
theorem done_q (I : Inv X pins σ H s) {l : Addr} {L0 : List V} {ts : Array T3} {h : Heap} (hH : H l = some (.lst L0)) (hz : ts.size ≤ sizeLine) (hl : Hl s.heap l (fun t : T3 => t.2.1) ts h) (rv : ∀ t ∈ ts, RelV t.1 t.2.1) :
    Inv X pins σ (upd H l (.lst ((ts.toList.map pr3).map (·.1)))) { s with heap := h } := by
  obtain ⟨n, e⟩ := hl.at_
  refine I.write (x := l) (e := l) (t' := s.toks) (by rw [hH]; exact trivial) (.inl rfl) hl.keep ⟨_, e⟩ ⟨by rw [List.length_map, List.length_map, Array.length_toList]; exact hz, (ts.map fun t => t.2.1).toList, n, ?_, by rw [Array.toArray_toList]; exact e⟩
  rw [List.map_map, Array.toList_map]
  have : ∀ T : List T3, (∀ t ∈ T, RelV t.1 t.2.1) → Vals (T.map ((·.1) ∘ pr3)) (T.map fun t => t.2.1) := fun T => by
    induction T with
    | nil => exact fun _ => .nil
    | cons t T ih => exact fun k => .cons (k t (.head _)) (ih fun q hq => k q (.tail _ hq))
  exact this _ fun t ht => rv t (Array.mem_toList_iff.mp ht)
theorem cr_hpush (hu : X.A.units + 64 < cLine) : CallR X (.builtin "_heapq.heappush") (rHPush X.K) := by
  intro pins s σ H vs us Q I r h
  obtain ⟨l, v, L, q, rfl, hH, hL, hv, hp, hz, k⟩ := h
  cases r with
  | cons r1 r =>
    cases r with
    | cons r2 r =>
      cases r
      cases r1
      rename_i u
      obtain ⟨z, its, n, rv, hlen, e⟩ := I.lstM hH
      obtain ⟨T, e1, e2, e3⟩ := t3_of I L its rv hL
      obtain ⟨as, rd⟩ := Dp.reads I _ _ _ hv r2
      obtain rfl := reads_q rd
      have hl : Hl s.heap l (fun t : T3 => t.2.1) T.toArray s.heap := ⟨⟨n, by rw [List.map_toArray, e2]; exact e⟩, fun _ _ _ x => x⟩
      have tq : ∀ t ∈ T.toArray.push (v, u, q), Tq s t := fun t ht => by
        rcases Array.mem_push.mp ht with z | z
        · exact e3 t (by simpa using z)
        · subst z
          exact ⟨r2, rd⟩
      have hTl : T.length = L.length := by rw [← e1, List.length_map]
      refine push_run (val := fun t : T3 => t.2.1) (lt := fun a b : T3 => ltQ a.2.2 b.2.2) (a := (v, u, q)) (ts := T.toArray) ⟨fun x y z => lo_q.tr _ _ _, fun x y => lo_q.as _ _⟩ ((heapQ_ts e1).mp hp) hl (cmp_q (list_cls e) (by show X.A.units + 1 + 8 < cLine; omega) tq) (by show T.length < sizeLine; omega) fun h' ts' pm ok hl' => ?_
      have tq' : ∀ t ∈ ts', Tq s t := fun t ht => tq t (pm.mem_iff.mp ht)
      have hz' : ts'.size ≤ sizeLine := by
        rw [pm.size_eq, Array.size_push]
        show T.length + 1 ≤ sizeLine
        omega
      refine ⟨.non, _, done_q I hH hz' hl' fun t ht => (tq' t ht).rv, rfl, k _ ?_ ((heapQ_ts (T := ts'.toList) rfl).mpr (by simpa using ok))⟩
      have pl : ts'.toList.Perm (T ++ [(v, u, q)]) := by
        have := Array.perm_iff_toList_perm.mp pm
        simpa using this
      have := pl.map pr3
      rw [List.map_append, e1] at this
      exact this
def rHPop (K : PySem.W.Frag) : List V → Hp → VK → Prop := fun vs H Q => ∃ (l : Addr) (v : V) (q : QI) (L : List (V × QI)), vs = [.ref l] ∧ H l = some (.lst (v :: L.map (·.1))) ∧ Dp K H v (dQ q) ∧ (∀ p ∈ L, Dp K H p.1 (dQ p.2)) ∧ HeapQ (q :: L.map (·.2)) ∧ L.length < sizeLine ∧
  ∀ L' : List (V × QI), L'.Perm L → HeapQ (L'.map (·.2)) → Q v (upd H l (.lst (L'.map (·.1))))
theorem cr_hpop (hu : X.A.units + 64 < cLine) : CallR X (.builtin "_heapq.heappop") (rHPop X.K) := by
  intro pins s σ H vs us Q I r h
  obtain ⟨l, v, q, L, rfl, hH, hv, hL, hp, hz, k⟩ := h
  cases r with
  | cons r1 r =>
    cases r
    cases r1
    obtain ⟨z, its, n, rv, hlen, e⟩ := I.lstM hH
    obtain ⟨T, e1, e2, e3⟩ := t3_of I ((v, q) :: L) its rv fun p hp => by
      rcases List.mem_cons.mp hp with z | z
      · subst z; exact hv
      · exact hL p z
    have hl : Hl s.heap l (fun t : T3 => t.2.1) T.toArray s.heap := ⟨⟨n, by rw [List.map_toArray, e2]; exact e⟩, fun _ _ _ x => x⟩
    cases T with
    | nil => cases e1
    | cons t0 T =>
      have e0 : pr3 t0 = (v, q) := by injection e1
      have eT : T.map pr3 = L := by injection e1
      have hTl : T.length = L.length := by rw [← eT, List.length_map]
      have v0 : t0.1 = v := congrArg Prod.fst e0
      have tq0 := e3 t0 (.head _)
      cases T with
      | nil =>
        obtain rfl : L = [] := eT.symm
        refine pop_run1 (val := fun t : T3 => t.2.1) (a := t0) hl fun h' hl' => ?_
        exact ⟨v, _, done_q I hH (by show 0 ≤ sizeLine; omega) hl' (fun t ht => by simp at ht), by rw [← v0]; exact tq0.rv, k [] (.refl _) HeapQ.nil⟩
      | cons t1 T =>
        have tq : ∀ t ∈ (t0 :: t1 :: T).toArray, Tq s t := fun t ht => e3 t (by simpa using ht)
        refine pop_run (val := fun t : T3 => t.2.1) (lt := fun a b : T3 => ltQ a.2.2 b.2.2) (ts := (t0 :: t1 :: T).toArray) ⟨fun x y z => lo_q.tr _ _ _, fun x y => lo_q.as _ _⟩ ((heapQ_ts e1).mp hp) (by show 2 ≤ T.length + 1 + 1; omega) hl (cmp_q (list_cls e) (by show X.A.units + 1 + 8 < cLine; omega) tq) (by show T.length + 1 + 1 ≤ sizeLine; have : T.length + 1 = L.length := hTl; omega) fun h' ts' pm ok hl' => ?_
        have pq := headed_perm (ts := (t0 :: t1 :: T).toArray) (by show 0 < T.length + 1 + 1; omega) (by show 2 ≤ T.length + 1 + 1; omega)
        have pt : (t0 :: ts'.toList).Perm (t0 :: t1 :: T) := ((Array.perm_iff_toList_perm.mp pm).cons t0).trans pq
        have pt2 : ts'.toList.Perm (t1 :: T) := (List.perm_cons t0).mp pt
        have tq' : ∀ t ∈ ts', Tq s t := fun t ht => e3 t (.tail _ (pt2.mem_iff.mp (Array.mem_toList_iff.mpr ht)))
        have hz' : ts'.size ≤ sizeLine := by
          have := pt2.length_eq
          rw [Array.length_toList] at this
          have h3 : (t1 :: T).length = L.length := hTl
          omega
        refine ⟨v, _, done_q I hH hz' hl' fun t ht => (tq' t ht).rv, by rw [← v0]; exact tq0.rv, k _ ?_ ((heapQ_ts (T := ts'.toList) rfl).mpr (by simpa using ok))⟩
        have := pt2.map pr3
        rw [eT] at this
        exact this
end
end Pk
namespace Pk
open PySem L2 PySem.Spec PyProof.Rows GxR NdefX
structure OrdD {α : Type} (enc : α → PyData) (lt : α → α → Bool) : Prop where
  lt_eq : ∀ a b, PySem.W.dataLt (enc a) (enc b) = lt a b
  al : ∀ a b, PySem.W.alike (enc a) (enc b) = true
  tup : ∀ a, ∃ x r, enc a = .tuple (x :: r)
  inj : ∀ a b, enc a = enc b → a = b
  dep : ∀ a, (enc a).depth ≤ 8
  nod : ∀ a, Pk.nod (enc a) = true
section
variable {X : Cx} {α : Type} {enc : α → PyData} {lt : α → α → Bool}
theorem OrdD.ne (O : OrdD enc lt) (a : α) : enc a ≠ .none := by
  obtain ⟨x, r, e⟩ := O.tup a
  rw [e]
  exact fun z => nomatch z
def rLtO (K : PySem.W.Frag) (enc : α → PyData) (lt : α → α → Bool) : R2 := fun x y H Q => ∃ a b, Dp K H x (enc a) ∧ Dp K H y (enc b) ∧ Q (.bl (lt a b)) H
theorem op_ltO (O : OrdD enc lt) (hu : X.A.units + 64 < cLine) : OpR X (compareOp .Lt) (rLtO X.K enc lt) := by
  intro pins s σ H x y v u Q I rx ry h
  obtain ⟨a, b, ha, hb, q⟩ := h
  obtain ⟨as, r1⟩ := Dp.reads I _ x v ha rx
  obtain ⟨bs, r2⟩ := Dp.reads I _ y u hb ry
  have d := O.dep a
  refine PySem.W.rcLt_alike (enc a) (enc b) X.A s v u as bs r1 r2 (O.al a b) (O.ne a) (by omega) _ _ _ _ ?_
  rw [O.lt_eq]
  exact ⟨.bl _, H, I, rfl, q⟩
/-- a value, what it stands for in the heap, and as what it reads -/
abbrev T3o (α : Type) : Type := V × Value × α
theorem t3o_of {pins : List (Addr × Obj)} {σ : L2.St} {H : Hp} {s : Shared} (I : Inv X pins σ H s) : ∀ (L : List (V × α)) (its : List Value), Vals (L.map (·.1)) its → (∀ p ∈ L, Dp X.K H p.1 (enc p.2)) →
    ∃ T : List (T3o α), T.map (fun t => (t.1, t.2.2)) = L ∧ T.map (fun t => t.2.1) = its ∧ ∀ t ∈ T, RelV t.1 t.2.1 ∧ ∃ as, Reads s.heap t.2.1 (enc t.2.2) as
  | [], its, r, _ => by
    cases r
    exact ⟨[], rfl, rfl, fun _ z => nomatch z⟩
  | p :: L, its, r, h => by
    cases r with
    | cons r1 r2 =>
      obtain ⟨T, e1, e2, e3⟩ := t3o_of I L _ r2 fun q hq => h q (.tail _ hq)
      rename_i u _
      obtain ⟨as, rd⟩ := Dp.reads I _ _ _ (h p (.head _)) r1
      refine ⟨(p.1, u, p.2) :: T, by rw [List.map_cons, e1], by rw [List.map_cons, e2], fun t ht => ?_⟩
      rcases List.mem_cons.mp ht with z | z
      · subst z
        exact ⟨r1, as, rd⟩
      · exact e3 t z
theorem vals_t3o : ∀ {T : List (T3o α)}, (∀ t ∈ T, RelV t.1 t.2.1) → Vals (T.map fun t => t.1) (T.map fun t => t.2.1)
  | [], _ => .nil
  | t :: T, h => .cons (h t (.head _)) (vals_t3o fun q hq => h q (.tail _ hq))
theorem each_t3o {R : Value → T3o α → Prop} : ∀ {T : List (T3o α)}, (∀ t ∈ T, R t.2.1 t) → PySem.W.EachIs R (T.map fun t => t.2.1) T
  | [], _ => .nil
  | t :: T, h => .cons (h t (.head _)) (each_t3o fun q hq => h q (.tail _ hq))
theorem each_back : ∀ {vs : List Value} {T : List (T3o α)}, PySem.W.EachIs (fun v t => v = t.2.1) vs T → vs = T.map fun t => t.2.1
  | _, _, .nil => rfl
  | _, _, .cons h t => by rw [List.map_cons, h, each_back t]
/-- sorted(xs): a new list, stable -/
def rSortO (K : PySem.W.Frag) (enc : α → PyData) (lt : α → α → Bool) : List V → Hp → VK → Prop := fun vs H Q => ∃ (l : Addr) (L : List (V × α)), vs = [.ref l] ∧ H l = some (.lst (L.map (·.1))) ∧ (∀ p ∈ L, Dp K H p.1 (enc p.2)) ∧
  ∀ p, H p = none → Q (.ref p) (upd H p (.lst ((L.mergeSort fun x y => !lt y.2 x.2).map (·.1))))
theorem cr_sortO (O : OrdD enc lt) (hu : X.A.units + 64 < cLine) : CallR X (.builtin "sorted") (rSortO X.K enc lt) := by
  intro pins s σ H vs us Q I r h
  obtain ⟨l, L, rfl, hH, hL, k⟩ := h
  cases r with
  | cons r1 r =>
    cases r
    cases r1
    obtain ⟨z, its, n, rv, hlen, e⟩ := I.lstM hH
    obtain ⟨T, e1, e2, e3⟩ := t3o_of I L its rv hL
    have hTl : T.length = L.length := by rw [← e1, List.length_map]
    have hz : T.length ≤ sizeLine := by
      have : (L.map (·.1)).length ≤ sizeLine := by first | exact z | exact hlen | (rw [rv.length]; exact hlen)
      rw [List.length_map] at this
      omega
    refine PySem.W.sorted_data (enc := fun t : T3o α => enc t.2.2) (R := fun v t => v = t.2.1) (vs := its) (bs := T) ⟨_, e, rfl, ⟨_, rfl⟩⟩ (by rw [← e2]; exact each_t3o fun _ _ => rfl) (by rw [← e2]; exact each_t3o fun t ht => (e3 t ht).2) (.of fun a b => O.al _ _) (.tuples fun t => O.tup _) hz (fun t _ => by have := O.dep t.2.2; omega) fun out hl ho => ?_
    have ho := each_back ho
    have em : (T.mergeSort (PySem.W.dataLe false fun t : T3o α => enc t.2.2)).map (fun t => (t.1, t.2.2)) = L.mergeSort fun x y => !lt y.2 x.2 := by
      rw [← e1]
      have : PySem.W.dataLe false (fun t : T3o α => enc t.2.2) = fun a b => !lt b.2.2 a.2.2 := by
        funext a b
        show (!PySem.W.dataLt (enc b.2.2) (enc a.2.2)) = _
        rw [O.lt_eq]
      rw [this]
      exact List.map_mergeSort (f := fun t : T3o α => (t.1, t.2.2)) fun a _ b _ => rfl
    have pm := List.mergeSort_perm T (PySem.W.dataLe false fun t : T3o α => enc t.2.2)
    have vv : Vals ((L.mergeSort fun x y => !lt y.2 x.2).map (·.1)) out := by
      rw [ho, ← em, List.map_map]
      exact vals_t3o fun t ht => (e3 t (pm.mem_iff.mp ht)).1
    obtain ⟨n2, at2⟩ := sortedAll_at s.heap its (List.toArray out)
    refine ⟨.ref (s.heap.objs.size + 1), _, I.laid (o := .lst ((L.mergeSort fun x y => !lt y.2 x.2).map (·.1))) (t' := s.toks) (fun b o hb => sortedAll_old hb) (Nat.le_succ _) ⟨?_, out, n2, vv, at2⟩, rfl, k _ (I.hok.fresh (Nat.le_succ _))⟩
    rw [vv.length, hl]
    exact hz
end
end Pk
namespace Pk
section
variable {α β γ : Type} [DecidableEq α] [DecidableEq β] [DecidableEq γ]
/-- the groups when that of b has become that of a -/
def uni (f : α → β) (a b : α) : α → β := fun m => if f m = f b then f a else f m
theorem uni_eq {f : α → β} {a b m n : α} : uni f a b m = uni f a b n ↔ f m = f n ∨ (f m = f a ∧ f n = f b) ∨ (f m = f b ∧ f n = f a) := by
  show (if f m = f b then f a else f m) = (if f n = f b then f a else f n) ↔ _
  by_cases h1 : f m = f b
  · by_cases h2 : f n = f b
    · rw [if_pos h1, if_pos h2]
      exact ⟨fun _ => .inl (h1.trans h2.symm), fun _ => rfl⟩
    · rw [if_pos h1, if_neg h2]
      constructor
      · intro h; exact .inr (.inr ⟨h1, h.symm⟩)
      · rintro (h | ⟨_, h⟩ | ⟨_, h⟩)
        · exact absurd (h.symm.trans h1) h2
        · exact absurd h h2
        · exact h.symm
  · by_cases h2 : f n = f b
    · rw [if_neg h1, if_pos h2]
      constructor
      · intro h; exact .inr (.inl ⟨h, h2⟩)
      · rintro (h | ⟨h, _⟩ | ⟨h, _⟩)
        · exact absurd (h.trans h2) h1
        · exact h
        · exact absurd h h1
    · rw [if_neg h1, if_neg h2]
      constructor
      · exact .inl
      · rintro (h | ⟨_, h⟩ | ⟨h, _⟩)
        · exact h
        · exact absurd h h2
        · exact absurd h h1
theorem uni_keep {f : α → β} {a b m n : α} (h : f m = f n) : uni f a b m = uni f a b n := uni_eq.mpr (.inl h)
theorem uni_join {f : α → β} {a b : α} : uni f a b a = uni f a b b := uni_eq.mpr (.inr (.inl ⟨rfl, rfl⟩))
/-- the same parting of some -/
def Alike (ms : List α) (f : α → β) (g : α → γ) : Prop := ∀ m ∈ ms, ∀ n ∈ ms, f m = f n ↔ g m = g n
theorem Alike.uni {ms : List α} {f : α → β} {g : α → γ} (h : Alike ms f g) {a b : α} (ha : a ∈ ms) (hb : b ∈ ms) : Alike ms (uni f a b) (uni g b a) := fun m hm n hn => by
  rw [uni_eq, uni_eq, h m hm n hn, h m hm a ha, h n hn b hb, h m hm b hb, h n hn a ha]
  constructor
  · rintro (z | z | z)
    · exact .inl z
    · exact .inr (.inr z)
    · exact .inr (.inl z)
  · rintro (z | z | z)
    · exact .inl z
    · exact .inr (.inr z)
    · exact .inr (.inl z)
/-- the pairs that are taken, and the groups behind -/
def kr (f : α → β) : List (α × α) → List (α × α) × (α → β)
  | [] => ([], f)
  | e :: L => if f e.1 = f e.2 then kr f L else (e :: (kr (uni f e.1 e.2) L).1, (kr (uni f e.1 e.2) L).2)
theorem kr_no {f : α → β} {e : α × α} {L : List (α × α)} (h : f e.1 = f e.2) : kr f (e :: L) = kr f L := by
  show (if f e.1 = f e.2 then _ else _) = _
  rw [if_pos h]
theorem kr_yes {f : α → β} {e : α × α} {L : List (α × α)} (h : f e.1 ≠ f e.2) : kr f (e :: L) = (e :: (kr (uni f e.1 e.2) L).1, (kr (uni f e.1 e.2) L).2) := by
  show (if f e.1 = f e.2 then _ else _) = _
  rw [if_neg h]
theorem kr_keep : ∀ {L : List (α × α)} {f : α → β} {m n : α}, f m = f n → (kr f L).2 m = (kr f L).2 n
  | [], _, _, _, h => h
  | e :: L, f, m, n, h => by
    by_cases c : f e.1 = f e.2
    · rw [kr_no c]; exact kr_keep h
    · rw [kr_yes c]; exact kr_keep (uni_keep h)
theorem kr_join : ∀ {L : List (α × α)} {f : α → β} {e : α × α}, e ∈ L → (kr f L).2 e.1 = (kr f L).2 e.2
  | x :: L, f, e, h => by
    by_cases c : f x.1 = f x.2
    · rw [kr_no c]
      rcases List.mem_cons.mp h with z | z
      · rw [z]; exact kr_keep c
      · exact kr_join z
    · rw [kr_yes c]
      rcases List.mem_cons.mp h with z | z
      · rw [z]; exact kr_keep uni_join
      · exact kr_join z
theorem kr_least : ∀ {L : List (α × α)} {f : α → β} {g : α → γ}, (∀ m n, f m = f n → g m = g n) → (∀ e ∈ (kr f L).1, g e.1 = g e.2) → ∀ m n, (kr f L).2 m = (kr f L).2 n → g m = g n
  | [], _, _, h, _, m, n, z => h m n z
  | x :: L, f, g, h, t, m, n, z => by
    by_cases c : f x.1 = f x.2
    · rw [kr_no c] at t z
      exact kr_least h t m n z
    · rw [kr_yes c] at t z
      refine kr_least (f := uni f x.1 x.2) (fun m n y => ?_) (fun e he => t e (.tail _ he)) m n z
      have hx := t x (.head _)
      rcases uni_eq.mp y with y | ⟨y1, y2⟩ | ⟨y1, y2⟩
      · exact h m n y
      · rw [h _ _ y1, h _ _ y2, hx]
      · rw [h _ _ y1, h _ _ y2, hx]
theorem kr_sub : ∀ {L : List (α × α)} {f : α → β}, (kr f L).1.Sublist L
  | [], _ => .slnil
  | x :: L, f => by
    by_cases c : f x.1 = f x.2
    · rw [kr_no c]; exact (kr_sub (L := L)).cons _
    · rw [kr_yes c]; exact (kr_sub (L := L)).cons₂ _
def dd : List β → List β
  | [] => []
  | x :: xs => if x ∈ xs then dd xs else x :: dd xs
theorem mem_dd {x : β} : ∀ {xs : List β}, x ∈ dd xs ↔ x ∈ xs
  | [] => Iff.rfl
  | y :: xs => by
    show x ∈ (if y ∈ xs then dd xs else y :: dd xs) ↔ _
    by_cases c : y ∈ xs
    · rw [if_pos c, mem_dd, List.mem_cons]
      exact ⟨.inr, fun h => h.elim (fun z => by rw [z]; exact c) id⟩
    · rw [if_neg c, List.mem_cons, List.mem_cons, mem_dd]
theorem nodup_dd : ∀ {xs : List β}, (dd xs).Nodup
  | [] => .nil
  | y :: xs => by
    show (if y ∈ xs then dd xs else y :: dd xs).Nodup
    by_cases c : y ∈ xs
    · rw [if_pos c]; exact nodup_dd
    · rw [if_neg c]; exact List.nodup_cons.mpr ⟨fun h => c (mem_dd.mp h), nodup_dd⟩
theorem nodup_le : ∀ {a b : List β}, a.Nodup → (∀ x ∈ a, x ∈ b) → a.length ≤ b.length
  | [], _, _, _ => Nat.zero_le _
  | x :: a, b, nd, h => by
    have hx := h x List.mem_cons_self
    have ih := nodup_le (a := a) (b := b.erase x) (List.nodup_cons.mp nd).2 fun y hy => by
      have ne : y ≠ x := fun z => (List.nodup_cons.mp nd).1 (by rw [← z]; exact hy)
      exact (List.mem_erase_of_ne ne).mpr (h y (List.mem_cons_of_mem _ hy))
    rw [List.length_erase_of_mem hx] at ih
    have := List.length_pos_of_mem hx
    rw [List.length_cons]
    omega
/-- how many groups -/
def many (f : α → β) (ms : List α) : Nat := (dd (ms.map f)).length
theorem many_uni {f : α → β} {ms : List α} {a b : α} (ha : a ∈ ms) (hb : b ∈ ms) (h : f a ≠ f b) : many (uni f a b) ms + 1 = many f ms := by
  have hm : f b ∈ dd (ms.map f) := mem_dd.mpr (List.mem_map.mpr ⟨b, hb, rfl⟩)
  have nd : ((dd (ms.map f)).erase (f b)).Nodup := nodup_dd.erase _
  have l1 := List.length_erase_of_mem hm
  have l2 := List.length_pos_of_mem hm
  have e : ∀ x, x ∈ dd (ms.map (uni f a b)) ↔ x ∈ (dd (ms.map f)).erase (f b) := fun x => by
    rw [mem_dd, nodup_dd.mem_erase_iff, mem_dd, List.mem_map, List.mem_map]
    constructor
    · rintro ⟨m, hm, rfl⟩
      unfold uni
      by_cases c : f m = f b
      · rw [if_pos c]; exact ⟨h, a, ha, rfl⟩
      · rw [if_neg c]; exact ⟨c, m, hm, rfl⟩
    · rintro ⟨ne, m, hm, rfl⟩
      refine ⟨m, hm, ?_⟩
      unfold uni
      rw [if_neg ne]
  have g1 := nodup_le (nodup_dd (xs := ms.map (uni f a b))) (fun x hx => (e x).mp hx)
  have g2 := nodup_le nd (fun x hx => (e x).mpr hx)
  unfold many
  omega
theorem many_kr : ∀ {L : List (α × α)} {f : α → β} {ms : List α}, (∀ e ∈ L, e.1 ∈ ms ∧ e.2 ∈ ms) → many (kr f L).2 ms + (kr f L).1.length = many f ms
  | [], _, _, _ => rfl
  | x :: L, f, ms, h => by
    by_cases c : f x.1 = f x.2
    · rw [kr_no c]
      exact many_kr fun e he => h e (.tail _ he)
    · rw [kr_yes c]
      have i1 := many_kr (L := L) (f := uni f x.1 x.2) (ms := ms) fun e he => h e (.tail _ he)
      have i2 := many_uni (f := f) (ms := ms) (h x (.head _)).1 (h x (.head _)).2 c
      show many (kr (uni f x.1 x.2) L).2 ms + ((kr (uni f x.1 x.2) L).1.length + 1) = _
      omega
theorem many_id {ms : List α} (h : ms.Nodup) : many (fun m => m) ms = ms.length := by
  unfold many
  have g1 := nodup_le (nodup_dd (xs := ms.map fun m => m)) (b := ms) fun x hx => by simpa using mem_dd.mp hx
  have g2 := nodup_le h (b := dd (ms.map fun m => m)) fun x hx => mem_dd.mpr (by simpa using hx)
  omega
theorem many_one {f : α → β} {ms : List α} (ne : ms ≠ []) (h : ∀ m ∈ ms, ∀ n ∈ ms, f m = f n) : many f ms = 1 := by
  cases ms with
  | nil => exact absurd rfl ne
  | cons a ms =>
    have g1 := nodup_le (nodup_dd (xs := (a :: ms).map f)) (b := [f a]) fun x hx => by
      obtain ⟨m, hm, rfl⟩ := List.mem_map.mp (mem_dd.mp hx)
      rw [List.mem_singleton]
      exact h m hm a (.head _)
    have g2 : 0 < (dd ((a :: ms).map f)).length := List.length_pos_of_mem (a := f a) (mem_dd.mpr (List.mem_map.mpr ⟨a, .head _, rfl⟩))
    unfold many
    have : [f a].length = 1 := rfl
    omega
/-- every pair joins two groups when its turn comes -/
def allJoin (f : α → β) : List (α × α) → Bool
  | [] => true
  | e :: L => decide (f e.1 ≠ f e.2) && allJoin (uni f e.1 e.2) L
theorem allJoin_of : ∀ {L : List (α × α)} {f : α → β}, (kr f L).1.length = L.length → allJoin f L = true
  | [], _, _ => rfl
  | x :: L, f, h => by
    by_cases c : f x.1 = f x.2
    · rw [kr_no c] at h
      have := (kr_sub (L := L) (f := f)).length_le
      rw [List.length_cons] at h
      omega
    · rw [kr_yes c] at h
      show (decide (f x.1 ≠ f x.2) && allJoin (uni f x.1 x.2) L) = true
      rw [decide_eq_true c, Bool.true_and]
      exact allJoin_of (Nat.succ.inj h)
theorem tree_len {L : List (α × α)} {ms : List α} (nd : ms.Nodup) (ne : ms ≠ []) (h : ∀ e ∈ L, e.1 ∈ ms ∧ e.2 ∈ ms) (all : ∀ m ∈ ms, ∀ n ∈ ms, (kr (fun m => m) L).2 m = (kr (fun m => m) L).2 n) : (kr (fun m => m) L).1.length + 1 = ms.length := by
  have i1 := many_kr (f := fun m => m) h
  have i2 := many_one ne all
  have i3 := many_id nd
  omega
/-- where all pairs of ms are in L: one group -/
theorem all_one {L : List (α × α)} {ms : List α} {f : α → β} (h : ∀ m ∈ ms, ∀ n ∈ ms, m = n ∨ (m, n) ∈ L ∨ (n, m) ∈ L) : ∀ m ∈ ms, ∀ n ∈ ms, (kr f L).2 m = (kr f L).2 n := fun m hm n hn => by
  rcases h m hm n hn with z | z | z
  · rw [z]
  · exact kr_join z
  · exact (kr_join z).symm
/-- in any order the pairs that were taken join two groups each -/
theorem perm_join {L T : List (α × α)} {ms : List α} (nd : ms.Nodup) (ne : ms ≠ []) (h : ∀ e ∈ L, e.1 ∈ ms ∧ e.2 ∈ ms) (all : ∀ m ∈ ms, ∀ n ∈ ms, (kr (fun m => m) L).2 m = (kr (fun m => m) L).2 n) (p : T.Perm (kr (fun m => m) L).1) : allJoin (fun m => m) T = true := by
  have l1 := tree_len nd ne h all
  have hT : ∀ e ∈ T, e.1 ∈ ms ∧ e.2 ∈ ms := fun e he => h e (kr_sub.subset (p.mem_iff.mp he))
  have one : ∀ m ∈ ms, ∀ n ∈ ms, (kr (fun m => m) T).2 m = (kr (fun m => m) T).2 n := fun m hm n hn => kr_least (f := fun m => m) (L := L) (g := (kr (fun m => m) T).2) (fun m n z => by rw [show m = n from z]) (fun e he => kr_join (p.mem_iff.mpr he)) m n (all m hm n hn)
  have l2 := tree_len nd ne hT one
  refine allJoin_of ?_
  have := p.length_eq
  omega
end
end Pk
namespace Pk
open PySem L2 PySem.Spec PyProof.Rows GxR NdefX
/-- what such a list holds -/
def res2 {α β : Type} (p : α → Bool) (ys : α → List β) (p1 : α → β → Bool) (f : α → β → PyData) (xs : List α) : List PyData := (xs.filter p).flatMap fun x => ((ys x).filter (p1 x)).map (f x)
theorem res2_succ {α β : Type} {p : α → Bool} {ys : α → List β} {p1 : α → β → Bool} {f : α → β → PyData} {xs : List α} {i : Nat} {x : α} (h : xs[i]? = some x) :
    res2 p ys p1 f (xs.take (i + 1)) = res2 p ys p1 f (xs.take i) ++ (if p x = true then ((ys x).filter (p1 x)).map (f x) else []) := by
  unfold res2
  rw [List.take_add_one, h, List.filter_append, List.flatMap_append]
  congr 1
  show (List.filter p [x]).flatMap _ = _
  cases hp : p x <;> simp [hp]
end Pk
namespace Pk
section
variable {α : Type} [DecidableEq α] {e : α → List (α × Int)} {s : α}
/-- a walk of this length leads from s to p -/
inductive Wk (e : α → List (α × Int)) (s : α) : α → Int → Prop
  | nil : Wk e s s 0
  | snoc {q p : α} {d l : Int} : Wk e s q d → (p, l) ∈ e q → Wk e s p (d + l)
/-- the distance -/
def Dst (e : α → List (α × Int)) (s p : α) (d : Int) : Prop := Wk e s p d ∧ ∀ d', Wk e s p d' → d ≤ d'
def PosE (e : α → List (α × Int)) : Prop := ∀ q p l, (p, l) ∈ e q → 1 ≤ l
theorem Wk.nn (hp : PosE e) {p : α} {d : Int} (h : Wk e s p d) : 0 ≤ d := by
  induction h with
  | nil => exact Int.le_refl 0
  | snoc _ m ih =>
    have := hp _ _ _ m
    omega
theorem Dst.uniq {p : α} {d d' : Int} (h : Dst e s p d) (h' : Dst e s p d') : d = d' := Int.le_antisymm (h.2 _ h'.1) (h'.2 _ h.1)
theorem Dst.self (hp : PosE e) : Dst e s s 0 := ⟨.nil, fun _ h => h.nn hp⟩
theorem Wk.dst (hp : PosE e) {p : α} {d : Int} (h : Wk e s p d) : ∃ d', Dst e s p d' ∧ d' ≤ d := by
  have key : ∀ (n : Nat) (d : Int), d.toNat ≤ n → Wk e s p d → ∃ d', Dst e s p d' ∧ d' ≤ d := by
    intro n
    induction n with
    | zero =>
      intro d hd h
      have := h.nn hp
      exact ⟨d, ⟨h, fun d' h' => by have := h'.nn hp; omega⟩, Int.le_refl _⟩
    | succ n ih =>
      intro d hd h
      by_cases c : ∃ d', Wk e s p d' ∧ d' < d
      · obtain ⟨d', h', lt⟩ := c
        have := h'.nn hp
        obtain ⟨d2, h2, l2⟩ := ih d' (by omega) h'
        exact ⟨d2, h2, by omega⟩
      · refine ⟨d, ⟨h, fun d' h' => ?_⟩, Int.le_refl _⟩
        by_cases lt : d' < d
        · exact absurd ⟨d', h', lt⟩ c
        · omega
  exact key d.toNat d (Nat.le_refl _) h
theorem Dst.pred (hp : PosE e) {p : α} {d : Int} (h : Dst e s p d) : (p = s ∧ d = 0) ∨ ∃ q dq l, Dst e s q dq ∧ (p, l) ∈ e q ∧ d = dq + l := by
  obtain ⟨w, m⟩ := h
  cases w with
  | nil => exact .inl ⟨rfl, rfl⟩
  | @snoc q _ d l w k => exact .inr ⟨q, d, l, ⟨w, fun d1 w1 => by have := m _ (.snoc w1 k); omega⟩, k, rfl⟩
theorem Dst.zero (hp : PosE e) {p : α} (h : Dst e s p 0) : p = s := by
  rcases h.pred hp with ⟨h1, _⟩ | ⟨q, dq, l, h1, h2, h3⟩
  · exact h1
  · have := h1.1.nn hp
    have := hp _ _ _ h2
    omega
/-- a table that leaves nothing to do tells the distances -/
theorem closed_dst (hp : PosE e) {f : α → Option Int} (h0 : f s = some 0) (hw : ∀ p d, f p = some d → Wk e s p d) (hc : ∀ q d p l, f q = some d → (p, l) ∈ e q → ∃ d', f p = some d' ∧ d' ≤ d + l) (p : α) (d : Int) : f p = some d ↔ Dst e s p d := by
  have key : ∀ {p : α} {d' : Int}, Wk e s p d' → ∃ d'', f p = some d'' ∧ d'' ≤ d' := fun {p d'} w => by
    induction w with
    | nil => exact ⟨0, h0, Int.le_refl _⟩
    | snoc _ m ih =>
      obtain ⟨d2, h2, l2⟩ := ih
      obtain ⟨d3, h3, l3⟩ := hc _ _ _ _ h2 m
      exact ⟨d3, h3, by omega⟩
  constructor
  · intro h
    refine ⟨hw _ _ h, fun d' w => ?_⟩
    obtain ⟨d2, h2, l2⟩ := key w
    rw [h] at h2
    cases h2
    exact l2
  · intro h
    obtain ⟨d2, h2, l2⟩ := key h.1
    have := h.2 _ (hw _ _ h2)
    rw [h2, show d2 = d by omega]
/-- how many places are nearer -/
noncomputable def cnt (e : α → List (α × Int)) (s : α) (V : List α) (d : Int) : Nat := by
  classical exact (V.filter fun q => decide (∃ dq, Dst e s q dq ∧ dq < d)).length
theorem cnt_le (V : List α) (d : Int) : cnt e s V d ≤ V.length := List.length_filter_le _ _
theorem filter_lt {β : Type} {P Q : β → Bool} : ∀ {V : List β}, (∀ x, P x = true → Q x = true) → (∃ x ∈ V, Q x = true ∧ P x = false) → (V.filter P).length < (V.filter Q).length
  | [], _, h => by obtain ⟨_, z, _⟩ := h; cases z
  | y :: V, h, hx => by
    have le : (V.filter P).length ≤ (V.filter Q).length := by
      clear hx
      induction V with
      | nil => exact Nat.le_refl _
      | cons z V ih =>
        rw [List.filter_cons, List.filter_cons]
        by_cases c : P z = true
        · rw [if_pos c, if_pos (h z c)]
          exact Nat.succ_le_succ ih
        · rw [if_neg c]
          split
          · exact Nat.le_succ_of_le ih
          · exact ih
    obtain ⟨x, m, q, p⟩ := hx
    rw [List.filter_cons, List.filter_cons]
    rcases List.mem_cons.mp m with e | m
    · rw [← e, p, q]
      exact Nat.lt_succ_of_le le
    · have ih := filter_lt (V := V) h ⟨x, m, q, p⟩
      by_cases c : P y = true
      · rw [if_pos c, if_pos (h y c)]
        exact Nat.succ_lt_succ ih
      · rw [if_neg c]
        split
        · exact Nat.lt_succ_of_lt ih
        · exact ih
theorem cnt_lt {V : List α} {q : α} {dq d : Int} (hV : q ∈ V) (h : Dst e s q dq) (lt : dq < d) : cnt e s V dq < cnt e s V d := by
  classical
  unfold cnt
  refine filter_lt (fun x z => ?_) ⟨q, hV, decide_eq_true ⟨dq, h, lt⟩, decide_eq_false ?_⟩
  · obtain ⟨dx, h1, h2⟩ := of_decide_eq_true z
    exact decide_eq_true ⟨dx, h1, by omega⟩
  · rintro ⟨d2, h2, l2⟩
    have := h.uniq h2
    omega
/-- a turn over the places hs of a table f0 has come to f; ch: something has changed -/
structure Turn (e : α → List (α × Int)) (s : α) (f0 : α → Option Int) (hs : List α) (f : α → Option Int) (ch : Bool) : Prop where
  zero : f s = some 0
  walk : ∀ p d, f p = some d → Wk e s p d
  mono : ∀ p d, f0 p = some d → ∃ d', f p = some d' ∧ d' ≤ d
  done : ∀ q ∈ hs, ∀ dq, Dst e s q dq → f0 q = some dq → ∀ p l, (p, l) ∈ e q → ∃ d', f p = some d' ∧ d' ≤ dq + l
  same : ch = false → (∀ p, f p = f0 p) ∧ ∀ q ∈ hs, ∀ dq, f0 q = some dq → ∀ p l, (p, l) ∈ e q → ∃ d', f p = some d' ∧ d' ≤ dq + l
/-- inside: at the place q with the number dq, the first links es of it -/
structure Step (e : α → List (α × Int)) (s : α) (f0 : α → Option Int) (hs : List α) (q : α) (es : List (α × Int)) (f : α → Option Int) (ch : Bool) : Prop extends Turn e s f0 hs f ch where
  part : ∀ dq, Dst e s q dq → f0 q = some dq → ∀ p l, (p, l) ∈ es → ∃ d', f p = some d' ∧ d' ≤ dq + l
  samp : ch = false → ∀ dq, f0 q = some dq → ∀ p l, (p, l) ∈ es → ∃ d', f p = some d' ∧ d' ≤ dq + l
theorem Turn.start {f0 : α → Option Int} (h0 : f0 s = some 0) (hw : ∀ p d, f0 p = some d → Wk e s p d) : Turn e s f0 [] f0 false :=
  ⟨h0, hw, fun _ d h => ⟨d, h, Int.le_refl _⟩, (fun _ z => nomatch z), fun _ => ⟨fun _ => rfl, fun _ z => nomatch z⟩⟩
theorem Turn.step {f0 f : α → Option Int} {hs : List α} {ch : Bool} (t : Turn e s f0 hs f ch) (q : α) : Step e s f0 hs q [] f ch :=
  { t with part := (fun _ _ _ _ _ z => nomatch z), samp := fun _ _ _ _ _ z => nomatch z }
theorem Step.fin {f0 f : α → Option Int} {hs : List α} {q : α} {ch : Bool} (t : Step e s f0 hs q (e q) f ch) : Turn e s f0 (hs ++ [q]) f ch := by
  refine ⟨t.zero, t.walk, t.mono, fun x hx dx h1 h2 p l m => ?_, fun c => ⟨(t.same c).1, fun x hx dx h2 p l m => ?_⟩⟩
  · rcases List.mem_append.mp hx with z | z
    · exact t.done x z dx h1 h2 p l m
    · rw [List.mem_singleton.mp z] at h1 h2 m
      exact t.part dx h1 h2 p l m
  · rcases List.mem_append.mp hx with z | z
    · exact (t.same c).2 x z dx h2 p l m
    · rw [List.mem_singleton.mp z] at h2 m
      exact t.samp c dx h2 p l m
/-- the value at an exact place stays -/
theorem Turn.exact {f0 f : α → Option Int} {hs : List α} {ch : Bool} (t : Turn e s f0 hs f ch) {q : α} {dq : Int} (h : Dst e s q dq) (h0 : f0 q = some dq) : f q = some dq := by
  obtain ⟨d', h1, h2⟩ := t.mono q dq h0
  have := h.2 _ (t.walk _ _ h1)
  rw [h1, show d' = dq by omega]
/-- a link that changes nothing -/
theorem Step.keep {f0 f : α → Option Int} {hs : List α} {q p : α} {es : List (α × Int)} {ch : Bool} {d l d' : Int} (t : Step e s f0 hs q es f ch) (hq : f q = some d) (hp : f p = some d') (le : d' ≤ d + l) : Step e s f0 hs q (es ++ [(p, l)]) f ch := by
  refine { t with part := fun dq h1 h2 p' l' m => ?_, samp := fun c dq h2 p' l' m => ?_ }
  · rcases List.mem_append.mp m with z | z
    · exact t.part dq h1 h2 p' l' z
    · have e1 := List.mem_singleton.mp z
      cases e1
      have := t.exact h1 h2
      rw [hq] at this
      cases this
      exact ⟨d', hp, le⟩
  · rcases List.mem_append.mp m with z | z
    · exact t.samp c dq h2 p' l' z
    · have e1 := List.mem_singleton.mp z
      cases e1
      have := (t.same c).1 q
      rw [hq, h2] at this
      cases this
      exact ⟨d', hp, le⟩
/-- a link that makes a number less, or gives one -/
theorem Step.less {f0 f g : α → Option Int} {hs : List α} {q p : α} {es : List (α × Int)} {ch : Bool} {d l : Int} (hpos : PosE e) (t : Step e s f0 hs q es f ch) (hq : f q = some d) (he : (p, l) ∈ e q) (lt : ∀ d', f p = some d' → d + l < d') (hg : ∀ x, g x = if x = p then some (d + l) else f x) : Step e s f0 hs q (es ++ [(p, l)]) g true := by
  have up : ∀ x d1, f x = some d1 → ∃ d2, g x = some d2 ∧ d2 ≤ d1 := fun x d1 h => by
    rw [hg]
    by_cases c : x = p
    · rw [if_pos c]
      rw [c] at h
      have := lt d1 h
      exact ⟨d + l, rfl, by omega⟩
    · rw [if_neg c]
      exact ⟨d1, h, Int.le_refl _⟩
  have up2 : ∀ x b, (∃ d1, f x = some d1 ∧ d1 ≤ b) → ∃ d2, g x = some d2 ∧ d2 ≤ b := fun x b ⟨d1, h1, h2⟩ => by
    obtain ⟨d2, h3, h4⟩ := up x d1 h1
    exact ⟨d2, h3, by omega⟩
  refine { zero := ?_, walk := fun x dx h => ?_, mono := fun x dx h => ?_, done := fun x hx dx h1 h2 p' l' m => up2 _ _ (t.done x hx dx h1 h2 p' l' m), same := (fun c => nomatch c), part := fun dq h1 h2 p' l' m => ?_, samp := fun c => nomatch c }
  · rw [hg]
    by_cases c : s = p
    · have h1 := t.zero
      rw [c] at h1
      have h2 := lt 0 h1
      have h3 := (t.walk _ _ hq).nn hpos
      have h4 := hpos _ _ _ he
      omega
    · rw [if_neg c]
      exact t.zero
  · rw [hg] at h
    by_cases c : x = p
    · rw [if_pos c] at h
      cases h
      rw [c]
      exact .snoc (t.walk _ _ hq) he
    · rw [if_neg c] at h
      exact t.walk _ _ h
  · obtain ⟨d1, h1, h2⟩ := t.mono x dx h
    exact up2 _ _ ⟨d1, h1, h2⟩
  · rcases List.mem_append.mp m with z | z
    · exact up2 _ _ (t.part dq h1 h2 p' l' z)
    · have e1 := List.mem_singleton.mp z
      cases e1
      have := t.exact h1 h2
      rw [hq] at this
      cases this
      exact ⟨d + l, by rw [hg, if_pos rfl], Int.le_refl _⟩
/-- after t turns: what is near enough is told -/
def Near (e : α → List (α × Int)) (s : α) (V : List α) (f : α → Option Int) (t : Nat) : Prop := ∀ p d, Dst e s p d → cnt e s V d ≤ t → f p = some d
theorem near_zero (hpos : PosE e) {V : List α} {f : α → Option Int} (hs : s ∈ V) (h0 : f s = some 0) : Near e s V f 0 := fun p d h c => by
  rcases h.pred hpos with ⟨h1, h2⟩ | ⟨q, dq, l, h1, h2, h3⟩
  · rw [h1, h2]
    exact h0
  · have l1 := hpos _ _ _ h2
    have := cnt_lt (d := d) hs (Dst.self hpos) (by have := h1.1.nn hpos; omega)
    omega
theorem Turn.near {V : List α} {f0 f : α → Option Int} {hs : List α} {ch : Bool} {n : Nat} (hpos : PosE e) (hV : ∀ q d, Wk e s q d → q ∈ V) (hk : ∀ q, f0 q ≠ none → q ∈ hs) (h : Near e s V f0 n) (t : Turn e s f0 hs f ch) : Near e s V f (n + 1) := fun p d hd c => by
  rcases hd.pred hpos with ⟨h1, h2⟩ | ⟨q, dq, l, h1, h2, h3⟩
  · rw [h1, h2]
    exact t.zero
  · have l1 := hpos _ _ _ h2
    have lt := cnt_lt (d := d) (hV q dq h1.1) h1 (by omega)
    have hq := h q dq h1 (by omega)
    obtain ⟨d', e1, e2⟩ := t.done q (hk q (by rw [hq]; exact fun z => nomatch z)) dq h1 hq p l h2
    have := hd.2 _ (t.walk _ _ e1)
    rw [e1, show d' = d by omega]
/-- enough turns -/
theorem near_all (hpos : PosE e) {V : List α} {f : α → Option Int} (hw : ∀ p d, f p = some d → Wk e s p d) (h : Near e s V f V.length) (p : α) (d : Int) : f p = some d ↔ Dst e s p d := by
  constructor
  · intro hf
    obtain ⟨d', h1, h2⟩ := (hw _ _ hf).dst hpos
    have := h p d' h1 (cnt_le V d')
    rw [hf] at this
    cases this
    exact h1
  · intro hd
    exact h p d hd (cnt_le V d)
/-- a turn without a change -/
theorem Turn.stop {f0 f : α → Option Int} {hs : List α} (hpos : PosE e) (hk : ∀ q, f0 q ≠ none → q ∈ hs) (t : Turn e s f0 hs f false) (p : α) (d : Int) : f p = some d ↔ Dst e s p d := by
  obtain ⟨h1, h2⟩ := t.same rfl
  refine closed_dst hpos t.zero t.walk (fun q dq p l hq m => ?_) p d
  rw [h1] at hq
  exact h2 q (hk q (by rw [hq]; exact fun z => nomatch z)) dq hq p l m
end
end Pk
namespace Pk
open PySem L2 PySem.Spec PyProof.Rows GxR NdefX
abbrev MapE := List ((Pl × Pl) × Int)
def getE (M : MapE) (e : Pl × Pl) : Option Int := (M.find? fun x => decide (x.1 = e)).map (·.2)
def keyP (p : Pl) : NestedKey := .tup [.num p.1, .num p.2]
def keyE (e : Pl × Pl) : NestedKey := .tup [keyP e.1, keyP e.2]
theorem keyE_inj {e f : Pl × Pl} (h : keyE e = keyE f) : e = f := by
  unfold keyE keyP at h
  simp only [NestedKey.tup.injEq, List.cons.injEq, NestedKey.num.injEq, and_true] at h
  exact Prod.ext (Prod.ext h.1.1 h.1.2) (Prod.ext h.2.1 h.2.2)
/-- the tuple of the two -/
def PairAt (H : Hp) (t : Addr) (e : Pl × Pl) : Prop := ∃ u v, H t = some (.tup [.ref u, .ref v]) ∧ H u = some (.tup [.int e.1.1, .int e.1.2]) ∧ H v = some (.tup [.int e.2.1, .int e.2.2])
section
variable {P : Program} {w : World} {H : Hp} {h : Heap}
theorem nested_pl {t : Addr} {p : Pl} (ok : HOk P w H h) (k : H t = some (.tup [.int p.1, .int p.2])) : NestedIs h (keyP p) (.ref t) := by
  obtain ⟨_, its, r, o, h1, h2, n, h3⟩ := (show ObjOk P w H h t (.tup [.int p.1, .int p.2]) from ok t _ k)
  obtain ⟨a, b, rfl, ra, rb⟩ := vals2 r
  obtain ⟨ta, rfl⟩ := ra
  obtain ⟨tb, rfl⟩ := rb
  exact .tup h1 h2 h3 (.cons (.int _ _) (.cons (.int _ _) .nil))
theorem PairAt.is {t : Addr} {e : Pl × Pl} (ok : HOk P w H h) (k : PairAt H t e) : (nestedKind P w).is h (keyE e) t := by
  obtain ⟨u, v, k1, k2, k3⟩ := k
  obtain ⟨_, its, r, o, h1, h2, n, h3⟩ := (show ObjOk P w H h t (.tup [.ref u, .ref v]) from ok t _ k1)
  obtain ⟨a, b, rfl, ra, rb⟩ := vals2 r
  cases ra
  cases rb
  exact ⟨.tup h1 h2 h3 (.cons (nested_pl ok k2) (.cons (nested_pl ok k3) .nil)), by show (2 : Nat) ≤ 8; decide⟩
/-- what stands at a -/
def PDAt (P : Program) (w : World) (a : Addr) (xs : List (NestedKey × Addr × Value)) : Heap → Prop := fun h => (a == sysModules) = false ∧ ∃ o es ep, h.get? a = some o ∧ o.ExactDict ∧ o.data = .dict es ep ∧ es.toList = xs.map (entryOfKey (nestedKind P w))
abbrev RowE (H : Hp) : (Pl × Pl) × Int → NestedKey × Addr × Value → Prop := fun m x => x.1 = keyE m.1 ∧ PairAt H x.2.1 m.1 ∧ RelV (.int m.2) x.2.2
def PDOf (P : Program) (w : World) (H : Hp) (a : Addr) (M : MapE) : Prop := ∃ (a' : Addr) (xs : List (NestedKey × Addr × Value)), H a = some (.ext (PDAt P w a' xs)) ∧ Paired (RowE H) M xs ∧ (M.map (·.1)).Nodup ∧ M.length ≤ sizeLine
/-- .. held fast, or not -/
def PDRd (P : Program) (w : World) (H : Hp) (a : Addr) (M : MapE) : Prop := ∃ (a' : Addr) (xs : List (NestedKey × Addr × Value)), (H a = some (.ext (PDAt P w a' xs)) ∨ ∃ o, H a = some (.frz o (.ext (PDAt P w a' xs)))) ∧ Paired (RowE H) M xs ∧ (M.map (·.1)).Nodup ∧ M.length ≤ sizeLine
theorem rowE_is {M : MapE} {xs : List (NestedKey × Addr × Value)} (ok : HOk P w H h) (r : Paired (RowE H) M xs) : ∀ x ∈ xs, (nestedKind P w).is h x.1 x.2.1 := by
  induction r with
  | nil => exact fun _ z => nomatch z
  | cons q _ ih =>
    intro x hx
    rcases List.mem_cons.mp hx with z | z
    · subst z
      rw [q.1]
      exact q.2.1.is ok
    · exact ih x z
theorem rowE_keys {M : MapE} {xs : List (NestedKey × Addr × Value)} (r : Paired (RowE H) M xs) : xs.map (·.1) = (M.map (·.1)).map keyE := by
  induction r with
  | nil => rfl
  | cons q _ ih => rw [List.map_cons, List.map_cons, List.map_cons, ih, q.1]
theorem nodup_keyE {es : List (Pl × Pl)} (h : es.Nodup) : (es.map keyE).Nodup := by
  induction es with
  | nil => exact .nil
  | cons e es ih =>
    rw [List.map_cons, List.nodup_cons]
    obtain ⟨h1, h2⟩ := List.nodup_cons.mp h
    refine ⟨fun z => ?_, ih h2⟩
    obtain ⟨f, hf, q⟩ := List.mem_map.mp z
    rw [← keyE_inj q] at h1
    exact h1 hf
theorem rowE_get {M : MapE} {xs : List (NestedKey × Addr × Value)} (r : Paired (RowE H) M xs) (e : Pl × Pl) : match getE M e with
    | none => atKey xs (keyE e) = none
    | some n => ∃ p, atKey xs (keyE e) = some p ∧ RelV (.int n) p.2 := by
  induction r with
  | nil => exact rfl
  | @cons m x M xs q _ ih =>
    unfold getE atKey at ih ⊢
    rw [List.find?_cons, List.find?_cons]
    by_cases c : m.1 = e
    · rw [decide_eq_true c, decide_eq_true (show x.1 = keyE e by rw [q.1, c])]
      exact ⟨_, rfl, q.2.2⟩
    · rw [decide_eq_false c, decide_eq_false (show ¬ x.1 = keyE e from fun z => c (keyE_inj (q.1.symm.trans z)))]
      exact ih
/-- the object that is told of is the one that stands there -/
theorem ext_at {p a : Addr} {xs : List (NestedKey × Addr × Value)} (x : ObjOk P w H h p (.ext (PDAt P w a xs))) : a = p := by
  obtain ⟨φ, _, st⟩ := x
  by_cases z : a = p
  · exact z
  · exfalso
    obtain ⟨G, g1, g2⟩ := restrict h fun b => decide (b ≠ a)
    obtain ⟨_, o, _, _, e, _⟩ := st h G φ fun o ho => by
      rw [g1 p (decide_eq_true fun y => z y.symm)]
      exact ho
    rw [g2 a (decide_eq_false fun y => y rfl)] at e
    cases e
theorem PDOf.rd {a : Addr} {M : MapE} (d : PDOf P w H a M) : PDRd P w H a M := by
  obtain ⟨a', xs, e, r⟩ := d
  exact ⟨a', xs, .inl e, r⟩
theorem PDRd.dict {a : Addr} {M : MapE} (ok : HOk P w H h) (d : PDRd P w H a M) : ∃ xs, Paired (RowE H) M xs ∧ h.DictOfH (nestedKind P w) a xs := by
  obtain ⟨a', xs, e, r, nd, l⟩ := d
  have ob : ObjOk P w H h a (.ext (PDAt P w a' xs)) := by
    rcases e with e | ⟨o, e⟩
    · exact ok a _ e
    · exact (show ObjOk P w H h a (.frz o (.ext (PDAt P w a' xs))) from ok a _ e).2
  obtain rfl := ext_at ob
  obtain ⟨_, o, es, ep, h1, h2, h3, h4⟩ := ob.1
  exact ⟨xs, r, o, es, ep, h1, h2, h3, h4, rowE_is ok r, by rw [rowE_keys r]; exact nodup_keyE nd⟩
theorem PDOf.dict {a : Addr} {M : MapE} (ok : HOk P w H h) (d : PDOf P w H a M) : ∃ xs, H a = some (.ext (PDAt P w a xs)) ∧ Paired (RowE H) M xs ∧ h.DictOfH (nestedKind P w) a xs ∧ (a == sysModules) = false := by
  obtain ⟨a', xs, e, r, nd, l⟩ := d
  have ob : ObjOk P w H h a (.ext (PDAt P w a' xs)) := ok a _ e
  obtain rfl := ext_at ob
  obtain ⟨hz, o, es, ep, h1, h2, h3, h4⟩ := ob.1
  exact ⟨xs, e, r, ⟨o, es, ep, h1, h2, h3, h4, rowE_is ok r, by rw [rowE_keys r]; exact nodup_keyE nd⟩, hz⟩
end
section
variable {X : Cx} {pins : List (Addr × Obj)} {σ : L2.St} {H : Hp} {s : Shared} {A : Around} {E : Value → Shared → Prop}
/-- d[e] -/
theorem pd_getItem {Q : Value → Shared → Prop} {a b : Addr} {M : MapE} {e : Pl × Pl} {n : Int} (hu : A.units + 64 < cLine) (I : Inv X pins σ H s) (d : PDRd X.prog X.w H a M) (hb : PairAt H b e) (g : getE M e = some n) (h : ∀ w' s', Inv X pins σ H s' → RelV (.int n) w' → Q w' s') :
    wpAny (model X.prog X.w) A (getItem (.ref a) (.ref b)) Q E s := by
  obtain ⟨xs, r, dd⟩ := d.dict I.hok
  have z := rowE_get r e
  rw [g] at z
  obtain ⟨p, hp, rv⟩ := z
  exact wpAny_getItem_heap (by show A.units + 1 + 8 < cLine; omega) (hb.is I.hok) dd hp (h _ _ (I.tok _) rv)
/-- d[e] = n, e being new -/
theorem pd_setItem {Q : Unit → Shared → Prop} {a b : Addr} {M : MapE} {e : Pl × Pl} {n : Int} {u : Value} (hu : A.units + 64 < cLine) (I : Inv X pins σ H s) (d : PDOf X.prog X.w H a M) (hb : PairAt H b e) (g : getE M e = none) (l : M.length < sizeLine) (rv : RelV (.int n) u)
    (h : ∀ xs s', Inv X pins σ (upd H a (.ext (PDAt X.prog X.w a xs))) s' → PDOf X.prog X.w (upd H a (.ext (PDAt X.prog X.w a xs))) a (M ++ [(e, n)]) → Q () s') :
    wpAny (model X.prog X.w) A (setItem (.ref a) (.ref b) u) Q E s := by
  obtain ⟨xs, ea, r, dd, ha⟩ := d.dict I.hok
  obtain ⟨_, _, _, _, nd, _⟩ := d
  have z := rowE_get r e
  rw [g] at z
  have hz : xs.length ≤ sizeLine := by rw [← Paired.length r]; omega
  refine wpAny_setItem_heap (hsz := hz) (by show A.units + 1 + 8 < cLine; omega) (hb.is I.hok) dd fun h' dd' hs => ?_
  rw [storedH_new z] at dd'
  obtain ⟨q, es, ep, hq, h2, h3, h4, _, h5⟩ := dd'
  have ta : ∀ c ys, H c = some (.tup ys) → upd H a (.ext (PDAt X.prog X.w a (xs ++ [(keyE e, b, u)]))) c = some (.tup ys) := fun c ys ec => by
    rw [upd_ne (fun z => by rw [z, ea] at ec; cases ec)]
    exact ec
  have tp : ∀ {t : Addr} {f : Pl × Pl}, PairAt H t f → PairAt (upd H a (.ext (PDAt X.prog X.w a (xs ++ [(keyE e, b, u)])))) t f := fun ⟨x, y, k1, k2, k3⟩ => ⟨x, y, ta _ _ k1, ta _ _ k2, ta _ _ k3⟩
  refine h (xs ++ [(keyE e, b, u)]) _ (I.write (x := a) (e := a) (by rw [ea]; exact True.intro) (.inl rfl) (fun c v hb z => (hs.2 c hb).trans z) ⟨q, hq⟩ ⟨⟨ha, q, es, ep, hq, h2, h3, h4⟩, ⟨q, hq⟩, fun h1 h2' k st => ?_⟩) ⟨a, _, upd_same, ?_, ?_, ?_⟩
  · obtain ⟨_, o, es', ep', k1, k2, k3, k4⟩ := k
    exact ⟨ha, o, es', ep', st o k1, k2, k3, k4⟩
  · exact Paired.snoc (Paired.mapP r fun _ _ k => ⟨k.1, tp k.2.1, k.2.2⟩) ⟨rfl, tp hb, rv⟩
  · rw [List.map_append]
    refine List.nodup_append.mpr ⟨nd, by simp, fun y hy y' hy' ez => ?_⟩
    obtain ⟨m, hm, rfl⟩ := List.mem_map.mp hy
    have h0 : m.1 = e := by rw [ez]; simpa using hy'
    unfold getE at g
    rw [Option.map_eq_none_iff, List.find?_eq_none] at g
    exact g m hm (decide_eq_true h0)
  · rw [List.length_append]
    exact l
end
/-- {} -/
def tPNew (P : Program) (w : World) : TE := fun _ H Q => ∀ p, H p = none → Q (.ref p) (upd H p (.ext (PDAt P w p [])))
/-- d[e] -/
def tPGet (P : Program) (w : World) (td ty : TE) : TE := fun σ H Q => td σ H fun x H1 => ty σ H1 fun y H2 => ∃ a b M e n, x = .ref a ∧ y = .ref b ∧ PDRd P w H2 a M ∧ PairAt H2 b e ∧ getE M e = some n ∧ Q (.int n) H2
/-- d[e] = n, e being new -/
def sPPut (P : Program) (w : World) (td ty tv : TE) : TS := fun D σ H => tv σ H fun v H1 => td σ H1 fun x H2 => ty σ H2 fun y H3 => ∃ a b M e n, v = .int n ∧ x = .ref a ∧ y = .ref b ∧ PDOf P w H3 a M ∧ PairAt H3 b e ∧ getE M e = none ∧ M.length < sizeLine ∧
  ∀ xs, PDOf P w (upd H3 a (.ext (PDAt P w a xs))) a (M ++ [(e, n)]) → D.nx σ (upd H3 a (.ext (PDAt P w a xs)))
/-- the keys of d, held fast -/
def ItE (P : Program) (w : World) (d d' : Addr) (o : Obj) (M : MapE) : It :=
  ⟨fun i H => (∃ xs, H d = some (.frz o (.ext (PDAt P w d' xs))) ∧ Paired (RowE H) M xs) ∧ i < M.length, fun i H x H' => H' = H ∧ ∃ e n q, M[i]? = some (e, n) ∧ x = .ref q ∧ PairAt H q e,
   fun i H => (∃ xs, H d = some (.frz o (.ext (PDAt P w d' xs))) ∧ Paired (RowE H) M xs) ∧ M.length ≤ i⟩
def iKeysE (P : Program) (w : World) (td : TE) : TI := fun σ H R => td σ H fun x H1 => ∃ d d' o M xs, x = .ref d ∧ H1 d = some (.frz o (.ext (PDAt P w d' xs))) ∧ Paired (RowE H1) M xs ∧ R (ItE P w d d' o M) H1
section
variable {X : Cx} {pins : List (Addr × Obj)} {σ : L2.St} {H : Hp} {s : Shared}
theorem frzE (I : Inv X pins σ H s) {d d' : Addr} {o : Obj} {M : MapE} {xs : List (NestedKey × Addr × Value)} (h : H d = some (.frz o (.ext (PDAt X.prog X.w d' xs)))) (r : Paired (RowE H) M xs) : (d == sysModules) = false ∧ s.heap.get? d = some o ∧ o.ExactDict ∧ ∃ (es : Array DictEntry) (ep : Nat), o.data = .dict es ep ∧ es.size = M.length ∧
    ∀ (i : Nat) (e : Pl × Pl) (n : Int) (hi : i < es.size), M[i]? = some (e, n) → ∃ q : Addr, es[i].key = .ref q ∧ PairAt H q e := by
  obtain ⟨hd, ob⟩ := (show ObjOk X.prog X.w H s.heap d (.frz o (.ext (PDAt X.prog X.w d' xs))) from I.hok d _ h)
  obtain rfl := ext_at ob
  obtain ⟨hz, o', es, ep, h1, h2, h3, h4⟩ := ob.1
  rw [hd] at h1
  cases h1
  have l1 : es.size = xs.length := size_of_entries h4
  have l2 : M.length = xs.length := Paired.length r
  refine ⟨hz, hd, h2, es, ep, h3, by omega, fun i e n hi em => ?_⟩
  obtain ⟨b, hb, e1, e2, e3⟩ := paired_get r em
  have q := entry_at h4 i
  rw [hb, Array.getElem?_eq_getElem hi] at q
  have q := Option.some.inj q
  rw [q]
  exact ⟨b.2.1, rfl, e2⟩
end
section
variable {P : Program} {w : World} {K : PySem.W.Frag} {tg : Expr} {d d' : Addr} {o : Obj} {es : Array DictEntry} {ep : Nat} {M : MapE}
theorem turn_keysE (it : Addr) (hod : o.data = .dict es ep) : L2.Turn P w K tg (ItE P w d d' o M) [it] it (fun i h => h.IsKeyIter it d i M.length ep) where
  mem := by simp
  obj := fun i h st b hb => by
    have e : b = it := by simpa using hb
    subst e
    obtain ⟨oi, e, c, dd⟩ := st
    exact ⟨oi, e, fun v z => by rw [dd] at z; cases z⟩
  keep := fun i h h' st k => st.at fun oi e => k it (by simp) oi e
  item := by
    intro X hP hw hK hc i pins s σ H E I hf st hg
    subst hP hw hK
    obtain ⟨⟨xs, hd, r⟩, hi⟩ := hg
    obtain ⟨f0, f1, f2, f3, f4, f5⟩ := hf it (by simp)
    obtain ⟨hs, hgd, hx, es', ep', hdt, hsz, ent⟩ := frzE I hd r
    obtain ⟨rfl, rfl⟩ := dict_ep hod hdt
    obtain ⟨e, n, hkv⟩ : ∃ e n, M[i]? = some (e, n) := ⟨M[i].1, M[i].2, List.getElem?_eq_getElem hi⟩
    have hi' : i < es'.size := by omega
    obtain ⟨q, hk, hq⟩ := ent i e n hi' hkv
    rw [← hsz] at st
    refine wpAny_pyNext_keys_item_raw st ⟨o, hgd, hx, hdt⟩ hi' fun h' st' sb => ?_
    have I1 : Inv X pins σ H { s with heap := h' } := I.turned (t' := s.toks) (fun b ob hb e => (sb.2 b hb).trans e) f0 f1 f3 f4 f5
    obtain ⟨oi, e2, c, dd⟩ := id st'
    refine ⟨es'[i].key, rfl, go_of (s := { s with heap := h' }) e2 c dd (by decide) ⟨.ref q, H, I1, hk, ⟨rfl, e, n, q, hkv, rfl, hq⟩, ?_, fun b hb => (hf b hb).1⟩⟩
    show h'.IsKeyIter it d (i + 1) M.length _
    rw [← hsz]
    exact st'
  done := by
    intro X hP hw hK hc i pins s σ H E I hf st hg
    subst hP hw hK
    obtain ⟨⟨xs, hd, r⟩, hi⟩ := hg
    obtain ⟨f0, f1, f2, f3, f4, f5⟩ := hf it (by simp)
    obtain ⟨hs, hgd, hx, es', ep', hdt, hsz, ent⟩ := frzE I hd r
    obtain ⟨rfl, rfl⟩ := dict_ep hod hdt
    rw [← hsz] at st
    exact wpAny_pyNext_keys_end_raw (I.ok.hd hc) st ⟨o, hgd, hx, hdt⟩ (by omega) fun h' eb => ⟨rfl, I.turned (t' := s.toks) (fun b ob hb e => eb b ob hb e) f0 f1 f3 f4 f5⟩
  self := fun A i s Q E st h => by
    refine wpAny_pyIter_slot st.typeIs F.slot_dict_keyiterator_iter (wpAny_call_entry F.slot_dict_keyiterator_iter st.typeIs F.entry_dict_keyiterator_iter ?_ (F.args_dict_keyiterator_iter_1 _))
    show wpAny _ _ (ret (.ref it)) _ _ s
    exact wpAny_pure ⟨_, rfl, "dict_keyiterator", _, st.typeIs, F.slot_dict_keyiterator_next.lookup, h⟩
end
section
variable {X : Cx} {o i e value tg : Expr} {pos pos' : Pos} {td ty tv : TE}
theorem pe_pnew : PE X (.Dict [] [] pos) (tPNew X.prog X.w) := ⟨fun pins s σ H Q I h =>
  wpAny_Dict_empty ⟨.ref s.heap.objs.size, _, I.laid (a := s.heap.objs.size) (o := .ext (PDAt X.prog X.w s.heap.objs.size [])) (t' := s.toks) (fun _ _ q => Heap.get?_push_of_some _ q) (Nat.le_refl _)
    ⟨⟨beq_eq_false_iff_ne.mpr (Ne.symm (Nat.ne_of_lt I.big)), _, #[], 0, Heap.get?_push_size _ rfl, ⟨rfl, rfl, rfl⟩, rfl, rfl⟩, ⟨_, Heap.get?_push_size _ rfl⟩, fun h1 h2 k st => by
      obtain ⟨hz, o, es', ep', k1, k2, k3, k4⟩ := k
      exact ⟨hz, o, es', ep', st o k1, k2, k3, k4⟩⟩, rfl, h _ (I.hok.fresh (Nat.le_refl _))⟩⟩
theorem pe_pget (hu : X.A.units + 64 < cLine) (ho : PE X o td) (hi : PE X i ty) (hs : NoSl i) : PE X (.Subscript o i pos) (tPGet X.prog X.w td ty) := by
  refine ⟨fun pins s σ H Q I h => ?_⟩
  refine subD_of PySem.F.slot_dict_getitem.lookup hs (thn (ho.run pins s σ H _ I h) fun u s1 ⟨x, H1, I1, rx, q1⟩ => thn (hi.run pins s1 σ H1 _ I1 q1) fun iv s2 ⟨y, H2, I2, ry, a, b, M, e, n, ex, ey, d, hb, g, q2⟩ => ?_)
  subst ex ey
  obtain rfl : u = Value.ref a := rx
  obtain rfl : iv = Value.ref b := ry
  obtain ⟨xs, _, dd⟩ := d.dict I2.hok
  exact ⟨dd.typeIs, pd_getItem hu I2 d hb g fun w' s3 I3 rw' => ⟨_, H2, I3, rw', q2⟩⟩
theorem ps_pput (hu : X.A.units + 64 < cLine) (ho : PE X o td) (hi : PE X i ty) (hv : PE X value tv) (hs : swapsWith value (some (.Subscript o i pos')) pos.line X.env = pure false) :
    PS X (.Assign [.Subscript o i pos'] value pos) (sPPut X.prog X.w td ty tv) := by
  refine ⟨fun pins s σ H D I h => ?_⟩
  refine wpAny_Assign_Subscript (thn (hv.run pins s σ H _ I h) fun r s1 ⟨v, H1, I1, rv, q1⟩ => thn (ho.run pins s1 σ H1 _ I1 q1) fun u s2 ⟨x, H2, I2, rx, q2⟩ => thn (hi.run pins s2 σ H2 _ I2 q2) fun iv s3 ⟨y, H3, I3, ry, a, b, M, e, n, ev, ex, ey, d, hb, g, l, q3⟩ => ?_) hs
  subst ev ex ey
  obtain rfl : u = Value.ref a := rx
  obtain rfl : iv = Value.ref b := ry
  exact pd_setItem hu I3 d hb g l rv fun xs s4 I4 d4 => ⟨σ, _, I4, q3 xs d4⟩
theorem pi_keysE (he : PE X e td) : PI X tg e (iKeysE X.prog X.w td) := by
  refine ⟨fun pins s σ H R I h => ?_⟩
  refine thn (he.run pins s σ H _ I h) fun u s1 ⟨x, H1, I1, rx, d, d', o, M, xs, ex, hd, r, q⟩ => ?_
  subst ex
  obtain rfl : u = Value.ref d := rx
  obtain ⟨hs, hgd, hx, es, ep, hdt, hsz, ent⟩ := frzE I1 hd r
  refine iter_keys hs hgd hx hdt (pi_one (tk := s1.toks) I1 _ (turn_keysE _ hdt) ⟨_, Heap.get?_push_size _ rfl, rfl, ?_⟩ q)
  rw [hsz] <;> rfl
end
end Pk
namespace Pk
open PySem L2 PySem.Spec PyProof.Rows
section
variable {X : Cx}
theorem dcT_core {pins : List (Addr × Obj)} {s : Shared} {σ : L2.St} {H : Hp} {Q : VK} {kx vx tg iter : Expr} {scope : Scope} {own : List (Str × Nat)} {pos pos' : Pos} {wi : TI} {g : TG} {tk tv : TE} {use : Option (Value → Sem Unit)} {Qf : Value → Shared → Prop}
    (hc : X.calm = true) (hu : X.A.units < cLine) (hN : X.N.Nodup) (I : Inv X pins σ H s) (hi : PI X tg iter wi) (ok : BlkOk X.N X.env.scope scope own)
    (hb : ∀ (s : Shared) (H : Hp) (C : Addr) (cl : List (Str × Addr)) (fp : List Addr), PG (X.blk s H scope (compEnvC scope cl C X.env) fp) tg g ∧ PE (X.blk s H scope (compEnvC scope cl C X.env) fp) kx tk ∧ PE (X.blk s H scope (compEnvC scope cl C X.env) fp) vx tv)
    (hs : ∀ x, foldedSetIterable iter X.env x = pure x) (h : tDcT wi g tk tv (own.map (·.2)) σ H Q)
    (hRR : ∀ D C s' m H', Inv X pins σ H' s' → Q (.ref D) H' → s'.heap.Ns C m → FpOk X pins H' C → compPost (model X.prog X.w) X.A X.xe use Qf (.ref D) C (.ok .next) s') :
    wpAny (model X.prog X.w) X.A (comprehension (.DictComp kx vx [⟨tg, iter, [], 0⟩] scope pos) scope X.env pos' newDict false (eval iter X.env) use) Qf X.xe s := by
  have caught : ∀ y ∈ scope.names, y.2 = .free → ∃ c, X.env.cells.lookup y.1 = some c := fun y hy e => by
    have q := ok.free y hy e
    exact I.ok.has _ (q.elim .inl .inr)
  refine wpAny_comprehension_free (use := use) rfl hs (closure_ok caught) ok.kind (fun y hy e => by rw [ok.uniq y hy, e]) ?_
  refine thn (hi.run pins s σ H _ I h) fun xv s1 h1 => thn h1 fun itv s2 h2 => ?_
  obtain ⟨it, fp, tn, J, H2, rfl, I2, T, t2, f2, rest⟩ := h2
  refine wpAny_newObj_type (newEnv_comp ?_)
  generalize eD : s2.heap.objs.size = D
  have nD : H2 D = none := I2.hok.fresh (Nat.le_of_eq eD)
  obtain ⟨W, ⟨m0, w0⟩, turn⟩ := rest D nD
  generalize e3 : ({ s2 with heap := s2.heap.push { cls := .type "dict", data := .dict #[] } } : Shared) = s3
  have heap3 : s3.heap = s2.heap.push { cls := .type "dict", data := .dict #[] } := by rw [← e3]
  have I3 : Inv X pins σ (upd H2 D (.dT [])) s3 := by
    rw [← e3]
    refine I2.laid (t' := s2.toks) (fun b o e => Heap.get?_push_of_some _ e) (Nat.le_of_eq eD) ?_
    rw [← eD]
    exact dt_empty s2.heap I2.big
  have old : ∀ b ∈ fp, b < s2.heap.objs.size := fun b hb => by
    obtain ⟨o, e, _⟩ := T.obj _ _ t2 b hb
    exact Heap.lt_size e
  have f3 : ∀ b ∈ fp, FpOk X pins (upd H2 D (.dT [])) b ∧ b < s3.heap.objs.size := fun b hb => by
    have lt := old b hb
    refine ⟨⟨?_, (f2 b hb).2⟩, by rw [heap3, Heap.size_push]; exact Nat.lt_succ_of_lt lt⟩
    rw [upd_ne (by rw [← eD]; exact Nat.ne_of_lt lt)]
    exact (f2 b hb).1
  have t3 : tn 0 s3.heap := T.keep _ _ _ t2 fun b _ o e => by rw [heap3]; exact Heap.get?_push_of_some _ e
  have I4 := block_start I3 ok hN f3
  obtain ⟨pg, pk, pv⟩ := hb s3 (upd H2 D (.dT [])) s3.heap.objs.size (cellsFrom (s3.heap.objs.size + 1) scope.names (cloFrom X.env.cells scope.names [])) fp
  show codeAny _ _ (.compStart (.DictComp kx vx [⟨tg, iter, [], 0⟩] scope pos) 0 (.ref it) (.ref D) (compEnvC scope (cellsFrom (s3.heap.objs.size + 1) scope.names (cloFrom X.env.cells scope.names [])) s3.heap.objs.size X.env))
    (compPost (model X.prog X.w) X.A X.xe use Qf (.ref D) s3.heap.objs.size) { s3 with heap := pushCells (s3.heap.push { cls := .type "dict", data := .dict #[] }) scope.names }
  have none3 : ∀ b ∈ fp, (upd H2 D (.dT [])) b = none := fun b hb => (f3 b hb).1.1
  generalize ece : compEnvC scope (cellsFrom (s3.heap.objs.size + 1) scope.names (cloFrom X.env.cells scope.names [])) s3.heap.objs.size X.env = ce at I4 pg pk pv ⊢
  have ceL : ce.locals = s3.heap.objs.size := by subst ece; rfl
  generalize eH3 : upd H2 D (.dT []) = H3 at I3 I4 pg pk pv w0 none3 f3
  generalize e4 : ({ s3 with heap := pushCells (s3.heap.push { cls := .type "dict", data := .dict #[] }) scope.names } : Shared) = s4 at I4 ⊢
  have t4 : tn 0 s4.heap := T.keep _ _ _ t3 fun b _ o e => by rw [← e4]; exact pushCells_keeps _ _ _ _ (Heap.get?_push_of_some _ e)
  have fpo : ∀ {σ' : L2.St} {H' : Hp} {s' : Shared}, Inv (X.blk s3 H3 scope ce fp) [] σ' H' s' → (∀ b ∈ fp, H' b = none) → ∀ b ∈ fp, FpOk (X.blk s3 H3 scope ce fp) [] H' b := fun {σ' H' s'} I' hn b hb =>
    ⟨hn b hb, (I'.ok.exf b hb).1, I'.ok.exfs b hb, .inl hb, fun x c e => (I'.ok.exf b hb).2 x c e, fun p hp => absurd (show p ∈ ([] : List (Addr × Obj)) ++ [] from hp) (by simp)⟩
  have loop : codeAny (model X.prog X.w) X.A (.compLoop (.DictComp kx vx [⟨tg, iter, [], 0⟩] scope pos) 0 (.ref it) (.ref D) ce) (compPost (model X.prog X.w) X.A X.xe use Qf (.ref D) s3.heap.objs.size) s4 := by
    refine compLoop_anyD (fun n s' => ∃ i H', Inv (X.blk s3 H3 scope ce fp) [] (wipe σ (own.map (·.2))) H' s' ∧ tn i s'.heap ∧ (∀ b ∈ fp, H' b = none) ∧ W i n H') ?_ m0 ⟨0, H3, I4, t4, none3, w0⟩
    rintro n s5 ⟨i, H5, I5, t5, n5, w5⟩
    rcases turn i n H5 w5 with ⟨hstop, qq⟩ | ⟨go, Nx, hNx, step⟩
    · refine thnF (T.done (X.blk s3 H3 scope ce fp) rfl rfl rfl hc i [] s5 _ H5 (fun _ _ => False) I5 (fpo I5 n5) t5 hstop) fun r s6 h6 => ?_
      obtain ⟨rfl, I6⟩ := h6
      have I7 : Inv X pins σ H5 s6 := I3.call' (ch := fp) I6.os I6.base I6.hok I6.bare fun b hb =>
        have z := (f3 b hb).1.2
        ⟨z.2.2.1, z.1, z.2.2.2.1, z.2.2.2.2⟩
      have nC : H5 s3.heap.objs.size = none := by
        have z : H5 ce.locals = none := I6.free
        rwa [ceL] at z
      obtain ⟨m, hn, _⟩ := I6.loc
      have hn : s6.heap.Ns ce.locals m := hn
      rw [ceL] at hn
      exact hRR D s3.heap.objs.size s6 m H5 I7 qq hn (I3.fpOk (Nat.le_refl _) nC)
    · refine thnF (T.item (X.blk s3 H3 scope ce fp) rfl rfl rfl hc i [] s5 _ H5 (fun _ _ => False) I5 (fpo I5 n5) t5 go) fun r s6 h6 => ?_
      obtain ⟨u, rfl, h6⟩ := h6
      refine thnF h6 fun _ s7 ⟨x, H7, I7, r7, y7, t7, n7⟩ => ?_
      have J7 := I7.pinned (fpo I7 n7) (T.obj _ _ t7)
      refine thnF (pg.run _ s7 _ H7 x u _ J7 r7 (step x H7 y7)) fun _ s8 ⟨σ8, H8, I8, ew, q8⟩ => ?_
      simp only [List.forIn_nil]
      refine wpAny_pure ?_
      simp only [if_true]
      refine thnF (pk.run _ s8 σ8 H8 _ I8 q8) fun u1 s10 ⟨yk, H10, I10, r10, q10⟩ => ?_
      refine thnF (pv.run _ s10 σ8 H10 _ I10 q10) fun u2 s11 ⟨yv, H11, I11, r11, b, kvs, k, ek, hb11, hD11, hl11, nx⟩ => ?_
      subst ek
      obtain rfl : u1 = .ref b := r10
      refine lay_entry (X := X.blk s3 H3 scope ce fp) hu I11 hD11 hb11 hl11 r11 fun s12 I12 => ?_
      obtain ⟨m', lt, w'⟩ := hNx _ nx
      have len8 : (wipe σ (own.map (·.2))).length = σ8.length := by rw [← ew, wipe_length]
      have stay : ∀ c ∈ fp, ∀ o, s7.heap.get? c = some o → s12.heap.get? c = some o ∧ (upd H11 D (.dT (putK kvs k yv))) c = none := fun c hc' o e =>
        have z := I12.pin (c, o) (List.mem_append_right _ (List.mem_append_right _ (mem_pinsAt hc' e)))
        ⟨z.1, z.2.1⟩
      refine ⟨m', lt, i + 1, _, (I12.unpinned (pins := [])).weak len8 (fun j v e => ?_), T.keep _ _ _ t7 fun c hc' o e => (stay c hc' o e).1, fun c hc' => ?_, w'⟩
      · rw [← ew] at e
        exact (wipe_some e).1
      · obtain ⟨o, e, _⟩ := T.obj _ _ t7 c hc'
        exact (stay c hc' o e).2
  exact codeAny_compStart_dict loop (T.self X.A 0 _ _ _ t4 loop)
theorem ps_setDcT {i : Nat} {y : Str} {py : Pos} {kx vx tg iter : Expr} {scope : Scope} {own : List (Str × Nat)} {pos spos : Pos} {wi : TI} {g : TG} {tk tv : TE} (hc : X.calm = true) (hu : X.A.units < cLine) (hN : X.N.Nodup) (hy : X.N[i]? = some y) (hyl : X.env.scope.names.lookup y = some .local)
    (hsw : swapsWith (.DictComp kx vx [⟨tg, iter, [], 0⟩] scope pos) (some (.Name y py)) spos.line X.env = pure true) (hi : PI X tg iter wi) (ok : BlkOk X.N X.env.scope scope own)
    (hb : ∀ (s : Shared) (H : Hp) (C : Addr) (cl : List (Str × Addr)) (fp : List Addr), PG (X.blk s H scope (compEnvC scope cl C X.env) fp) tg g ∧ PE (X.blk s H scope (compEnvC scope cl C X.env) fp) kx tk ∧ PE (X.blk s H scope (compEnvC scope cl C X.env) fp) vx tv)
    (hs : ∀ x, foldedSetIterable iter X.env x = pure x := by intro _; rfl) :
    PS X (.Assign [.Name y py] (.DictComp kx vx [⟨tg, iter, [], 0⟩] scope pos) spos) (tAsg (tDcT wi g tk tv (own.map (·.2))) (gName i)) := by
  refine ⟨fun pins s σ H D I h => ?_⟩
  rw [exec_Assign_Name_used _ _ _ _ hsw]
  refine wpAny_bind (wpAny_standAt (wpAny_bind ?_))
  show wpAny _ X.A (do let _ ← comprehension (.DictComp kx vx [⟨tg, iter, [], 0⟩] scope pos) scope X.env (firstIterPos [⟨tg, iter, [], 0⟩] pos) newDict false (eval iter X.env) (some (assign (.Name y py) X.env))) _ _ s
  have h : tDcT wi g tk tv (own.map (·.2)) σ H (fun x H1 => gName i x σ H1 D.nx) := h
  refine wpAny_bind (thn (dcT_core (Qf := fun _ s' => SP X pins D .next s') hc hu hN I hi ok hb hs h fun L C s' m H' I' q hn f => ?_) fun _ s' hq => wpAny_pure (wpAny_pure hq))
  show wpAny _ _ (assign (.Name y py) X.env (.ref L)) _ _ _
  refine wpAny_assign_Name (store_ok2 (v := V.ref L) I' hN hy (.inl hyl) rfl (fun s2 I2 ⟨a, sb, ha⟩ => ?_) (.inr hyl))
  obtain ⟨f0, f1, f2, f3, f4, f5⟩ := f
  have haC : C ≠ a := by
    rcases ha with z | z
    · rw [z]; exact f1
    · exact fun e => f4 y a z e.symm
  refine ⟨m, hn.sameBut sb haC, fun h3 sb3 => ?_⟩
  exact ⟨_, H', I2.turned (t' := s2.toks) (fun b o hb e => (sb3.2 b hb).trans e) f0 f1 f3 f4 f5, q⟩
end
end Pk
namespace Pk
section
variable {α : Type} [DecidableEq α] {e : α → List (α × Int)} {s : α}
/-- a walk the other way -/
theorem Wk.front {q p : α} {l : Int} (h : (q, l) ∈ e p) : ∀ {r : α} {d : Int}, Wk e q r d → Wk e p r (d + l)
  | _, _, .nil => by
    have := Wk.snoc (.nil (e := e) (s := p)) h
    rw [show (0 : Int) + l = 0 + l from rfl] at this
    exact this
  | _, _, .snoc (d := d) (l := m) w m' => by
    have := Wk.snoc (Wk.front h w) m'
    rw [show d + m + l = d + l + m by omega]
    exact this
theorem Wk.back (sym : ∀ q p l, (p, l) ∈ e q → (q, l) ∈ e p) : ∀ {p : α} {d : Int}, Wk e s p d → Wk e p s d
  | _, _, .nil => .nil
  | _, _, .snoc w m => (Wk.back sym w).front (sym _ _ _ m)
theorem Dst.back (sym : ∀ q p l, (p, l) ∈ e q → (q, l) ∈ e p) {p : α} {d : Int} (h : Dst e s p d) : Dst e p s d := ⟨h.1.back sym, fun d' h' => h.2 d' (h'.back sym)⟩
/-- what is known when the nearest is taken out again and again: q the queue -/
structure Near1 (e : α → List (α × Int)) (s : α) (f : α → Option Int) (qs : List (Int × α)) : Prop where
  ok : ∀ p d, f p = some d → Dst e s p d
  walk : ∀ x ∈ qs, Wk e s x.2 x.1
  edge : ∀ q d p l, f q = some d → (p, l) ∈ e q → f p ≠ none ∨ (d + l, p) ∈ qs
  root : f s ≠ none ∨ (0, s) ∈ qs
/-- .. while what lies beside h is looked at -/
structure Near2 (e : α → List (α × Int)) (s h : α) (n : Int) (es : List (α × Int)) (f : α → Option Int) (qs : List (Int × α)) : Prop where
  ok : ∀ p d, f p = some d → Dst e s p d
  at_ : f h = some n
  walk : ∀ x ∈ qs, Wk e s x.2 x.1
  edge : ∀ q d p l, f q = some d → (p, l) ∈ e q → (q = h → (p, l) ∈ es) → f p ≠ none ∨ (d + l, p) ∈ qs
  root : f s ≠ none
theorem Near1.start : Near1 e s (fun _ => none) [(0, s)] := by
  refine ⟨fun _ _ h => (nomatch h), fun x hx => ?_, fun _ _ _ _ h => (nomatch h), .inr (.head _)⟩
  rw [List.mem_singleton.mp hx]
  exact .nil
theorem Near1.open_ (hp : PosE e) {f : α → Option Int} {qs : List (Int × α)} (N : Near1 e s f qs) : ∀ {p : α} {d : Int}, Wk e s p d → f p = none → ∃ x ∈ qs, x.1 ≤ d
  | _, _, .nil, h => by
    rcases N.root with z | z
    · exact absurd h z
    · exact ⟨_, z, Int.le_refl _⟩
  | p, _, .snoc (q := q) (d := d) (l := l) w m, h => by
    have l1 := hp _ _ _ m
    cases fq : f q with
    | none =>
      obtain ⟨x, hx, le⟩ := N.open_ hp w fq
      exact ⟨x, hx, by omega⟩
    | some dq =>
      rcases N.edge q dq p l fq m with z | z
      · exact absurd h z
      · have := (N.ok _ _ fq).2 _ w
        exact ⟨_, z, by show dq + l ≤ _; omega⟩
theorem Near1.pop_old {f : α → Option Int} {qs qs' : List (Int × α)} {n : Int} {h : α} (N : Near1 e s f qs) (pm : qs.Perm ((n, h) :: qs')) (hf : f h ≠ none) : Near1 e s f qs' := by
  have out : ∀ {d : Int} {p : α}, (d, p) ∈ qs → f p ≠ none ∨ (d, p) ∈ qs' := fun {d p} m => by
    rcases List.mem_cons.mp (pm.mem_iff.mp m) with z | z
    · injection z with _ z2
      rw [z2]
      exact .inl hf
    · exact .inr z
  refine ⟨N.ok, fun x hx => N.walk x (pm.mem_iff.mpr (.tail _ hx)), fun q d p l fq m => ?_, ?_⟩
  · rcases N.edge q d p l fq m with z | z
    · exact .inl z
    · exact out z
  · rcases N.root with z | z
    · exact .inl z
    · exact out z
theorem Near1.pop_new (hp : PosE e) {f g : α → Option Int} {qs qs' : List (Int × α)} {n : Int} {h : α} (N : Near1 e s f qs) (pm : qs.Perm ((n, h) :: qs')) (least : ∀ x ∈ qs, n ≤ x.1) (hf : f h = none) (hg : ∀ x, g x = if x = h then some n else f x) : Near2 e s h n [] g qs' := by
  have out : ∀ {d : Int} {p : α}, (d, p) ∈ qs → g p ≠ none ∨ (d, p) ∈ qs' := fun {d p} m => by
    rcases List.mem_cons.mp (pm.mem_iff.mp m) with z | z
    · injection z with _ z2
      rw [z2, hg, if_pos rfl]
      exact .inl fun y => nomatch y
    · exact .inr z
  have up : ∀ {p : α}, f p ≠ none → g p ≠ none := fun {p} z => by
    rw [hg]
    by_cases c : p = h
    · rw [if_pos c]; exact fun y => nomatch y
    · rw [if_neg c]; exact z
  have hw := N.walk (n, h) (pm.mem_iff.mpr (.head _))
  have hd : Dst e s h n := ⟨hw, fun d' w => by
    obtain ⟨x, hx, le⟩ := N.open_ hp w hf
    exact Int.le_trans (least x hx) le⟩
  refine ⟨fun p d z => ?_, by rw [hg, if_pos rfl], fun x hx => N.walk x (pm.mem_iff.mpr (.tail _ hx)), fun q d p l gq m c => ?_, ?_⟩
  · rw [hg] at z
    by_cases c : p = h
    · rw [if_pos c] at z
      cases z
      rw [c]
      exact hd
    · rw [if_neg c] at z
      exact N.ok _ _ z
  · rw [hg] at gq
    by_cases ch : q = h
    · exact absurd (c ch) (by simp)
    · rw [if_neg ch] at gq
      rcases N.edge q d p l gq m with z | z
      · exact .inl (up z)
      · exact out z
  · rcases N.root with z | z
    · exact up z
    · rcases out z with y | y
      · exact y
      · have := N.open_ hp (.nil (e := e) (s := s))
        by_cases c : f s = none
        · by_cases ch : s = h
          · rw [hg, if_pos ch]; exact fun y => nomatch y
          · exfalso
            have l0 := least (0, s) (pm.mem_iff.mpr (.tail _ y))
            have n0 : n = 0 := by
              have := hw.nn hp
              have l0 : n ≤ 0 := l0
              omega
            rw [n0] at hd
            exact ch (hd.zero hp).symm
        · exact up c
theorem Near2.old {f : α → Option Int} {qs : List (Int × α)} {n : Int} {h : α} {es : List (α × Int)} {p : α} {l : Int} (N : Near2 e s h n es f qs) (hf : f p ≠ none) : Near2 e s h n (es ++ [(p, l)]) f qs :=
  ⟨N.ok, N.at_, N.walk, fun q d p' l' fq m c => by
    by_cases z : (p', l') = (p, l)
    · injection z with z _
      rw [z]
      exact .inl hf
    · exact N.edge q d p' l' fq m fun y => by
        rcases List.mem_append.mp (c y) with w | w
        · exact w
        · exact absurd (List.mem_singleton.mp w) z, N.root⟩
theorem Near2.push {f : α → Option Int} {qs qs' : List (Int × α)} {n : Int} {h : α} {es : List (α × Int)} {p : α} {l : Int} (N : Near2 e s h n es f qs) (m0 : (p, l) ∈ e h) (pm : qs'.Perm (qs ++ [(n + l, p)])) : Near2 e s h n (es ++ [(p, l)]) f qs' := by
  refine ⟨N.ok, N.at_, fun x hx => ?_, fun q d p' l' fq m c => ?_, N.root⟩
  · rcases List.mem_append.mp (pm.mem_iff.mp hx) with z | z
    · exact N.walk x z
    · rw [List.mem_singleton.mp z]
      exact .snoc (N.ok _ _ N.at_).1 m0
  · by_cases ch : q = h
    · rcases List.mem_append.mp (c ch) with w | w
      · rcases N.edge q d p' l' fq m fun _ => w with z | z
        · exact .inl z
        · exact .inr (pm.mem_iff.mpr (List.mem_append_left _ z))
      · have z := List.mem_singleton.mp w
        injection z with z1 z2
        rw [ch, N.at_] at fq
        cases fq
        rw [z1, z2]
        exact .inr (pm.mem_iff.mpr (by simp))
    · rcases N.edge q d p' l' fq m fun y => absurd y ch with z | z
      · exact .inl z
      · exact .inr (pm.mem_iff.mpr (List.mem_append_left _ z))
theorem Near2.done {f : α → Option Int} {qs : List (Int × α)} {n : Int} {h : α} (N : Near2 e s h n (e h) f qs) : Near1 e s f qs := ⟨N.ok, N.walk, fun q d p l fq m => N.edge q d p l fq m fun c => by rw [← c]; exact m, .inl N.root⟩
theorem Near1.fin (hp : PosE e) {f : α → Option Int} (N : Near1 e s f []) (p : α) (d : Int) : f p = some d ↔ Dst e s p d := by
  have r : f s ≠ none := N.root.resolve_right (by simp)
  refine closed_dst hp ?_ (fun p d h => (N.ok p d h).1) (fun q d p l fq m => ?_) p d
  · cases c : f s with
    | none => exact absurd c r
    | some d0 => rw [(N.ok _ _ c).uniq (Dst.self hp)]
  · have z := (N.edge q d p l fq m).resolve_right (by simp)
    cases c : f p with
    | none => exact absurd c z
    | some d' => exact ⟨d', rfl, (N.ok _ _ c).2 _ (.snoc (N.ok _ _ fq).1 m)⟩
structure Way (e : α → List (α × Int)) (s : α) (D : α → Int) (ws : List α) : Prop where
  ne : ws ≠ []
  on : ∀ p ∈ ws, ∃ d, Dst e s p d
  step : ∀ (j : Nat) (h : j + 1 < ws.length), ∃ l, (ws[j + 1], l) ∈ e (ws[j]'(by omega)) ∧ D ws[j + 1] + l = D (ws[j]'(by omega))
/-- the table as a function -/
def DOf (e : α → List (α × Int)) (s : α) (D : α → Int) : Prop := ∀ p d, Dst e s p d → D p = d
theorem Way.one {D : α → Int} {p : α} {d : Int} (h : Dst e s p d) : Way e s D [p] := ⟨by simp, fun x hx => by rw [List.mem_singleton.mp hx]; exact ⟨d, h⟩, fun j hj => by simp at hj⟩
theorem Way.snoc {D : α → Int} {ws : List α} {p q : α} {l d : Int} (W : Way e s D (ws ++ [p])) (m : (q, l) ∈ e p) (hq : D q + l = D p) (hd : Dst e s q d) : Way e s D ((ws ++ [p]) ++ [q]) := by
  refine ⟨by simp, fun x hx => ?_, fun j hj => ?_⟩
  · rcases List.mem_append.mp hx with z | z
    · exact W.on x z
    · rw [List.mem_singleton.mp z]
      exact ⟨d, hd⟩
  · rw [List.length_append, List.length_singleton] at hj
    by_cases c : j + 1 < (ws ++ [p]).length
    · obtain ⟨l', h1, h2⟩ := W.step j c
      refine ⟨l', ?_⟩
      rw [List.getElem_append_left c, List.getElem_append_left (show j < (ws ++ [p]).length by omega)]
      exact ⟨h1, h2⟩
    · have ej : j = ws.length := by
        rw [List.length_append, List.length_singleton] at c hj
        omega
      subst ej
      refine ⟨l, ?_⟩
      have e1 : ((ws ++ [p]) ++ [q])[ws.length + 1]'(by simp) = q := by simp
      have e2 : ((ws ++ [p]) ++ [q])[ws.length]'(by simp) = p := by simp
      rw [e1, e2]
      exact ⟨m, hq⟩
theorem Way.fall (hp : PosE e) {D : α → Int} {ws : List α} (W : Way e s D ws) : ∀ (n j : Nat) (h : j + n < ws.length), D ws[j + n] + n ≤ D (ws[j]'(by omega))
  | 0, j, h => by simp
  | n + 1, j, h => by
    have a := W.fall hp n j (by omega)
    obtain ⟨l, m, q⟩ := W.step (j + n) h
    have := hp _ _ _ m
    have e1 : D ws[j + (n + 1)] = D ws[j + n + 1] := rfl
    omega
theorem Way.nodup (hp : PosE e) {D : α → Int} {ws : List α} (W : Way e s D ws) : ws.Nodup := by
  rw [List.nodup_iff_pairwise_ne, List.pairwise_iff_getElem]
  intro i j hi hj lt z
  have := W.fall hp (j - i) i (by omega)
  have e1 : ws[i + (j - i)]'(by omega) = ws[j] := by congr 1; omega
  rw [e1, ← z] at this
  omega
theorem Way.most (hp : PosE e) {D : α → Int} {ws U : List α} (W : Way e s D ws) (hU : ∀ p d, Wk e s p d → p ∈ U) : ws.length ≤ U.length := by
  have : ∀ {a b : List α}, a.Nodup → (∀ x ∈ a, x ∈ b) → a.length ≤ b.length := fun {a} => by
    induction a with
    | nil => intro b _ _; exact Nat.zero_le _
    | cons x a ih =>
      intro b nd h
      have hx := h x List.mem_cons_self
      have ih := ih (b := b.erase x) (List.nodup_cons.mp nd).2 fun y hy => by
        have ne : y ≠ x := fun z => (List.nodup_cons.mp nd).1 (by rw [← z]; exact hy)
        exact (List.mem_erase_of_ne ne).mpr (h y (List.mem_cons_of_mem _ hy))
      rw [List.length_erase_of_mem hx] at ih
      have := List.length_pos_of_mem hx
      rw [List.length_cons]
      omega
  exact this (W.nodup hp) fun x hx => by
    obtain ⟨d, h⟩ := W.on x hx
    exact hU _ _ h.1
open Classical in
/-- the distance, 0 where there is none -/
noncomputable def dist (e : α → List (α × Int)) (s p : α) : Int := if h : ∃ d, Dst e s p d then h.choose else 0
theorem dist_of : DOf e s (dist e s) := fun p d h => by
  unfold dist
  rw [dif_pos ⟨d, h⟩]
  exact (Exists.choose_spec (⟨d, h⟩ : ∃ d, Dst e s p d)).uniq h
theorem dist_dst {p : α} (h : ∃ d, Dst e s p d) : Dst e s p (dist e s p) := by
  obtain ⟨d, h⟩ := h
  rw [dist_of p d h]
  exact h
end
end Pk
namespace Pk
open PySem L2
def topS (i : Nat) : Stmt := PySem.Challenge.pw_pickaisle_k19_least_trees.main.body.getD i (.Pass ⟨0, 0, 0, 0⟩)
abbrev s_InvalidPlace___init__ : Stmt := inClass (topS 7) 0
theorem sc_InvalidPlace___init__ : FnScope ["self", "place"] ["self", "place"] (defScope s_InvalidPlace___init__) := ⟨rfl, rfl, rfl, by decide +kernel, rfl, by decide +kernel, by decide +kernel⟩
abbrev s_Unreachable___init__ : Stmt := inClass (topS 8) 0
theorem sc_Unreachable___init__ : FnScope ["self", "place"] ["self", "place"] (defScope s_Unreachable___init__) := ⟨rfl, rfl, rfl, by decide +kernel, rfl, by decide +kernel, by decide +kernel⟩
abbrev s_Task___init__ : Stmt := inClass (topS 12) 0
theorem sc_Task___init__ : FnScope ["self", "start", "end", "picks"] ["self", "start", "end", "picks"] (defScope s_Task___init__) := ⟨rfl, rfl, rfl, by decide +kernel, rfl, by decide +kernel, by decide +kernel⟩
abbrev s_Task_picks : Stmt := inClass (topS 12) 1
theorem sc_Task_picks : FnScope ["self"] ["self"] (defScope s_Task_picks) := ⟨rfl, rfl, rfl, by decide +kernel, rfl, by decide +kernel, by decide +kernel⟩
abbrev s_Task_marks : Stmt := inClass (topS 12) 2
theorem sc_Task_marks : FnScope ["self"] ["self"] (defScope s_Task_marks) := ⟨rfl, rfl, rfl, by decide +kernel, rfl, by decide +kernel, by decide +kernel⟩
abbrev s_check_task : Stmt := topS 13
theorem sc_check_task : FnScope ["house", "task", "place"] ["house", "task"] (defScope s_check_task) := ⟨rfl, rfl, rfl, by decide +kernel, rfl, by decide +kernel, by decide +kernel⟩
abbrev s_levels : Stmt := topS 15
theorem sc_levels : FnScope ["house", "place", "numbers", "queue", "number", "here", "other", "length"] ["house", "place"] (defScope s_levels) := ⟨rfl, rfl, rfl, by decide +kernel, rfl, by decide +kernel, by decide +kernel⟩
abbrev s_cut_off : Stmt := topS 17
theorem sc_cut_off : FnScope ["house", "task", "numbers", "mark"] ["house", "task"] (defScope s_cut_off) := ⟨rfl, rfl, rfl, by decide +kernel, rfl, by decide +kernel, by decide +kernel⟩
abbrev s_check_round : Stmt := topS 18
theorem sc_check_round : FnScope ["house", "task", "mark"] ["house", "task"] (defScope s_check_round) := ⟨rfl, rfl, rfl, by decide +kernel, rfl, by decide +kernel, by decide +kernel⟩
abbrev s_is_tree : Stmt := topS 25
theorem sc_is_tree : FnScope ["task", "tree", "marks", "groups", "one", "other", "mark"] ["task", "tree"] (defScope s_is_tree) := ⟨rfl, rfl, rfl, by decide +kernel, rfl, by decide +kernel, by decide +kernel⟩
abbrev s_least_tree : Stmt := topS 26
theorem sc_least_tree : FnScope ["house", "task"] ["house", "task"] (defScope s_least_tree) := ⟨rfl, rfl, rfl, by decide +kernel, rfl, by decide +kernel, by decide +kernel⟩
abbrev s_tree_length : Stmt := topS 27
theorem sc_tree_length : FnScope ["house", "task", "tree"] ["house", "task", "tree"] (defScope s_tree_length) := ⟨rfl, rfl, rfl, by decide +kernel, rfl, by decide +kernel, by decide +kernel⟩
abbrev s_is_least_tree : Stmt := topS 28
theorem sc_is_least_tree : FnScope ["house", "task", "tree", "numbers"] ["house", "task", "tree"] (defScope s_is_least_tree) := ⟨rfl, rfl, rfl, by decide +kernel, rfl, by decide +kernel, by decide +kernel⟩
abbrev s_tree_bounds : Stmt := topS 29
theorem sc_tree_bounds : FnScope ["house", "task", "numbers", "tree"] ["house", "task"] (defScope s_tree_bounds) := ⟨rfl, rfl, rfl, by decide +kernel, rfl, by decide +kernel, by decide +kernel⟩
abbrev s__levels_of_marks : Stmt := topS 30
theorem sc__levels_of_marks : FnScope ["house", "task", "mark"] ["house", "task"] (defScope s__levels_of_marks) := ⟨rfl, rfl, rfl, by decide +kernel, rfl, by decide +kernel, by decide +kernel⟩
abbrev s__length_of : Stmt := topS 31
theorem sc__length_of : FnScope ["numbers", "tree", "one", "other"] ["numbers", "tree"] (defScope s__length_of) := ⟨rfl, rfl, rfl, by decide +kernel, rfl, by decide +kernel, by decide +kernel⟩
abbrev s__with_joined : Stmt := topS 32
theorem sc__with_joined : FnScope ["groups", "one", "other", "mark"] ["groups", "one", "other"] (defScope s__with_joined) := ⟨rfl, rfl, rfl, by decide +kernel, rfl, by decide +kernel, by decide +kernel⟩
abbrev s__least_pairs : Stmt := topS 33
theorem sc__least_pairs : FnScope ["numbers", "pairs", "groups", "tree", "_", "one", "other", "mark"] ["numbers"] (defScope s__least_pairs) := ⟨rfl, rfl, rfl, by decide +kernel, rfl, by decide +kernel, by decide +kernel⟩
abbrev s_House___init__ : Stmt := inClass (topS 44) 0
theorem sc_House___init__ : FnScope ["self", "lengths", "gaps", "closed", "link"] ["self", "lengths", "gaps", "closed"] (defScope s_House___init__) := ⟨rfl, rfl, rfl, by decide +kernel, rfl, by decide +kernel, by decide +kernel⟩
abbrev s_House_is_place : Stmt := inClass (topS 44) 7
theorem sc_House_is_place : FnScope ["self", "place", "aisle", "height"] ["self", "place"] (defScope s_House_is_place) := ⟨rfl, rfl, rfl, by decide +kernel, rfl, by decide +kernel, by decide +kernel⟩
abbrev s_House_is_cross : Stmt := inClass (topS 44) 8
theorem sc_House_is_cross : FnScope ["self", "place"] ["self", "place"] (defScope s_House_is_cross) := ⟨rfl, rfl, rfl, by decide +kernel, rfl, by decide +kernel, by decide +kernel⟩
abbrev s_House_is_link : Stmt := inClass (topS 44) 9
theorem sc_House_is_link : FnScope ["self", "link", "word", "aisle", "height"] ["self", "link"] (defScope s_House_is_link) := ⟨rfl, rfl, rfl, by decide +kernel, rfl, by decide +kernel, by decide +kernel⟩
abbrev s_House_is_closed : Stmt := inClass (topS 44) 10
theorem sc_House_is_closed : FnScope ["self", "link"] ["self", "link"] (defScope s_House_is_closed) := ⟨rfl, rfl, rfl, by decide +kernel, rfl, by decide +kernel, by decide +kernel⟩
abbrev s_House_length_of : Stmt := inClass (topS 44) 14
theorem sc_House_length_of : FnScope ["self", "link", "word", "aisle", "_"] ["self", "link"] (defScope s_House_length_of) := ⟨rfl, rfl, rfl, by decide +kernel, rfl, by decide +kernel, by decide +kernel⟩
abbrev s_House_link_between : Stmt := inClass (topS 44) 15
theorem sc_House_link_between : FnScope ["self", "one", "other", "aisle", "height", "farther", "link"] ["self", "one", "other"] (defScope s_House_link_between) := ⟨rfl, rfl, rfl, by decide +kernel, rfl, by decide +kernel, by decide +kernel⟩
abbrev s_House_beside : Stmt := inClass (topS 44) 16
theorem sc_House_beside : FnScope ["self", "place", "aisle", "height", "around", "joined", "other", "link"] ["self", "place"] (defScope s_House_beside) := ⟨rfl, rfl, rfl, by decide +kernel, rfl, by decide +kernel, by decide +kernel⟩
abbrev s__are_long : Stmt := topS 45
theorem sc__are_long : FnScope ["numbers", "number"] ["numbers"] (defScope s__are_long) := ⟨rfl, rfl, rfl, by decide +kernel, rfl, by decide +kernel, by decide +kernel⟩
abbrev s__cross_heights : Stmt := topS 46
theorem sc__cross_heights : FnScope ["lengths", "heights", "length"] ["lengths"] (defScope s__cross_heights) := ⟨rfl, rfl, rfl, by decide +kernel, rfl, by decide +kernel, by decide +kernel⟩
abbrev s__law_row : Stmt := topS 48
theorem sc__law_row : FnScope ["cell", "many", "row", "rest", "state", "k"] ["cell", "many"] (defScope s__law_row) := ⟨rfl, rfl, rfl, by decide +kernel, rfl, by decide +kernel, by decide +kernel⟩
abbrev s__law_numbers : Stmt := topS 49
theorem sc__law_numbers : FnScope ["script", "many", "cells", "each", "numbers", "cell", "number"] ["script", "many"] (defScope s__law_numbers) := ⟨rfl, rfl, rfl, by decide +kernel, rfl, by decide +kernel, by decide +kernel⟩
abbrev s__law_all_links : Stmt := topS 50
theorem sc__law_all_links : FnScope ["lengths", "gaps", "top", "found", "aisle", "height"] ["lengths", "gaps"] (defScope s__law_all_links) := ⟨rfl, rfl, rfl, by decide +kernel, rfl, by decide +kernel, by decide +kernel⟩
abbrev s__law_parts : Stmt := topS 51
theorem sc__law_parts : FnScope ["numbers", "at", "lengths", "gaps", "links", "closed", "k", "link"] ["numbers", "at"] (defScope s__law_parts) := ⟨rfl, rfl, rfl, by decide +kernel, rfl, by decide +kernel, by decide +kernel⟩
abbrev s__law_house : Stmt := topS 52
theorem sc__law_house : FnScope ["parts"] ["parts"] (defScope s__law_house) := ⟨rfl, rfl, rfl, by decide +kernel, rfl, by decide +kernel, by decide +kernel⟩
abbrev s__law_beside : Stmt := topS 53
theorem sc__law_beside : FnScope ["parts", "beside", "aisle", "height", "link", "one", "other", "length", "place"] ["parts"] (defScope s__law_beside) := ⟨rfl, rfl, rfl, by decide +kernel, rfl, by decide +kernel, by decide +kernel⟩
abbrev s__law_far : Stmt := topS 54
theorem sc__law_far : FnScope ["beside", "place", "far", "turn", "changed", "here", "other", "length"] ["beside", "place"] (defScope s__law_far) := ⟨rfl, rfl, rfl, by decide +kernel, rfl, by decide +kernel, by decide +kernel⟩
abbrev s__law_crosses : Stmt := topS 55
theorem sc__law_crosses : FnScope ["parts", "found", "aisle", "height"] ["parts"] (defScope s__law_crosses) := ⟨rfl, rfl, rfl, by decide +kernel, rfl, by decide +kernel, by decide +kernel⟩
abbrev s__law_task : Stmt := topS 56
theorem sc__law_task : FnScope ["numbers", "at", "parts", "many", "crosses", "start", "end", "places", "picks", "k", "place"] ["numbers", "at", "parts", "many"] (defScope s__law_task) := ⟨rfl, rfl, rfl, by decide +kernel, rfl, by decide +kernel, by decide +kernel⟩
abbrev s__law_made : Stmt := topS 57
theorem sc__law_made : FnScope ["task"] ["task"] (defScope s__law_made) := ⟨rfl, rfl, rfl, by decide +kernel, rfl, by decide +kernel, by decide +kernel⟩
abbrev s__law_marks : Stmt := topS 58
theorem sc__law_marks : FnScope ["task"] ["task"] (defScope s__law_marks) := ⟨rfl, rfl, rfl, by decide +kernel, rfl, by decide +kernel, by decide +kernel⟩
abbrev s__law_first_gone : Stmt := topS 59
theorem sc__law_first_gone : FnScope ["beside", "task", "far", "mark"] ["beside", "task"] (defScope s__law_first_gone) := ⟨rfl, rfl, rfl, by decide +kernel, rfl, by decide +kernel, by decide +kernel⟩
abbrev s__law_pairs : Stmt := topS 60
theorem sc__law_pairs : FnScope ["beside", "task", "marks", "pairs", "one", "far", "other"] ["beside", "task"] (defScope s__law_pairs) := ⟨rfl, rfl, rfl, by decide +kernel, rfl, by decide +kernel, by decide +kernel⟩
abbrev s__law_lots : Stmt := topS 61
theorem sc__law_lots : FnScope ["marks", "pairs", "lots", "mark", "one", "other", "old"] ["marks", "pairs"] (defScope s__law_lots) := ⟨rfl, rfl, rfl, by decide +kernel, rfl, by decide +kernel, by decide +kernel⟩
abbrev s__law_least_tree : Stmt := topS 62
theorem sc__law_least_tree : FnScope ["marks", "pairs", "tree", "length", "one", "other", "lots", "pair"] ["marks", "pairs"] (defScope s__law_least_tree) := ⟨rfl, rfl, rfl, by decide +kernel, rfl, by decide +kernel, by decide +kernel⟩
abbrev s__law_told : Stmt := topS 63
theorem sc__law_told : FnScope ["which", "house", "task", "e"] ["which", "house", "task"] (defScope s__law_told) := ⟨rfl, rfl, rfl, by decide +kernel, rfl, by decide +kernel, by decide +kernel⟩
abbrev s_law : Stmt := topS 64
theorem sc_law : FnScope ["script", "numbers", "parts", "house", "beside", "task", "made", "gone", "pairs", "due", "turn", "told", "which", "pair"] ["script"] (defScope s_law) := ⟨rfl, rfl, rfl, by decide +kernel, rfl, by decide +kernel, by decide +kernel⟩
theorem same_upd {H : Hp} {p : Addr} {o : HO} (h : H p = none) : Same H (upd H p o) := fun b x e => by
  rw [upd_ne (ne_of_none e h)]
  exact e
/-- a list of numbers below 1009 -/
def Small (ns : List Int) : Prop := ∀ n ∈ ns, 0 ≤ n ∧ n < 1009
theorem Small.nil : Small [] := fun _ h => nomatch h
theorem Small.snoc {ns : List Int} (h : Small ns) {n : Int} (h0 : 0 ≤ n) (h1 : n < 1009) : Small (ns ++ [n]) := fun k hk => by
  rcases List.mem_append.mp hk with z | z
  · exact h k z
  · rw [List.mem_singleton] at z
    subst z
    exact ⟨h0, h1⟩
theorem small1e7 {n : Nat} (h : n ≤ 100000) : n < sizeLine := Nat.lt_of_le_of_lt h (by decide)
section
local macro_rules | `(tactic| walk_at "rd1") => `(tactic| first
  | (refine Exists.intro _ (And.intro rfl ?_))
  | (refine ⟨_, _, rfl, rfl, ?_⟩)
  | (refine Or.inl (Exists.intro _ (And.intro rfl ?_)))
  | (refine ⟨_, _, _, rfl, rfl, by assumption, by assumption, ?_⟩)
  | (refine And.intro (Or.inl ⟨rfl, _, SqL.of (by assumption)⟩) ?_)
  | (refine And.intro (by (first | omega | (dsimp only; omega) | (constructor <;> omega) | (refine Or.inl ?_; constructor <;> omega) | (refine Or.inr ?_; constructor <;> omega) | exact ⟨by decide, by decide, by decide⟩)) ?_))
local macro_rules | `(tactic| walk_at "rd") => `(tactic| repeat walk_at "rd1")
variable {P : Program} {w : World} {K : PySem.W.Frag} {mg : Str → Option Value} {base : Heap}
/-- the names of built-ins that no def of the text hides -/
structure DrawTxt (mg : Str → Option Value) (fR : Addr) : Prop where
  abs : mg "abs" = none
  int : mg "int" = none
  range : mg "range" = none
  len : mg "len" = none
  max : mg "max" = none
  row : mg "_law_row" = some (.ref fR)
/-- a row of numbers: a new list of as many numbers as asked, each from 0 to 1008 -/
def spRow : Sp := fun vs H Q _ => ∃ (c : Int) (m : Nat), vs = [.int c, .int m] ∧ m ≤ 1000 ∧
  ∀ (H' : Hp) (p : Addr) (ns : List Int), Same H H' → H p = none → H' p = some (.lst (ns.map V.int)) → ns.length = m → Small ns → Q (.ref p) H'
theorem ok_row {f fR : Addr} {fd : FuncData} {k : Nat} (F : Fun K "_law_row" "_law_row" s__law_row f fd) (T : DrawTxt mg fR) : FnOk P w K mg base CX0 (k + 1) f fd ["cell", "many"] spRow := by
  refine F.ok sc__law_row (fun vs H Q E h => ?_) (fun cdv A outer s H vs Q E hr h => ?_)
  · obtain ⟨c, m, rfl, _⟩ := h
    rfl
  · obtain ⟨c, m, rfl, hm, q⟩ := h
    have nd := sc__law_row.nd
    refine ⟨_, pss_cons (ps_set (i := 2) nd rfl (.inl rfl) (pe_lst pa_nil))
      (pss_cons (ps_set (i := 3) nd rfl (.inl rfl) pe_int)
      (pss_cons (ps_if (pt_cmpR op_ge (pe_callB call_abs (by rfl) T.abs (by decide +kernel) (pa_cons (pv 0) pa_nil)) (pe_op op_pow pe_int pe_int) (nomark _))
          (pss_one (ps_set (i := 3) nd rfl (.inl rfl) (pe_callB call_abs (by rfl) T.abs (by decide +kernel) (pa_cons (pv 0) pa_nil)))) pss_nil)
      (pss_cons (ps_set (i := 4) nd rfl (.inl rfl) (pe_op op_mod (pe_callTy call_int1 (by rfl) T.int (by decide +kernel) (pa_cons (pe_callB call_abs (by rfl) T.abs (by decide +kernel) (pa_cons (pv 0) pa_nil)) pa_nil)) pe_int))
      (pss_cons (ps_for PassesOwn.never rfl (pi_range1 rfl T.range (pa_cons (pv 1) pa_nil)) (pg_name (i := 5) nd rfl (.inl rfl))
        (pss_cons (ps_set (i := 4) nd rfl (.inl rfl) (pe_op op_mod (pe_callTy call_int1 (by rfl) T.int (by decide +kernel)
            (pa_cons (pe_op op_add (pe_op op_mul (pe_op op_add (pv 4) pe_int) pe_int) (pe_op op_mul pe_int (pv 5))) pa_nil)) pe_int))
        (pss_one (ps_if (pt_cmpR op_gt (pv 3) pe_int (nomark _))
          (pss_cons (ps_expr (pe_bm PySem.F.plainAttrs_list PySem.F.slot_list_append PySem.F.type_list_append mt_append (pv 2)
              (pa_cons (pe_op op_mod (pe_callTy call_int1 (by rfl) T.int (by decide +kernel) (pa_cons (pv 3) pa_nil)) pe_int) pa_nil)))
            (pss_one (ps_set (i := 3) nd rfl (.inl rfl) (pe_op op_fdiv (pv 3) pe_int))))
          (pss_one (ps_expr (pe_bm PySem.F.plainAttrs_list PySem.F.slot_list_append PySem.F.type_list_append mt_append (pv 2)
              (pa_cons (pe_op op_mod (pe_callTy call_int1 (by rfl) T.int (by decide +kernel) (pa_cons (pe_op op_fdiv (pv 4) pe_int) pa_nil)) pe_int) pa_nil))))))))
      (pss_one (ps_ret (pv 2))))))), ?_⟩
    refine ⟨Nat.zero_le _, fun r nr => ?_⟩
    have s1 : Same H (upd H r (.lst [])) := same_upd nr
    walk_at "rd"
    refine ite2 (fun hc => ?_) (fun hc => ?_)
    all_goals
      walk_at "rd"
      refine for_range (lo := 0) (n := m) (fun i σ H' => ∃ (ns : List Int) (rst st : Int) (vk : Option V), σ = [some (.int c), some (.int m), some (.ref r), some (.int rst), some (.int st), vk] ∧ Same H H' ∧ H' r = some (.lst (ns.map V.int)) ∧ ns.length = i ∧ Small ns ∧ 0 ≤ st ∧ st < 2147483647)
        ⟨[], _, _, none, rfl, s1, upd_same, rfl, Small.nil, Int.emod_nonneg _ (by decide), Int.emod_lt_of_pos _ (by decide)⟩ ?_ ?_
      · rintro i σ H' hi ⟨ns, rst, st, vk, rfl, sm, hrow, hl, hs, h0, h1⟩
        have hlen : (ns.map V.int).length < sizeLine := by
          rw [List.length_map]
          exact small1e7 (by omega)
        walk_at "rd"
        refine ite2 (fun hc2 => ?_) (fun hc2 => ?_)
        · walk_at "rd"
          refine ⟨ns ++ [rst % 1009], _, _, _, rfl, fun b o e => ?_, ?_, ?_, hs.snoc (Int.emod_nonneg _ (by decide)) (Int.emod_lt_of_pos _ (by decide)), Int.emod_nonneg _ (by decide), Int.emod_lt_of_pos _ (by decide)⟩
          · rw [upd_ne (ne_of_none e nr)]
            exact sm b o e
          · rw [upd_same, List.map_append]
            rfl
          · rw [List.length_append, hl]
            rfl
        · walk_at "rd"
          refine ⟨ns ++ [((st + 1) * 48271 + 69621 * (0 + (i : Int))) % 2147483647 / 2048 % 1009], _, _, _, rfl, fun b o e => ?_, ?_, ?_, hs.snoc (Int.emod_nonneg _ (by decide)) (Int.emod_lt_of_pos _ (by decide)), Int.emod_nonneg _ (by decide), Int.emod_lt_of_pos _ (by decide)⟩
          · rw [upd_ne (ne_of_none e nr)]
            exact sm b o e
          · rw [upd_same, List.map_append]
            rfl
          · rw [List.length_append, hl]
            rfl
      · rintro σ H' ⟨ns, rst, st, vk, rfl, sm, hrow, hl, hs, h0, h1⟩
        exact ⟨_, rfl, q H' r ns sm nr hrow hl hs⟩
/-- as many numbers as asked, drawn from the script: a new list, each from 0 to 1008 -/
def spNumbers (K : PySem.W.Frag) : Sp := fun vs H Q _ => ∃ (a : Addr) (xs : List Int) (m : Nat), vs = [.ref a, .int m] ∧ SqL K H a (xs.map V.int) ∧ xs.length ≤ 63 ∧ m ≤ 200 ∧
  ∀ (H' : Hp) (p : Addr) (ns : List Int), Same H H' → H p = none → H' p = some (.lst (ns.map V.int)) → ns.length = m → Small ns → Q (.ref p) H'
theorem cut_all (xs : List V) (h : xs.length ≤ 63) : cutV xs none (some 63) = xs := by
  unfold cutV
  rw [show HT.sIx xs.length xs.length (some 63) = min 63 xs.length from HT.sIx_nat xs.length xs.length 63, HT.sIx_none, List.drop_zero, Nat.sub_zero, Nat.min_eq_right h, List.take_length]
theorem cut_to (xs : List V) (m : Nat) : cutV xs none (some (m : Int)) = xs.take m := by
  unfold cutV
  rw [HT.sIx_nat, HT.sIx_none, List.drop_zero, Nat.sub_zero]
  rcases Nat.le_total m xs.length with h | h
  · rw [Nat.min_eq_left h]
  · rw [Nat.min_eq_right h, List.take_length, List.take_of_length_le h]
def lenAt (H : Hp) (p : Addr) : Nat := match H p with
  | some (.lst xs) => xs.length
  | _ => 0
theorem lenAt_of {H : Hp} {p : Addr} {xs : List V} (h : H p = some (.lst xs)) : lenAt H p = xs.length := by
  unfold lenAt
  rw [h]
theorem each_nat (m n : Nat) (hm : m ≤ 200) : ∃ e : Nat, 1 + (m : Int).fdiv (if (n : Int) > 1 then (n : Int) else 1) = (e : Int) ∧ e ≤ 201 := by
  have hp : 0 < (if (n : Int) > 1 then (n : Int) else 1) := by split <;> omega
  have e1 : (m : Int).fdiv (if (n : Int) > 1 then (n : Int) else 1) = (m : Int) / (if (n : Int) > 1 then (n : Int) else 1) := Int.fdiv_eq_ediv_of_nonneg _ (Int.le_of_lt hp)
  have h0 : 0 ≤ (m : Int) / (if (n : Int) > 1 then (n : Int) else 1) := Int.ediv_nonneg (by omega) (Int.le_of_lt hp)
  have h1 : (m : Int) / (if (n : Int) > 1 then (n : Int) else 1) ≤ m := Int.ediv_le_self _ (by omega)
  rw [e1]
  exact ⟨(1 + (m : Int) / (if (n : Int) > 1 then (n : Int) else 1)).toNat, by omega, by omega⟩
theorem ok_numbers {f fR : Addr} {fd fdR : FuncData} (F : Fun K "_law_numbers" "_law_numbers" s__law_numbers f fd) (T : DrawTxt mg fR) (FR : Fun K "_law_row" "_law_row" s__law_row fR fdR) (bR : Binds K fdR ["cell", "many"] []) :
    FnOk P w K mg base CX0 2 f fd ["script", "many"] (spNumbers K) := by
  have GR : FnOk P w K mg base CX0 1 fR fdR ["cell", "many"] spRow := ok_row FR T
  refine F.ok sc__law_numbers (fun vs H Q E h => ?_) (fun cdv A outer s H vs Q E hr h => ?_)
  · obtain ⟨a, xs, m, rfl, _⟩ := h
    rfl
  · obtain ⟨a, xs, m, rfl, hS, hx, hm, q⟩ := h
    have nd := sc__law_numbers.nd
    refine ⟨_, pss_cons (ps_set (i := 2) nd rfl (.inl rfl) (pe_slice sl_list (pv 0) po_none (po_some pe_int)))
      (pss_cons (ps_set (i := 3) nd rfl (.inl rfl) (pe_op op_add pe_int (pe_op op_fdivN (pv 1) (pe_callB (call_max2 rfl) (by rfl) T.max (by decide +kernel)
          (pa_cons pe_int (pa_cons (pe_callB call_len (by rfl) T.len (by decide +kernel) (pa_cons (pv 2) pa_nil)) pa_nil))))))
      (pss_cons (ps_set (i := 4) nd rfl (.inl rfl) (pe_lst pa_nil))
      (pss_cons (ps_for PassesOwn.never rfl (pi_list (pv 2)) (pg_name (i := 5) nd rfl (.inl rfl))
        (pss_one (ps_for PassesOwn.never rfl (pi_list (pe_call GR hr (by rfl) T.row FR.kp bR .nil pass0 (pa_cons (pv 5) (pa_cons (pv 3) pa_nil)))) (pg_name (i := 6) nd rfl (.inl rfl))
          (pss_one (ps_expr (pe_bm PySem.F.plainAttrs_list PySem.F.slot_list_append PySem.F.type_list_append mt_append (pv 4) (pa_cons (pv 6) pa_nil)))))))
      (pss_cons (ps_while PassesOwn.never (pt_cmpR op_lt (pe_callB call_len (by rfl) T.len (by decide +kernel) (pa_cons (pv 4) pa_nil)) (pv 1) (nomark _))
        (pss_one (ps_expr (pe_bm PySem.F.plainAttrs_list PySem.F.slot_list_append PySem.F.type_list_append mt_append (pv 4) (pa_cons pe_int pa_nil)))))
      (pss_one (ps_ret (pe_slice sl_list (pv 4) po_none (po_some (pv 1))))))))), ?_⟩
    refine ⟨_, rfl, _, rfl, a, _, rfl, hS, fun c nc => ?_⟩
    rw [cut_all _ (by rw [List.length_map]; exact hx)]
    have s1 : Same H (upd H c (.lst (xs.map V.int))) := same_upd nc
    refine ⟨_, rfl, _, rfl, _, _, rfl, .inl ⟨_, SqL.of upd_same, rfl⟩, _, _, rfl, _, _, rfl, rfl, ?_, ?_⟩
    · constructor
      · rw [List.length_map]
        split <;> omega
      · rw [List.length_map]
        split <;> omega
    refine ⟨_, _, rfl, rfl, ?_⟩
    dsimp only
    obtain ⟨e, he, hle⟩ := each_nat m (List.map V.int xs).length hm
    rw [he]
    refine ⟨Nat.zero_le _, fun b nb => ?_⟩
    have s2 : Same (upd H c (.lst (xs.map V.int))) (upd (upd H c (.lst (xs.map V.int))) b (.lst [])) := same_upd nb
    have nbc : c ≠ b := ne_of_none upd_same nb
    have nb0 : H b = none := s1.free nb
    -- for cell in cells
    refine ⟨_, rfl, c, rfl, ⟨_, SqL.of (s2 _ _ upd_same)⟩, for_list (K := K) (a := c) (xs := xs.map V.int) (fun i σ H' => ∃ (ns : List Int) (v5 v6 : Option V), σ = [some (.ref a), some (.int m), some (.ref c), some (.int e), some (.ref b), v5, v6] ∧ Same H H' ∧ H' c = some (.lst (xs.map V.int)) ∧ H' b = some (.lst (ns.map V.int)) ∧ ns.length ≤ i * 201 ∧ Small ns)
      ⟨[], none, none, rfl, s1.trans s2, s2 _ _ upd_same, upd_same, Nat.zero_le _, Small.nil⟩ (fun i σ H' _ ⟨_, _, _, _, _, hc, _⟩ => SqL.of hc) ?_ ?_⟩
    · rintro i y σ H' hi ⟨ns, v5, v6, rfl, sm, hc, hb, hl, hs⟩
      obtain ⟨z, hz, rfl⟩ : ∃ z, xs[i]? = some z ∧ y = V.int z := by
        rw [List.getElem?_map] at hi
        cases e : xs[i]? with
        | none =>
          rw [e] at hi
          cases hi
        | some z =>
          rw [e] at hi
          exact ⟨z, rfl, (Option.some.inj hi).symm⟩
      have hil : i < xs.length := (List.getElem?_eq_some_iff.mp hz).1
      -- for number in _law_row(cell, each)
      refine ⟨_, rfl, _, rfl, z, e, rfl, by omega, fun H2 r rs s3 nr hr2 hrl hrs => ?_⟩
      refine ⟨r, rfl, ⟨_, SqL.of hr2⟩, for_list (K := K) (a := r) (xs := rs.map V.int) (fun j σ H3 => ∃ (ms : List Int) (v6 : Option V), σ = [some (.ref a), some (.int m), some (.ref c), some (.int e), some (.ref b), some (.int z), v6] ∧ Same H H3 ∧ H3 r = some (.lst (rs.map V.int)) ∧ H3 c = some (.lst (xs.map V.int)) ∧ H3 b = some (.lst (ms.map V.int)) ∧ ms.length = ns.length + j ∧ Small ms)
        ⟨ns, v6, rfl, sm.trans s3, hr2, s3 _ _ hc, s3 _ _ hb, rfl, hs⟩ (fun j σ H3 _ ⟨_, _, _, _, h, _⟩ => SqL.of h) ?_ ?_⟩
      · rintro j y σ H3 hj ⟨ms, v6, rfl, sm3, hr3, hc3, hb3, hl3, hs3⟩
        obtain ⟨n, hn, rfl⟩ : ∃ n, rs[j]? = some n ∧ y = V.int n := by
          rw [List.getElem?_map] at hj
          cases e : rs[j]? with
          | none =>
            rw [e] at hj
            cases hj
          | some z =>
            rw [e] at hj
            exact ⟨z, rfl, (Option.some.inj hj).symm⟩
        have hjl : j < rs.length := (List.getElem?_eq_some_iff.mp hn).1
        have hb3l : (ms.map V.int).length < sizeLine := by
          rw [List.length_map]
          exact small1e7 (by omega)
        have nrb : r ≠ b := fun z => by
          rw [z] at nr
          rw [nr] at hb
          cases hb
        obtain ⟨g0, g1⟩ := hrs n (List.mem_of_getElem? hn)
        walk_at "rd"
        refine ⟨ms ++ [n], _, rfl, fun d o e => ?_, by rw [upd_ne nrb]; exact hr3, by rw [upd_ne nbc]; exact hc3, ?_, ?_, hs3.snoc g0 g1⟩
        · rw [upd_ne (ne_of_none e nb0)]
          exact sm3 d o e
        · rw [upd_same, List.map_append]
          rfl
        · rw [List.length_append, hl3]
          rfl
      · rintro σ H3 ⟨ms, v6, rfl, sm3, hr3, hc3, hb3, hl3, hs3⟩
        rw [List.length_map] at hl3
        exact ⟨ms, _, _, rfl, sm3, hc3, hb3, by rw [Nat.succ_mul]; omega, hs3⟩
    · rintro σ H' ⟨ns, v5, v6, rfl, sm, hc, hb, hl, hs⟩
      rw [List.length_map] at hl
      -- while len(numbers) < many
      refine while_by (fun σ H' => ∃ ns : List Int, σ = [some (.ref a), some (.int m), some (.ref c), some (.int e), some (.ref b), v5, v6] ∧ Same H H' ∧ H' b = some (.lst (ns.map V.int)) ∧ Small ns) (fun _ H' => m - lenAt H' b)
        ⟨ns, rfl, sm, hb, hs⟩ ?_ ?_
      · rintro σ H' ⟨ns, rfl, sm, hb, hs⟩
        refine ⟨_, rfl, _, _, rfl, .inl ⟨_, SqL.of hb, rfl⟩, _, rfl, _, _, rfl, rfl, _, rfl, ?_⟩
        rw [List.length_map]
        refine ite2 (fun hlt => ?_) (fun hlt => ?_)
        · have hlt' : ns.length < m := by
            have := of_decide_eq_true hlt
            omega
          have hbl : (ns.map V.int).length < sizeLine := by
            rw [List.length_map]
            exact small1e7 (by omega)
          walk_at "rd"
          refine ⟨⟨ns ++ [0], rfl, fun d o e => ?_, ?_, hs.snoc (by decide) (by decide)⟩, ?_⟩
          · rw [upd_ne (ne_of_none e nb0)]
            exact sm d o e
          · rw [upd_same, List.map_append]
            rfl
          · rw [lenAt_of upd_same, lenAt_of hb, List.length_append, List.length_map]
            show m - (ns.length + 1) < m - ns.length
            omega
        · have hge : m ≤ ns.length := by
            have : ¬ ((ns.length : Int) < (m : Int)) := fun z => hlt (decide_eq_true z)
            omega
          refine ⟨_, rfl, _, rfl, _, rfl, b, _, rfl, SqL.of hb, fun p np => ?_⟩
          rw [cut_to, ← List.map_take]
          refine q _ p (ns.take m) (fun d o e => ?_) (sm.free np) upd_same (by rw [List.length_take]; omega) (fun n hn => hs n (List.mem_of_mem_take hn))
          rw [upd_ne (ne_of_none (sm d o e) np)]
          exact sm d o e
      · rintro σ H Q Q' h ⟨v, e1, x, n, e2, l, u, e3, i, j, ei, ej, k, ek, q⟩
        exact ⟨v, e1, x, n, e2, l, u, e3, i, j, ei, ej, k, ek, h _ _ q⟩
end
section
open GxR NdefX PySem.Spec PyProof.Rows
variable {P : Program} {w : World} {K : PySem.W.Frag} {mg : Str → Option Value} {base : Heap}
def longN (n : Int) : Bool := decide (1 ≤ n) && decide (n ≤ 40)
/-- what the top has left for them -/
structure HouseTop (mg : Str → Option Value) : Prop where
  all : mg "all" = none
  len : mg "len" = none
  sum : mg "sum" = none
  list : mg "list" = none
  sorted : mg "sorted" = none
  range : mg "range" = none
  longest : ∃ t, mg "LONGEST" = some (.int 40 t)
  stretches : ∃ t, mg "MOST_STRETCHES" = some (.int 2 t)
  mostGaps : ∃ t, mg "MOST_GAPS" = some (.int 11 t)
  mostClosed : ∃ t, mg "MOST_CLOSED" = some (.int 200 t)
def spLong (K : PySem.W.Frag) (T : Addr) : Sp := fun vs H Q _ => ∃ (l : Addr) (ns : List Int), vs = [.ref l] ∧ SqL K H l (ns.map V.int) ∧ TabG H T ∧
  ∀ H', Tabbed T H H' → Q (.bl (ns.all longN)) H'
theorem ok_long {f c T : Addr} {fd : FuncData} (F : FunC K "_are_long" "_are_long" s__are_long f c fd) (Z : HouseTop mg) (TB : TabB base mg c T) : FnOk P w K mg base CX0 3 f fd ["numbers"] (spLong K T) := by
  refine F.ok sc__are_long (fun vs H Q E h => ?_) (fun A outer s H vs Q E hr h => ?_)
  · obtain ⟨l, ns, rfl, _⟩ := h
    rfl
  · obtain ⟨l, ns, rfl, hl, ht, q⟩ := h
    obtain ⟨t, hlong⟩ := Z.longest
    refine ⟨_, pss_one (ps_ret (pe_allG (k := 1) (N := ["number"]) (fr := [none]) (g := gName 0) hr (by rfl) Z.all (by decide +kernel) TB rfl (gsc_by (outer := defScope s__are_long) rfl rfl (by decide +kernel)) (gfr_by (outer := defScope s__are_long) (XN := ["numbers", "number"]) rfl rfl (by decide +kernel)) (pi_list (pv 0))
      (fun B s0 H0 cd fp rB => ⟨pg_name (i := 0) (show (["number"] : List Str).Nodup by decide) rfl (.inl rfl), pe_chain op_le op_le pe_int (pv 0) (pe_glob (v := .int 40) rfl hlong ⟨_, rfl⟩)⟩) (fun _ => rfl))), ?_⟩
    refine ⟨_, rfl, l, rfl, ⟨_, hl⟩, ht, fun H2 t2 => ?_⟩
    have hl2 : SqL K H2 l (ns.map V.int) := (Tabbed.kp t2 ht).seq hl
    refine for_list (K := K) (a := l) (xs := ns.map V.int) (fun i σ H' => (∃ z, σ = [z]) ∧ H' = H2 ∧ (ns.take i).all longN = true) ?_ ?_ ?_ ?_
    · exact ⟨⟨none, rfl⟩, rfl, rfl⟩
    · rintro i σ H' _ ⟨_, rfl, _⟩
      exact hl2
    · rintro i x σ H' hx ⟨⟨z, rfl⟩, rfl, hp⟩
      rw [List.getElem?_map] at hx
      cases hn : ns[i]? with
      | none => rw [hn] at hx; cases hx
      | some n =>
        rw [hn] at hx
        cases hx
        have et : ns.take (i + 1) = ns.take i ++ [n] := by rw [List.take_add_one, hn]; rfl
        have fals : longN n = false → ns.all longN = false := fun e => by
          rw [Bool.eq_false_iff]
          intro z
          rw [List.all_eq_true] at z
          rw [z n (List.mem_of_getElem? hn)] at e
          cases e
        refine ⟨_, rfl, _, _, rfl, rfl, _, rfl, ?_⟩
        refine ite2 (fun h1 => ?_) (fun h1 => ?_)
        · refine ⟨_, _, rfl, rfl, _, rfl, ?_⟩
          refine ite2 (fun h2 => ?_) (fun h2 => ?_)
          · have e : longN n = false := by
              unfold longN
              rw [h2, Bool.and_false]
            have z := q H' t2
            rw [fals e] at z
            exact z
          · refine ⟨⟨_, rfl⟩, rfl, ?_⟩
            have e2 : decide (n ≤ 40) = true := by simpa using h2
            rw [et, List.all_append, hp]
            show (true && (longN n && true)) = true
            unfold longN
            rw [h1, e2]
            rfl
        · refine ⟨_, rfl, ?_⟩
          rw [if_pos rfl]
          have e : longN n = false := by
            unfold longN
            rw [show decide (1 ≤ n) = false by simpa using h1]
            rfl
          have z := q H' t2
          rw [fals e] at z
          exact z
    · rintro σ H' ⟨_, rfl, hp⟩
      rw [List.length_map, List.take_length] at hp
      have z := q H' t2
      rw [hp] at z
      exact z
end
section
open GxR NdefX PySem.Spec PyProof.Rows
variable {P : Program} {w : World} {K : PySem.W.Frag} {mg : Str → Option Value} {base : Heap}
def crossN (ns : List Int) : List Int := (List.range (ns.length + 1)).map fun k => (ns.take k).sum
theorem atI_last {α : Type} (xs : List α) (x : α) : atI (xs ++ [x]) (-1) = some x := by
  unfold atI ixN
  rw [if_neg (by decide), List.length_append]
  have h : (-(1 : Int) : Int) + ((xs.length + [x].length : Nat) : Int) = (xs.length : Int) := by
    show (-1 : Int) + ((xs.length + 1 : Nat) : Int) = _
    omega
  split
  · show (xs ++ [x])[(-1 + ((xs.length + [x].length : Nat) : Int)).toNat]? = some x
    rw [h]
    simp
  · rename_i z
    exact absurd (by show -((xs.length + 1 : Nat) : Int) ≤ -1; omega) z
def spCross (K : PySem.W.Frag) : Sp := fun vs H Q _ => ∃ (l : Addr) (ns : List Int), vs = [.ref l] ∧ SqL K H l (ns.map V.int) ∧ ns.length ≤ 1000 ∧
  ∀ (H' : Hp) (p : Addr), Same H H' → H p = none → H' p = some (.lst ((crossN ns).map V.int)) → Q (.ref p) H'
theorem ok_cross {f : Addr} {fd : FuncData} (F : Fun K "_cross_heights" "_cross_heights" s__cross_heights f fd) : FnOk P w K mg base CX0 2 f fd ["lengths"] (spCross K) := by
  refine F.ok sc__cross_heights (fun vs H Q E h => ?_) (fun cdv A outer s H vs Q E hr h => ?_)
  · obtain ⟨l, ns, rfl, _⟩ := h
    rfl
  · obtain ⟨l, ns, rfl, hl, hn, q⟩ := h
    have nd := sc__cross_heights.nd
    refine ⟨_, (pss_cons (ps_set (i := 1) nd rfl (.inl rfl) (pe_lst (pa_cons pe_int pa_nil)))
      (pss_cons (ps_for PassesOwn.never rfl (pi_list (pv 0)) (pg_name (i := 2) nd rfl (.inl rfl)) (pss_one (ps_expr (pe_bm PySem.F.plainAttrs_list PySem.F.slot_list_append PySem.F.type_list_append mt_append (pv 1) (pa_cons (pe_op op_add (pe_ix ix_list (pv 1) (pe_un un_neg pe_int) (fun _ _ => rfl)) (pv 2)) pa_nil)))))
      (pss_one (ps_ret (pv 1))))), ?_⟩
    refine ⟨by decide, fun r nr => ?_⟩
    have sR : ∀ o, Same H (upd H r o) := fun o => same_upd nr
    refine ⟨_, rfl, l, rfl, ⟨_, (sR _).seq hl⟩, ?_⟩
    refine for_list (K := K) (a := l) (xs := ns.map V.int) (fun i σ H' => (∃ z, σ = [some (.ref l), some (.ref r), z]) ∧ H' = upd H r (.lst (((List.range (i + 1)).map fun k => (ns.take k).sum).map V.int))) ?_ ?_ ?_ ?_
    · exact ⟨⟨none, rfl⟩, rfl⟩
    · rintro i σ H' _ ⟨_, rfl⟩
      exact (sR _).seq hl
    · rintro i x σ H' hx ⟨⟨z, rfl⟩, rfl⟩
      rw [List.getElem?_map] at hx
      cases hi : ns[i]? with
      | none => rw [hi] at hx; cases hx
      | some n =>
        rw [hi] at hx
        cases hx
        have lt := (List.getElem?_eq_some_iff.mp hi).1
        have et : ns.take (i + 1) = ns.take i ++ [n] := by rw [List.take_add_one, hi]; rfl
        have er : ((List.range (i + 1)).map fun k => (ns.take k).sum).map V.int = (((List.range i).map fun k => (ns.take k).sum).map V.int) ++ [V.int (ns.take i).sum] := by
          rw [List.range_succ, List.map_append, List.map_append]
          rfl
        refine ⟨_, rfl, ?_⟩
        refine And.intro (Or.inl ⟨rfl, _, SqL.of upd_same⟩) ?_
        refine ⟨_, rfl, _, rfl, r, _, -1, _, rfl, rfl, SqL.of upd_same, by rw [er]; exact atI_last _ _, _, rfl, _, _, rfl, rfl, ?_⟩
        refine ⟨r, _, _, rfl, rfl, upd_same, ?_, ⟨_, rfl⟩, ?_⟩
        · rw [List.length_map, List.length_map, List.length_range, sizeLine_eq]
          omega
        · rw [upd_upd, List.range_succ (n := i + 1), List.map_append, List.map_append]
          show upd H r (.lst (_ ++ [V.int ((ns.take i).sum + n)])) = upd H r (.lst (_ ++ [V.int (ns.take (i + 1)).sum]))
          rw [et, List.sum_append]
          simp
    · rintro σ H' ⟨⟨z, rfl⟩, rfl⟩
      refine ⟨_, rfl, ?_⟩
      rw [List.length_map]
      exact q _ r (sR _) nr upd_same
end
section
open GxR NdefX PySem.Spec PyProof.Rows
variable {P : Program} {w : World} {K : PySem.W.Frag} {mg : Str → Option Value} {base : Heap}
def hf (l g c t d : V) : List (Str × V) := putF "_closed" d (putF "_top" t (putF "_crosses" c (putF "_gaps" g (putF "_lengths" l []))))
theorem hk1 : ¬ (("_lengths" : Str) = "_gaps") := by decide +kernel
theorem hk2 : ¬ (("_lengths" : Str) = "_crosses") := by decide +kernel
theorem hk3 : ¬ (("_lengths" : Str) = "_top") := by decide +kernel
theorem hk4 : ¬ (("_lengths" : Str) = "_closed") := by decide +kernel
theorem hk5 : ¬ (("_gaps" : Str) = "_crosses") := by decide +kernel
theorem hk6 : ¬ (("_gaps" : Str) = "_top") := by decide +kernel
theorem hk7 : ¬ (("_gaps" : Str) = "_closed") := by decide +kernel
theorem hk8 : ¬ (("_crosses" : Str) = "_top") := by decide +kernel
theorem hk9 : ¬ (("_crosses" : Str) = "_closed") := by decide +kernel
theorem hk10 : ¬ (("_top" : Str) = "_closed") := by decide +kernel
section
variable (l g c t d : V)
theorem hf_lengths : (hf l g c t d).lookup ("_lengths" : Str) = some l := by
  unfold hf
  rw [lookup_putF, if_neg hk4, lookup_putF, if_neg hk3, lookup_putF, if_neg hk2, lookup_putF, if_neg hk1, lookup_putF, if_pos rfl]
theorem hf_gaps : (hf l g c t d).lookup ("_gaps" : Str) = some g := by
  unfold hf
  rw [lookup_putF, if_neg hk7, lookup_putF, if_neg hk6, lookup_putF, if_neg hk5, lookup_putF, if_pos rfl]
theorem hf_crosses : (hf l g c t d).lookup ("_crosses" : Str) = some c := by
  unfold hf
  rw [lookup_putF, if_neg hk9, lookup_putF, if_neg hk8, lookup_putF, if_pos rfl]
theorem hf_top : (hf l g c t d).lookup ("_top" : Str) = some t := by
  unfold hf
  rw [lookup_putF, if_neg hk10, lookup_putF, if_pos rfl]
theorem hf_closed : (hf l g c t d).lookup ("_closed" : Str) = some d := by
  unfold hf
  rw [lookup_putF, if_pos rfl]
theorem hf_no {m : Str} (h1 : ¬ m = "_lengths") (h2 : ¬ m = "_gaps") (h3 : ¬ m = "_crosses") (h4 : ¬ m = "_top") (h5 : ¬ m = "_closed") : (hf l g c t d).lookup m = none := by
  unfold hf
  rw [lookup_putF, if_neg h5, lookup_putF, if_neg h4, lookup_putF, if_neg h3, lookup_putF, if_neg h2, lookup_putF, if_neg h1]
  rfl
end
/-- a link's key -/
def lk (x : Str) (a h : Int) : Tk := [.inr x, .inl a, .inl h]
/-- it is one of the house -/
def isLk (ls gs : List Int) (x : Str) (a h : Int) : Bool :=
  if x = "up" then (decide (0 ≤ a) && decide (a ≤ gs.length)) && (decide (0 ≤ h) && decide (h < ls.sum))
  else decide (x = "over") && ((decide (0 ≤ a) && decide (a < gs.length)) && decide (h ∈ crossN ls))
/-- the fields that do not tell the closed links -/
def PartAt (C : Addr) (H : Hp) (p : Addr) (ls gs : List Int) : Prop := ∃ (dx l g c : Addr) (d : V), H p = some (.ins C dx (hf (.ref l) (.ref g) (.ref c) (.int ls.sum) d)) ∧
  H l = some (.lst (ls.map V.int)) ∧ H g = some (.lst (gs.map V.int)) ∧ H c = some (.lst ((crossN ls).map V.int))
theorem PartAt.kp {C : Addr} {H H' : Hp} {p : Addr} {ls gs : List Int} (h : PartAt C H p ls gs) (k : Kp H H') : PartAt C H' p ls gs := by
  obtain ⟨dx, l, g, c, d, h1, h2, h3, h4⟩ := h
  exact ⟨dx, l, g, c, d, k.ins h1, k.lst h2, k.lst h3, k.lst h4⟩
structure HouseTxt (K : PySem.W.Frag) (mg : Str → Option Value) (C : Addr) : Prop where
  cl : Cls K C
  nL : NoAttr K C "_lengths"
  nG : NoAttr K C "_gaps"
  nX : NoAttr K C "_crosses"
  nT : NoAttr K C "_top"
  nC : NoAttr K C "_closed"
theorem inV_ints (x : Int) (ns : List Int) : inV (.int x) (ns.map V.int) = decide (x ∈ ns) := by
  unfold inV
  induction ns with
  | nil => simp
  | cons n ns ih =>
    rw [List.map_cons, List.any_cons, ih]
    have e : eqV (.int n) (.int x) = decide (n = x) := by rfl
    rw [e]
    by_cases h : n = x
    · subst h; simp
    · have h2 : ¬ x = n := fun z => h z.symm
      simp [h, h2]
theorem flat_ints (ns : List Int) : (ns.map V.int).all flatV = true := by
  rw [List.all_eq_true]
  intro x hx
  obtain ⟨n, _, rfl⟩ := List.mem_map.mp hx
  rfl
/-- the reading of te hands out v and changes nothing -/
def Tells (te : TE) (σ : L2.St) (H : Hp) (v : V) : Prop := ∀ Q : VK, Q v H → te σ H Q
theorem tells_chain {tb tc : TE} {σ : L2.St} {H : Hp} {i0 j n : Int} {f : Int → Int → Bool} (hb : Tells tb σ H (.int j)) (hc : Tells tc σ H (.int n)) :
    Tells (tChain (rI0 fun i j => V.bl (decide (i ≤ j))) (rI0 fun i j => V.bl (f i j)) (tC (.int i0)) tb tc) σ H (.bl (decide (i0 ≤ j) && f j n)) := fun Q q => by
  refine hb _ ⟨_, _, rfl, rfl, _, rfl, ?_⟩
  refine ite2 (fun h => ?_) (fun h => ?_)
  · refine hc _ ⟨_, _, rfl, rfl, ?_⟩
    rw [h, Bool.true_and] at q
    exact q
  · rw [show decide (i0 ≤ j) = false by simpa using h, Bool.false_and] at q
    exact q
theorem tells_and {ta tb : TE} {σ : L2.St} {H : Hp} {a b : Bool} (ha : Tells ta σ H (.bl a)) (hb : Tells tb σ H (.bl b)) : Tells (tAndV ta tb) σ H (.bl (a && b)) := fun Q q => by
  refine ha _ ⟨_, rfl, ?_⟩
  cases a with
  | true => exact hb _ q
  | false => exact q
def spLink (C : Addr) : Sp := fun vs H Q _ => ∃ (p : Addr) (v : V) (ls gs : List Int) (x : Str) (a h : Int), vs = [.ref p, v] ∧ PartAt C H p ls gs ∧ Kr H v (lk x a h) ∧ Q (.bl (isLk ls gs x a h)) H
theorem ok_link {f C : Addr} {fd : FuncData} (F : Fun K "is_link" "House.is_link" s_House_is_link f fd) (Z : HouseTop mg) (T : HouseTxt K mg C) : FnOk P w K mg base CX0 1 f fd ["self", "link"] (spLink C) := by
  refine F.ok sc_House_is_link (fun vs H Q E h => ?_) (fun cdv A outer s H vs Q E hr h => ?_)
  · obtain ⟨p, v, ls, gs, x, a, h, rfl, _⟩ := h
    rfl
  · obtain ⟨p, v, ls, gs, x, a, h, rfl, ⟨dx, l, g, c, d, h1, h2, h3, h4⟩, ⟨t, rfl, ht⟩, q⟩ := h
    have nd := sc_House_is_link.nd
    refine ⟨_, (pss_cons (ps_asg (pv 1) (pg_tup rfl (pgs_cons (pg_name (i := 2) nd rfl (.inl rfl)) (pgs_cons (pg_name (i := 3) nd rfl (.inl rfl)) (pgs_cons (pg_name (i := 4) nd rfl (.inl rfl)) pgs_nil)))))
      (pss_cons (ps_if (pt_cmpR op_eq (pv 2) pe_str (nomark _)) (pss_one (ps_ret (pe_and (pe_chain op_le op_le pe_int (pv 3) (pe_callB call_len (by rfl) Z.len (by decide +kernel) (pa_cons (pe_fld (pv 0) rfl) pa_nil))) (pe_one (pe_chain op_le op_lt pe_int (pv 4) (pe_fld (pv 0) rfl)))))) pss_nil)
      (pss_one (ps_ret (pe_and (pe_cmpR op_eq (pv 2) pe_str (nomark _)) (pe_and (pe_chain op_le op_lt pe_int (pv 3) (pe_callB call_len (by rfl) Z.len (by decide +kernel) (pa_cons (pe_fld (pv 0) rfl) pa_nil))) (pe_one (pe_cmpR op_in_seq (pv 4) (pe_fld (pv 0) rfl) (by rfl))))))))), ?_⟩
    refine ⟨_, rfl, t, _, rfl, SqT.of ht, rfl, _, _, rfl, _, _, rfl, _, _, rfl, rfl, ?_⟩
    have var : ∀ {σ : L2.St} {i : Nat} {v : V}, σ[i]? = some (some v) → Tells (tVar i) σ H v := fun e Q q => ⟨_, e, q⟩
    have fld : ∀ {σ : L2.St} {f : Str} {v : V}, σ[0]? = some (some (V.ref p)) → NoAttr K C f → (hf (.ref l) (.ref g) (.ref c) (.int ls.sum) d).lookup f = some v → Tells (tFld K (tVar 0) f) σ H v := fun e n z Q q =>
      ⟨_, e, p, C, dx, _, _, rfl, h1, T.cl, n, z, q⟩
    have cnt : ∀ {σ : L2.St}, σ[0]? = some (some (V.ref p)) → Tells (tCB (fun xs H1 Q => ∃ x n, xs = [x] ∧ LenV K x H1 n ∧ Q (V.int (n : Nat)) H1) (tCons (tFld K (tVar 0) "_gaps") tNil)) σ H (.int gs.length) := fun e Q q =>
      fld e T.nG (hf_gaps _ _ _ _ _) _ ⟨_, _, rfl, .inl ⟨_, SqL.of h3, rfl⟩, by rw [List.length_map]; exact q⟩
    refine ⟨_, rfl, rfl, _, rfl, ?_⟩
    refine ite2 (fun hc => ?_) (fun hc => ?_)
    · have hx : x = "up" := V.str.inj (of_decide_eq_true hc)
      refine tells_and (tells_chain (f := fun i j => decide (i ≤ j)) (var rfl) (cnt rfl)) (tells_chain (f := fun i j => decide (i < j)) (var rfl) (fld rfl T.nT (hf_top _ _ _ _ _))) _ ?_
      unfold isLk at q
      rw [if_pos hx] at q
      exact q
    · have hx : ¬ x = "up" := fun z => by
        rw [z] at hc
        exact hc (decide_eq_true rfl)
      have eqq : Tells (tOp rEq (tVar 2) (tC (V.str "over"))) [some (.ref p), some (.ref t), some (.str x), some (.int a), some (.int h)] H (.bl (decide (x = "over"))) := fun Q q =>
        ⟨_, rfl, rfl, by rw [show decide (V.str x = V.str "over") = decide (x = "over") by simp]; exact q⟩
      have inn : Tells (tOp (rIn K false) (tVar 4) (tFld K (tVar 0) "_crosses")) [some (.ref p), some (.ref t), some (.str x), some (.int a), some (.int h)] H (.bl (decide (h ∈ crossN ls))) := fun Q q =>
        ⟨_, rfl, fld rfl T.nX (hf_crosses _ _ _ _ _) _ ⟨c, _, rfl, .inl (SqL.of h4), rfl, flat_ints _, by rw [inV_ints]; exact q⟩⟩
      refine tells_and eqq (tells_and (tells_chain (f := fun i j => decide (i < j)) (var rfl) (cnt rfl)) inn) _ ?_
      unfold isLk at q
      rw [if_neg hx] at q
      exact q
end
section
open GxR NdefX PySem.Spec PyProof.Rows
variable {P : Program} {w : World} {K : PySem.W.Frag} {mg : Str → Option Value} {base : Heap}
theorem Room.units0 {k : Nat} {A : Around} (r : Room k A) : A.units < cLine := by
  have := r.un
  omega
/-- all but what is at p is as it was, tables aside -/
structure KpB (p : Addr) (H H' : Hp) : Prop where
  at_ : ∀ b o, H b = some o → b ≠ p → (∀ ps, o ≠ .tbl ps) → H' b = some o
  tab : ∀ P, TabG H P → TabG H' P
section
variable {p : Addr} {H H1 H2 : Hp}
theorem KpB.refl : KpB p H H := ⟨fun _ _ e _ _ => e, fun _ t => t⟩
theorem KpB.kp (k : KpB p H H1) (m : Kp H1 H2) : KpB p H H2 := ⟨fun b o e n t => m.at_ b o (k.at_ b o e n t) t, fun P t => m.tab P (k.tab P t)⟩
theorem KpB.new {r : Addr} {o : HO} (k : KpB p H H1) (n : H1 r = none) : KpB p H (upd H1 r o) := k.kp (kpS (same_upd n))
theorem KpB.put {C dx : Addr} {fs gs : List (Str × V)} (k : KpB p H H1) (hp : H1 p = some (.ins C dx fs)) : KpB p H (upd H1 p (.ins C dx gs)) :=
  ⟨fun b o e n t => by rw [upd_ne n]; exact k.at_ b o e n t, fun P t => by
    obtain ⟨ps, e, t'⟩ := k.tab P t
    exact ⟨ps, by rw [upd_ne (ne_of hp e fun z => nomatch z).symm]; exact e, t'⟩⟩
end
/-- a new object is laid, then a field of p is set -/
theorem stepF {p r C dx : Addr} {fs gs : List (Str × V)} {H H2 : Hp} {o : HO} (kb : KpB p H H2) (hp : H2 p = some (.ins C dx fs)) (n : H2 r = none) :
    ∃ H3, upd (upd H2 r o) p (.ins C dx gs) = H3 ∧ KpB p H H3 ∧ H3 p = some (.ins C dx gs) ∧ H3 r = some o ∧ (∀ b u, H2 b = some u → b ≠ p → H3 b = some u) ∧ ∀ b, H3 b = none → H2 b = none := by
  have pr : p ≠ r := ne_of_none hp n
  refine ⟨_, rfl, (kb.new n).put (fs := fs) (by rw [upd_ne pr]; exact hp), upd_same, by rw [upd_ne pr.symm, upd_same], fun b u e h => ?_, fun b e => ?_⟩
  · rw [upd_ne h, upd_ne (ne_of_none e n)]
    exact e
  · cases q : H2 b with
    | none => rfl
    | some u =>
      by_cases z : b = p
      · rw [z, upd_same] at e
        cases e
      · rw [upd_ne z, upd_ne (ne_of_none q n), q] at e
        cases e
theorem stepP {p C dx : Addr} {fs gs : List (Str × V)} {H H2 : Hp} (kb : KpB p H H2) (hp : H2 p = some (.ins C dx fs)) :
    ∃ H3, upd H2 p (.ins C dx gs) = H3 ∧ KpB p H H3 ∧ H3 p = some (.ins C dx gs) ∧ (∀ b u, H2 b = some u → b ≠ p → H3 b = some u) ∧ ∀ b, H3 b = none → H2 b = none := by
  refine ⟨_, rfl, kb.put hp, upd_same, fun b u e h => by rw [upd_ne h]; exact e, fun b e => ?_⟩
  by_cases z : b = p
  · rw [z, upd_same] at e
    cases e
  · rw [upd_ne z] at e
    exact e
theorem lenF {f : Str} {v : V} {fs : List (Str × V)} {n : Nat} (h : fs.length < n) : (putF f v fs).length < n + 1 := by
  have q := length_putF f v fs
  omega
theorem seqP {K : PySem.W.Frag} {p C dx a : Addr} {fs : List (Str × V)} {H H2 : Hp} {xs : List V} (hp : H p = some (.ins C dx fs)) (k : ∀ b u, H b = some u → b ≠ p → H2 b = some u) (h : SqL K H a xs) : SqL K H2 a xs := by
  rcases h with (h | ⟨o, h⟩) | h
  · exact .inl (.inl (k _ _ h (ne_of hp h fun z => nomatch z).symm))
  · exact .inl (.inr ⟨o, k _ _ h (ne_of hp h fun z => nomatch z).symm⟩)
  · exact .inr h
theorem krsP {p C dx : Addr} {fs : List (Str × V)} {H H2 : Hp} {xs : List V} {ks : List Tk} (hp : H p = some (.ins C dx fs)) (k : ∀ b u, H b = some u → b ≠ p → H2 b = some u) (h : Krs H xs ks) : Krs H2 xs ks := by
  induction h with
  | nil => exact .nil
  | cons a _ ih =>
    obtain ⟨t, rfl, e⟩ := a
    exact .cons ⟨t, rfl, k _ _ e (ne_of hp e fun z => nomatch z).symm⟩ ih
/-- what the house's keys are -/
def kOf (cs : List (Str × Int × Int)) : List Tk := cs.map fun c => lk c.1 c.2.1 c.2.2
def Valid (ls gs : List Int) (cs : List (Str × Int × Int)) : Prop := ((1 ≤ ls.length ∧ ls.length ≤ 2) ∧ ls.all longN = true) ∧ (gs.length ≤ 11 ∧ gs.all longN = true) ∧ cs.length ≤ 200 ∧ (kOf cs).Nodup ∧ ∀ c ∈ cs, isLk ls gs c.1 c.2.1 c.2.2 = true
/-- a house stands at p -/
def HouseAt (C : Addr) (H : Hp) (p : Addr) (ls gs : List Int) (cs : List (Str × Int × Int)) : Prop := Valid ls gs cs ∧ ∃ dx l g c d : Addr, H p = some (.ins C dx (hf (.ref l) (.ref g) (.ref c) (.int ls.sum) (.ref d))) ∧
  H l = some (.lst (ls.map V.int)) ∧ H g = some (.lst (gs.map V.int)) ∧ H c = some (.lst ((crossN ls).map V.int)) ∧ H d = some (.dT ((kOf cs).map fun k => (k, V.bl true)))
structure ErrTxt (K : PySem.W.Frag) (mg : Str → Option Value) (CI : Addr) (x : Str) : Prop where
  gI : mg x = some (.ref CI)
  kI : PySem.W.keepIn K (.ref CI) = true
  xI : PySem.W.excIn K CI [.type "ValueError", .type "Exception", .type "BaseException", .type "object"] "ValueError.__new__" = true
  bI : PySem.W.subIn K (.ref CI) (.type "BaseException") = some true
  tI : PySem.W.typeIn K (.ref CI) = some (.type "type")
/-- no list stands there -/
def NoLst (H : Hp) (b : Addr) : Prop := ∀ zs, H b ≠ some (.lst zs)
theorem Kp.noLst {H H' : Hp} {b : Addr} (k : Kp H H') (n : H' b = none) : NoLst H b := fun zs e => by
  rcases k.free n with z | ⟨ps, z⟩
  · rw [z] at e
    cases e
  · rw [z] at e
    cases e
def spHouse (K : PySem.W.Frag) (C CI TL TI : Addr) : Sp := fun vs H Q E => ∃ (p dx l g c : Addr) (ls gs : List Int) (xs : List V) (cs : List (Str × Int × Int)), vs = [.ref p, .ref l, .ref g, .ref c] ∧ H p = some (.ins C dx []) ∧
  SqL K H l (ls.map V.int) ∧ SqL K H g (gs.map V.int) ∧ SqL K H c xs ∧ Krs H xs (kOf cs) ∧ ls.length ≤ 1000 ∧ gs.length ≤ 1000 ∧ cs.length ≤ 1000 ∧ TabG H TL ∧ TabG H TI ∧
  (Valid ls gs cs → ∀ H', HouseAt C H' p ls gs cs → KpB p H H' → (∀ (dx l g c : Addr) (t d : V), H' p = some (.ins C dx (hf (.ref l) (.ref g) (.ref c) t d)) → NoLst H l ∧ NoLst H g ∧ NoLst H c) → Q .non H') ∧
  (¬ Valid ls gs cs → ∀ H', KpB p H H' → E (.ref CI) none H')
theorem ok_house {f cI TI C CI fL fA cA TL fX : Addr} {fd fdL fdA fdX : FuncData} (F : FunC K "__init__" "House.__init__" s_House___init__ f cI fd) (TB : TabB base mg cI TI) (Z : HouseTop mg) (T : HouseTxt K mg C) (U : ErrTxt K mg CI "InvalidHouse")
    (FL : Fun K "is_link" "House.is_link" s_House_is_link fL fdL) (bL : Binds K fdL ["self", "link"] []) (mL : Meth K C "is_link" fL)
    (FA : FunC K "_are_long" "_are_long" s__are_long fA cA fdA) (TBA : TabB base mg cA TL) (bA : Binds K fdA ["numbers"] []) (gA : mg "_are_long" = some (.ref fA))
    (FX : Fun K "_cross_heights" "_cross_heights" s__cross_heights fX fdX) (bX : Binds K fdX ["lengths"] []) (gX : mg "_cross_heights" = some (.ref fX)) :
    FnOk P w K mg base (L2.CX P w) 5 f fd ["self", "lengths", "gaps", "closed"] (spHouse K C CI TL TI) := by
  have GL : FnOk P w K mg base CX0 1 fL fdL ["self", "link"] (spLink C) := ok_link FL Z T
  have GA : FnOk P w K mg base CX0 3 fA fdA ["numbers"] (spLong K TL) := ok_long FA Z TBA
  have GX : FnOk P w K mg base CX0 2 fX fdX ["lengths"] (spCross K) := ok_cross FX
  refine F.okX sc_House___init__ (fun vs H Q E h => ?_) (fun A outer s H vs Q E hr h => ?_)
  · obtain ⟨p, dx, l, g, c, ls, gs, xs, cs, rfl, _⟩ := h
    rfl
  · obtain ⟨p, dx, l, g, c, ls, gs, xs, cs, rfl, hp, hl, hg, hc, hx, bl, bg, bc, tL, tI, q, e⟩ := h
    obtain ⟨_, hStr⟩ := Z.stretches
    obtain ⟨_, hGap⟩ := Z.mostGaps
    obtain ⟨_, hClo⟩ := Z.mostClosed
    have nd := sc_House___init__.nd
    have hxl := hx.len
    refine ⟨_, (pss_cons (ps_if (PW.pt (pw_or (pt_not (pt_chain op_le op_le pe_int (pe_callB call_len (by rfl) Z.len (by decide +kernel) (pa_cons (pv 1) pa_nil)) (pe_glob (v := .int 2) rfl hStr ⟨_, rfl⟩))) (pw_or1 (pt_not (pt_val (pe_call GA (by exact hr.mono (by decide)) (by rfl) gA FA.kp bA .nil pass0 (pa_cons (pv 1) pa_nil))))))) (pss_one (ps_raise rfl (takes_of rfl rfl rfl rfl) (pmk_own PySem.F.excBase_ValueError U.xI U.gI U.kI (raises_own U.bI U.tI) rfl))) pss_nil)
      (pss_cons (ps_if (PW.pt (pw_or (pt_cmpR op_gt (pe_callB call_len (by rfl) Z.len (by decide +kernel) (pa_cons (pv 2) pa_nil)) (pe_glob (v := .int 11) rfl hGap ⟨_, rfl⟩) (nomark _)) (pw_or1 (pt_not (pt_val (pe_call GA (by exact hr.mono (by decide)) (by rfl) gA FA.kp bA .nil pass0 (pa_cons (pv 2) pa_nil))))))) (pss_one (ps_raise rfl (takes_of rfl rfl rfl rfl) (pmk_own PySem.F.excBase_ValueError U.xI U.gI U.kI (raises_own U.bI U.tI) rfl))) pss_nil)
      (pss_cons (ps_fld (pv 0) (pe_callTy call_list_of (by rfl) Z.list (by decide +kernel) (pa_cons (pv 1) pa_nil)) rfl)
      (pss_cons (ps_fld (pv 0) (pe_callTy call_list_of (by rfl) Z.list (by decide +kernel) (pa_cons (pv 2) pa_nil)) rfl)
      (pss_cons (ps_fld (pv 0) (pe_call GX (by exact hr.mono (by decide)) (by rfl) gX FX.kp bX .nil pass0 (pa_cons (pv 1) pa_nil)) rfl)
      (pss_cons (ps_fld (pv 0) (pe_callB (cr_sum rfl) (by rfl) Z.sum (by decide +kernel) (pa_cons (pv 1) pa_nil)) rfl)
      (pss_cons (ps_fld (pv 0) (pe_dcT (own := [("link", 4)]) (g := gName 4) rfl (by exact hr.units0) nd (pi_list (pv 3)) (blkOk_by (N := ["self", "lengths", "gaps", "closed", "link"]) (sc := defScope s_House___init__) (by decide +kernel)) (fun _ _ _ _ _ => ⟨pg_name (i := 4) nd rfl (.inl rfl), pv 4, pe_bl⟩)) rfl)
      (pss_cons (ps_if (PW.pt (pw_or (pt_cmpR op_gt (pe_callB call_len (by rfl) Z.len (by decide +kernel) (pa_cons (pv 3) pa_nil)) (pe_glob (v := .int 200) rfl hClo ⟨_, rfl⟩) (nomark _)) (pw_or1 (pt_cmpR op_lt (pe_callB call_len_dT (by rfl) Z.len (by decide +kernel) (pa_cons (pe_fld (pv 0) rfl) pa_nil)) (pe_callB call_len (by rfl) Z.len (by decide +kernel) (pa_cons (pv 3) pa_nil)) (nomark _))))) (pss_one (ps_raise rfl (takes_of rfl rfl rfl rfl) (pmk_own PySem.F.excBase_ValueError U.xI U.gI U.kI (raises_own U.bI U.tI) rfl))) pss_nil)
      (pss_one (ps_if (pt_not (pt_val (pe_allG (k := 3) (N := ["link", "self"]) (fr := [none, some 0]) (g := gName 0) (by exact hr) (by rfl) Z.all (by decide +kernel) TB rfl (gsc_by (outer := defScope s_House___init__) rfl rfl (by decide +kernel)) (gfr_by (outer := defScope s_House___init__) (XN := ["self", "lengths", "gaps", "closed", "link"]) rfl rfl (by decide +kernel)) (pi_list (pv 3)) (fun B s0 H0 cd fp rB => ⟨pg_name (i := 0) (show (["link", "self"] : List Str).Nodup by decide) rfl (.inl rfl), (pe_meth (pv 1) T.cl mL GL (by exact rB.mono (by decide)) bL .nil pass0 (pa_cons (pv 0) pa_nil))⟩) (fun _ => rfl)))) (pss_one (ps_raise rfl (takes_of rfl rfl rfl rfl) (pmk_own PySem.F.excBase_ValueError U.xI U.gI U.kI (raises_own U.bI U.tI) rfl))) pss_nil)))))))))), ?_⟩
    have bad : ∀ {H' : Hp}, ¬ Valid ls gs cs → KpB p H H' → E (.ref CI) none H' := fun {H'} n k => e n H' k
    refine (tells_chain (f := fun i j => decide (i ≤ j)) (j := (ls.length : Int)) (n := 2) (fun Q q => ⟨_, rfl, _, _, rfl, .inl ⟨_, hl, rfl⟩, by rw [List.length_map]; exact q⟩) (fun Q q => q)) _ ⟨_, rfl, ?_⟩
    refine ite2 (fun h1 => ?_) (fun h1 => ?_)
    · exact bad (fun v => by
        have v1 := v.1.1
        simp at h1
        omega) KpB.refl
    refine ⟨_, rfl, l, ls, rfl, hl, tL, fun H1 t1 => ⟨_, rfl, ?_⟩⟩
    have k1 : Kp H H1 := Tabbed.kp t1 tL
    refine ite2 (fun h2 => ?_) (fun h2 => ?_)
    · exact bad (fun v => by
        rw [v.1.2] at h2
        cases h2) (KpB.refl.kp k1)
    have v1 : (1 ≤ ls.length ∧ ls.length ≤ 2) ∧ ls.all longN = true := ⟨by simp at h1; omega, by simpa using h2⟩
    refine ⟨_, rfl, _, _, rfl, .inl ⟨_, k1.seq hg, rfl⟩, _, _, rfl, rfl, _, rfl, ?_⟩
    refine ite2 (fun h3 => ?_) (fun h3 => ?_)
    · exact bad (fun v => by
        have v2 := v.2.1.1
        simp at h3
        omega) (KpB.refl.kp k1)
    refine ⟨_, rfl, g, gs, rfl, k1.seq hg, k1.tab _ tL, fun H2 t2 => ⟨_, rfl, ?_⟩⟩
    have k2 : Kp H H2 := k1.trans (Tabbed.kp t2 (k1.tab _ tL))
    refine ite2 (fun h4 => ?_) (fun h4 => ?_)
    · exact bad (fun v => by
        rw [v.2.1.2] at h4
        cases h4) (KpB.refl.kp k2)
    have v2 : gs.length ≤ 11 ∧ gs.all longN = true := ⟨by simp at h3; omega, by simpa using h4⟩
    have kb2 : KpB p H H2 := KpB.refl.kp k2
    have hp2 := k2.ins hp
    -- self._lengths
    refine ⟨_, rfl, l, _, rfl, .inl (k2.seq hl), fun r1 n1 => ⟨_, rfl, p, C, dx, [], rfl, by rw [upd_ne (ne_of_none hp2 n1)]; exact hp2, T.cl, T.nL, by show 0 < 1000; decide, ?_⟩⟩
    obtain ⟨H3, e3, kb3, hp3, g3, s3, f3⟩ := stepF (o := .lst (ls.map V.int)) (gs := putF "_lengths" (.ref r1) []) kb2 hp2 n1
    rw [e3]
    have l3 := seqP hp2 s3 (k2.seq hl)
    have q3 := seqP hp2 s3 (k2.seq hg)
    have c3 := seqP hp2 s3 (k2.seq hc)
    have x3 := krsP hp2 s3 (hx.kp k2)
    -- self._gaps
    refine ⟨_, rfl, g, _, rfl, .inl q3, fun r2 n2 => ⟨_, rfl, p, C, dx, _, rfl, by rw [upd_ne (ne_of_none hp3 n2)]; exact hp3, T.cl, T.nG, by show 1 < 1000; decide, ?_⟩⟩
    obtain ⟨H4, e4, kb4, hp4, g4, s4, f4⟩ := stepF (o := .lst (gs.map V.int)) (gs := putF "_gaps" (.ref r2) (putF "_lengths" (.ref r1) [])) kb3 hp3 n2
    rw [e4]
    have l4 := seqP hp3 s4 l3
    have c4 := seqP hp3 s4 c3
    have x4 := krsP hp3 s4 x3
    have gL4 := s4 _ _ g3 (ne_of hp3 g3 fun z => nomatch z).symm
    have len0 : ([] : List (Str × V)).length < 1 := by decide
    -- self._crosses
    refine ⟨_, rfl, l, ls, rfl, l4, bl, fun H5 r3 sm5 n3 g5 => ⟨_, rfl, p, C, dx, _, rfl, sm5 _ _ hp4, T.cl, T.nX, Nat.lt_of_lt_of_le (lenF (lenF len0)) (by decide), ?_⟩⟩
    obtain ⟨H6, e6, kb6, hp6, s6, f6⟩ := stepP (gs := putF "_crosses" (.ref r3) (putF "_gaps" (.ref r2) (putF "_lengths" (.ref r1) []))) (kb4.kp (kpS sm5)) (sm5 _ _ hp4)
    rw [e6]
    have hp5 := sm5 _ _ hp4
    have l6 := seqP hp5 s6 (sm5.seq l4)
    have c6 := seqP hp5 s6 (sm5.seq c4)
    have x6 := krsP hp5 s6 (x4.same sm5)
    have gL6 := s6 _ _ (sm5 _ _ gL4) (ne_of hp5 (sm5 _ _ gL4) fun z => nomatch z).symm
    have gG6 := s6 _ _ (sm5 _ _ g4) (ne_of hp5 (sm5 _ _ g4) fun z => nomatch z).symm
    have gX6 := s6 _ _ g5 (ne_of hp5 g5 fun z => nomatch z).symm
    -- self._top
    refine ⟨_, rfl, l, ls, rfl, l6, _, rfl, p, C, dx, _, rfl, hp6, T.cl, T.nT, Nat.lt_of_lt_of_le (lenF (lenF (lenF len0))) (by decide), ?_⟩
    obtain ⟨H7, e7, kb7, hp7, s7, f7⟩ := stepP (gs := putF "_top" (.int ls.sum) (putF "_crosses" (.ref r3) (putF "_gaps" (.ref r2) (putF "_lengths" (.ref r1) [])))) kb6 hp6
    rw [e7]
    have c7 := seqP hp6 s7 c6
    have x7 := krsP hp6 s7 x6
    have gL7 := s7 _ _ gL6 (ne_of hp6 gL6 fun z => nomatch z).symm
    have gG7 := s7 _ _ gG6 (ne_of hp6 gG6 fun z => nomatch z).symm
    have gX7 := s7 _ _ gX6 (ne_of hp6 gX6 fun z => nomatch z).symm
    -- self._closed
    refine ⟨_, rfl, c, rfl, ⟨_, c7⟩, fun D nD => ?_⟩
    have sD : ∀ o, Same H7 (upd H7 D o) := fun o => same_upd nD
    refine dcT_list (K := K) (a := c) (xs := xs) (fun i H' => H' = upd H7 D (.dT (ded ((kOf cs).take i)))) rfl ?_ ?_ ?_
    · rintro i H' _ rfl
      exact (sD _).seq c7
    · rintro i x H' hi rfl
      obtain ⟨y, hy, t, rfl, ht⟩ := (x7.same (sD (.dT (ded ((kOf cs).take i))))).at hi
      refine ⟨rfl, _, rfl, t, _, y, rfl, ht, upd_same, ?_, ?_⟩
      · have z1 := ded_le ((kOf cs).take i)
        have z2 : ((kOf cs).take i).length ≤ (kOf cs).length := List.length_take_le' _ _
        have z3 : (kOf cs).length = cs.length := List.length_map _
        rw [sizeLine_eq]
        omega
      · rw [upd_upd, List.take_add_one, hy]
        show _ = upd H7 D (.dT (ded ((kOf cs).take i ++ [y])))
        rw [ded_snoc]
    · rintro H' rfl
      rw [hxl, List.take_length]
      refine ⟨_, rfl, p, C, dx, _, rfl, sD _ _ _ hp7, T.cl, T.nC, Nat.lt_of_lt_of_le (lenF (lenF (lenF (lenF len0)))) (by decide), ?_⟩
      obtain ⟨H8, e8, kb8, hp8, g8, s8, f8⟩ := stepF (o := .dT (ded (kOf cs))) (gs := hf (.ref r1) (.ref r2) (.ref r3) (.int ls.sum) (.ref D)) kb7 hp7 nD
      have e8' : upd (upd H7 D (.dT (ded (kOf cs)))) p (.ins C dx (putF "_closed" (.ref D) (putF "_top" (.int ls.sum) (putF "_crosses" (.ref r3) (putF "_gaps" (.ref r2) (putF "_lengths" (.ref r1) [])))))) = H8 := e8
      rw [e8']
      have c8 := seqP hp7 s8 c7
      have x8 := krsP hp7 s8 x7
      have gL8 := s8 _ _ gL7 (ne_of hp7 gL7 fun z => nomatch z).symm
      have gG8 := s8 _ _ gG7 (ne_of hp7 gG7 fun z => nomatch z).symm
      have gX8 := s8 _ _ gX7 (ne_of hp7 gX7 fun z => nomatch z).symm
      have kl : (kOf cs).length = cs.length := List.length_map _
      -- too many, or one twice
      refine ⟨_, rfl, _, _, rfl, .inl ⟨_, c8, rfl⟩, _, _, rfl, rfl, _, rfl, ?_⟩
      refine ite2 (fun h5 => ?_) (fun h5 => ?_)
      · exact bad (fun v => by
          have v3 := v.2.2.1
          simp at h5
          omega) kb8
      have v3 : cs.length ≤ 200 := by
        simp at h5
        omega
      refine ⟨_, rfl, p, C, dx, _, _, rfl, hp8, T.cl, T.nC, hf_closed _ _ _ _ _, D, _, rfl, g8, _, rfl, _, _, rfl, .inl ⟨_, c8, rfl⟩, _, _, rfl, rfl, _, rfl, ?_⟩
      refine ite2 (fun h6 => ?_) (fun h6 => ?_)
      · exact bad (fun v => by
          rw [(ded_eq (kOf cs)).1 v.2.2.2.1, List.length_map] at h6
          have z := of_decide_eq_true h6
          omega) kb8
      have v4 : (kOf cs).Nodup := Decidable.byContradiction fun n => h6 (decide_eq_true (by
        have z := (ded_eq (kOf cs)).2 n
        omega))
      -- each is a link
      have tab8 : TabG H8 TI := kb8.tab _ tI
      refine ⟨_, rfl, c, rfl, ⟨_, c8⟩, tab8, fun H9 t9 => ?_⟩
      have k9 : Kp H8 H9 := Tabbed.kp t9 tab8
      have kb9 : KpB p H H9 := kb8.kp k9
      have hp9 := k9.ins hp8
      have x9 := x8.kp k9
      have part : PartAt C H9 p ls gs := ⟨dx, r1, r2, r3, _, hp9, k9.lst gL8, k9.lst gG8, k9.lst gX8⟩
      refine for_list (K := K) (a := c) (xs := xs) (fun i σ H' => (∃ z, σ = [z, some (.ref p)]) ∧ H' = H9 ∧ ∀ c ∈ cs.take i, isLk ls gs c.1 c.2.1 c.2.2 = true) ?_ ?_ ?_ ?_
      · exact ⟨⟨none, rfl⟩, rfl, fun c z => by simp at z⟩
      · rintro i σ H' _ ⟨_, rfl, _⟩
        exact k9.seq c8
      · rintro i x H0 H' hi ⟨⟨z, rfl⟩, rfl, hall⟩
        obtain ⟨y, hy, hk⟩ := x9.at hi
        unfold kOf at hy
        rw [List.getElem?_map] at hy
        cases hci : cs[i]? with
        | none => rw [hci] at hy; cases hy
        | some ci =>
          rw [hci] at hy
          cases hy
          refine ⟨_, rfl, p, dx, _, rfl, hp9, hf_no _ _ _ _ _ (by decide +kernel) (by decide +kernel) (by decide +kernel) (by decide +kernel) (by decide +kernel), _, rfl, p, x, ls, gs, ci.1, ci.2.1, ci.2.2, rfl, part, hk, _, rfl, ?_⟩
          refine ite2 (fun h7 => ?_) (fun h7 => ?_)
          · refine ⟨_, rfl, ?_⟩
            exact bad (fun v => by
              rw [v.2.2.2.2 ci (List.mem_of_getElem? hci)] at h7
              cases h7) kb9
          · refine ⟨⟨_, rfl⟩, rfl, fun c' hc' => ?_⟩
            rw [List.take_add_one, hci] at hc'
            rcases List.mem_append.mp hc' with z1 | z1
            · exact hall c' z1
            · have z2 : c' = ci := by simpa using z1
              rw [z2]
              simpa using h7
      · rintro σ H' ⟨⟨z, rfl⟩, rfl, hall⟩
        rw [hxl, kl, List.take_length] at hall
        have va : Valid ls gs cs := ⟨v1, v2, v3, v4, hall⟩
        refine ⟨_, rfl, ?_⟩
        refine q va H' ⟨va, dx, r1, r2, r3, D, hp9, k9.lst gL8, k9.lst gG8, k9.lst gX8, ?_⟩ kb9 (fun dx' l' g' c' t' d' z => ?_)
        · rw [← (ded_eq (kOf cs)).1 v4]
          exact k9.dT g8
        · rw [hp9] at z
          have z2 := Option.some.inj z
          injection z2 with _ _ z3
          have e1 := hf_lengths (.ref r1) (.ref r2) (.ref r3) (.int ls.sum) (.ref D)
          have e2 := hf_gaps (.ref r1) (.ref r2) (.ref r3) (.int ls.sum) (.ref D)
          have e3' := hf_crosses (.ref r1) (.ref r2) (.ref r3) (.int ls.sum) (.ref D)
          rw [z3, hf_lengths] at e1
          rw [z3, hf_gaps] at e2
          rw [z3, hf_crosses] at e3'
          obtain rfl : l' = r1 := V.ref.inj (Option.some.inj e1)
          obtain rfl : g' = r2 := V.ref.inj (Option.some.inj e2)
          obtain rfl : c' = r3 := V.ref.inj (Option.some.inj e3')
          exact ⟨Kp.noLst k2 n1, Kp.noLst k2 (f3 _ n2), Kp.noLst k2 (f3 _ (f4 _ n3))⟩
end
section
open GxR NdefX PySem.Spec PyProof.Rows
variable {P : Program} {w : World} {K : PySem.W.Frag} {mg : Str → Option Value} {base : Heap}
theorem HouseAt.kp {C : Addr} {H H' : Hp} {p : Addr} {ls gs : List Int} {cs : List (Str × Int × Int)} (h : HouseAt C H p ls gs cs) (k : Kp H H') : HouseAt C H' p ls gs cs := by
  obtain ⟨v, dx, l, g, c, d, h1, h2, h3, h4, h5⟩ := h
  exact ⟨v, dx, l, g, c, d, k.ins h1, k.lst h2, k.lst h3, k.lst h4, k.dT h5⟩
theorem HouseAt.part {C : Addr} {H : Hp} {p : Addr} {ls gs : List Int} {cs : List (Str × Int × Int)} (h : HouseAt C H p ls gs cs) : PartAt C H p ls gs := by
  obtain ⟨v, dx, l, g, c, d, h1, h2, h3, h4, h5⟩ := h
  exact ⟨dx, l, g, c, _, h1, h2, h3, h4⟩
end
section
open GxR NdefX PySem.Spec PyProof.Rows
variable {P : Program} {w : World} {K : PySem.W.Frag} {mg : Str → Option Value} {base : Heap}
theorem room65 {k : Nat} {A : Around} (r : Room k A) : A.units + 65 < cLine := by
  have := r.un
  omega
structure LawTop (mg : Str → Option Value) : Prop where
  int : mg "int" = none
  len : mg "len" = none
  sum : mg "sum" = none
  max : mg "max" = none
  range : mg "range" = none
section
variable {σ : L2.St} {H : Hp} {ta tb : TE} {i j : Int}
theorem Tells.go {te : TE} {v : V} {Q : VK} (h : Tells te σ H v) (q : Q v H) : te σ H Q := h Q q
def nth (ns : List Int) (i : Int) : Int := (ns[i.toNat]?).getD 0
theorem nth_small {ns : List Int} (h : Small ns) (i : Int) : 0 ≤ nth ns i ∧ nth ns i < 1009 := by
  unfold nth
  cases e : ns[i.toNat]? with
  | none => decide
  | some n => exact h n (List.mem_of_getElem? e)
theorem atI_nth {ns : List Int} {i : Int} (h0 : 0 ≤ i) (h1 : i < ns.length) : atI (ns.map V.int) i = some (V.int (nth ns i)) := by
  have e : ((i.toNat : Nat) : Int) = i := Int.toNat_of_nonneg h0
  have lt : i.toNat < ns.length := by omega
  have z : atI (ns.map V.int) ((i.toNat : Nat) : Int) = some (V.int (nth ns i)) := by
    refine atI_nat ?_
    unfold nth
    rw [List.getElem?_map, List.getElem?_eq_getElem lt]
    rfl
  rw [e] at z
  exact z
end
theorem ok_lk {x : Str} (h : PyData.canLay0 (.str x) = true) (a b : Int) : okk (lk x a b) = true := by
  show (PyData.canLay0 (.str x) && (true && (true && true))) = true
  rw [h]
  rfl
/-- numbers from 1 to 40 -/
def Lens (ls : List Int) : Prop := ∀ x ∈ ls, 1 ≤ x ∧ x ≤ 40
theorem Lens.all {ls : List Int} (h : Lens ls) : ls.all longN = true := List.all_eq_true.mpr fun x hx => by
  have q := h x hx
  unfold longN
  rw [decide_eq_true q.1, decide_eq_true q.2]
  rfl
theorem Lens.snoc {ls : List Int} (h : Lens ls) {x : Int} (h1 : 1 ≤ x) (h2 : x ≤ 40) : Lens (ls ++ [x]) := fun y hy => by
  rcases List.mem_append.mp hy with z | z
  · exact h y z
  · rw [List.mem_singleton.mp z]
    exact ⟨h1, h2⟩
theorem Lens.pos {ls : List Int} (h : Lens ls) : ∀ k, 0 ≤ (ls.take k).sum := by
  intro k
  have all : ∀ xs : List Int, (∀ x ∈ xs, 1 ≤ x ∧ x ≤ 40) → 0 ≤ xs.sum := by
    intro xs
    induction xs with
    | nil => intro _; decide
    | cons x xs ih =>
      intro q
      have q1 := q x List.mem_cons_self
      have q2 := ih fun y hy => q y (List.mem_cons_of_mem _ hy)
      rw [List.sum_cons]
      omega
  exact all _ fun x hx => h x (List.mem_of_mem_take hx)
theorem Lens.pos1 {ls : List Int} (h : Lens ls) (hl : 1 ≤ ls.length) : 1 ≤ ls.sum := by
  cases ls with
  | nil => simp at hl
  | cons x ls =>
    have q1 := h x List.mem_cons_self
    have q2 := Lens.pos (ls := ls) (fun y hy => h y (List.mem_cons_of_mem _ hy)) ls.length
    rw [List.take_length] at q2
    rw [List.sum_cons]
    omega
theorem made {H : Hp} {a : Addr} {o : HO} (h : H a = none) : ∃ H', upd H a o = H' ∧ Same H H' ∧ H' a = some o := ⟨_, rfl, same_upd h, upd_same⟩
end
section
open GxR NdefX PySem.Spec PyProof.Rows
variable {P : Program} {w : World} {K : PySem.W.Frag} {mg : Str → Option Value} {base : Heap}
/-- behind a new object: all but it is as it was -/
theorem mkKp {H H' : Hp} {x dx : Addr} {o u : HO} (n : H x = none) (m : H dx = none) (k : KpB x (upd (upd H dx u) x o) H') : Kp H H' := by
  have step : ∀ b z, H b = some z → (upd (upd H dx u) x o) b = some z := fun b z e => by
    rw [upd_ne (ne_of_none e n), upd_ne (ne_of_none e m)]
    exact e
  exact ⟨fun b z e t => k.at_ b z (step b z e) (ne_of_none e n) t, fun P ⟨ps, e, t⟩ => k.tab P ⟨ps, step _ _ e, t⟩⟩
structure PropD (P : Program) (w : World) (K : PySem.W.Frag) (mg : Str → Option Value) (base : Heap) (C : Addr) (k : Nat) (x : Str) (sp : Sp) where
  f : Addr
  p : Addr
  fd : FuncData
  h : PropOf K C x p f
  G : FnOk P w K mg base CX0 k f fd ["self"] sp
  b : Binds K fd ["self"] []
structure MethD (P : Program) (w : World) (K : PySem.W.Frag) (mg : Str → Option Value) (base : Heap) (C : Addr) (k : Nat) (x : Str) (ps : List Str) (sp : Sp) where
  f : Addr
  fd : FuncData
  m : Meth K C x f
  G : FnOk P w K mg base CX0 k f fd ps sp
  b : Binds K fd ps []
structure TopD (P : Program) (w : World) (K : PySem.W.Frag) (mg : Str → Option Value) (base : Heap) (k : Nat) (x : Str) (ps : List Str) (sp : Sp) where
  f : Addr
  fd : FuncData
  G : FnOk P w K mg base CX0 k f fd ps sp
  b : Binds K fd ps []
  g : mg x = some (.ref f)
  kp : PySem.W.keepIn K (.ref f) = true
theorem okk_valid {ls gs : List Int} {cs : List (Str × Int × Int)} (v : Valid ls gs cs) : ∀ k ∈ kOf cs, okk k = true := fun k hk => by
  obtain ⟨c, hc, rfl⟩ := List.mem_map.mp hk
  have q := v.2.2.2.2 c hc
  refine ok_lk ?_ _ _
  unfold isLk at q
  by_cases h1 : c.1 = "up"
  · rw [h1]
    decide +kernel
  · rw [if_neg h1] at q
    have h2 : c.1 = "over" := by
      simp only [Bool.and_eq_true, decide_eq_true_eq] at q
      exact q.1
    rw [h2]
    decide +kernel
/-- the places of a grid, aisle by aisle -/
def gridP (wd hg : Nat) : List Pl := (List.range wd).flatMap fun (a : Nat) => (List.range hg).map fun (b : Nat) => ((a : Int), (b : Int))
theorem grid_succ (wd hg : Nat) : gridP (wd + 1) hg = gridP wd hg ++ (List.range hg).map fun (b : Nat) => ((wd : Int), (b : Int)) := by
  unfold gridP
  rw [List.range_succ, List.flatMap_append]
  simp
theorem grid_len (wd hg : Nat) : (gridP wd hg).length = wd * hg := by
  induction wd with
  | zero => simp [gridP]
  | succ n ih => rw [grid_succ, List.length_append, ih, List.length_map, List.length_range, Nat.succ_mul]
theorem Lens.pos2 {ls : List Int} (h : Lens ls) : 0 ≤ ls.sum := by
  have q := h.pos ls.length
  rw [List.take_length] at q
  exact q
theorem Lens.le {ls : List Int} (h : Lens ls) (k : Nat) : (ls.take k).sum ≤ ls.sum := by
  have e : ls.sum = (ls.take k).sum + (ls.drop k).sum := by
    rw [← List.sum_append, List.take_append_drop]
  have q : Lens (ls.drop k) := fun x hx => h x (List.mem_of_mem_drop hx)
  have z := q.pos2
  omega
theorem Lens.top {ls : List Int} (h : Lens ls) (hl : ls.length ≤ 2) : ls.sum ≤ 80 := by
  match ls, h, hl with
  | [], _, _ => decide
  | [x], h, _ =>
    have := h x (by simp)
    simp
    omega
  | [x, y], h, _ =>
    have := h x (by simp)
    have := h y (by simp)
    simp
    omega
  | _ :: _ :: _ :: _, _, hl => simp at hl
theorem Lens.cross {ls : List Int} (h : Lens ls) {y : Int} (hy : y ∈ crossN ls) : 0 ≤ y ∧ y ≤ ls.sum := by
  unfold crossN at hy
  obtain ⟨k, _, rfl⟩ := List.mem_map.mp hy
  exact ⟨h.pos k, h.le k⟩
end
section
open GxR NdefX PySem.Spec PyProof.Rows
variable {P : Program} {w : World} {K : PySem.W.Frag} {mg : Str → Option Value} {base : Heap}
abbrev Goes (J : It) (H1 : Hp) (Qd : Hp → Prop) (B : V → Hp → (Hp → Prop) → Prop) : Prop := ∃ W : Nat → Nat → Hp → Prop, (∃ m, W 0 m H1) ∧ ∀ i m H, W i m H →
  (J.stop i H ∧ Qd H) ∨ (J.go i H ∧ ∃ Nx : Hp → Prop, (∀ H', Nx H' → ∃ m', m' < m ∧ W (i + 1) m' H') ∧ ∀ x H', J.yld i H x H' → B x H' Nx)
def lkC (c : Str × Int × Int) : Tk := lk c.1 c.2.1 c.2.2
theorem mem_grid {n m : Nat} {a b : Int} : (a, b) ∈ gridP n m ↔ 0 ≤ a ∧ a < n ∧ 0 ≤ b ∧ b < m := by
  unfold gridP
  simp only [List.mem_flatMap, List.mem_range, List.mem_map, Prod.mk.injEq]
  constructor
  · rintro ⟨i, hi, j, hj, rfl, rfl⟩
    omega
  · rintro ⟨h1, h2, h3, h4⟩
    exact ⟨a.toNat, by omega, b.toNat, by omega, by omega, by omega⟩
def upsL (n s : Nat) : List (Str × Int × Int) := (gridP n s).map fun p => (("up" : Str), p.1, p.2)
def overA (ls : List Int) (a : Nat) : List (Str × Int × Int) := (crossN ls).map fun h => (("over" : Str), (a : Int), h)
def oversL (ls : List Int) (n : Nat) : List (Str × Int × Int) := (List.range n).flatMap (overA ls)
theorem crossN_len (ls : List Int) : (crossN ls).length = ls.length + 1 := by
  unfold crossN
  rw [List.length_map, List.length_range]
def linksL (ls gs : List Int) : List (Str × Int × Int) := oversL ls gs.length ++ upsL (gs.length + 1) ls.sum.toNat
theorem over_up : ¬ (("over" : Str) = "up") := by decide +kernel
theorem mem_links {ls gs : List Int} (h0 : 0 ≤ ls.sum) (c : Str × Int × Int) : c ∈ linksL ls gs ↔ isLk ls gs c.1 c.2.1 c.2.2 = true := by
  obtain ⟨x, a, b⟩ := c
  unfold linksL upsL oversL overA isLk
  simp only [List.mem_append, List.mem_flatMap, List.mem_range, List.mem_map, Prod.mk.injEq, Prod.exists]
  by_cases hx : x = "up"
  · subst hx
    rw [if_pos rfl]
    constructor
    · rintro (⟨i, hi, h, _, e, _⟩ | ⟨p, q, hm, _, rfl, rfl⟩)
      · exact absurd e over_up
      · have z := mem_grid.mp hm
        simp only [Bool.and_eq_true, decide_eq_true_eq]
        omega
    · intro z
      simp only [Bool.and_eq_true, decide_eq_true_eq] at z
      exact .inr ⟨a, b, mem_grid.mpr (by omega), rfl, rfl, rfl⟩
  · rw [if_neg hx]
    simp only [Bool.and_eq_true, decide_eq_true_eq]
    constructor
    · rintro (⟨i, hi, h, hh, rfl, rfl, rfl⟩ | ⟨p, q, _, e, _⟩)
      · exact ⟨rfl, ⟨by omega, by omega⟩, hh⟩
      · exact absurd e.symm hx
    · rintro ⟨rfl, ⟨h1, h2⟩, h3⟩
      exact .inl ⟨a.toNat, by omega, b, h3, rfl, by omega, rfl⟩
theorem Room.units1 {k : Nat} {A : Around} (r : Room k A) : A.units + 1 < cLine := by
  have := r.un
  omega
theorem val_closed {ls gs : List Int} {cs : List (Str × Int × Int)} (v : Valid ls gs cs) (k : Tk) : (valV ((kOf cs).map fun k => (k, V.bl true)) k).isSome = decide (k ∈ kOf cs) := by
  rw [← (ded_eq (kOf cs)).1 v.2.2.2.1]
  exact ded_mem _ _
theorem Valid.lens {ls gs : List Int} {cs : List (Str × Int × Int)} (v : Valid ls gs cs) : Lens ls := fun x hx => by
  have z := List.all_eq_true.mp v.1.2 x hx
  unfold longN at z
  rw [Bool.and_eq_true, decide_eq_true_eq, decide_eq_true_eq] at z
  exact z
def isPl (ls gs : List Int) (p : Pl) : Bool := (decide (0 ≤ p.1) && decide (p.1 ≤ gs.length)) && (decide (0 ≤ p.2) && decide (p.2 ≤ ls.sum))
def isCr (ls gs : List Int) (p : Pl) : Bool := isPl ls gs p && decide (p.2 ∈ crossN ls)
def spPl (C : Addr) (f : List Int → List Int → Pl → Bool) : Sp := fun vs H Q _ => ∃ (p : Addr) (v : V) (ls gs : List Int) (cs : List (Str × Int × Int)) (pl : Pl), vs = [.ref p, v] ∧ HouseAt C H p ls gs cs ∧ Pr H v pl ∧ Q (.bl (f ls gs pl)) H
def spClosedQ (C : Addr) : Sp := fun vs H Q _ => ∃ (p : Addr) (v : V) (ls gs : List Int) (cs : List (Str × Int × Int)) (k : Tk), vs = [.ref p, v] ∧ HouseAt C H p ls gs cs ∧ Kr H v k ∧ Q (.bl (decide (k ∈ kOf cs))) H
theorem Pr.kr {H : Hp} {v : V} {p : Pl} (h : Pr H v p) : ∃ t, v = .ref t ∧ H t = some (.tup [.int p.1, .int p.2]) := h
theorem ok_is_place {f C : Addr} {fd : FuncData} (F : Fun K "is_place" "House.is_place" s_House_is_place f fd) (Z : HouseTop mg) (T : HouseTxt K mg C) : FnOk P w K mg base CX0 1 f fd ["self", "place"] (spPl C isPl) := by
  refine F.ok sc_House_is_place (fun vs H Q E h => ?_) (fun cdv A outer s H vs Q E hr h => ?_)
  · obtain ⟨p, v, ls, gs, cs, pl, rfl, _⟩ := h
    rfl
  · obtain ⟨p, v, ls, gs, cs, pl, rfl, ⟨_, dx, l, g, c, d, h1, h2, h3, h4, h5⟩, ⟨t, rfl, ht⟩, q⟩ := h
    have nd := sc_House_is_place.nd
    refine ⟨_, (pss_cons (ps_asg (pv 1) (pg_tup rfl (pgs_cons (pg_name (i := 2) nd rfl (.inl rfl)) (pgs_cons (pg_name (i := 3) nd rfl (.inl rfl)) pgs_nil))))
      (pss_one (ps_ret (pe_and (pe_chain op_le op_le pe_int (pv 2) (pe_callB call_len (by rfl) Z.len (by decide +kernel) (pa_cons (pe_fld (pv 0) rfl) pa_nil))) (pe_one (pe_chain op_le op_le pe_int (pv 3) (pe_fld (pv 0) rfl))))))), ?_⟩
    refine ⟨_, rfl, t, _, rfl, SqT.of ht, rfl, _, _, rfl, _, _, rfl, rfl, ?_⟩
    have var : ∀ {σ : L2.St} {i : Nat} {v : V}, σ[i]? = some (some v) → Tells (tVar i) σ H v := fun e Q q => ⟨_, e, q⟩
    have fld : ∀ {σ : L2.St} {f : Str} {v : V}, σ[0]? = some (some (V.ref p)) → NoAttr K C f → (hf (.ref l) (.ref g) (.ref c) (.int ls.sum) (.ref d)).lookup f = some v → Tells (tFld K (tVar 0) f) σ H v := fun e n z Q q =>
      ⟨_, e, p, C, dx, _, _, rfl, h1, T.cl, n, z, q⟩
    have cnt : ∀ {σ : L2.St}, σ[0]? = some (some (V.ref p)) → Tells (tCB (fun xs H1 Q => ∃ x n, xs = [x] ∧ LenV K x H1 n ∧ Q (V.int (n : Nat)) H1) (tCons (tFld K (tVar 0) "_gaps") tNil)) σ H (.int gs.length) := fun e Q q =>
      fld e T.nG (hf_gaps _ _ _ _ _) _ ⟨_, _, rfl, .inl ⟨_, SqL.of h3, rfl⟩, by rw [List.length_map]; exact q⟩
    refine tells_and (tells_chain (f := fun i j => decide (i ≤ j)) (var rfl) (cnt rfl)) (tells_chain (f := fun i j => decide (i ≤ j)) (var rfl) (fld rfl T.nT (hf_top _ _ _ _ _))) _ ?_
    exact q
theorem ok_is_closed {f C : Addr} {fd : FuncData} (F : Fun K "is_closed" "House.is_closed" s_House_is_closed f fd) (T : HouseTxt K mg C) : FnOk P w K mg base CX0 1 f fd ["self", "link"] (spClosedQ C) := by
  refine F.ok sc_House_is_closed (fun vs H Q E h => ?_) (fun cdv A outer s H vs Q E hr h => ?_)
  · obtain ⟨p, v, ls, gs, cs, k, rfl, _⟩ := h
    rfl
  · obtain ⟨p, v, ls, gs, cs, k, rfl, hH, ⟨t, rfl, ht⟩, q⟩ := h
    obtain ⟨va, dx, l, g, c, d, h1, h2, h3, h4, h5⟩ := id hH
    refine ⟨_, (pss_one (ps_ret (pe_cmp (pc_din (by exact Room.units1 hr) (pv 1) (pe_fld (pv 0) rfl))))), ?_⟩
    refine ⟨_, rfl, _, rfl, p, C, dx, _, _, rfl, h1, T.cl, T.nC, hf_closed _ _ _ _ _, d, _, rfl, DGet.t h5 ht, ?_⟩
    rw [val_closed va]
    exact q
theorem kOf_app (a b : List (Str × Int × Int)) : kOf (a ++ b) = kOf a ++ kOf b := List.map_append
theorem kOf_len (a : List (Str × Int × Int)) : (kOf a).length = a.length := List.length_map _
def farP (x : Str) (a h : Int) : Pl := if x = "up" then (a, h + 1) else (a + 1, h)
def lenLk (gs : List Int) (x : Str) (a : Int) : Int := if x = "up" then 1 else nth gs a
def spLenOf (C CL : Addr) : Sp := fun vs H Q E => ∃ (p : Addr) (v : V) (ls gs : List Int) (cs : List (Str × Int × Int)) (x : Str) (a h : Int), vs = [.ref p, v] ∧ HouseAt C H p ls gs cs ∧ Kr H v (lk x a h) ∧
  (isLk ls gs x a h = true → Q (.int (lenLk gs x a)) H) ∧ (isLk ls gs x a h = false → E (.ref CL) none H)
theorem isLk_aisle {ls gs : List Int} {x : Str} {a h : Int} (e : isLk ls gs x a h = true) (hx : ¬ x = "up") : 0 ≤ a ∧ a < gs.length := by
  unfold isLk at e
  rw [if_neg hx] at e
  simp only [Bool.and_eq_true, decide_eq_true_eq] at e
  exact e.2.1
theorem ok_length_of {f fL C CL : Addr} {fd fdL : FuncData} (F : Fun K "length_of" "House.length_of" s_House_length_of f fd) (Z : HouseTop mg) (T : HouseTxt K mg C) (U : ErrTxt K mg CL "InvalidLink") (GL : FnOk P w K mg base CX0 1 fL fdL ["self", "link"] (spLink C)) (bL : Binds K fdL ["self", "link"] []) (mL : Meth K C "is_link" fL) :
    FnOk P w K mg base (L2.CX P w) 2 f fd ["self", "link"] (spLenOf C CL) := by
  refine F.okX sc_House_length_of (fun vs H Q E h => ?_) (fun cdv A outer s H vs Q E hr h => ?_)
  · obtain ⟨p, v, ls, gs, cs, x, a, h, rfl, _⟩ := h
    rfl
  · obtain ⟨p, v, ls, gs, cs, x, a, h, rfl, hH, ⟨t, rfl, ht⟩, q, e⟩ := h
    obtain ⟨va, dx, l, g, c, d, h1, h2, h3, h4, h5⟩ := id hH
    have nd := sc_House_length_of.nd
    refine ⟨_, (pss_cons (ps_if (pt_not (pt_val (pe_meth (pv 0) T.cl mL GL hr bL .nil pass0 (pa_cons (pv 1) pa_nil)))) (pss_one (ps_raise rfl (takes_of rfl rfl rfl rfl) (pmk_own PySem.F.excBase_ValueError U.xI U.gI U.kI (raises_own U.bI U.tI) rfl))) pss_nil)
      (pss_cons (ps_asg (pv 1) (pg_tup rfl (pgs_cons (pg_name (i := 2) nd rfl (.inl rfl)) (pgs_cons (pg_name (i := 3) nd rfl (.inl rfl)) (pgs_cons (pg_name (i := 4) nd rfl (.inl rfl)) pgs_nil)))))
      (pss_cons (ps_if (pt_cmpR op_eq (pv 2) pe_str (nomark _)) (pss_one (ps_ret pe_int)) pss_nil)
      (pss_one (ps_ret (pe_ix ix_list (pe_fld (pv 0) rfl) (pv 3) (fun _ _ => rfl))))))), ?_⟩
    refine ⟨_, rfl, p, dx, _, rfl, h1, hf_no _ _ _ _ _ (by decide +kernel) (by decide +kernel) (by decide +kernel) (by decide +kernel) (by decide +kernel), _, rfl, p, .ref t, ls, gs, x, a, h, rfl, hH.part, ⟨t, rfl, ht⟩, _, rfl, ?_⟩
    cases hi : isLk ls gs x a h with
    | false => exact e hi
    | true =>
      refine ⟨_, rfl, t, [V.str x, V.int a, V.int h], rfl, SqT.of ht, rfl, _, _, rfl, _, _, rfl, _, _, rfl, rfl, ?_⟩
      refine ⟨_, rfl, rfl, _, rfl, ?_⟩
      have q2 := q hi
      refine ite2 (fun hc => ?_) (fun hc => ?_)
      · have hx : x = "up" := V.str.inj (of_decide_eq_true hc)
        unfold lenLk at q2
        rw [if_pos hx] at q2
        exact q2
      · have hx : ¬ x = "up" := fun z => by
          rw [z] at hc
          exact hc (decide_eq_true rfl)
        obtain ⟨b0, b1⟩ := isLk_aisle hi hx
        unfold lenLk at q2
        rw [if_neg hx] at q2
        exact ⟨_, rfl, p, C, dx, _, _, rfl, h1, T.cl, T.nG, hf_gaps _ _ _ _ _, _, rfl, g, _, a, _, rfl, rfl, SqL.of h3, atI_nth b0 b1, q2⟩
end
section
open PySem.W PySem.SeqAt PyProof.Rows
variable {prog : Program} {w : World} {A : Around} {E : Value → Shared → Prop} {s : Shared} {a b : Value} {x y : PyData} {as : List Addr} {Q : Value → Shared → Prop}
theorem best_two {P : Nat → Value → Prop} {bt : Nat → Nat → Bool} {v : Value} (h : (#[a, b] : Array Value)[argBest bt 1]? = some v) : v = if bt 1 0 = true then b else a := by
  cases e : bt 1 0 with
  | true =>
    have z : argBest bt 1 = 1 := by simp [argBest, e]
    rw [z] at h
    exact (Option.some.inj h).symm
  | false =>
    have z : argBest bt 1 = 0 := by simp [argBest, e]
    rw [z] at h
    exact (Option.some.inj h).symm
theorem max_two_data (hh : A.handled = none) (hr : ReadsAll s.heap [a, b] [x, y] as) (ha : AlikeAll [x, y]) (hu : A.units + 1 + PyData.depthAll [x, y] < cLine)
    (hq : ∀ h' tk, (∀ c o, s.heap.get? c = some o → h'.get? c = some o) → Q (if dataLt x y = true then b else a) { s with heap := h', toks := tk }) : wpAny (model prog w) A (call (.builtin "max") [a, b]) Q E s := by
  have nm : (toString "max" ++ toString ".loop" : String) = "max.loop" := by decide
  have hT : (s.heap.push { cls := .type "tuple", data := .seq #[a, b] }).IsTuple s.heap.objs.size #[a, b] := ⟨_, Heap.get?_push_size _ rfl, rfl, 0, rfl⟩
  have old : ∀ c o, s.heap.get? c = some o → (s.heap.push { cls := .type "tuple", data := .seq #[a, b] }).get? c = some o := fun c o e => Heap.get?_push_of_some _ e
  have hr2 := ReadsAll.keeps old hr
  refine call_function_tree F.kind_max F.plain_max F.entry_max (F.args_max2 _ _) (show wpAny _ A.in1 (Builtin.Builtins.bindParams "max" ["key", "default"] 0 ⟨[], []⟩ >>= _) _ _ s from wpAny_bind (wpAny_of_eq (show _ = pure [none, none] from rfl) (show wpAny _ A.in1 (newTuple [a, b] >>= _) _ _ s from wpAny_bind (wpAny_newObj_type ?_))))
  refine wpAny_bind (iter_tupleW (A := A.in1) hh hT fun s2 e W st hfp hw hk => ?_)
  refine wpAny_bind (wpAny_newObj_type ?_)
  have nS : s2.heap.objs.size ∉ _ := fun z => Nat.lt_irrefl _ (hfp _ z)
  rw [nm]
  refine wpAny_pure ⟨plainId_quiet F.plain_max_loop _, codeAny_max_loop_firstH W _ hw _ (cmpIn_gt (A := A.in1) hr2 ha (by show A.units + 1 + _ < _; exact hu)) s2.heap.objs.size nS (fresh_in hk) _ (Nat.zero_lt_succ 1) (fun c o z => Heap.get?_push_of_some _ (hk c o z)) (W.frame 0 s2 _ s2.toks st (Nat.le_refl _) fun c _ o z => Heap.get?_push_of_some _ z) (Heap.get?_push_size _ rfl) fun v s' hP hm => ?_⟩
  obtain ⟨h', tk, rfl, hk'⟩ := moved_old e rfl (Moved.drop_new (tk := s2.toks) hm (Nat.le_refl _))
  have ev := best_two (P := fun _ _ => True) hP
  rw [ev]
  exact hq h' tk fun c o z => hk' c o (old c o z)
theorem min_two_data (hh : A.handled = none) (hr : ReadsAll s.heap [a, b] [x, y] as) (ha : AlikeAll [x, y]) (hu : A.units + 1 + PyData.depthAll [x, y] < cLine)
    (hq : ∀ h' tk, (∀ c o, s.heap.get? c = some o → h'.get? c = some o) → Q (if dataLt y x = true then b else a) { s with heap := h', toks := tk }) : wpAny (model prog w) A (call (.builtin "min") [a, b]) Q E s := by
  have nm : (toString "min" ++ toString ".loop" : String) = "min.loop" := by decide
  have hT : (s.heap.push { cls := .type "tuple", data := .seq #[a, b] }).IsTuple s.heap.objs.size #[a, b] := ⟨_, Heap.get?_push_size _ rfl, rfl, 0, rfl⟩
  have old : ∀ c o, s.heap.get? c = some o → (s.heap.push { cls := .type "tuple", data := .seq #[a, b] }).get? c = some o := fun c o e => Heap.get?_push_of_some _ e
  have hr2 := ReadsAll.keeps old hr
  refine call_function_tree F.kind_min F.plain_min F.entry_min (F.args_min2 _ _) (show wpAny _ A.in1 (Builtin.Builtins.bindParams "min" ["key", "default"] 0 ⟨[], []⟩ >>= _) _ _ s from wpAny_bind (wpAny_of_eq (show _ = pure [none, none] from rfl) (show wpAny _ A.in1 (newTuple [a, b] >>= _) _ _ s from wpAny_bind (wpAny_newObj_type ?_))))
  refine wpAny_bind (iter_tupleW (A := A.in1) hh hT fun s2 e W st hfp hw hk => ?_)
  refine wpAny_bind (wpAny_newObj_type ?_)
  have nS : s2.heap.objs.size ∉ _ := fun z => Nat.lt_irrefl _ (hfp _ z)
  rw [nm]
  refine wpAny_pure ⟨plainId_quiet F.plain_min_loop _, codeAny_min_loop_firstH W _ hw _ (cmpIn_lt (A := A.in1) hr2 ha (by show A.units + 1 + _ < _; exact hu)) s2.heap.objs.size nS (fresh_in hk) _ (Nat.zero_lt_succ 1) (fun c o z => Heap.get?_push_of_some _ (hk c o z)) (W.frame 0 s2 _ s2.toks st (Nat.le_refl _) fun c _ o z => Heap.get?_push_of_some _ z) (Heap.get?_push_size _ rfl) fun v s' hP hm => ?_⟩
  obtain ⟨h', tk, rfl, hk'⟩ := moved_old e rfl (Moved.drop_new (tk := s2.toks) hm (Nat.le_refl _))
  have ev := best_two (P := fun _ _ => True) hP
  rw [ev]
  exact hq h' tk fun c o z => hk' c o (old c o z)
end
section
open PySem.Spec PyProof.Rows
variable {X : Cx}
def lsP (p q : Pl) : Bool := decide (p.1 < q.1 ∨ (p.1 = q.1 ∧ p.2 < q.2))
theorem lt_dP (p q : Pl) : PySem.W.dataLt (dP p) (dP q) = lsP p q := PySem.W.dataLt_ii _ _ _ _
def rMax2P : List V → Hp → VK → Prop := fun vs H Q => ∃ (u v : V) (p q : Pl), vs = [u, v] ∧ Pr H u p ∧ Pr H v q ∧ Q (if lsP p q = true then v else u) H
def rMin2P : List V → Hp → VK → Prop := fun vs H Q => ∃ (u v : V) (p q : Pl), vs = [u, v] ∧ Pr H u p ∧ Pr H v q ∧ Q (if lsP q p = true then v else u) H
theorem alike_dP (p q : Pl) : PySem.W.AlikeAll [dP p, dP q] := by
  have h : ∀ a b : Pl, PySem.W.alike (dP a) (dP b) = true := fun a b => by
    show PySem.W.alike (.tuple [.int _, .int _]) (.tuple [.int _, .int _]) = true
    simp [PySem.W.alike, PySem.W.alikeAll]
  refine ⟨fun d hd d' hd' => ?_, fun d hd => ?_⟩
  · simp only [List.mem_cons, List.not_mem_nil, or_false] at hd hd'
    rcases hd with rfl | rfl <;> rcases hd' with rfl | rfl <;> exact h _ _
  · simp only [List.mem_cons, List.not_mem_nil, or_false] at hd
    rcases hd with rfl | rfl <;> (intro z; cases z)
theorem call_max2P (hc : X.calm = true) (hu : X.A.units + 3 < cLine) : CallR X (.builtin "max") rMax2P := by
  intro pins s σ H xs us Q I r h
  obtain ⟨u, v, p, q, rfl, hp, hq, z⟩ := h
  obtain ⟨a, b, rfl, r1, r2⟩ := vals2 r
  obtain ⟨as, d1⟩ := Dp.reads I (dP p) u a hp.dp r1
  obtain ⟨bs, d2⟩ := Dp.reads I (dP q) v b hq.dp r2
  refine max_two_data (I.ok.hd hc) (.cons d1 (.cons d2 .nil)) (alike_dP p q) (by show X.A.units + 1 + 1 < cLine; omega) fun h' tk k => ⟨_, H, I.kept k, ?_, z⟩
  rw [lt_dP]
  cases lsP p q with
  | true => exact r2
  | false => exact r1
theorem call_min2P (hc : X.calm = true) (hu : X.A.units + 3 < cLine) : CallR X (.builtin "min") rMin2P := by
  intro pins s σ H xs us Q I r h
  obtain ⟨u, v, p, q, rfl, hp, hq, z⟩ := h
  obtain ⟨a, b, rfl, r1, r2⟩ := vals2 r
  obtain ⟨as, d1⟩ := Dp.reads I (dP p) u a hp.dp r1
  obtain ⟨bs, d2⟩ := Dp.reads I (dP q) v b hq.dp r2
  refine min_two_data (I.ok.hd hc) (.cons d1 (.cons d2 .nil)) (alike_dP p q) (by show X.A.units + 1 + 1 < cLine; omega) fun h' tk k => ⟨_, H, I.kept k, ?_, z⟩
  rw [lt_dP]
  cases lsP q p with
  | true => exact r2
  | false => exact r1
end
section
open GxR NdefX PySem.Spec PyProof.Rows
variable {P : Program} {w : World} {K : PySem.W.Frag} {mg : Str → Option Value} {base : Heap}
theorem Room.units3 {k : Nat} {A : Around} (r : Room k A) : A.units + 3 < cLine := by
  have := r.un
  omega
def loP (p q : Pl) : Pl := if lsP q p = true then q else p
def hiP (p q : Pl) : Pl := if lsP p q = true then q else p
def joinC (p q : Pl) : Option (Str × Int × Int) :=
  if hiP p q = ((loP p q).1, (loP p q).2 + 1) then some (("up" : Str), (loP p q).1, (loP p q).2)
  else if hiP p q = ((loP p q).1 + 1, (loP p q).2) then some (("over" : Str), (loP p q).1, (loP p q).2) else none
def lnkB (ls gs : List Int) (cs : List (Str × Int × Int)) (p q : Pl) : Option (Str × Int × Int) := match joinC p q with
  | none => none
  | some c => if (isLk ls gs c.1 c.2.1 c.2.2 && !decide (lkC c ∈ kOf cs)) = true then some c else none
theorem lnkB_lk {ls gs : List Int} {cs : List (Str × Int × Int)} {p q : Pl} {c : Str × Int × Int} (h : lnkB ls gs cs p q = some c) : isLk ls gs c.1 c.2.1 c.2.2 = true := by
  unfold lnkB at h
  split at h
  · cases h
  · rename_i d _
    split at h
    · rename_i z
      cases h
      rw [Bool.and_eq_true] at z
      exact z.1
    · cases h
def spBetween (C : Addr) : Sp := fun vs H Q _ => ∃ (p : Addr) (u v : V) (ls gs : List Int) (cs : List (Str × Int × Int)) (a b : Pl), vs = [.ref p, u, v] ∧ HouseAt C H p ls gs cs ∧ Pr H u a ∧ Pr H v b ∧
  (lnkB ls gs cs a b = none → ∀ H', Same H H' → Q .non H') ∧ (∀ c, lnkB ls gs cs a b = some c → ∀ (H' : Hp) (t : Addr), Same H H' → H' t = some (.tup ((lkC c).map kV)) → Q (.ref t) H')
theorem ok_between {f fL fC C : Addr} {fd fdL fdC : FuncData} (F : Fun K "link_between" "House.link_between" s_House_link_between f fd) (hmin : mg "min" = none) (hmax : mg "max" = none) (T : HouseTxt K mg C)
    (GL : FnOk P w K mg base CX0 1 fL fdL ["self", "link"] (spLink C)) (bL : Binds K fdL ["self", "link"] []) (mL : Meth K C "is_link" fL) (GC : FnOk P w K mg base CX0 1 fC fdC ["self", "link"] (spClosedQ C)) (bC : Binds K fdC ["self", "link"] []) (mC : Meth K C "is_closed" fC) :
    FnOk P w K mg base CX0 2 f fd ["self", "one", "other"] (spBetween C) := by
  refine F.ok sc_House_link_between (fun vs H Q E h => ?_) (fun cdv A outer s H vs Q E hr h => ?_)
  · obtain ⟨p, u, v, ls, gs, cs, a, b, rfl, _⟩ := h
    rfl
  · obtain ⟨p, u, v, ls, gs, cs, a, b, rfl, hH, hu, hv, q0, q1⟩ := h
    obtain ⟨va, dx, l, g, c, d, h1, h2, h3, h4, h5⟩ := id hH
    have nd := sc_House_link_between.nd
    refine ⟨_, (pss_cons (ps_asg (pe_callB (call_min2P rfl (by exact Room.units3 hr)) (by rfl) hmin (by decide +kernel) (pa_cons (pv 1) (pa_cons (pv 2) pa_nil))) (pg_tup rfl (pgs_cons (pg_name (i := 3) nd rfl (.inl rfl)) (pgs_cons (pg_name (i := 4) nd rfl (.inl rfl)) pgs_nil))))
      (pss_cons (ps_set (i := 5) nd rfl (.inl rfl) (pe_callB (call_max2P rfl (by exact Room.units3 hr)) (by rfl) hmax (by decide +kernel) (pa_cons (pv 1) (pa_cons (pv 2) pa_nil))))
      (C8.pss_cut (ps_if (pt_cmpR (op_eqD hr.units) (pv 5) (pe_tup (pa_cons (pv 3) (pa_cons (pe_op op_add (pv 4) pe_int) pa_nil))) (nomark _)) (pss_one (ps_set (i := 6) nd rfl (.inl rfl) (pe_tup (pa_cons pe_str (pa_cons (pv 3) (pa_cons (pv 4) pa_nil)))))) (pss_one (ps_if (pt_cmpR (op_eqD hr.units) (pv 5) (pe_tup (pa_cons (pe_op op_add (pv 3) pe_int) (pa_cons (pv 4) pa_nil))) (nomark _)) (pss_one (ps_set (i := 6) nd rfl (.inl rfl) (pe_tup (pa_cons pe_str (pa_cons (pv 3) (pa_cons (pv 4) pa_nil)))))) (pss_one (ps_ret pe_non)))))
      (pss_cons (ps_if (PW.pt (pw_and (pt_val (pe_meth (pv 0) T.cl mL GL hr bL .nil pass0 (pa_cons (pv 6) pa_nil))) (pw_and1 (pt_not (pt_val (pe_meth (pv 0) T.cl mC GC hr bC .nil pass0 (pa_cons (pv 6) pa_nil))))))) (pss_one (ps_ret (pv 6))) pss_nil)
      (pss_one (ps_ret pe_non)))))), ?_⟩
    have hlo : ∃ t, (if lsP b a = true then v else u) = .ref t ∧ H t = some (.tup [.int (loP a b).1, .int (loP a b).2]) := by
      unfold loP
      cases lsP b a with
      | true => exact hv
      | false => exact hu
    have hhi : Pr H (if lsP a b = true then v else u) (hiP a b) := by
      unfold hiP
      cases lsP a b with
      | true => exact hv
      | false => exact hu
    obtain ⟨tl, el, hl⟩ := hlo
    refine ⟨_, rfl, _, rfl, u, v, a, b, rfl, hu, hv, tl, _, el, SqT.of hl, rfl, _, _, rfl, _, _, rfl, rfl, ?_⟩
    refine ⟨_, rfl, _, rfl, u, v, a, b, rfl, hu, hv, ?_⟩
    generalize (if lsP a b = true then v else u) = vh at hhi
    refine ⟨fun σ' H' => ∃ (k : Str × Int × Int) (t6 : Addr), joinC a b = some k ∧ σ' = [some (.ref p), some u, some v, some (.int (loP a b).1), some (.int (loP a b).2), some vh, some (.ref t6)] ∧ Same H H' ∧ H' t6 = some (.tup ((lkC k).map kV)), ?_, ?_⟩
    · refine ⟨_, rfl, _, rfl, _, rfl, _, _, rfl, rfl, (by show 2 ≤ sizeLine; decide), fun t1 n1 => ?_⟩
      obtain ⟨H1, e1, k1, g1⟩ := made (o := .tup [V.int (loP a b).1, V.int ((loP a b).2 + 1)]) n1
      rw [e1]
      refine ⟨dP (hiP a b), dP ((loP a b).1, (loP a b).2 + 1), (hhi.same k1).dp, Pr.dp ⟨t1, rfl, g1⟩, sh_dP _, sh_dP _, _, rfl, ?_⟩
      rw [eqv_dP]
      refine ite2 (fun hc => ?_) (fun hc => ?_)
      · have hc' := of_decide_eq_true hc
        refine ⟨_, rfl, _, rfl, (by show 3 ≤ sizeLine; decide), fun t6 n6 => ?_⟩
        obtain ⟨H2, e2, k2, g2⟩ := made (o := .tup [V.str "up", V.int (loP a b).1, V.int (loP a b).2]) n6
        have e2' : upd H1 t6 (.tup [V.str "up", V.int (loP a b).1, V.int (loP a b).2]) = H2 := e2
        rw [e2']
        exact ⟨(("up" : Str), (loP a b).1, (loP a b).2), t6, by unfold joinC; rw [if_pos hc'], rfl, k1.trans k2, g2⟩
      · have hc' : ¬ hiP a b = ((loP a b).1, (loP a b).2 + 1) := fun z => hc (decide_eq_true z)
        refine ⟨_, rfl, _, rfl, _, _, rfl, rfl, _, rfl, (by show 2 ≤ sizeLine; decide), fun t2 n2 => ?_⟩
        obtain ⟨H2, e2, k2, g2⟩ := made (o := .tup [V.int ((loP a b).1 + 1), V.int (loP a b).2]) n2
        rw [e2]
        have k12 := k1.trans k2
        refine ⟨dP (hiP a b), dP ((loP a b).1 + 1, (loP a b).2), (hhi.same k12).dp, Pr.dp ⟨t2, rfl, g2⟩, sh_dP _, sh_dP _, _, rfl, ?_⟩
        rw [eqv_dP]
        refine ite2 (fun hd => ?_) (fun hd => ?_)
        · have hd' := of_decide_eq_true hd
          refine ⟨_, rfl, _, rfl, (by show 3 ≤ sizeLine; decide), fun t6 n6 => ?_⟩
          obtain ⟨H3, e3, k3, g3⟩ := made (o := .tup [V.str "over", V.int (loP a b).1, V.int (loP a b).2]) n6
          have e3' : upd H2 t6 (.tup [V.str "over", V.int (loP a b).1, V.int (loP a b).2]) = H3 := e3
          rw [e3']
          exact ⟨(("over" : Str), (loP a b).1, (loP a b).2), t6, by unfold joinC; rw [if_neg hc', if_pos hd'], rfl, k12.trans k3, g3⟩
        · have hd' : ¬ hiP a b = ((loP a b).1 + 1, (loP a b).2) := fun z => hd (decide_eq_true z)
          refine q0 ?_ H2 k12
          have ej : joinC a b = none := by unfold joinC; rw [if_neg hc', if_neg hd']
          unfold lnkB
          rw [ej]
    · rintro σ' H2 ⟨⟨x, ka, kh⟩, t6, ej, rfl, k2, g6⟩
      have hk : Kr H2 (.ref t6) (lk x ka kh) := ⟨t6, rfl, g6⟩
      have hH2 := hH.kp (kpS k2)
      have en : lnkB ls gs cs a b = if (isLk ls gs x ka kh && !decide (lkC (x, ka, kh) ∈ kOf cs)) = true then some (x, ka, kh) else none := by
        unfold lnkB
        rw [ej]
      refine ⟨_, rfl, p, dx, _, rfl, k2 _ _ h1, hf_no _ _ _ _ _ (by decide +kernel) (by decide +kernel) (by decide +kernel) (by decide +kernel) (by decide +kernel), _, rfl, p, .ref t6, ls, gs, x, ka, kh, rfl, hH2.part, hk, _, rfl, ?_⟩
      cases hi : isLk ls gs x ka kh with
      | false =>
        refine iteF (iteF ?_)
        refine q0 ?_ H2 k2
        rw [en, hi]
        rfl
      | true =>
        refine iteT ?_
        refine ⟨_, rfl, p, dx, _, rfl, k2 _ _ h1, hf_no _ _ _ _ _ (by decide +kernel) (by decide +kernel) (by decide +kernel) (by decide +kernel) (by decide +kernel), _, rfl, p, .ref t6, ls, gs, cs, lk x ka kh, rfl, hH2, hk, _, rfl, ?_⟩
        have ed : lkC (x, ka, kh) = lk x ka kh := rfl
        rw [hi, ed] at en
        cases hcl : decide (lk x ka kh ∈ kOf cs) with
        | true =>
          refine iteF ?_
          refine q0 ?_ H2 k2
          rw [en, hcl]
          rfl
        | false =>
          refine iteT ?_
          refine ⟨_, rfl, q1 (x, ka, kh) ?_ H2 t6 k2 g6⟩
          rw [en, hcl]
          rfl
def aroundP (p : Pl) : List Pl := [(p.1 - 1, p.2), (p.1, p.2 - 1), (p.1, p.2 + 1), (p.1 + 1, p.2)]
def besO (ls gs : List Int) (cs : List (Str × Int × Int)) (p q : Pl) : Option (Pl × Int) := (lnkB ls gs cs p q).map fun c => (q, lenLk gs c.1 c.2.1)
def besL (ls gs : List Int) (cs : List (Str × Int × Int)) (p : Pl) : List (Pl × Int) := (aroundP p).filterMap (besO ls gs cs p)
/-- v is a tuple of a place and a number -/
def Br (H : Hp) (v : V) (r : Pl × Int) : Prop := ∃ t u, v = .ref t ∧ H t = some (.tup [u, .int r.2]) ∧ Pr H u r.1
theorem Br.same {H H' : Hp} {v : V} {r : Pl × Int} (h : Br H v r) (k : Same H H') : Br H' v r := by
  obtain ⟨t, u, e, h1, h2⟩ := h
  exact ⟨t, u, e, k _ _ h1, h2.same k⟩
theorem Br.over {H : Hp} {m : Addr} {zs ws : List V} {v : V} {r : Pl × Int} (h : Br H v r) (hm : H m = some (.lst zs)) : Br (upd H m (.lst ws)) v r := by
  obtain ⟨t, u, e, h1, h2⟩ := h
  exact ⟨t, u, e, by rw [upd_ne (ne_of h1 hm fun z => nomatch z)]; exact h1, h2.over hm⟩
inductive Brs (H : Hp) : List V → List (Pl × Int) → Prop
  | nil : Brs H [] []
  | cons {v : V} {r : Pl × Int} {vs : List V} {rs : List (Pl × Int)} : Br H v r → Brs H vs rs → Brs H (v :: vs) (r :: rs)
theorem Brs.same {H H' : Hp} {vs : List V} {rs : List (Pl × Int)} (h : Brs H vs rs) (k : Same H H') : Brs H' vs rs := by
  induction h with
  | nil => exact .nil
  | cons a _ ih => exact .cons (a.same k) ih
theorem Brs.over {H : Hp} {m : Addr} {zs ws vs : List V} {rs : List (Pl × Int)} (h : Brs H vs rs) (hm : H m = some (.lst zs)) : Brs (upd H m (.lst ws)) vs rs := by
  induction h with
  | nil => exact .nil
  | cons a _ ih => exact .cons (a.over hm) ih
theorem Brs.snoc {H : Hp} {vs : List V} {v : V} {rs : List (Pl × Int)} {r : Pl × Int} (h : Brs H vs rs) (g : Br H v r) : Brs H (vs ++ [v]) (rs ++ [r]) := by
  induction h with
  | nil => exact .cons g .nil
  | cons a _ ih => exact .cons a ih
theorem Brs.len {H : Hp} {vs : List V} {rs : List (Pl × Int)} (h : Brs H vs rs) : vs.length = rs.length := by
  induction h with
  | nil => rfl
  | cons a _ ih => exact congrArg (· + 1) ih
def dB (r : Pl × Int) : PyData := .tuple [dP r.1, .int r.2]
def dBs (rs : List (Pl × Int)) : PyData := .list (rs.map dB)
theorem Brs.dps {H : Hp} {vs : List V} {rs : List (Pl × Int)} (h : Brs H vs rs) : DpAll K H vs (rs.map dB) := by
  induction h with
  | nil => exact .nil
  | cons a _ ih =>
    obtain ⟨t, u, rfl, h1, h2⟩ := a
    exact .cons (.tup (SqT.of h1) (.cons h2.dp (.cons (.int _) .nil))) ih
theorem Brs.dl {H : Hp} {l : Addr} {vs : List V} {rs : List (Pl × Int)} (h : Brs H vs rs) (e : SqL K H l vs) : Dp K H (.ref l) (dBs rs) := .lst e h.dps
/-- the error of places that are none -/
structure PlcTxt (K : PySem.W.Frag) (mg : Str → Option Value) (CP fP : Addr) : Prop where
  g : mg "InvalidPlace" = some (.ref CP)
  o : OexC K CP
  n : PySem.W.findIn K (.ref CP) "place" = some none
  i : PySem.W.findIn K (.ref CP) "__init__" = some (some (.ref fP))
  y : PySem.W.typeIn K (.ref fP) = some (.type "function")
theorem ok_plcinit {f C : Addr} {fd : FuncData} (F : Fun K "__init__" "InvalidPlace.__init__" s_InvalidPlace___init__ f fd) : FnOk P w K mg base CX0 1 f fd ["self", "place"] (spXI K C "place") := by
  refine F.ok sc_InvalidPlace___init__ (fun vs H Q E h => ?_) (fun cdv A outer s H vs Q E hr h => ?_)
  · obtain ⟨a, v, rfl, _⟩ := h
    rfl
  · obtain ⟨a, v, rfl, T, hno, ha, q⟩ := h
    exact ⟨_, pss_one (ps_ost (pv 0) (pv 1)), v, rfl, _, rfl, a, C, rfl, T, hno, .inl ⟨ha, q⟩⟩
theorem raised {H : Hp} {a d C : Addr} {f : Str} {v : V} (ha : H a = none) (hd : (upd H a (exo a C none)) d = none) (hne : d ≠ a) :
    (upd (upd (upd H a (exo a C none)) d (exd d [(f, v)])) a (exo a C (some d))) a = some (exo a C (some d)) ∧ (upd (upd (upd H a (exo a C none)) d (exd d [(f, v)])) a (exo a C (some d))) d = some (exd d [(f, v)]) ∧ H d = none ∧
    Same H (upd (del (upd (upd (upd H a (exo a C none)) d (exd d [(f, v)])) a (exo a C (some d))) a) d (.xd [(f, v)])) := by
  have hdn : H d = none := by
    rw [upd_ne hne] at hd
    exact hd
  refine ⟨upd_same, by rw [upd_ne hne, upd_same], hdn, fun b o e => ?_⟩
  have h1 : b ≠ a := ne_of_none e ha
  have h2 : b ≠ d := ne_of_none e hdn
  rw [upd_ne h2, del_ne h1, upd_ne h1, upd_ne h2, upd_ne h1]
  exact e
def spBeside (C CP : Addr) : Sp := fun vs H Q E => ∃ (p : Addr) (v : V) (ls gs : List Int) (cs : List (Str × Int × Int)) (a : Pl), vs = [.ref p, v] ∧ HouseAt C H p ls gs cs ∧ Pr H v a ∧
  (isPl ls gs a = true → ∀ (H' : Hp) (r : Addr) (xs : List V), Same H H' → H r = none → H' r = some (.lst xs) → Brs H' xs (besL ls gs cs a) → Q (.ref r) H') ∧
  (isPl ls gs a = false → ∀ (H' : Hp) (d : Addr), Same H H' → H' d = some (.xd [("place", v)]) → E (.ref CP) (some d) H')
theorem ok_beside {f fP fB fN fI C CP CL : Addr} {fd fdP fdB fdN fdI : FuncData} (F : Fun K "beside" "House.beside" s_House_beside f fd) (T : HouseTxt K mg C) (U : PlcTxt K mg CP fI) (GI : FnOk P w K mg base CX0 1 fI fdI ["self", "place"] (spXI K CP "place")) (bI : Binds K fdI ["self", "place"] [])
    (GP : FnOk P w K mg base CX0 1 fP fdP ["self", "place"] (spPl C isPl)) (bP : Binds K fdP ["self", "place"] []) (mP : Meth K C "is_place" fP) (GB : FnOk P w K mg base CX0 2 fB fdB ["self", "one", "other"] (spBetween C)) (bB : Binds K fdB ["self", "one", "other"] []) (mB : Meth K C "link_between" fB)
    (GN : FnOk P w K mg base (L2.CX P w) 2 fN fdN ["self", "link"] (spLenOf C CL)) (bN : Binds K fdN ["self", "link"] []) (mN : Meth K C "length_of" fN) : FnOk P w K mg base (L2.CX P w) 4 f fd ["self", "place"] (spBeside C CP) := by
  refine F.okX sc_House_beside (fun vs H Q E h => ?_) (fun cdv A outer s H vs Q E hr h => ?_)
  · obtain ⟨p, v, ls, gs, cs, a, rfl, _⟩ := h
    rfl
  · obtain ⟨p, v, ls, gs, cs, a, rfl, hH, hv, q, e⟩ := h
    obtain ⟨va, dx, l, g, c, d, h1, h2, h3, h4, h5⟩ := id hH
    have nd := sc_House_beside.nd
    refine ⟨_, (pss_cons (ps_if (pt_not (pt_val (pe_meth (pv 0) T.cl mP GP (by exact hr.mono (by decide)) bP .nil pass0 (pa_cons (pv 1) pa_nil)))) (pss_one (ps_raise rfl (takes_of rfl rfl rfl rfl) (pmk_oex U.o U.i U.y GI (by exact hr.mono (by decide)) bI .nil pass0 (by rfl) U.g (pa_cons (pv 1) pa_nil)))) pss_nil)
      (pss_cons (ps_asg (pv 1) (pg_tup rfl (pgs_cons (pg_name (i := 2) nd rfl (.inl rfl)) (pgs_cons (pg_name (i := 3) nd rfl (.inl rfl)) pgs_nil))))
      (pss_cons (ps_set (i := 4) nd rfl (.inl rfl) (pe_lst (pa_cons (pe_tup (pa_cons (pe_op op_sub (pv 2) pe_int) (pa_cons (pv 3) pa_nil))) (pa_cons (pe_tup (pa_cons (pv 2) (pa_cons (pe_op op_sub (pv 3) pe_int) pa_nil))) (pa_cons (pe_tup (pa_cons (pv 2) (pa_cons (pe_op op_add (pv 3) pe_int) pa_nil))) (pa_cons (pe_tup (pa_cons (pe_op op_add (pv 2) pe_int) (pa_cons (pv 3) pa_nil))) pa_nil))))))
      (pss_cons (ps_set (i := 5) nd rfl (.inl rfl) (pe_lst pa_nil))
      (pss_cons (ps_for (passes_of rfl) rfl (pi_list (pv 4)) (pg_name (i := 6) nd rfl (.inl rfl)) (pss_cons (ps_set (i := 7) nd rfl (.inl rfl) (pe_meth (pv 0) T.cl mB GB (by exact hr.mono (by decide)) bB .nil pass0 (pa_cons (pv 1) (pa_cons (pv 6) pa_nil))))
      (pss_one (ps_if (pt_cmp (pc_notN (pv 7))) (pss_one (ps_expr (pe_bm PySem.F.plainAttrs_list PySem.F.slot_list_append PySem.F.type_list_append mt_append (pv 5) (pa_cons (pe_tup (pa_cons (pv 6) (pa_cons (pe_meth (pv 0) T.cl mN GN (by exact hr.mono (by decide)) bN .nil (passes_call (takes_of rfl rfl rfl rfl) fun _ _ _ _ h => h) (pa_cons (pv 7) pa_nil)) pa_nil))) pa_nil)))) pss_nil))))
      (pss_one (ps_ret (pv 5)))))))), ?_⟩
    refine ⟨_, rfl, p, dx, _, rfl, h1, hf_no _ _ _ _ _ (by decide +kernel) (by decide +kernel) (by decide +kernel) (by decide +kernel) (by decide +kernel), _, rfl, p, v, ls, gs, cs, a, rfl, hH, hv, _, rfl, ?_⟩
    cases hi : isPl ls gs a with
    | false =>
      refine iteT ?_
      refine ⟨_, rfl, by show 1 ≤ 1000; decide, fun y ny => ⟨y, v, rfl, U.o, U.n, upd_same, fun dd hd hne => ⟨rfl, dd, [("place", v)], ?_⟩⟩⟩
      obtain ⟨g1, g2, g3, g4⟩ := raised (f := "place") (v := v) ny hd hne
      exact ⟨g1, g2, g3, e hi _ dd g4 upd_same⟩
    | true =>
      refine iteF ?_
      obtain ⟨t, rfl, ht⟩ := id hv
      refine ⟨_, rfl, t, _, rfl, SqT.of ht, rfl, _, _, rfl, _, _, rfl, rfl, ?_⟩
      refine ⟨_, rfl, _, _, rfl, rfl, _, rfl, (by show 2 ≤ sizeLine; decide), fun t1 n1 => ?_⟩
      obtain ⟨H1, e1, k1, g1⟩ := made (o := .tup [V.int (a.1 - 1), V.int a.2]) n1
      rw [e1]
      refine ⟨_, rfl, _, rfl, _, _, rfl, rfl, (by show 2 ≤ sizeLine; decide), fun t2 n2 => ?_⟩
      obtain ⟨H2, e2, k2, g2⟩ := made (o := .tup [V.int a.1, V.int (a.2 - 1)]) n2
      rw [e2]
      refine ⟨_, rfl, _, rfl, _, _, rfl, rfl, (by show 2 ≤ sizeLine; decide), fun t3 n3 => ?_⟩
      obtain ⟨H3, e3, k3, g3⟩ := made (o := .tup [V.int a.1, V.int (a.2 + 1)]) n3
      rw [e3]
      refine ⟨_, rfl, _, _, rfl, rfl, _, rfl, (by show 2 ≤ sizeLine; decide), fun t4 n4 => ?_⟩
      obtain ⟨H4, e4, k4, g4⟩ := made (o := .tup [V.int (a.1 + 1), V.int a.2]) n4
      rw [e4]
      refine ⟨(by show 4 ≤ sizeLine; decide), fun ra nra => ?_⟩
      obtain ⟨H5, e5, k5, g5⟩ := made (o := .lst [V.ref t1, V.ref t2, V.ref t3, V.ref t4]) nra
      rw [e5]
      have s4 := k5
      have s3 := k4.trans s4
      have s2 := k3.trans s3
      have s1 := k2.trans s2
      have s0 := k1.trans s1
      have har : Prs H5 [V.ref t1, V.ref t2, V.ref t3, V.ref t4] (aroundP a) := .cons ⟨t1, rfl, s1 _ _ g1⟩ (.cons ⟨t2, rfl, s2 _ _ g2⟩ (.cons ⟨t3, rfl, s3 _ _ g3⟩ (.cons ⟨t4, rfl, s4 _ _ g4⟩ .nil)))
      refine ⟨Nat.zero_le _, fun rj nrj => ?_⟩
      have kj : Same H5 (upd H5 rj (.lst [])) := same_upd nrj
      refine ⟨_, rfl, ra, rfl, ⟨_, SqL.of (kj _ _ g5)⟩, ?_⟩
      refine for_list (K := K) (a := ra) (xs := [V.ref t1, V.ref t2, V.ref t3, V.ref t4]) (fun i σ H' => ∃ (ys : List V) (v6 v7 : Option V), σ = [some (.ref p), some (.ref t), some (.int a.1), some (.int a.2), some (.ref ra), some (.ref rj), v6, v7] ∧ Same H5 H' ∧ H' rj = some (.lst ys) ∧ Brs H' ys (((aroundP a).take i).filterMap (besO ls gs cs a)) ∧ ys.length ≤ i) ?_ ?_ ?_ ?_
      · exact ⟨[], none, none, rfl, kj, upd_same, .nil, Nat.le_refl _⟩
      · rintro i σ H' _ ⟨ys, v6, v7, _, kt, _⟩
        exact SqL.of (kt _ _ g5)
      · rintro i x σ H' hx ⟨ys, v6, v7, rfl, kt, hrj, hys, hle⟩
        have lt : i < 4 := (List.getElem?_eq_some_iff.mp hx).1
        obtain ⟨b, hb, hxb⟩ := (har.same kt).at hx
        have k0t := s0.trans kt
        have et : (aroundP a).take (i + 1) = (aroundP a).take i ++ [b] := by
          rw [List.take_add_one, hb]
          rfl
        refine ⟨_, rfl, p, dx, _, rfl, k0t _ _ h1, hf_no _ _ _ _ _ (by decide +kernel) (by decide +kernel) (by decide +kernel) (by decide +kernel) (by decide +kernel), _, rfl, _, rfl, p, .ref t, x, ls, gs, cs, a, b, rfl, hH.kp (kpS k0t), hv.same k0t, hxb, fun en H6 k6 => ?_, fun cc en H6 t6 k6 g6 => ?_⟩
        · refine ⟨_, rfl, _, rfl, iteF ?_⟩
          refine ⟨ys, _, _, rfl, kt.trans k6, k6 _ _ hrj, ?_, by omega⟩
          rw [et, List.filterMap_append]
          have z : [b].filterMap (besO ls gs cs a) = [] := by
            have eb : besO ls gs cs a b = none := by
              unfold besO
              rw [en]
              rfl
            rw [List.filterMap_cons_none eb, List.filterMap_nil]
          rw [z, List.append_nil]
          exact hys.same k6
        · obtain ⟨cx, ca, ch⟩ := cc
          have hlk := lnkB_lk en
          have k06 := k0t.trans k6
          have hrj6 := k6 _ _ hrj
          refine ⟨_, rfl, _, rfl, iteT ?_⟩
          refine ⟨_, rfl, .inl ⟨rfl, _, SqL.of hrj6⟩, _, rfl, _, rfl, p, dx, _, rfl, k06 _ _ h1, hf_no _ _ _ _ _ (by decide +kernel) (by decide +kernel) (by decide +kernel) (by decide +kernel) (by decide +kernel), _, rfl, p, .ref t6, ls, gs, cs, cx, ca, ch, rfl, hH.kp (kpS k06), ⟨t6, rfl, g6⟩, fun _ => ⟨(by show 2 ≤ sizeLine; decide), fun t7 n7 => ?_⟩, fun z => absurd hlk (by rw [z]; decide)⟩
          obtain ⟨H7, e7, k7, g7⟩ := made (o := .tup [x, V.int (lenLk gs cx ca)]) n7
          rw [e7]
          have nrj5 : H5 rj = none := nrj
          refine ⟨rj, ys, _, rfl, rfl, k7 _ _ hrj6, by rw [sizeLine_eq]; omega, ?_⟩
          refine ⟨_, _, _, rfl, Same.over ((kt.trans k6).trans k7) nrj5, upd_same, ?_, by rw [List.length_append]; show ys.length + 1 ≤ i + 1; omega⟩
          rw [et, List.filterMap_append]
          have z : [b].filterMap (besO ls gs cs a) = [(b, lenLk gs cx ca)] := by
            have eb : besO ls gs cs a b = some (b, lenLk gs cx ca) := by
              unfold besO
              rw [en]
              rfl
            rw [List.filterMap_cons_some eb, List.filterMap_nil]
          rw [z]
          exact ((hys.same (k6.trans k7)).snoc ⟨t7, x, rfl, g7, hxb.same (k6.trans k7)⟩).over (k7 _ _ hrj6)
      · rintro σ H' ⟨ys, v6, v7, rfl, kt, hrj, hys, hle⟩
        exact ⟨_, rfl, q hi H' rj ys (s0.trans kt) (s0.free nrj) hrj hys⟩
end
section
open GxR NdefX PySem.Spec PyProof.Rows
variable {P : Program} {w : World} {K : PySem.W.Frag} {mg : Str → Option Value} {base : Heap}
/-- all tuples stay -/
def Tu (H H' : Hp) : Prop := ∀ b xs, H b = some (.tup xs) → H' b = some (.tup xs)
theorem Tu.refl (H : Hp) : Tu H H := fun _ _ e => e
theorem Tu.trans {H H1 H2 : Hp} (a : Tu H H1) (b : Tu H1 H2) : Tu H H2 := fun c xs e => b c xs (a c xs e)
theorem tuS {H H' : Hp} (k : Same H H') : Tu H H' := fun b _ e => k b _ e
theorem tuK {H H' : Hp} (k : Kp H H') : Tu H H' := fun b _ e => k.tup e
theorem tuU {H : Hp} {m : Addr} {o : HO} (h : ∀ xs, H m ≠ some (.tup xs)) : Tu H (upd H m o) := fun b xs e => by
  rw [upd_ne fun z => h xs (by rw [← z]; exact e)]
  exact e
theorem tuL {H : Hp} {m : Addr} {zs ws : List V} (h : H m = some (.lst zs)) : Tu H (upd H m (.lst ws)) := tuU fun xs z => by
  rw [h] at z
  cases z
theorem Pr.tu {H H' : Hp} {v : V} {p : Pl} (h : Pr H v p) (k : Tu H H') : Pr H' v p := by
  obtain ⟨t, rfl, h⟩ := h
  exact ⟨t, rfl, k _ _ h⟩
theorem Kr.tu {H H' : Hp} {v : V} {k : Tk} (h : Kr H v k) (q : Tu H H') : Kr H' v k := by
  obtain ⟨t, rfl, h⟩ := h
  exact ⟨t, rfl, q _ _ h⟩
theorem Br.tu {H H' : Hp} {v : V} {r : Pl × Int} (h : Br H v r) (k : Tu H H') : Br H' v r := by
  obtain ⟨t, u, rfl, h, q⟩ := h
  exact ⟨t, u, rfl, k _ _ h, q.tu k⟩
theorem Prs.tu {H H' : Hp} {vs : List V} {ps : List Pl} (h : Prs H vs ps) (k : Tu H H') : Prs H' vs ps := by
  induction h with
  | nil => exact .nil
  | cons a _ ih => exact .cons (a.tu k) ih
theorem Krs.tu {H H' : Hp} {vs : List V} {ks : List Tk} (h : Krs H vs ks) (k : Tu H H') : Krs H' vs ks := by
  induction h with
  | nil => exact .nil
  | cons a _ ih => exact .cons (a.tu k) ih
theorem Brs.tu {H H' : Hp} {vs : List V} {rs : List (Pl × Int)} (h : Brs H vs rs) (k : Tu H H') : Brs H' vs rs := by
  induction h with
  | nil => exact .nil
  | cons a _ ih => exact .cons (a.tu k) ih
/-- each item is as R says -/
inductive Fa {α : Type} (R : V → α → Prop) : List V → List α → Prop
  | nil : Fa R [] []
  | cons {v : V} {a : α} {vs : List V} {as : List α} : R v a → Fa R vs as → Fa R (v :: vs) (a :: as)
theorem Fa.mono {α : Type} {R R' : V → α → Prop} {vs : List V} {as : List α} (h : Fa R vs as) (k : ∀ v a, R v a → R' v a) : Fa R' vs as := by
  induction h with
  | nil => exact .nil
  | cons a _ ih => exact .cons (k _ _ a) ih
theorem Fa.len {α : Type} {R : V → α → Prop} {vs : List V} {as : List α} (h : Fa R vs as) : vs.length = as.length := by
  induction h with
  | nil => rfl
  | cons a _ ih => exact congrArg (· + 1) ih
theorem Fa.app {α : Type} {R : V → α → Prop} {vs us : List V} {as bs : List α} (h : Fa R vs as) (g : Fa R us bs) : Fa R (vs ++ us) (as ++ bs) := by
  induction h with
  | nil => exact g
  | cons a _ ih => exact .cons a ih
theorem Fa.snoc {α : Type} {R : V → α → Prop} {vs : List V} {v : V} {as : List α} {a : α} (h : Fa R vs as) (g : R v a) : Fa R (vs ++ [v]) (as ++ [a]) := h.app (.cons g .nil)
theorem Fa.at {α : Type} {R : V → α → Prop} {vs : List V} {as : List α} (h : Fa R vs as) : ∀ {i : Nat} {v : V}, vs[i]? = some v → ∃ a, as[i]? = some a ∧ R v a := by
  induction h with
  | nil => intro i v e; cases e
  | cons a _ ih =>
    intro i v e
    cases i with
    | zero => cases e; exact ⟨_, rfl, a⟩
    | succ i => exact ih e
theorem Fa.at' {α : Type} {R : V → α → Prop} {vs : List V} {as : List α} (h : Fa R vs as) : ∀ {i : Nat} {a : α}, as[i]? = some a → ∃ v, vs[i]? = some v ∧ R v a := by
  induction h with
  | nil => intro i v e; cases e
  | cons a _ ih =>
    intro i v e
    cases i with
    | zero => cases e; exact ⟨_, rfl, a⟩
    | succ i => exact ih e
theorem Fa.take {α : Type} {R : V → α → Prop} {vs : List V} {as : List α} (h : Fa R vs as) : ∀ n, Fa R (vs.take n) (as.take n) := by
  induction h with
  | nil => intro n; cases n <;> exact .nil
  | cons a _ ih => intro n; cases n with
    | zero => exact .nil
    | succ n => exact .cons a (ih n)
theorem Fa.drop {α : Type} {R : V → α → Prop} {vs : List V} {as : List α} (h : Fa R vs as) : ∀ n, Fa R (vs.drop n) (as.drop n) := by
  induction h with
  | nil => intro n; cases n <;> exact .nil
  | cons a r ih => intro n; cases n with
    | zero => exact .cons a r
    | succ n => exact ih n
/-- a link, its ends, its length -/
abbrev Ed := (Str × Int × Int) × Pl × Pl × Int
def En (H : Hp) (v : V) (e : Ed) : Prop := ∃ (t : Addr) (k a b : V), v = .ref t ∧ H t = some (.tup [k, a, b, .int e.2.2.2]) ∧ Kr H k (lkC e.1) ∧ Pr H a e.2.1 ∧ Pr H b e.2.2.1
theorem En.tu {H H' : Hp} {v : V} {e : Ed} (h : En H v e) (k : Tu H H') : En H' v e := by
  obtain ⟨t, c, a, b, rfl, h, h1, h2, h3⟩ := h
  exact ⟨t, c, a, b, rfl, k _ _ h, h1.tu k, h2.tu k, h3.tu k⟩
abbrev Ens (H : Hp) := Fa (En H)
theorem Ens.tu {H H' : Hp} {vs : List V} {es : List Ed} (h : Ens H vs es) (k : Tu H H') : Ens H' vs es := h.mono fun _ _ e => e.tu k
def upE (a h : Int) : Ed := (("up", a, h), (a, h), (a, h + 1), 1)
def ovE (gs : List Int) (a h : Int) : Ed := (("over", a, h), (a, h), (a + 1, h), nth gs a)
def upsE (n s : Nat) : List Ed := (List.range n).flatMap fun (a : Nat) => (List.range s).map fun (h : Nat) => upE a h
def ovsE (ls gs : List Int) (n : Nat) : List Ed := (List.range n).flatMap fun (a : Nat) => (crossN ls).map fun h => ovE gs a h
/-- all links of a house -/
def allE (ls gs : List Int) : List Ed := upsE (gs.length + 1) ls.sum.toNat ++ ovsE ls gs gs.length
theorem upsE_succ (n s : Nat) : upsE (n + 1) s = upsE n s ++ (List.range s).map fun (h : Nat) => upE n h := by
  unfold upsE
  rw [List.range_succ, List.flatMap_append]
  simp
theorem ovsE_succ (ls gs : List Int) (n : Nat) : ovsE ls gs (n + 1) = ovsE ls gs n ++ (crossN ls).map fun h => ovE gs n h := by
  unfold ovsE
  rw [List.range_succ, List.flatMap_append]
  simp
theorem upsE_len (n s : Nat) : (upsE n s).length = n * s := by
  induction n with
  | zero => simp [upsE]
  | succ n ih => rw [upsE_succ, List.length_append, ih, List.length_map, List.length_range, Nat.add_mul, Nat.one_mul]
theorem ovsE_len (ls gs : List Int) (n : Nat) : (ovsE ls gs n).length = n * (ls.length + 1) := by
  induction n with
  | zero => simp [ovsE]
  | succ n ih => rw [ovsE_succ, List.length_append, ih, List.length_map, crossN_len, Nat.add_mul, Nat.one_mul]
/-- the cross heights rise -/
theorem cross_rise {ls : List Int} (hL : Lens ls) (h1 : 1 ≤ ls.length) (h2 : ls.length ≤ 2) : (crossN ls).Pairwise (· < ·) ∧ ∀ k, k ∈ [0, nth ls 0, ls.sum] ↔ k ∈ crossN ls := by
  match ls, h1, h2 with
  | [a], _, _ =>
    have ha := (hL a (by simp)).1
    have e : crossN [a] = [0, a] := by
      show [(0 : Int), [a].sum] = [0, a]
      simp
    rw [e]
    refine ⟨by simp; omega, fun k => ?_⟩
    show k ∈ [0, a, [a].sum] ↔ _
    simp
  | [a, b], _, _ =>
    have ha := (hL a (by simp)).1
    have hb := (hL b (by simp)).1
    have e : crossN [a, b] = [0, a, a + b] := by
      show [(0 : Int), [a].sum, [a, b].sum] = [0, a, a + b]
      simp
    rw [e]
    refine ⟨by simp; omega, fun k => ?_⟩
    show k ∈ [0, a, [a, b].sum] ↔ _
    simp
def spAllE (K : PySem.W.Frag) : Sp := fun vs H Q _ => ∃ (l g : Addr) (ls gs : List Int), vs = [.ref l, .ref g] ∧ SqL K H l (ls.map V.int) ∧ SqL K H g (gs.map V.int) ∧ Lens ls ∧ 1 ≤ ls.length ∧ ls.length ≤ 2 ∧ gs.length ≤ 11 ∧
  ∀ (H' : Hp) (r : Addr) (xs : List V), Same H H' → H r = none → H' r = some (.lst xs) → Ens H' xs (allE ls gs) → Q (.ref r) H'
/-- a new entry behind the others -/
theorem ens_new {H H' : Hp} {r t1 t2 t3 t4 : Addr} {xs : List V} {es : List Ed} {e : Ed} {k a b : V} (n0 : H r = none) (k0 : Same H H') (hr : H' r = some (.lst xs)) (hx : Ens H' xs es) {H1 : Hp} (k1 : Same H' H1) (g1 : Kr H1 k (lkC e.1)) (g2 : Pr H1 a e.2.1) (g3 : Pr H1 b e.2.2.1) (g4 : H1 t4 = some (.tup [k, a, b, .int e.2.2.2])) :
    Same H (upd H1 r (.lst (xs ++ [.ref t4]))) ∧ (upd H1 r (.lst (xs ++ [.ref t4]))) r = some (.lst (xs ++ [.ref t4])) ∧ Ens (upd H1 r (.lst (xs ++ [.ref t4]))) (xs ++ [.ref t4]) (es ++ [e]) := by
  have hr1 := k1 _ _ hr
  have tu := tuL (ws := xs ++ [.ref t4]) hr1
  exact ⟨Same.over (k0.trans k1) n0, upd_same, (hx.tu ((tuS k1).trans tu)).snoc (En.tu ⟨t4, k, a, b, rfl, g4, g1, g2, g3⟩ tu)⟩
theorem ok_alle {f : Addr} {fd : FuncData} (F : Fun K "_law_all_links" "_law_all_links" s__law_all_links f fd) (hsum : mg "sum" = none) (hlen : mg "len" = none) (hrange : mg "range" = none) (hsorted : mg "sorted" = none) (hset : mg "set" = none) : FnOk P w K mg base CX0 1 f fd ["lengths", "gaps"] (spAllE K) := by
  refine F.ok sc__law_all_links (fun vs H Q E h => ?_) (fun cdv A outer s H vs Q E hr h => ?_)
  · obtain ⟨l, g, ls, gs, rfl, _⟩ := h
    rfl
  · obtain ⟨l, g, ls, gs, rfl, hl, hg, hL, hl1, hl2, hg11, q⟩ := h
    have nd := sc__law_all_links.nd
    have hline : 1000000 < sizeLine := by decide
    have top0 := hL.pos2
    have top80 := hL.top hl2
    refine ⟨_, (pss_cons (ps_set (i := 2) nd rfl (.inl rfl) (pe_callB (cr_sum rfl) (by rfl) hsum (by decide +kernel) (pa_cons (pv 0) pa_nil)))
      (pss_cons (ps_set (i := 3) nd rfl (.inl rfl) (pe_lst pa_nil))
      (pss_cons (ps_for PassesOwn.never rfl (pi_range1 rfl hrange (pa_cons (pe_op op_add (pe_callB call_len (by rfl) hlen (by decide +kernel) (pa_cons (pv 1) pa_nil)) pe_int) pa_nil)) (pg_name (i := 4) nd rfl (.inl rfl)) (pss_one (ps_for PassesOwn.never rfl (pi_range1 rfl hrange (pa_cons (pv 2) pa_nil)) (pg_name (i := 5) nd rfl (.inl rfl)) (pss_one (ps_expr (pe_bm PySem.F.plainAttrs_list PySem.F.slot_list_append PySem.F.type_list_append mt_append (pv 3) (pa_cons (pe_tup (pa_cons (pe_tup (pa_cons pe_str (pa_cons (pv 4) (pa_cons (pv 5) pa_nil)))) (pa_cons (pe_tup (pa_cons (pv 4) (pa_cons (pv 5) pa_nil))) (pa_cons (pe_tup (pa_cons (pv 4) (pa_cons (pe_op op_add (pv 5) pe_int) pa_nil))) (pa_cons pe_int pa_nil))))) pa_nil)))))))
      (pss_cons (ps_for PassesOwn.never rfl (pi_range1 rfl hrange (pa_cons (pe_callB call_len (by rfl) hlen (by decide +kernel) (pa_cons (pv 1) pa_nil)) pa_nil)) (pg_name (i := 4) nd rfl (.inl rfl)) (pss_one (ps_for PassesOwn.never rfl (pi_list (pe_callB (cr_sortedSet rfl) (by rfl) hsorted (by decide +kernel) (pa_cons (pe_callTy (cr_setI rfl) (by rfl) hset (by decide +kernel) (pa_cons (pe_lst (pa_cons pe_int (pa_cons (pe_ix ix_list (pv 0) pe_int (fun _ _ => rfl)) (pa_cons (pv 2) pa_nil)))) pa_nil)) pa_nil))) (pg_name (i := 5) nd rfl (.inl rfl)) (pss_one (ps_expr (pe_bm PySem.F.plainAttrs_list PySem.F.slot_list_append PySem.F.type_list_append mt_append (pv 3) (pa_cons (pe_tup (pa_cons (pe_tup (pa_cons pe_str (pa_cons (pv 4) (pa_cons (pv 5) pa_nil)))) (pa_cons (pe_tup (pa_cons (pv 4) (pa_cons (pv 5) pa_nil))) (pa_cons (pe_tup (pa_cons (pe_op op_add (pv 4) pe_int) (pa_cons (pv 5) pa_nil))) (pa_cons (pe_ix ix_list (pv 1) (pv 4) (fun _ _ => rfl)) pa_nil))))) pa_nil)))))))
      (pss_one (ps_ret (pv 3))))))), ?_⟩
    refine ⟨_, rfl, l, ls, rfl, hl, Nat.zero_le _, fun r nr => ?_⟩
    have k1 : Same H (upd H r (.lst [])) := same_upd nr
    refine ⟨_, rfl, _, _, rfl, .inl ⟨_, k1.seq hg, rfl⟩, _, _, rfl, rfl, _, rfl, (by rw [List.length_map]; omega), (by rw [List.length_map]; omega), ?_⟩
    rw [List.length_map, show ((gs.length : Int) + 1).toNat = gs.length + 1 by omega]
    refine for_range (lo := 0) (n := gs.length + 1) (fun i σ H' => ∃ (v4 v5 : Option V) (xs : List V), σ = [some (.ref l), some (.ref g), some (.int ls.sum), some (.ref r), v4, v5] ∧ Same H H' ∧ H' r = some (.lst xs) ∧ Ens H' xs (upsE i ls.sum.toNat)) ?_ ?_ ?_
    · exact ⟨none, none, [], rfl, k1, upd_same, .nil⟩
    · rintro i σ H' hi ⟨v4, v5, xs, rfl, k, hr', hx⟩
      refine ⟨_, rfl, _, rfl, by omega, by omega, ?_⟩
      refine for_range (lo := 0) (n := ls.sum.toNat) (fun j σ H' => ∃ (v5 : Option V) (xs : List V), σ = [some (.ref l), some (.ref g), some (.int ls.sum), some (.ref r), some (.int (0 + (i : Int))), v5] ∧ Same H H' ∧ H' r = some (.lst xs) ∧ Ens H' xs (upsE i ls.sum.toNat ++ (List.range j).map fun (h : Nat) => upE i h)) ?_ ?_ ?_
      · exact ⟨v5, xs, rfl, k, hr', by simpa using hx⟩
      · rintro j σ H' hj ⟨v5, xs, rfl, k, hr', hx⟩
        have hxl := hx.len
        rw [List.length_append, upsE_len, List.length_map, List.length_range] at hxl
        have hm : i * ls.sum.toNat ≤ 11 * 80 := Nat.mul_le_mul (by omega) (by omega)
        refine ⟨_, rfl, .inl ⟨rfl, _, SqL.of hr'⟩, _, rfl, _, rfl, (by show 3 ≤ sizeLine; decide), fun t1 nt1 => ?_⟩
        obtain ⟨H2, e2, k2, g2⟩ := made (o := .tup [V.str "up", .int (0 + (i : Int)), .int (0 + (j : Int))]) nt1
        rw [e2]
        refine ⟨_, rfl, _, rfl, (by show 2 ≤ sizeLine; decide), fun t2 nt2 => ?_⟩
        obtain ⟨H3, e3, k3, g3⟩ := made (o := .tup [V.int (0 + (i : Int)), .int (0 + (j : Int))]) nt2
        rw [e3]
        refine ⟨_, rfl, _, rfl, _, _, rfl, rfl, (by show 2 ≤ sizeLine; decide), fun t3 nt3 => ?_⟩
        obtain ⟨H4, e4, k4, g4⟩ := made (o := .tup [V.int (0 + (i : Int)), .int (0 + (j : Int) + 1)]) nt3
        rw [e4]
        refine ⟨(by show 4 ≤ sizeLine; decide), fun t4 nt4 => ?_⟩
        obtain ⟨H5, e5, k5, g5⟩ := made (o := .tup [V.ref t1, .ref t2, .ref t3, .int 1]) nt4
        rw [e5]
        have k25 := ((k2.trans k3).trans k4).trans k5
        have hr5 := k25 _ _ hr'
        refine ⟨r, xs, _, rfl, rfl, hr5, by omega, ?_⟩
        have z := ens_new (t1 := t1) (t2 := t2) (t3 := t3) (e := upE i j) (k := .ref t1) (a := .ref t2) (b := .ref t3) nr k hr' hx k25 ⟨t1, rfl, by rw [Int.zero_add, Int.zero_add] at g2; exact ((k3.trans k4).trans k5) _ _ g2⟩ ⟨t2, rfl, by rw [Int.zero_add, Int.zero_add] at g3; exact (k4.trans k5) _ _ g3⟩ ⟨t3, rfl, by rw [Int.zero_add, Int.zero_add] at g4; exact k5 _ _ g4⟩ g5
        refine ⟨_, xs ++ [.ref t4], rfl, z.1, z.2.1, ?_⟩
        rw [List.range_succ, List.map_append, ← List.append_assoc]
        exact z.2.2
      · rintro σ H' ⟨v5, xs, rfl, k, hr', hx⟩
        refine ⟨_, _, xs, rfl, k, hr', ?_⟩
        rw [upsE_succ]
        exact hx
    · rintro σ H' ⟨v4, v5, xs, rfl, k, hr', hx⟩
      refine ⟨_, rfl, _, _, rfl, .inl ⟨_, k.seq hg, rfl⟩, _, rfl, (by rw [List.length_map]; omega), (by rw [List.length_map]; omega), ?_⟩
      rw [List.length_map, show ((gs.length : Int)).toNat = gs.length by omega]
      refine for_range (lo := 0) (n := gs.length) (fun i σ H' => ∃ (v4 v5 : Option V) (xs : List V), σ = [some (.ref l), some (.ref g), some (.int ls.sum), some (.ref r), v4, v5] ∧ Same H H' ∧ H' r = some (.lst xs) ∧ Ens H' xs (upsE (gs.length + 1) ls.sum.toNat ++ ovsE ls gs i)) ?_ ?_ ?_
      · exact ⟨_, _, xs, rfl, k, hr', by simpa [ovsE] using hx⟩
      · rintro i σ H' hi ⟨v4, v5, xs, rfl, k, hr', hx⟩
        refine ⟨_, rfl, l, _, _, _, rfl, rfl, k.seq hl, atI_nth (by decide) (by omega), _, rfl, (by show 3 ≤ sizeLine; decide), fun m nm => ?_⟩
        obtain ⟨H1, e1, k1, g1⟩ := made (o := .lst ([0, nth ls 0, ls.sum].map V.int)) nm
        have e1' : upd H' m (.lst [V.int 0, .int (nth ls 0), .int ls.sum]) = H1 := e1
        rw [e1']
        refine ⟨m, [0, nth ls 0, ls.sum], rfl, SqL.of g1, (by show 3 ≤ 60; decide), fun sa c nsa hc => ?_⟩
        have ks : Same H1 (upd H1 sa (SetO w sa (fun j => decide (j ∈ [0, nth ls 0, ls.sum])) c)) := same_upd nsa
        refine ⟨sa, _, c, rfl, upd_same, Nat.lt_of_le_of_lt hc (by show 3 < 64; decide), fun ns p hpw hmem hnl np => ?_⟩
        obtain ⟨H3, e3, k3, g3⟩ := made (o := .lst (ns.map V.int)) np
        rw [e3]
        have k13 := (k1.trans ks).trans k3
        obtain ⟨c1, c2⟩ := cross_rise hL hl1 hl2
        have en : ns = crossN ls := rise_uniq hpw c1 fun k => by
          rw [hmem k, decide_eq_true_iff]
          exact c2 k
        subst en
        have hr3 := k13 _ _ hr'
        have nrp : r ≠ p := ne_of_none (ks _ _ (k1 _ _ hr')) np
        refine ⟨p, rfl, ⟨_, SqL.of g3⟩, ?_⟩
        refine for_list (K := K) (a := p) (xs := (crossN ls).map V.int) (fun j σ H' => ∃ (v5 : Option V) (xs : List V), σ = [some (.ref l), some (.ref g), some (.int ls.sum), some (.ref r), some (.int (0 + (i : Int))), v5] ∧ Same H H' ∧ H' r = some (.lst xs) ∧ H' p = some (.lst ((crossN ls).map V.int)) ∧ Ens H' xs (upsE (gs.length + 1) ls.sum.toNat ++ ovsE ls gs i ++ ((crossN ls).take j).map fun h => ovE gs i h)) ?_ ?_ ?_ ?_
        · exact ⟨v5, xs, rfl, k.trans k13, hr3, g3, by simpa using hx.tu (tuS k13)⟩
        · rintro j σ H' _ ⟨_, _, _, _, _, h, _⟩
          exact SqL.of h
        · rintro j x σ H' hxj ⟨v5, xs, rfl, k, hr', hp', hx⟩
          rw [List.getElem?_map] at hxj
          cases hn : (crossN ls)[j]? with
          | none => rw [hn] at hxj; cases hxj
          | some h =>
            rw [hn] at hxj
            cases hxj
            have hxl := hx.len
            rw [List.length_append, List.length_append, upsE_len, ovsE_len, List.length_map, List.length_take, crossN_len] at hxl
            have hm : (gs.length + 1) * ls.sum.toNat ≤ 12 * 80 := Nat.mul_le_mul (by omega) (by omega)
            have hm2 : i * (ls.length + 1) ≤ 11 * 3 := Nat.mul_le_mul (by omega) (by omega)
            refine ⟨_, rfl, .inl ⟨rfl, _, SqL.of hr'⟩, _, rfl, _, rfl, (by show 3 ≤ sizeLine; decide), fun t1 nt1 => ?_⟩
            obtain ⟨H2, e2, k2, g2⟩ := made (o := .tup [V.str "over", .int (0 + (i : Int)), .int h]) nt1
            rw [e2]
            refine ⟨_, rfl, _, rfl, (by show 2 ≤ sizeLine; decide), fun t2 nt2 => ?_⟩
            obtain ⟨H3, e3, k3, g3⟩ := made (o := .tup [V.int (0 + (i : Int)), .int h]) nt2
            rw [e3]
            refine ⟨_, rfl, _, _, rfl, rfl, _, rfl, (by show 2 ≤ sizeLine; decide), fun t3 nt3 => ?_⟩
            obtain ⟨H4, e4, k4, g4⟩ := made (o := .tup [V.int (0 + (i : Int) + 1), .int h]) nt3
            rw [e4]
            have k24 := (k2.trans k3).trans k4
            refine ⟨_, rfl, _, rfl, g, _, _, _, rfl, rfl, (k.trans k24).seq hg, atI_nth (by omega) (by omega), (by show 4 ≤ sizeLine; decide), fun t4 nt4 => ?_⟩
            obtain ⟨H5, e5, k5, g5⟩ := made (o := .tup [V.ref t1, .ref t2, .ref t3, .int (nth gs (0 + (i : Int)))]) nt4
            rw [e5]
            have k25 := k24.trans k5
            have hr5 := k25 _ _ hr'
            refine ⟨r, xs, _, rfl, rfl, hr5, by omega, ?_⟩
            rw [Int.zero_add] at g2 g3 g4 g5
            have z := ens_new (t1 := t1) (t2 := t2) (t3 := t3) (e := ovE gs i h) (k := .ref t1) (a := .ref t2) (b := .ref t3) nr k hr' hx k25 ⟨t1, rfl, ((k3.trans k4).trans k5) _ _ g2⟩ ⟨t2, rfl, (k4.trans k5) _ _ g3⟩ ⟨t3, rfl, k5 _ _ g4⟩ g5
            refine ⟨_, xs ++ [.ref t4], rfl, z.1, z.2.1, ?_, ?_⟩
            · have nrp' : p ≠ r := nrp.symm
              rw [upd_ne nrp']
              exact k25 _ _ hp'
            · rw [List.take_add_one, hn, List.map_append, ← List.append_assoc]
              exact z.2.2
        · rintro σ H' ⟨v5, xs, rfl, k, hr', hp', hx⟩
          refine ⟨_, _, xs, rfl, k, hr', ?_⟩
          rw [List.length_map, List.take_length] at hx
          rw [ovsE_succ, ← List.append_assoc]
          exact hx
      · rintro σ H' ⟨v4, v5, xs, rfl, k, hr', hx⟩
        exact ⟨_, rfl, q H' r xs k nr hr' hx⟩
end
section
open GxR NdefX PySem.Spec PyProof.Rows
variable {P : Program} {w : World} {K : PySem.W.Frag} {mg : Str → Option Value} {base : Heap}
theorem mem_upsE {n s : Nat} {e : Ed} : e ∈ upsE n s ↔ ∃ a h : Nat, a < n ∧ h < s ∧ e = upE a h := by
  unfold upsE
  simp only [List.mem_flatMap, List.mem_range, List.mem_map]
  constructor
  · rintro ⟨a, ha, h, hh, rfl⟩
    exact ⟨a, h, ha, hh, rfl⟩
  · rintro ⟨a, h, ha, hh, rfl⟩
    exact ⟨a, ha, h, hh, rfl⟩
theorem mem_ovsE {ls gs : List Int} {n : Nat} {e : Ed} : e ∈ ovsE ls gs n ↔ ∃ a : Nat, a < n ∧ ∃ h ∈ crossN ls, e = ovE gs a h := by
  unfold ovsE
  simp only [List.mem_flatMap, List.mem_range, List.mem_map]
  constructor
  · rintro ⟨a, ha, h, hh, rfl⟩
    exact ⟨a, ha, h, hh, rfl⟩
  · rintro ⟨a, ha, h, hh, rfl⟩
    exact ⟨a, ha, h, hh, rfl⟩
/-- a link as an entry -/
def edC (gs : List Int) (c : Str × Int × Int) : Ed := (c, (c.2.1, c.2.2), farP c.1 c.2.1 c.2.2, lenLk gs c.1 c.2.1)
theorem upE_ed (gs : List Int) (a h : Int) : upE a h = edC gs ("up", a, h) := by
  show _ = ((("up" : Str), a, h), (a, h), (if ("up" : Str) = "up" then (a, h + 1) else (a + 1, h)), (if ("up" : Str) = "up" then (1 : Int) else nth gs a))
  rw [if_pos rfl, if_pos rfl]
  rfl
theorem ovE_ed (gs : List Int) (a h : Int) : ovE gs a h = edC gs ("over", a, h) := by
  show _ = ((("over" : Str), a, h), (a, h), (if ("over" : Str) = "up" then (a, h + 1) else (a + 1, h)), (if ("over" : Str) = "up" then (1 : Int) else nth gs a))
  rw [if_neg over_up, if_neg over_up]
  rfl
theorem mem_allE {ls gs : List Int} (h0 : 0 ≤ ls.sum) {e : Ed} : e ∈ allE ls gs ↔ e = edC gs e.1 ∧ isLk ls gs e.1.1 e.1.2.1 e.1.2.2 = true := by
  unfold allE
  rw [List.mem_append, mem_upsE, mem_ovsE]
  constructor
  · rintro (⟨a, h, ha, hh, rfl⟩ | ⟨a, ha, h, hh, rfl⟩)
    · refine ⟨upE_ed gs a h, ?_⟩
      show (if ("up" : Str) = "up" then (decide ((0 : Int) ≤ (a : Int)) && decide ((a : Int) ≤ gs.length)) && (decide ((0 : Int) ≤ (h : Int)) && decide ((h : Int) < ls.sum)) else _) = true
      rw [if_pos rfl, decide_eq_true (show (0 : Int) ≤ a by omega), decide_eq_true (show (a : Int) ≤ gs.length by omega), decide_eq_true (show (0 : Int) ≤ h by omega), decide_eq_true (show (h : Int) < ls.sum by omega)]
      rfl
    · refine ⟨ovE_ed gs a h, ?_⟩
      show (if ("over" : Str) = "up" then _ else decide (("over" : Str) = "over") && ((decide ((0 : Int) ≤ (a : Int)) && decide ((a : Int) < gs.length)) && decide (h ∈ crossN ls))) = true
      rw [if_neg over_up, decide_eq_true (show (("over" : Str) = "over") from rfl), decide_eq_true (show (0 : Int) ≤ a by omega), decide_eq_true (show (a : Int) < gs.length by omega), decide_eq_true hh]
      rfl
  · rintro ⟨e1, e2⟩
    have z := (mem_links h0 e.1).mpr e2
    unfold linksL at z
    rcases List.mem_append.mp z with z | z
    · right
      unfold oversL overA at z
      simp only [List.mem_flatMap, List.mem_range, List.mem_map] at z
      obtain ⟨a, ha, h, hh, z⟩ := z
      exact ⟨a, ha, h, hh, by rw [e1, ← z, ovE_ed]⟩
    · left
      unfold upsL at z
      obtain ⟨p, hp, z⟩ := List.mem_map.mp z
      obtain ⟨p1, p2⟩ := p
      obtain ⟨b0, b1, b2, b3⟩ := mem_grid.mp hp
      refine ⟨p1.toNat, p2.toNat, by omega, by omega, ?_⟩
      rw [e1, ← z, upE_ed gs, show ((p1.toNat : Nat) : Int) = p1 by omega, show ((p2.toNat : Nat) : Int) = p2 by omega]
theorem isLk_word {ls gs : List Int} {x : Str} {a h : Int} (e : isLk ls gs x a h = true) : x = "up" ∨ x = "over" := by
  by_cases h1 : x = "up"
  · exact .inl h1
  · by_cases h2 : x = "over"
    · exact .inr h2
    · unfold isLk at e
      rw [if_neg h1, decide_eq_false h2] at e
      cases e
theorem okk_lk {ls gs : List Int} {c : Str × Int × Int} (e : isLk ls gs c.1 c.2.1 c.2.2 = true) : okk (lkC c) = true := by
  rcases isLk_word e with z | z
  · exact ok_lk (by rw [z]; decide +kernel) _ _
  · exact ok_lk (by rw [z]; decide +kernel) _ _
theorem kOf_snoc (cs : List (Str × Int × Int)) (c : Str × Int × Int) : kOf (cs ++ [c]) = kOf cs ++ [lkC c] := by
  rw [kOf_app]
  rfl
theorem pick6 {z : Int} (h0 : 0 ≤ z) (h6 : z < 6) (a b c d e f : Int) (hb : ∀ x ∈ [a, b, c, d, e, f], 0 ≤ x ∧ x ≤ 8) : ∃ mo : Int, atI [V.int a, .int b, .int c, .int d, .int e, .int f] z = some (.int mo) ∧ 0 ≤ mo ∧ mo ≤ 8 ∧ mo ∈ [a, b, c, d, e, f] := by
  have e6 : z = 0 ∨ z = 1 ∨ z = 2 ∨ z = 3 ∨ z = 4 ∨ z = 5 := by omega
  rcases e6 with e' | e' | e' | e' | e' | e' <;> rw [e']
  · exact ⟨a, rfl, (hb a (by simp)).1, (hb a (by simp)).2, by simp⟩
  · exact ⟨b, rfl, (hb b (by simp)).1, (hb b (by simp)).2, by simp⟩
  · exact ⟨c, rfl, (hb c (by simp)).1, (hb c (by simp)).2, by simp⟩
  · exact ⟨d, rfl, (hb d (by simp)).1, (hb d (by simp)).2, by simp⟩
  · exact ⟨e, rfl, (hb e (by simp)).1, (hb e (by simp)).2, by simp⟩
  · exact ⟨f, rfl, (hb f (by simp)).1, (hb f (by simp)).2, by simp⟩
/-- the three lists of parts stand at a tuple -/
def PartsAt (H : Hp) (p : Addr) (ls gs : List Int) (cs : List (Str × Int × Int)) : Prop := ∃ (l g c : Addr) (xs : List V), H p = some (.tup [.ref l, .ref g, .ref c]) ∧ H l = some (.lst (ls.map V.int)) ∧ H g = some (.lst (gs.map V.int)) ∧ H c = some (.lst xs) ∧ Krs H xs (kOf cs)
theorem PartsAt.kp {H H' : Hp} {p : Addr} {ls gs : List Int} {cs : List (Str × Int × Int)} (h : PartsAt H p ls gs cs) (k : Kp H H') : PartsAt H' p ls gs cs := by
  obtain ⟨l, g, c, xs, h1, h2, h3, h4, h5⟩ := h
  exact ⟨l, g, c, xs, k.tup h1, k.lst h2, k.lst h3, k.lst h4, h5.kp k⟩
theorem PartsAt.same {H H' : Hp} {p : Addr} {ls gs : List Int} {cs : List (Str × Int × Int)} (h : PartsAt H p ls gs cs) (k : Same H H') : PartsAt H' p ls gs cs := h.kp (kpS k)
def spParts (K : PySem.W.Frag) : Sp := fun vs H Q _ => ∃ (n : Addr) (ns : List Int) (a : Nat), vs = [.ref n, .int (a : Int)] ∧ SqL K H n (ns.map V.int) ∧ Small ns ∧ a + 16 ≤ ns.length ∧
  ∀ (H' : Hp) (p : Addr) (ls gs : List Int) (cs : List (Str × Int × Int)), Same H H' → H p = none → PartsAt H' p ls gs cs → Valid ls gs cs → ls.sum ≤ 9 → cs.length ≤ 8 → (gs.length ≤ 4 ∨ ls.sum ≤ 5) → Q (.ref p) H'
abbrev NP : List Str := ["numbers", "at", "lengths", "gaps", "links", "closed", "k", "link"]
theorem ok_parts {f fA : Addr} {fd fdA : FuncData} (F : Fun K "_law_parts" "_law_parts" s__law_parts f fd) (Z : LawTop mg) (FAk : PySem.W.keepIn K (.ref fA) = true) (GA : FnOk P w K mg base CX0 1 fA fdA ["lengths", "gaps"] (spAllE K)) (bA : Binds K fdA ["lengths", "gaps"] []) (gA : mg "_law_all_links" = some (.ref fA)) : FnOk P w K mg base CX0 2 f fd ["numbers", "at"] (spParts K) := by
  refine F.ok sc__law_parts (fun vs H Q E h => ?_) (fun cdv A outer s H vs Q E hr h => ?_)
  · obtain ⟨n, ns, a, rfl, _⟩ := h
    rfl
  · obtain ⟨n, ns, a, rfl, hn, hs, ha, q⟩ := h
    have nd : NP.Nodup := sc__law_parts.nd
    have hline : 1000000 < sizeLine := by decide
    refine ⟨_, (pss_cons (ps_set (i := 2) nd rfl (.inl rfl) (pe_lst (pa_cons (pe_op op_add pe_int (pe_op op_mod (pe_callTy call_int1 (by rfl) Z.int (by decide +kernel) (pa_cons (pe_ix ix_list (pv 0) (pv 1) (fun _ _ => rfl)) pa_nil)) pe_int)) pa_nil)))
      (C8.pss_cut (ps_if (pt_cmpR op_eq (pe_op op_mod (pe_callTy call_int1 (by rfl) Z.int (by decide +kernel) (pa_cons (pe_op op_fdiv (pe_ix ix_list (pv 0) (pv 1) (fun _ _ => rfl)) pe_int) pa_nil)) pe_int) pe_int (nomark _)) (pss_one (ps_expr (pe_bm PySem.F.plainAttrs_list PySem.F.slot_list_append PySem.F.type_list_append mt_append (pv 2) (pa_cons (pe_op op_add pe_int (pe_op op_mod (pe_callTy call_int1 (by rfl) Z.int (by decide +kernel) (pa_cons (pe_op op_fdiv (pe_ix ix_list (pv 0) (pv 1) (fun _ _ => rfl)) pe_int) pa_nil)) pe_int)) pa_nil)))) pss_nil)
      (pss_cons (ps_setLc (i := 3) (own := [("k", 6)]) (g := gName 6) (tt := tYes) rfl nd rfl rfl rfl (pi_range1 rfl Z.range (pa_cons (pe_ix ix_list (pe_lst (pa_cons pe_int (pa_cons pe_int (pa_cons pe_int (pa_cons pe_int (pa_cons pe_int (pa_cons pe_int pa_nil))))))) (pe_op op_mod (pe_callTy call_int1 (by rfl) Z.int (by decide +kernel) (pa_cons (pe_ix ix_list (pv 0) (pe_op op_add (pv 1) pe_int) (fun _ _ => rfl)) pa_nil)) pe_int) (fun _ _ => rfl)) pa_nil)) (blkOk_by (N := NP) (sc := defScope s__law_parts) (by decide +kernel)) (fun _ _ _ _ _ => pg_name (i := 6) nd rfl (Or.inl rfl)) (fun _ _ _ _ _ => pts_nil) (fun _ _ _ _ _ => (pe_op op_add pe_int (pe_op op_mod (pe_callTy call_int1 (by rfl) Z.int (by decide +kernel) (pa_cons (pe_ix (r := rIxL K) ix_list (pv 0) (pe_op op_add (pe_op op_add (pv 1) pe_int) (pv 6)) (fun _ _ => rfl)) pa_nil)) pe_int))))
      (C8.pss_cut (ps_if (pt_cmpR op_eq (pe_op op_mod (pe_callTy call_int1 (by rfl) Z.int (by decide +kernel) (pa_cons (pe_ix ix_list (pv 0) (pe_op op_add (pv 1) pe_int) (fun _ _ => rfl)) pa_nil)) pe_int) pe_int (nomark _)) (pss_cons (ps_set (i := 2) nd rfl (.inl rfl) (pe_lst (pa_cons (pe_op op_add pe_int (pe_op op_mod (pe_callTy call_int1 (by rfl) Z.int (by decide +kernel) (pa_cons (pe_ix ix_list (pv 0) (pv 1) (fun _ _ => rfl)) pa_nil)) pe_int)) (pa_cons pe_int pa_nil))))
      (pss_one (ps_setLc (i := 3) (own := [("k", 6)]) (g := gName 6) (tt := tYes) rfl nd rfl rfl rfl (pi_range1 rfl Z.range (pa_cons pe_int pa_nil)) (blkOk_by (N := NP) (sc := defScope s__law_parts) (by decide +kernel)) (fun _ _ _ _ _ => pg_name (i := 6) nd rfl (Or.inl rfl)) (fun _ _ _ _ _ => pts_nil) (fun _ _ _ _ _ => (pe_op op_add pe_int (pe_op op_mod (pe_callTy call_int1 (by rfl) Z.int (by decide +kernel) (pa_cons (pe_op op_add (pe_ix (r := rIxL K) ix_list (pv 0) (pe_op op_add (pv 1) pe_int) (fun _ _ => rfl)) (pe_op op_mul pe_int (pv 6))) pa_nil)) pe_int)))))) pss_nil)
      (pss_cons (ps_set (i := 4) nd rfl (.inl rfl) (pe_call GA (by exact hr.mono (by decide)) (by rfl) gA FAk bA .nil pass0 (pa_cons (pv 2) (pa_cons (pv 3) pa_nil))))
      (pss_cons (ps_set (i := 5) nd rfl (.inl rfl) (pe_lst pa_nil))
      (pss_cons (ps_for PassesOwn.never rfl (pi_range1 rfl Z.range (pa_cons (pe_ix ix_list (pe_lst (pa_cons pe_int (pa_cons pe_int (pa_cons pe_int (pa_cons pe_int (pa_cons pe_int (pa_cons pe_int pa_nil))))))) (pe_op op_mod (pe_callTy call_int1 (by rfl) Z.int (by decide +kernel) (pa_cons (pe_ix ix_list (pv 0) (pe_op op_add (pv 1) pe_int) (fun _ _ => rfl)) pa_nil)) pe_int) (fun _ _ => rfl)) pa_nil)) (pg_name (i := 6) nd rfl (.inl rfl)) (pss_cons (ps_set (i := 7) nd rfl (.inl rfl) (pe_ix ix_tup (pe_ix ix_list (pv 4) (pe_op op_mod (pe_callTy call_int1 (by rfl) Z.int (by decide +kernel) (pa_cons (pe_op op_add (pe_ix ix_list (pv 0) (pe_op op_add (pe_op op_add (pv 1) pe_int) (pv 6)) (fun _ _ => rfl)) (pe_op op_mul pe_int (pv 6))) pa_nil)) (pe_callB call_len (by rfl) Z.len (by decide +kernel) (pa_cons (pv 4) pa_nil))) (fun _ _ => rfl)) pe_int (fun _ _ => rfl)))
      (pss_one (ps_if (pt_cmpR (op_notInD (room65 hr)) (pv 7) (pv 5) (by rfl)) (pss_one (ps_expr (pe_bm PySem.F.plainAttrs_list PySem.F.slot_list_append PySem.F.type_list_append mt_append (pv 5) (pa_cons (pv 7) pa_nil)))) pss_nil))))
      (pss_one (ps_ret (pe_tup (pa_cons (pv 2) (pa_cons (pv 3) (pa_cons (pv 5) pa_nil))))))))))))), ?_⟩
    have a0 : (0 : Int) ≤ (a : Int) := Int.natCast_nonneg a
    have sm := nth_small hs
    have at_ : ∀ {i : Int}, 0 ≤ i → i < ns.length → atI (ns.map V.int) i = some (V.int (nth ns i)) := fun h0 h1 => atI_nth h0 h1
    -- lengths
    refine ⟨_, rfl, _, rfl, n, _, _, _, rfl, rfl, hn, at_ a0 (by omega), .inl ⟨_, rfl, _, _, rfl, rfl, (by show (0 : Int) < 5; decide), _, _, rfl, rfl, (by show 1 ≤ sizeLine; decide), fun l nl => ?_⟩⟩
    obtain ⟨H1, e1, k1, g1⟩ := made (o := .lst ([1 + nth ns a % 5].map V.int)) nl
    have e1' : upd H l (.lst [V.int (1 + nth ns a % 5)]) = H1 := e1
    rw [e1']
    have d0 := sm a
    refine ⟨fun σ H' => ∃ (l : Addr) (ls : List Int), σ = [some (.ref n), some (.int (a : Int)), some (.ref l), none, none, none, none, none] ∧ Same H H' ∧ H l = none ∧ H' l = some (.lst (ls.map V.int)) ∧ Lens ls ∧ 1 ≤ ls.length ∧ ls.length ≤ 2 ∧ ls.sum ≤ 9, ?_, ?_⟩
    · refine ⟨_, rfl, _, rfl, n, _, _, _, rfl, rfl, k1.seq hn, at_ a0 (by omega), _, _, rfl, rfl, ⟨by decide, by decide⟩, .inl ⟨_, rfl, _, _, rfl, rfl, (by show (0 : Int) < 2; decide), rfl, _, rfl, ?_⟩⟩
      have L1 : Lens [1 + nth ns a % 5] := fun x hx => by
        rw [List.mem_singleton.mp hx]
        omega
      refine ite2 (fun hc => ?_) (fun hc => ?_)
      · refine ⟨_, rfl, .inl ⟨rfl, _, SqL.of g1⟩, _, rfl, _, rfl, n, _, _, _, rfl, rfl, k1.seq hn, at_ a0 (by omega), _, _, rfl, rfl, ⟨by decide, by decide⟩, .inl ⟨_, rfl, _, _, rfl, rfl, (by show (0 : Int) < 4; decide), _, _, rfl, rfl, l, _, _, rfl, rfl, g1, (by show 1 < sizeLine; decide), ?_⟩⟩
        refine ⟨l, [1 + nth ns a % 5, 1 + nth ns a / 10 % 4], rfl, Same.over k1 nl, nl, upd_same, L1.snoc (by omega) (by omega), (by show 1 ≤ 2; decide), (by show 2 ≤ 2; decide), ?_⟩
        show (1 + nth ns a % 5) + ((1 + nth ns a / 10 % 4) + 0) ≤ 9
        omega
      · refine ⟨l, [1 + nth ns a % 5], rfl, k1, nl, g1, L1, (by show 1 ≤ 1; decide), (by show 1 ≤ 2; decide), ?_⟩
        show (1 + nth ns a % 5) + 0 ≤ 9
        omega
    clear e1' e1 g1 k1 nl
    rintro σ1 H1 ⟨l, ls, rfl, k1, nl, gl1, hL, hl1, hl2, hl9⟩
    -- gaps
    refine ⟨(by show 6 ≤ sizeLine; decide), fun m nm => ?_⟩
    obtain ⟨H2, e2, k2', g2⟩ := made (o := .lst [V.int 0, .int 1, .int 2, .int 3, .int 4, .int 2]) nm
    rw [e2]
    have k2 := k1.trans k2'
    have gl2 := k2' _ _ gl1
    obtain ⟨mo, hmo, mo0, mo8, mm⟩ := pick6 (z := nth ns ((a : Int) + 1) % 6) (Int.emod_nonneg _ (by decide)) (Int.emod_lt_of_pos _ (by decide)) 0 1 2 3 4 2 (by decide)
    refine ⟨_, rfl, _, rfl, _, _, rfl, rfl, n, _, _, _, rfl, rfl, k2.seq hn, at_ (by omega) (by omega), .inl ⟨_, rfl, _, _, rfl, rfl, (by show (0 : Int) < 6; decide), m, _, _, _, rfl, rfl, SqL.of g2, hmo, mo, rfl, by omega, by omega, fun D nD => ?_⟩⟩
    refine lc_range (lo := 0) (n := mo.toNat) (fun i H' => ∃ gs : List Int, H' = upd H2 D (.lst (gs.map V.int)) ∧ gs.length = i ∧ Lens gs) ?_ ?_ ?_
    · exact ⟨[], rfl, rfl, fun x z => nomatch z⟩
    · rintro i H' hi ⟨gs, rfl, hgl, hG⟩
      have z0 := sm ((a : Int) + 2 + (0 + (i : Int)))
      refine ⟨rfl, _, rfl, _, rfl, _, _, rfl, rfl, _, rfl, _, _, rfl, rfl, n, _, _, _, rfl, rfl, (k2.trans (same_upd nD)).seq hn, at_ (by omega) (by omega), .inl ⟨_, rfl, _, _, rfl, rfl, (by show (0 : Int) < 6; decide), _, _, rfl, rfl, _, upd_same, ?_, gs ++ [1 + nth ns ((a : Int) + 2 + (0 + (i : Int))) % 6], ?_, ?_, hG.snoc (by omega) (by omega)⟩⟩
      · rw [List.length_map]
        omega
      · rw [upd_upd, List.map_append]
        rfl
      · rw [List.length_append, hgl]
        rfl
    rintro H' ⟨gs, rfl, hgl, hG⟩
    have hg11 : gs.length ≤ 11 := by omega
    have mo4 : mo ≤ 4 := by
      simp at mm
      omega
    have hg4 : gs.length ≤ 4 := by omega
    obtain ⟨H3, e3, k3', g3⟩ := made (o := .lst (gs.map V.int)) nD
    rw [e3]
    have nG : H D = none := k2.free nD
    have k3 := k2.trans k3'
    have gl3 := k3' _ _ gl2
    refine ⟨fun σ H' => ∃ (l g : Addr) (ls gs : List Int), σ = [some (.ref n), some (.int (a : Int)), some (.ref l), some (.ref g), none, none, none, none] ∧ Same H H' ∧ H' l = some (.lst (ls.map V.int)) ∧ H' g = some (.lst (gs.map V.int)) ∧ Lens ls ∧ 1 ≤ ls.length ∧ ls.length ≤ 2 ∧ ls.sum ≤ 9 ∧ Lens gs ∧ gs.length ≤ 11 ∧ (gs.length ≤ 4 ∨ ls.sum ≤ 5), ?_, ?_⟩
    · refine ⟨_, rfl, _, rfl, _, _, rfl, rfl, n, _, _, _, rfl, rfl, k3.seq hn, at_ (by omega) (by omega), .inl ⟨_, rfl, _, _, rfl, rfl, (by show (0 : Int) < 24; decide), rfl, _, rfl, ?_⟩⟩
      refine ite2 (fun hc => ?_) (fun hc => ?_)
      · refine ⟨_, rfl, _, rfl, n, _, _, _, rfl, rfl, k3.seq hn, at_ a0 (by omega), .inl ⟨_, rfl, _, _, rfl, rfl, (by show (0 : Int) < 3; decide), _, _, rfl, rfl, (by show 2 ≤ sizeLine; decide), fun l2 nl2 => ?_⟩⟩
        obtain ⟨H4, e4, k4', g4⟩ := made (o := .lst ([1 + nth ns a % 3, 2].map V.int)) nl2
        have e4' : upd H3 l2 (.lst [V.int (1 + nth ns a % 3), .int 2]) = H4 := e4
        rw [e4']
        have k4 := k3.trans k4'
        refine ⟨11, rfl, by decide, by decide, fun D nD => ?_⟩
        refine lc_range (lo := 0) (n := 11) (fun i H' => ∃ gs : List Int, H' = upd H4 D (.lst (gs.map V.int)) ∧ gs.length = i ∧ Lens gs) ?_ ?_ ?_
        · exact ⟨[], rfl, rfl, fun x z => nomatch z⟩
        · rintro i H' hi ⟨gs, rfl, hgl, hG⟩
          have z0 := sm ((a : Int) + 2)
          refine ⟨rfl, _, rfl, _, rfl, _, _, rfl, rfl, n, _, _, _, rfl, rfl, (k4.trans (same_upd nD)).seq hn, at_ (by omega) (by omega), _, rfl, _, _, rfl, rfl, .inl ⟨by decide, by decide⟩, _, _, rfl, rfl, .inl ⟨_, rfl, _, _, rfl, rfl, (by show (0 : Int) < 40; decide), _, _, rfl, rfl, _, upd_same, ?_, gs ++ [1 + (nth ns ((a : Int) + 2) + 3 * (0 + (i : Int))) % 40], ?_, ?_, hG.snoc (by omega) (by omega)⟩⟩
          · rw [List.length_map]
            omega
          · rw [upd_upd, List.map_append]
            rfl
          · rw [List.length_append, hgl]
            rfl
        rintro H' ⟨gs, rfl, hgl, hG⟩
        have kk := same_upd (o := .lst (gs.map V.int)) nD
        refine ⟨l2, D, [1 + nth ns a % 3, 2], gs, rfl, k4.trans kk, kk _ _ g4, upd_same, fun x hx => ?_, (by show 1 ≤ 2; decide), (by show 2 ≤ 2; decide), ?_, hG, by omega, .inr (by show (1 + nth ns a % 3) + (2 + 0) ≤ 5; omega)⟩
        · rcases List.mem_cons.mp hx with rfl | hx
          · omega
          · rw [List.mem_singleton.mp hx]
            omega
        · show (1 + nth ns a % 3) + (2 + 0) ≤ 9
          omega
      · exact ⟨l, D, ls, gs, rfl, k3, gl3, g3, hL, hl1, hl2, hl9, hG, hg11, .inl hg4⟩
    clear e3 e2 k3 gl3 g3 hL hl1 hl2 hl9 hG hg11 hg4 k3' nG hgl nD gl2 k2 g2 k2' nm gl1 k1 nl hmo
    rintro σ4 H4 ⟨l, g, ls, gs, rfl, k4, gl4, gg4, hL, hl1, hl2, hl9, hG, hg11, hcor⟩
    -- links
    refine ⟨_, rfl, _, rfl, l, g, ls, gs, rfl, SqL.of gl4, SqL.of gg4, hL, hl1, hl2, hg11, fun H5 r xs k5' nr gr hxs => ?_⟩
    have k5 := k4.trans k5'
    have gl5 := k5' _ _ gl4
    have gg5 := k5' _ _ gg4
    have hxl := hxs.len
    have top0 := hL.pos2
    have top1 := hL.pos1 hl1
    have elen : 1 ≤ (allE ls gs).length := by
      unfold allE
      rw [List.length_append, upsE_len]
      have : 1 * 1 ≤ (gs.length + 1) * ls.sum.toNat := Nat.mul_le_mul (by omega) (by omega)
      omega
    -- closed
    refine ⟨Nat.zero_le _, fun c nc => ?_⟩
    have nc0 : H c = none := k5.free nc
    have kc : Same H5 (upd H5 c (.lst [])) := same_upd nc
    refine ⟨(by show 6 ≤ sizeLine; decide), fun m nm => ?_⟩
    have k7' : Same (upd H5 c (.lst [])) (upd (upd H5 c (.lst [])) m (.lst [V.int 0, .int 0, .int 1, .int 2, .int 4, .int 8])) := same_upd nm
    obtain ⟨mo, hmo, mo0, mo8, _⟩ := pick6 (z := nth ns ((a : Int) + 7) % 6) (Int.emod_nonneg _ (by decide)) (Int.emod_lt_of_pos _ (by decide)) 0 0 1 2 4 8 (by decide)
    have k7 := (k5.trans kc).trans k7'
    refine ⟨_, rfl, _, rfl, _, _, rfl, rfl, n, _, _, _, rfl, rfl, k7.seq hn, at_ (by omega) (by omega), .inl ⟨_, rfl, _, _, rfl, rfl, (by show (0 : Int) < 6; decide), m, _, _, _, rfl, rfl, SqL.of upd_same, hmo, mo, rfl, by omega, by omega, ?_⟩⟩
    refine for_range (lo := 0) (n := mo.toNat) (fun i σ H' => ∃ (v6 v7 : Option V) (ys : List V) (cs : List (Str × Int × Int)), σ = [some (.ref n), some (.int (a : Int)), some (.ref l), some (.ref g), some (.ref r), some (.ref c), v6, v7] ∧ Same H5 H' ∧ H' c = some (.lst ys) ∧ Krs H' ys (kOf cs) ∧ (kOf cs).Nodup ∧
        (∀ d ∈ cs, isLk ls gs d.1 d.2.1 d.2.2 = true) ∧ cs.length ≤ i) ?_ ?_ ?_
    · exact ⟨none, none, [], [], rfl, kc.trans k7', k7' _ _ upd_same, .nil, .nil, (fun d z => nomatch z), Nat.zero_le _⟩
    · rintro i σ H' hi ⟨v6, v7, ys, cs, rfl, k', hc, hx, hnd, hlk, hle⟩
      have z0 := sm ((a : Int) + 8 + (0 + (i : Int)))
      have gr' := k' _ _ gr
      have hxs' := Ens.tu hxs (tuS k')
      have lp : (0 : Int) < (xs.length : Int) := by omega
      have j0 := Int.emod_nonneg (nth ns ((a : Int) + 8 + (0 + (i : Int))) + 5 * (0 + (i : Int))) (show (xs.length : Int) ≠ 0 by omega)
      have j1 := Int.emod_lt_of_pos (nth ns ((a : Int) + 8 + (0 + (i : Int))) + 5 * (0 + (i : Int))) lp
      obtain ⟨j, hj⟩ : ∃ j : Nat, (nth ns ((a : Int) + 8 + (0 + (i : Int))) + 5 * (0 + (i : Int))) % (xs.length : Int) = (j : Int) := ⟨_, (Int.toNat_of_nonneg j0).symm⟩
      obtain ⟨e, he⟩ : ∃ e, (allE ls gs)[j]? = some e := ⟨_, List.getElem?_eq_getElem (by omega)⟩
      obtain ⟨v, hv, t, kk, va, vb, rfl, ht, hk1, hk2, hk3⟩ := Fa.at' hxs' he
      obtain ⟨e1, e2⟩ := (mem_allE top0).mp (List.mem_of_getElem? he)
      have hat : atI xs ((nth ns ((a : Int) + 8 + (0 + (i : Int))) + 5 * (0 + (i : Int))) % (xs.length : Int)) = some (.ref t) := by
        rw [hj]
        exact atI_nat hv
      refine ⟨_, rfl, _, rfl, _, rfl, _, _, rfl, rfl, _, rfl, _, _, rfl, rfl, n, _, _, _, rfl, rfl, (k5.trans k').seq hn, at_ (by omega) (by omega), _, rfl, _, _, rfl, rfl, .inl ⟨by decide, by decide⟩, _, _, rfl, rfl, .inl ⟨_, rfl, _, rfl, _, _, rfl, .inl ⟨_, SqL.of gr', rfl⟩, _, _, rfl, rfl, (by show (0 : Int) < _; omega), r, _, _, _, rfl, rfl, SqL.of gr', hat, ?_⟩⟩
      refine ⟨t, _, _, kk, rfl, rfl, SqT.of ht, rfl, ?_⟩
      refine ⟨_, rfl, _, rfl, dK (lkC e.1), (kOf cs).map dK, hk1.dp, hx.dl (SqL.of hc), sh_dK (okk_lk e2), sh_dKs (fun k hk => ?_), _, rfl, ?_⟩
      · obtain ⟨d, hd, rfl⟩ := List.mem_map.mp hk
        exact okk_lk (hlk d hd)
      rw [any_dK]
      refine ite2 (fun hin => ?_) (fun hin => ?_)
      · have hni : lkC e.1 ∉ kOf cs := fun z => by
          rw [decide_eq_true z] at hin
          cases hin
        have hyl := hx.len
        rw [kOf_len] at hyl
        refine ⟨_, rfl, .inl ⟨rfl, _, SqL.of hc⟩, _, rfl, c, ys, _, rfl, rfl, hc, by omega, ?_⟩
        refine ⟨_, _, ys ++ [kk], cs ++ [e.1], rfl, Same.over k' nc, upd_same, ?_, ?_, ?_, ?_⟩
        · rw [kOf_snoc]
          exact (hx.over hc).snoc (hk1.over hc)
        · rw [kOf_snoc]
          exact List.nodup_append.mpr ⟨hnd, by simp, fun y hy y' hy' e => hni (by rw [List.mem_singleton.mp hy'] at e; rw [← e]; exact hy)⟩
        · intro d hd
          rcases List.mem_append.mp hd with z | z
          · exact hlk d z
          · rw [List.mem_singleton.mp z]
            exact e2
        · rw [List.length_append]
          show cs.length + 1 ≤ i + 1
          omega
      · exact ⟨_, _, ys, cs, rfl, k', hc, hx, hnd, hlk, by omega⟩
    · rintro σ H' ⟨v6, v7, ys, cs, rfl, k', hc, hx, hnd, hlk, hle⟩
      refine ⟨_, rfl, _, rfl, _, rfl, (by show 3 ≤ sizeLine; decide), fun p np => ?_⟩
      obtain ⟨H8, e8, k8, g8⟩ := made (o := .tup [V.ref l, .ref g, .ref c]) np
      rw [e8]
      have kA := (k5.trans k').trans k8
      exact q H8 p ls gs cs kA ((k5.trans k').free np) ⟨l, g, c, ys, g8, k8 _ _ (k' _ _ gl5), k8 _ _ (k' _ _ gg5), k8 _ _ hc, hx.same k8⟩ ⟨⟨⟨hl1, hl2⟩, hL.all⟩, ⟨hg11, hG.all⟩, by omega, hnd, hlk⟩ hl9 (by omega) hcor
end
section
open GxR NdefX PySem.Spec PyProof.Rows
variable {P : Program} {w : World} {K : PySem.W.Frag} {mg : Str → Option Value} {base : Heap}
theorem grid_isPl {ls gs : List Int} (h0 : 0 ≤ ls.sum) (p : Pl) : decide (p ∈ gridP (gs.length + 1) (ls.sum.toNat + 1)) = isPl ls gs p := by
  obtain ⟨a, b⟩ := p
  unfold isPl
  rw [Bool.eq_iff_iff]
  simp only [decide_eq_true_eq, Bool.and_eq_true, mem_grid]
  omega
theorem isPl_of {ls gs : List Int} {p : Pl} (h0 : 0 ≤ p.1) (h1 : p.1 ≤ gs.length) (h2 : 0 ≤ p.2) (h3 : p.2 ≤ ls.sum) : isPl ls gs p = true := by
  unfold isPl
  simp [h0, h1, h2, h3]
theorem ends_pl {ls gs : List Int} (hL : Lens ls) {x : Str} {a h : Int} (e : isLk ls gs x a h = true) : isPl ls gs (a, h) = true ∧ isPl ls gs (farP x a h) = true := by
  unfold isLk at e
  unfold farP
  by_cases hx : x = "up"
  · rw [if_pos hx] at e ⊢
    simp only [Bool.and_eq_true, decide_eq_true_eq] at e
    obtain ⟨⟨e1, e2⟩, e3, e4⟩ := e
    exact ⟨isPl_of e1 e2 e3 (Int.le_of_lt e4), isPl_of e1 e2 (by show 0 ≤ h + 1; omega) (by show h + 1 ≤ ls.sum; omega)⟩
  · rw [if_neg hx] at e ⊢
    simp only [Bool.and_eq_true, decide_eq_true_eq] at e
    obtain ⟨_, ⟨e1, e2⟩, e3⟩ := e
    obtain ⟨c1, c2⟩ := hL.cross e3
    exact ⟨isPl_of e1 (Int.le_of_lt e2) c1 c2, isPl_of (by show 0 ≤ a + 1; omega) (by show a + 1 ≤ (gs.length : Int); omega) c1 c2⟩
theorem lo_comm (p q : Pl) : loP p q = loP q p ∧ hiP p q = hiP q p := by
  obtain ⟨a, b⟩ := p
  obtain ⟨c, d⟩ := q
  unfold loP hiP lsP
  by_cases h1 : a < c ∨ (a = c ∧ b < d)
  · have h2 : ¬ (c < a ∨ (c = a ∧ d < b)) := by omega
    simp [h1, h2]
  · by_cases h2 : c < a ∨ (c = a ∧ d < b)
    · simp [h1, h2]
    · have e1 : a = c := by omega
      have e2 : b = d := by omega
      subst e1 e2
      simp [h1]
theorem lnkB_comm (ls gs : List Int) (cs : List (Str × Int × Int)) (p q : Pl) : lnkB ls gs cs p q = lnkB ls gs cs q p := by
  unfold lnkB joinC
  rw [(lo_comm p q).1, (lo_comm p q).2]
def lpB (a b : Pl × Int) : Prop := lsP a.1 b.1 = true ∨ (a.1 = b.1 ∧ a.2 ≤ b.2)
def leB : Pl × Int → Pl × Int → Bool := PySem.W.dataLe false dB
def sortB (rs : List (Pl × Int)) : List (Pl × Int) := rs.mergeSort leB
theorem alike_P (p q : Pl) : PySem.W.alike (dP p) (dP q) = true := by
  simp [dP, PySem.W.alike, PySem.W.alikeAll]
theorem alike_B (a b : Pl × Int) : PySem.W.alike (dB a) (dB b) = true := by
  unfold dB
  rw [PySem.W.alike]
  show (PySem.W.alike (dP a.1) (dP b.1) && _) = true
  rw [alike_P]
  simp [PySem.W.alike, PySem.W.alikeAll]
theorem ls_irrefl (p : Pl) : lsP p p = false := by
  unfold lsP
  simp
theorem ls_iff {p q : Pl} : lsP p q = true ↔ (p.1 < q.1 ∨ (p.1 = q.1 ∧ p.2 < q.2)) := by
  unfold lsP
  simp
theorem lt_dB (a b : Pl × Int) : PySem.W.dataLt (dB a) (dB b) = if a.1 = b.1 then decide (a.2 < b.2) else lsP a.1 b.1 := by
  unfold dB
  rw [PySem.W.dataLt_pair (alike_P _ _) (by simp [PySem.W.alike]), eqv_dP, lt_dP, eqv_int, PySem.W.dataLt_int]
  by_cases h : a.1 = b.1
  · rw [if_pos (decide_eq_true h), if_pos h]
    by_cases h2 : a.2 = b.2
    · rw [if_pos (decide_eq_true h2), h2, decide_eq_false (by omega)]
    · rw [if_neg (by rw [decide_eq_false h2]; decide)]
  · rw [if_neg (by rw [decide_eq_false h]; decide), if_neg h]
theorem leB_iff {a b : Pl × Int} : leB a b = true ↔ lpB a b := by
  show (!PySem.W.dataLt (dB b) (dB a)) = true ↔ _
  rw [lt_dB]
  unfold lpB
  rw [ls_iff]
  obtain ⟨⟨a1, a2⟩, a3⟩ := a
  obtain ⟨⟨b1, b2⟩, b3⟩ := b
  dsimp only
  by_cases h : ((b1, b2) : Pl) = (a1, a2)
  · rw [if_pos h]
    cases h
    simp
  · rw [if_neg h]
    unfold lsP
    have h' : ¬ (b1 = a1 ∧ b2 = a2) := fun z => h (by rw [z.1, z.2])
    have h2 : ¬ ((a1, a2) = ((b1, b2) : Pl)) := fun z => h z.symm
    simp only [Bool.not_eq_true', decide_eq_false_iff_not, h2, false_and, or_false]
    omega
theorem lpB_anti {a b : Pl × Int} (h : lpB a b) (k : lpB b a) : a = b := by
  unfold lpB at *
  rw [ls_iff] at h k
  obtain ⟨⟨a1, a2⟩, a3⟩ := a
  obtain ⟨⟨b1, b2⟩, b3⟩ := b
  simp only [Prod.mk.injEq] at *
  omega
theorem sortB_perm (rs : List (Pl × Int)) : (sortB rs).Perm rs := List.mergeSort_perm _ _
theorem sortB_pw (rs : List (Pl × Int)) : (sortB rs).Pairwise lpB := by
  have h := List.pairwise_mergeSort (le := leB) (fun a b c h1 h2 => by
    rw [leB_iff] at *
    unfold lpB at *
    rw [ls_iff] at *
    obtain ⟨⟨a1, a2⟩, a3⟩ := a
    obtain ⟨⟨b1, b2⟩, b3⟩ := b
    obtain ⟨⟨c1, c2⟩, c3⟩ := c
    simp only [Prod.mk.injEq] at *
    omega) (fun a b => by
    have : lpB a b ∨ lpB b a := by
      unfold lpB
      rw [ls_iff, ls_iff]
      obtain ⟨⟨a1, a2⟩, a3⟩ := a
      obtain ⟨⟨b1, b2⟩, b3⟩ := b
      simp only [Prod.mk.injEq]
      omega
    rcases this with z | z
    · rw [leB_iff.mpr z]
      rfl
    · rw [leB_iff.mpr z, Bool.or_true]) rs
  exact h.imp fun {a b} z => leB_iff.mp z
theorem pwB_uniq : ∀ {a b : List (Pl × Int)}, a.Perm b → a.Pairwise lpB → b.Pairwise lpB → a = b
  | [], b, h, _, _ => h.nil_eq
  | p :: a, [], h, _, _ => absurd h.length_eq (by simp)
  | p :: a, q :: b, h, ha, hb => by
    have e : p = q := by
      rcases List.mem_cons.mp (h.mem_iff.mp List.mem_cons_self) with e | m
      · exact e
      · rcases List.mem_cons.mp (h.mem_iff.mpr List.mem_cons_self) with e | m'
        · exact e.symm
        · exact lpB_anti (List.rel_of_pairwise_cons ha m') (List.rel_of_pairwise_cons hb m)
    subst e
    rw [pwB_uniq ((List.perm_cons p).mp h) ha.of_cons hb.of_cons]
theorem Brs.split {H : Hp} {vs : List V} {rs : List (Pl × Int)} (h : Brs H vs rs) : ∃ L : List (Addr × (Pl × Int)), vs = L.map (fun p => V.ref p.1) ∧ rs = L.map (·.2) ∧ ∀ p ∈ L, Br H (.ref p.1) p.2 := by
  induction h with
  | nil => exact ⟨[], rfl, rfl, fun p hp => nomatch hp⟩
  | cons a _ ih =>
    obtain ⟨L, rfl, rfl, hL⟩ := ih
    obtain ⟨t, u, rfl, h1, h2⟩ := id a
    refine ⟨(t, _) :: L, rfl, rfl, fun p hp => ?_⟩
    rcases List.mem_cons.mp hp with rfl | hp
    · exact a
    · exact hL p hp
theorem brs_of {H : Hp} : ∀ {L : List (Addr × (Pl × Int))}, (∀ p ∈ L, Br H (.ref p.1) p.2) → Brs H (L.map fun p => V.ref p.1) (L.map (·.2))
  | [], _ => .nil
  | p :: L, h => .cons (h p List.mem_cons_self) (brs_of fun q hq => h q (List.mem_cons_of_mem _ hq))
theorem Br.dp1 {H : Hp} {v : V} {r : Pl × Int} (h : Br H v r) : Dp K H v (dB r) := by
  obtain ⟨t, u, rfl, h1, h2⟩ := h
  exact .tup (SqT.of h1) (.cons h2.dp (.cons (.int _) .nil))
theorem refs_valsB (L : List (Addr × (Pl × Int))) : Vals (L.map fun p => V.ref p.1) (L.map fun p => Value.ref p.1) := by
  induction L with
  | nil => exact .nil
  | cons p L ih => exact .cons rfl ih
theorem vals_refsB : ∀ {L : List (Addr × (Pl × Int))} {its : List Value}, Vals (L.map fun p => V.ref p.1) its → its = L.map fun p => Value.ref p.1
  | [], _, .nil => rfl
  | p :: L, _, .cons r t => by
    have r : _ = Value.ref p.1 := r
    rw [r, vals_refsB t]
    rfl
theorem sort_pairsB (L : List (Addr × (Pl × Int))) : (L.mergeSort (PySem.W.dataLe false fun b => dB b.2)).map (·.2) = sortB (L.map (·.2)) := List.map_mergeSort fun a _ b _ => rfl
def rSortB (K : PySem.W.Frag) : List V → Hp → VK → Prop := fun vs H Q => ∃ (a : Addr) (xs : List V) (rs : List (Pl × Int)), vs = [.ref a] ∧ SqL K H a xs ∧ Brs H xs rs ∧ ∀ (p : Addr) (ys : List V), H p = none → Brs H ys (sortB rs) → Q (.ref p) (upd H p (.lst ys))
theorem call_sortB {X : Cx} (hu : X.A.units + 64 < cLine) : CallR X (.builtin "sorted") (rSortB X.K) := by
  intro pins s σ H vs us Q I r h
  obtain ⟨a, xs, rs, rfl, hs, hk, q⟩ := h
  obtain ⟨its, rv, hl, hz⟩ := I.list hs
  rw [Vals.ref1 r]
  obtain ⟨L, rfl, rfl, hL⟩ := hk.split
  have e := vals_refsB rv
  subst e
  refine PySem.W.sorted_data (bs := L) (enc := fun b : Addr × (Pl × Int) => dB b.2) (R := fun v b => v = Value.ref b.1) hl.isList (Pk.each_map _ fun b _ => rfl) (Pk.each_map _ fun b hb => Dp.reads I (dB b.2) (.ref b.1) (.ref b.1) (Br.dp1 (hL b hb)) rfl)
    (PySem.W.AllAlike.of fun b b' => alike_B _ _) (PySem.W.Sortable.tuples fun b => ⟨_, _, rfl⟩) (by rw [List.length_map] at hz; exact hz) (fun b _ => by show X.A.units + 2 + 2 < cLine; omega) fun out ho eo => ?_
  have eo2 := eachIs_back eo
  obtain ⟨ep, he'⟩ := PyProof.Rows.sortedAll_at s.heap (L.map fun p => Value.ref p.1) out.toArray
  have hlen : ((L.mergeSort (PySem.W.dataLe false fun b => dB b.2)).map fun p => V.ref p.1).length ≤ sizeLine := by
    rw [List.length_map, (List.mergeSort_perm _ _).length_eq]
    rw [List.length_map] at hz
    exact hz
  refine ⟨.ref _, upd H (s.heap.objs.size + 1) (.lst ((L.mergeSort (PySem.W.dataLe false fun b => dB b.2)).map fun p => V.ref p.1)), I.laid (t' := s.toks) (fun _ _ => PyProof.Rows.sortedAll_old) (Nat.le_succ _)
    ⟨hlen, out, ep, by rw [eo2]; exact refs_valsB _, he'⟩, rfl, q _ _ (I.hok.fresh (Nat.le_succ _)) ?_⟩
  rw [← sort_pairsB]
  exact brs_of fun p hp => hL p ((List.mergeSort_perm _ _).mem_iff.mp hp)
def nbO (cs : List (Str × Int × Int)) (p : Pl) (e : Ed) : List (Pl × Int) := if lkC e.1 ∈ kOf cs then [] else (if p = e.2.1 then [(e.2.2.1, e.2.2.2)] else []) ++ (if p = e.2.2.1 then [(e.2.1, e.2.2.2)] else [])
def nbE (cs : List (Str × Int × Int)) (es : List Ed) (p : Pl) : List (Pl × Int) := es.flatMap (nbO cs p)
theorem nbE_snoc (cs : List (Str × Int × Int)) (es : List Ed) (e : Ed) (p : Pl) : nbE cs (es ++ [e]) p = nbE cs es p ++ nbO cs p e := by
  unfold nbE
  rw [List.flatMap_append]
  simp
theorem join_ed {c : Str × Int × Int} (hc : c.1 = "up" ∨ c.1 = "over") : joinC (c.2.1, c.2.2) (farP c.1 c.2.1 c.2.2) = some c := by
  obtain ⟨x, a, h⟩ := c
  rcases hc with rfl | rfl
  · have e : farP "up" a h = (a, h + 1) := if_pos rfl
    show joinC (a, h) (farP "up" a h) = _
    rw [e]
    unfold joinC loP hiP
    rw [show lsP (a, h + 1) (a, h) = false from by unfold lsP; simp; omega, show lsP (a, h) (a, h + 1) = true from by unfold lsP; simp; omega]
    simp
  · have e : farP "over" a h = (a + 1, h) := if_neg over_up
    show joinC (a, h) (farP "over" a h) = _
    rw [e]
    unfold joinC loP hiP
    rw [show lsP (a + 1, h) (a, h) = false from by unfold lsP; simp; omega, show lsP (a, h) (a + 1, h) = true from by unfold lsP; simp; omega]
    simp only [Bool.false_eq_true, if_false, if_true]
    rw [if_neg (fun z => by have := congrArg (·.1) z; dsimp only at this; omega)]
theorem joinC_comm (p q : Pl) : joinC p q = joinC q p := by
  unfold joinC
  rw [(lo_comm p q).1, (lo_comm p q).2]
theorem join_inv {p q : Pl} {c : Str × Int × Int} (h : joinC p q = some c) : (c.1 = "up" ∨ c.1 = "over") ∧ ((p = (c.2.1, c.2.2) ∧ q = farP c.1 c.2.1 c.2.2) ∨ (q = (c.2.1, c.2.2) ∧ p = farP c.1 c.2.1 c.2.2)) := by
  have hl : (loP p q = p ∧ hiP p q = q) ∨ (loP p q = q ∧ hiP p q = p) := by
    unfold loP hiP
    cases e1 : lsP q p with
    | true =>
      have e2 : lsP p q = false := by
        rw [Bool.eq_false_iff]
        intro e2
        rw [ls_iff] at e1 e2
        omega
      simp [e2]
    | false =>
      cases e2 : lsP p q with
      | true => simp
      | false =>
        have e : p = q := by
          have n1 : ¬ lsP q p = true := by rw [e1]; decide
          have n2 : ¬ lsP p q = true := by rw [e2]; decide
          rw [ls_iff] at n1 n2
          exact Prod.ext (by omega) (by omega)
        simp [e]
  unfold joinC at h
  by_cases h1 : hiP p q = ((loP p q).1, (loP p q).2 + 1)
  · rw [if_pos h1] at h
    cases h
    refine ⟨.inl rfl, ?_⟩
    have e : farP "up" (loP p q).1 (loP p q).2 = ((loP p q).1, (loP p q).2 + 1) := if_pos rfl
    show (p = ((loP p q).1, (loP p q).2) ∧ q = farP "up" (loP p q).1 (loP p q).2) ∨ (q = ((loP p q).1, (loP p q).2) ∧ p = farP "up" (loP p q).1 (loP p q).2)
    rw [e, ← h1]
    rcases hl with ⟨a, b⟩ | ⟨a, b⟩
    · exact .inl ⟨a.symm, b.symm⟩
    · exact .inr ⟨a.symm, b.symm⟩
  · rw [if_neg h1] at h
    by_cases h2 : hiP p q = ((loP p q).1 + 1, (loP p q).2)
    · rw [if_pos h2] at h
      cases h
      refine ⟨.inr rfl, ?_⟩
      have e : farP "over" (loP p q).1 (loP p q).2 = ((loP p q).1 + 1, (loP p q).2) := if_neg over_up
      show (p = ((loP p q).1, (loP p q).2) ∧ q = farP "over" (loP p q).1 (loP p q).2) ∨ (q = ((loP p q).1, (loP p q).2) ∧ p = farP "over" (loP p q).1 (loP p q).2)
      rw [e, ← h2]
      rcases hl with ⟨a, b⟩ | ⟨a, b⟩
      · exact .inl ⟨a.symm, b.symm⟩
      · exact .inr ⟨a.symm, b.symm⟩
    · rw [if_neg h2] at h
      cases h
theorem far_ne (x : Str) (a h : Int) : farP x a h ≠ (a, h) := fun e => by
  unfold farP at e
  split at e
  · have := congrArg (·.2) e
    dsimp only at this
    omega
  · have := congrArg (·.1) e
    dsimp only at this
    omega
theorem lnkB_iff {ls gs : List Int} {cs : List (Str × Int × Int)} {p q : Pl} {c : Str × Int × Int} : lnkB ls gs cs p q = some c ↔ joinC p q = some c ∧ isLk ls gs c.1 c.2.1 c.2.2 = true ∧ lkC c ∉ kOf cs := by
  unfold lnkB
  cases e : joinC p q with
  | none => simp
  | some d =>
    by_cases h : (isLk ls gs d.1 d.2.1 d.2.2 && !decide (lkC d ∈ kOf cs)) = true
    · show (if (isLk ls gs d.1 d.2.1 d.2.2 && !decide (lkC d ∈ kOf cs)) = true then some d else none) = some c ↔ _
      rw [if_pos h]
      rw [Bool.and_eq_true] at h
      constructor
      · intro z
        cases z
        exact ⟨rfl, h.1, by simpa using h.2⟩
      · intro z
        exact z.1
    · show (if (isLk ls gs d.1 d.2.1 d.2.2 && !decide (lkC d ∈ kOf cs)) = true then some d else none) = some c ↔ _
      rw [if_neg h]
      constructor
      · intro z
        cases z
      · rintro ⟨z, h1, h2⟩
        cases z
        exact absurd (by rw [h1, decide_eq_false h2]; rfl) h
theorem mem_nbO {cs : List (Str × Int × Int)} {p : Pl} {e : Ed} {r : Pl × Int} : r ∈ nbO cs p e ↔ lkC e.1 ∉ kOf cs ∧ ((p = e.2.1 ∧ r = (e.2.2.1, e.2.2.2)) ∨ (p = e.2.2.1 ∧ r = (e.2.1, e.2.2.2))) := by
  unfold nbO
  by_cases h : lkC e.1 ∈ kOf cs
  · rw [if_pos h]
    simp [h]
  · rw [if_neg h, List.mem_append]
    by_cases h1 : p = e.2.1 <;> by_cases h2 : p = e.2.2.1 <;> simp [h, h1, h2]
/-- an entry stands there just if a link joins -/
theorem mem_nbE {ls gs : List Int} {cs : List (Str × Int × Int)} (h0 : 0 ≤ ls.sum) {p : Pl} {r : Pl × Int} : r ∈ nbE cs (allE ls gs) p ↔ ∃ c, lnkB ls gs cs p r.1 = some c ∧ r.2 = lenLk gs c.1 c.2.1 := by
  unfold nbE
  rw [List.mem_flatMap]
  constructor
  · rintro ⟨e, he, hr⟩
    obtain ⟨h1, h2⟩ := mem_nbO.mp hr
    obtain ⟨e1, e2⟩ := (mem_allE h0).mp he
    have f1 : e.2.1 = (e.1.2.1, e.1.2.2) := congrArg (·.2.1) e1
    have f2 : e.2.2.1 = farP e.1.1 e.1.2.1 e.1.2.2 := congrArg (·.2.2.1) e1
    have f3 : e.2.2.2 = lenLk gs e.1.1 e.1.2.1 := congrArg (·.2.2.2) e1
    have hj := join_ed (isLk_word e2)
    refine ⟨e.1, lnkB_iff.mpr ⟨?_, e2, h1⟩, ?_⟩
    · rcases h2 with ⟨a, b⟩ | ⟨a, b⟩
      · rw [a, b]
        show joinC e.2.1 e.2.2.1 = _
        rw [f1, f2]
        exact hj
      · rw [a, b, joinC_comm]
        show joinC e.2.1 e.2.2.1 = _
        rw [f1, f2]
        exact hj
    · rcases h2 with ⟨a, b⟩ | ⟨a, b⟩ <;> rw [b] <;> exact f3
  · rintro ⟨c, hc, hn⟩
    obtain ⟨h1, h2, h3⟩ := lnkB_iff.mp hc
    refine ⟨edC gs c, (mem_allE h0).mpr ⟨rfl, h2⟩, mem_nbO.mpr ⟨h3, ?_⟩⟩
    obtain ⟨_, h4⟩ := join_inv h1
    rcases h4 with ⟨a, b⟩ | ⟨a, b⟩
    · exact .inl ⟨a, Prod.ext b hn⟩
    · exact .inr ⟨b, Prod.ext a hn⟩
theorem mem_besL {ls gs : List Int} {cs : List (Str × Int × Int)} {p : Pl} {r : Pl × Int} : r ∈ besL ls gs cs p ↔ ∃ c, lnkB ls gs cs p r.1 = some c ∧ r.2 = lenLk gs c.1 c.2.1 := by
  unfold besL
  rw [List.mem_filterMap]
  constructor
  · rintro ⟨q, hq, e⟩
    unfold besO at e
    obtain ⟨c, hc, e⟩ := Option.map_eq_some_iff.mp e
    subst e
    exact ⟨c, hc, rfl⟩
  · rintro ⟨c, hc, hn⟩
    refine ⟨r.1, ?_, ?_⟩
    · obtain ⟨h1, _⟩ := lnkB_iff.mp hc
      obtain ⟨_, h4⟩ := join_inv h1
      unfold farP at h4
      unfold aroundP
      simp only [List.mem_cons, List.not_mem_nil, or_false]
      rcases h4 with ⟨a, b⟩ | ⟨a, b⟩
      · rw [a, b]
        by_cases z : c.1 = "up"
        · rw [if_pos z]
          exact .inr (.inr (.inl rfl))
        · rw [if_neg z]
          exact .inr (.inr (.inr rfl))
      · rw [a, b]
        by_cases z : c.1 = "up"
        · rw [if_pos z]
          exact .inr (.inl (Prod.ext rfl (by dsimp only; omega)))
        · rw [if_neg z]
          exact .inl (Prod.ext (by dsimp only; omega) rfl)
    · unfold besO
      rw [hc]
      exact congrArg some (Prod.ext rfl hn.symm)
theorem around_pw (p : Pl) : (aroundP p).Pairwise fun a b => lsP a b = true := by
  unfold aroundP lsP
  simp
  omega
theorem besL_pw (ls gs : List Int) (cs : List (Str × Int × Int)) (p : Pl) : (besL ls gs cs p).Pairwise fun a b => lsP a.1 b.1 = true := by
  unfold besL
  refine List.Pairwise.filterMap _ (fun a b h c hc d hd => ?_) (around_pw p)
  unfold besO at hc hd
  obtain ⟨_, _, hc⟩ := Option.map_eq_some_iff.mp hc
  obtain ⟨_, _, hd⟩ := Option.map_eq_some_iff.mp hd
  rw [← hc, ← hd]
  exact h
theorem allE_nd (ls gs : List Int) (hL : Lens ls) (h1 : 1 ≤ ls.length) (h2 : ls.length ≤ 2) : (allE ls gs).Nodup := by
  have inj1 : ∀ {a h a' h' : Int}, upE a h = upE a' h' → a = a' ∧ h = h' := fun e => by
    have := congrArg (·.2.1) e
    exact ⟨congrArg (·.1) this, congrArg (·.2) this⟩
  have inj2 : ∀ {a h a' h' : Int}, ovE gs a h = ovE gs a' h' → a = a' ∧ h = h' := fun e => by
    have := congrArg (·.2.1) e
    exact ⟨congrArg (·.1) this, congrArg (·.2) this⟩
  have nu : ∀ n, (upsE n ls.sum.toNat).Nodup := fun n => by
    induction n with
    | zero => exact .nil
    | succ n ih =>
      rw [upsE_succ]
      refine List.nodup_append.mpr ⟨ih, ?_, fun x hx y hy e => ?_⟩
      · refine List.pairwise_map.mpr (List.nodup_range.imp fun {a b} ne e => ne ?_)
        have := (inj1 e).2
        omega
      · obtain ⟨a, h, ha, hh, rfl⟩ := mem_upsE.mp hx
        obtain ⟨h', _, rfl⟩ := List.mem_map.mp hy
        have := (inj1 e).1
        omega
  have no : ∀ n, (ovsE ls gs n).Nodup := fun n => by
    induction n with
    | zero => exact .nil
    | succ n ih =>
      rw [ovsE_succ]
      refine List.nodup_append.mpr ⟨ih, ?_, fun x hx y hy e => ?_⟩
      · refine List.pairwise_map.mpr ((cross_rise hL h1 h2).1.imp fun {a b} lt e => ?_)
        have := (inj2 e).2
        omega
      · obtain ⟨a, ha, h, hh, rfl⟩ := mem_ovsE.mp hx
        obtain ⟨h', _, rfl⟩ := List.mem_map.mp hy
        have := (inj2 e).1
        omega
  refine List.nodup_append.mpr ⟨nu _, no _, fun x hx y hy e => ?_⟩
  obtain ⟨a, h, _, _, rfl⟩ := mem_upsE.mp hx
  obtain ⟨a', _, h', _, rfl⟩ := mem_ovsE.mp hy
  exact over_up (congrArg (·.1.1) e).symm
theorem nodup_flat {α β : Type} {f : α → List β} : ∀ {xs : List α}, xs.Nodup → (∀ x ∈ xs, (f x).Nodup) → (∀ x ∈ xs, ∀ y ∈ xs, ∀ b, b ∈ f x → b ∈ f y → x = y) → (xs.flatMap f).Nodup
  | [], _, _, _ => .nil
  | x :: xs, hn, h1, h2 => by
    obtain ⟨hx, hn⟩ := List.nodup_cons.mp hn
    rw [List.flatMap_cons]
    refine List.nodup_append.mpr ⟨h1 x List.mem_cons_self, nodup_flat hn (fun y hy => h1 y (List.mem_cons_of_mem _ hy)) (fun y hy z hz => h2 y (List.mem_cons_of_mem _ hy) z (List.mem_cons_of_mem _ hz)), fun b hb c hc e => ?_⟩
    subst e
    obtain ⟨y, hy, hb'⟩ := List.mem_flatMap.mp hc
    have := h2 x List.mem_cons_self y (List.mem_cons_of_mem _ hy) b hb hb'
    rw [this] at hx
    exact hx hy
theorem nbE_nd {ls gs : List Int} {cs : List (Str × Int × Int)} (hL : Lens ls) (h1 : 1 ≤ ls.length) (h2 : ls.length ≤ 2) (p : Pl) : (nbE cs (allE ls gs) p).Nodup := by
  have h0 := hL.pos2
  refine nodup_flat (allE_nd ls gs hL h1 h2) (fun e he => ?_) (fun e he e' he' b hb hb' => ?_)
  · obtain ⟨e1, _⟩ := (mem_allE h0).mp he
    have f1 : e.2.1 = (e.1.2.1, e.1.2.2) := congrArg (·.2.1) e1
    have f2 : e.2.2.1 = farP e.1.1 e.1.2.1 e.1.2.2 := congrArg (·.2.2.1) e1
    have ne : ¬ e.2.1 = e.2.2.1 := fun z => by
      rw [f1, f2] at z
      exact far_ne _ _ _ z.symm
    unfold nbO
    split
    · exact .nil
    · by_cases a : p = e.2.1
      · have b : ¬ p = e.2.2.1 := fun z => ne (a.symm.trans z)
        rw [if_pos a, if_neg b]
        simp
      · rw [if_neg a]
        split <;> simp
  · have key : ∀ {e : Ed}, e ∈ allE ls gs → b ∈ nbO cs p e → joinC p b.1 = some e.1 := fun {e} he hb => by
      obtain ⟨e1, e2⟩ := (mem_allE h0).mp he
      have f1 : e.2.1 = (e.1.2.1, e.1.2.2) := congrArg (·.2.1) e1
      have f2 : e.2.2.1 = farP e.1.1 e.1.2.1 e.1.2.2 := congrArg (·.2.2.1) e1
      have hj := join_ed (isLk_word e2)
      obtain ⟨_, z⟩ := mem_nbO.mp hb
      rcases z with ⟨x, y⟩ | ⟨x, y⟩
      · rw [x, y]
        show joinC e.2.1 e.2.2.1 = _
        rw [f1, f2]
        exact hj
      · rw [x, y, joinC_comm]
        show joinC e.2.1 e.2.2.1 = _
        rw [f1, f2]
        exact hj
    have k1 := key he hb
    rw [key he' hb'] at k1
    have k2 := Option.some.inj k1
    rw [((mem_allE h0).mp he).1, ((mem_allE h0).mp he').1, k2]
/-- what a place's list holds, sorted -/
theorem sort_nbE {ls gs : List Int} {cs : List (Str × Int × Int)} (hL : Lens ls) (h1 : 1 ≤ ls.length) (h2 : ls.length ≤ 2) (p : Pl) : sortB (nbE cs (allE ls gs) p) = besL ls gs cs p := by
  have pw := besL_pw ls gs cs p
  refine pwB_uniq ((sortB_perm _).trans ?_) (sortB_pw _) (pw.imp fun {a b} z => .inl z)
  refine (List.perm_ext_iff_of_nodup (nbE_nd hL h1 h2 p) (pw.imp fun {a b} z e => ?_)).mpr fun r => (mem_nbE hL.pos2).trans mem_besL.symm
  rw [e, ls_irrefl] at z
  cases z
theorem grid_pw (n m : Nat) : (gridP n m).Pairwise fun p q => lsP p q = true := by
  induction n with
  | zero => exact .nil
  | succ n ih =>
    rw [grid_succ]
    refine List.pairwise_append.mpr ⟨ih, ?_, fun p hp q hq => ?_⟩
    · refine List.pairwise_map.mpr (List.pairwise_lt_range.imp fun {a b} lt => ?_)
      rw [ls_iff]
      right
      exact ⟨rfl, by dsimp only; omega⟩
    · obtain ⟨p1, p2⟩ := p
      obtain ⟨_, b1, _⟩ := mem_grid.mp hp
      obtain ⟨b, _, rfl⟩ := List.mem_map.mp hq
      rw [ls_iff]
      left
      dsimp only
      omega
theorem grid_nd (n m : Nat) : (gridP n m).Nodup := (grid_pw n m).imp fun {a b} z e => by
  rw [e, ls_irrefl] at z
  cases z
end
section
open GxR NdefX PySem.Spec PyProof.Rows
variable {P : Program} {w : World} {K : PySem.W.Frag} {mg : Str → Option Value} {base : Heap}
def plK (p : Pl) : Tk := [.inl p.1, .inl p.2]
theorem plK_inj {p q : Pl} (h : plK p = plK q) : p = q := by
  unfold plK at h
  injection h with h1 h2
  injection h2 with h2 _
  injection h1 with h1
  injection h2 with h2
  exact Prod.ext h1 h2
def kvL (L : List (Pl × Addr)) : List (Tk × V) := L.map fun x => (plK x.1, V.ref x.2)
theorem kvL_len (L : List (Pl × Addr)) : (kvL L).length = L.length := List.length_map _
theorem kvL_app (L M : List (Pl × Addr)) : kvL (L ++ M) = kvL L ++ kvL M := List.map_append
theorem val_in {L : List (Pl × Addr)} (nd : (L.map (·.1)).Nodup) : ∀ {x : Pl × Addr}, x ∈ L → valV (kvL L) (plK x.1) = some (.ref x.2) := by
  induction L with
  | nil => intro x hx; cases hx
  | cons y L ih =>
    intro x hx
    obtain ⟨h1, h2⟩ := List.nodup_cons.mp nd
    rcases List.mem_cons.mp hx with rfl | hx
    · exact valV_pos (p := (plK x.1, V.ref x.2)) rfl
    · have ne : ¬ plK y.1 = plK x.1 := fun e => h1 (show y.1 ∈ L.map (·.1) by rw [show y.1 = x.1 from plK_inj e]; exact List.mem_map_of_mem (f := (·.1)) hx)
      show valV ((plK y.1, V.ref y.2) :: kvL L) (plK x.1) = _
      rw [valV_neg ne]
      exact ih h2 hx
theorem val_out {L : List (Pl × Addr)} {p : Pl} (h : p ∉ L.map (·.1)) : valV (kvL L) (plK p) = none := by
  induction L with
  | nil => rfl
  | cons y L ih =>
    have ne : ¬ plK y.1 = plK p := fun e => h (by rw [← plK_inj e]; exact List.mem_cons_self)
    show valV ((plK y.1, V.ref y.2) :: kvL L) (plK p) = _
    rw [valV_neg ne]
    exact ih fun m => h (List.mem_cons_of_mem _ m)
theorem put_old {L : List (Pl × Addr)} {p : Pl} {a : Addr} (h : p ∈ L.map (·.1)) : putK (kvL L) (plK p) (.ref a) = kvL (L.map fun x => if x.1 = p then (x.1, a) else x) := by
  have e : ((kvL L).any fun kv => decide (kv.1 = plK p)) = true := by
    obtain ⟨x, hx, e⟩ := List.mem_map.mp h
    rw [List.any_eq_true]
    exact ⟨(plK x.1, .ref x.2), List.mem_map.mpr ⟨x, hx, rfl⟩, decide_eq_true (by rw [e])⟩
  unfold putK
  rw [if_pos e]
  unfold kvL
  rw [List.map_map, List.map_map]
  refine List.map_congr_left fun x _ => ?_
  show (if plK x.1 = plK p then (plK x.1, V.ref a) else (plK x.1, V.ref x.2)) = (plK (if x.1 = p then (x.1, a) else x).1, V.ref (if x.1 = p then (x.1, a) else x).2)
  by_cases c : x.1 = p
  · rw [if_pos (by rw [c]), if_pos c]
  · rw [if_neg fun z => c (plK_inj z), if_neg c]
/-- the lists hold what f tells -/
def Cont (H : Hp) (L : List (Pl × Addr)) (f : Pl → List (Pl × Int)) : Prop := ∀ x ∈ L, ∃ vs, H x.2 = some (.lst vs) ∧ Brs H vs (f x.1)
theorem Cont.same {H H' : Hp} {L : List (Pl × Addr)} {f : Pl → List (Pl × Int)} (h : Cont H L f) (k : Same H H') : Cont H' L f := fun x hx => by
  obtain ⟨vs, e, b⟩ := h x hx
  exact ⟨vs, k _ _ e, b.same k⟩
theorem Cont.kp {H H' : Hp} {L : List (Pl × Addr)} {f : Pl → List (Pl × Int)} (h : Cont H L f) (k : Kp H H') : Cont H' L f := fun x hx => by
  obtain ⟨vs, e, b⟩ := h x hx
  exact ⟨vs, k.lst e, b.tu (tuK k)⟩
/-- the dict is written anew -/
theorem Cont.dict {H : Hp} {L : List (Pl × Addr)} {f : Pl → List (Pl × Int)} {d : Addr} {kvs kvs' : List (Tk × V)} (h : Cont H L f) (hd : H d = some (.dT kvs)) : Cont (upd H d (.dT kvs')) L f := fun x hx => by
  obtain ⟨vs, e, b⟩ := h x hx
  exact ⟨vs, by rw [upd_ne (ne_of e hd fun z => nomatch z)]; exact e, b.tu (tuU fun xs z => by rw [hd] at z; cases z)⟩
def upF (f : Pl → List (Pl × Int)) (p : Pl) (r : Pl × Int) : Pl → List (Pl × Int) := fun q => if q = p then f q ++ [r] else f q
theorem mem_uniq {L : List (Pl × Addr)} (n1 : (L.map (·.1)).Nodup) {x y : Pl × Addr} (hx : x ∈ L) (hy : y ∈ L) (e : x.1 = y.1) : x = y := by
  have a := val_in n1 hx
  have b := val_in n1 hy
  rw [e, b] at a
  exact Prod.ext e (V.ref.inj (Option.some.inj a)).symm
theorem mem_uniq2 : ∀ {L : List (Pl × Addr)}, (L.map (·.2)).Nodup → ∀ {x y : Pl × Addr}, x ∈ L → y ∈ L → x.2 = y.2 → x = y
  | [], _, _, _, hx, _, _ => nomatch hx
  | z :: L, n, x, y, hx, hy, e => by
    obtain ⟨h1, h2⟩ := List.nodup_cons.mp n
    rcases List.mem_cons.mp hx with e1 | hx1 <;> rcases List.mem_cons.mp hy with e2 | hy1
    · rw [e1, e2]
    · exact absurd (show z.2 ∈ L.map (·.2) by rw [← e1, e]; exact List.mem_map_of_mem (f := (·.2)) hy1) h1
    · exact absurd (show z.2 ∈ L.map (·.2) by rw [← e2, ← e]; exact List.mem_map_of_mem (f := (·.2)) hx1) h1
    · exact mem_uniq2 h2 hx1 hy1 e
theorem Cont.put {H : Hp} {L : List (Pl × Addr)} {f : Pl → List (Pl × Int)} {x : Pl × Addr} {vs : List V} {v : V} {r : Pl × Int} (h : Cont H L f) (n1 : (L.map (·.1)).Nodup) (n2 : (L.map (·.2)).Nodup) (hx : x ∈ L) (hv : H x.2 = some (.lst vs)) (hb : Brs H vs (f x.1)) (hr : Br H v r) : Cont (upd H x.2 (.lst (vs ++ [v]))) L (upF f x.1 r) := fun y hy => by
  have tu := tuL (ws := vs ++ [v]) hv
  obtain ⟨us, e, b⟩ := h y hy
  unfold upF
  by_cases c : y.1 = x.1
  · have z := mem_uniq n1 hy hx c
    subst z
    rw [if_pos rfl]
    exact ⟨_, upd_same, (hb.tu tu).snoc (hr.tu tu)⟩
  · rw [if_neg c]
    exact ⟨us, by rw [upd_ne fun z => c (by rw [mem_uniq2 n2 hy hx z])]; exact e, b.tu tu⟩
/-- for each place of the house the list of what lies beside -/
def BesAt (H : Hp) (d : Addr) (ls gs : List Int) (cs : List (Str × Int × Int)) : Prop := ∃ L : List (Pl × Addr), H d = some (.dT (kvL L)) ∧ L.map (·.1) = gridP (gs.length + 1) (ls.sum.toNat + 1) ∧ Cont H L (besL ls gs cs)
theorem BesAt.kp {H H' : Hp} {d : Addr} {ls gs : List Int} {cs : List (Str × Int × Int)} (h : BesAt H d ls gs cs) (k : Kp H H') : BesAt H' d ls gs cs := by
  obtain ⟨L, a, b, c⟩ := h
  exact ⟨L, k.dT a, b, c.kp k⟩
theorem BesAt.same {H H' : Hp} {d : Addr} {ls gs : List Int} {cs : List (Str × Int × Int)} (h : BesAt H d ls gs cs) (k : Same H H') : BesAt H' d ls gs cs := h.kp (kpS k)
theorem keys_at {H : Hp} {kvs : List (Tk × V)} {bs : List Addr} (h : IsKeys H kvs bs) : ∀ {i : Nat} {b : Addr}, bs[i]? = some b → ∃ x, kvs[i]? = some x ∧ H b = some (.tup (x.1.map kV)) := by
  unfold IsKeys at h
  induction h with
  | nil => intro i b e; cases e
  | cons a _ ih =>
    intro i b e
    cases i with
    | zero => cases e; exact ⟨_, rfl, a⟩
    | succ i => exact ih e
theorem grid_len2 (n m : Nat) (hn : n ≤ 12) (hm : m ≤ 10) : (gridP n m).length ≤ 120 := by
  rw [grid_len]
  exact Nat.mul_le_mul hn hm
def spBes (K : PySem.W.Frag) : Sp := fun vs H Q _ => ∃ (p : Addr) (ls gs : List Int) (cs : List (Str × Int × Int)), vs = [.ref p] ∧ PartsAt H p ls gs cs ∧ Valid ls gs cs ∧ ls.sum ≤ 9 ∧
  ∀ (H' : Hp) (d : Addr), Same H H' → H d = none → BesAt H' d ls gs cs → Q (.ref d) H'
theorem ok_bes {f fA : Addr} {fd fdA : FuncData} (F : Fun K "_law_beside" "_law_beside" s__law_beside f fd) (hsum : mg "sum" = none) (hlen : mg "len" = none) (hrange : mg "range" = none) (hsorted : mg "sorted" = none) (hlist : mg "list" = none)
    (FAk : PySem.W.keepIn K (.ref fA) = true) (GA : FnOk P w K mg base CX0 1 fA fdA ["lengths", "gaps"] (spAllE K)) (bA : Binds K fdA ["lengths", "gaps"] []) (gA : mg "_law_all_links" = some (.ref fA)) : FnOk P w K mg base CX0 2 f fd ["parts"] (spBes K) := by
  refine F.ok sc__law_beside (fun vs H Q E h => ?_) (fun cdv A outer s H vs Q E hr h => ?_)
  · obtain ⟨p, ls, gs, cs, rfl, _⟩ := h
    rfl
  · obtain ⟨p, ls, gs, cs, rfl, hP, va, h9, q⟩ := h
    obtain ⟨l, g, c, ks, hp, hl, hg, hc, hk⟩ := id hP
    have hL := va.lens
    obtain ⟨⟨⟨hl1, hl2⟩, _⟩, ⟨hg11, _⟩, hcs, hnd, hlk⟩ := id va
    have nd := sc__law_beside.nd
    have hline : 1000000 < sizeLine := by decide
    have top0 := hL.pos2
    refine ⟨_, (pss_cons (ps_set (i := 1) nd rfl (.inl rfl) pe_dnewT)
      (pss_cons (ps_for PassesOwn.never rfl (pi_range1 rfl hrange (pa_cons (pe_op op_add (pe_callB call_len (by rfl) hlen (by decide +kernel) (pa_cons (pe_ix ix_tup (pv 0) pe_int (fun _ _ => rfl)) pa_nil)) pe_int) pa_nil)) (pg_name (i := 2) nd rfl (.inl rfl)) (pss_one (ps_for PassesOwn.never rfl (pi_range1 rfl hrange (pa_cons (pe_op op_add (pe_callB (cr_sum rfl) (by rfl) hsum (by decide +kernel) (pa_cons (pe_ix ix_tup (pv 0) pe_int (fun _ _ => rfl)) pa_nil)) pe_int) pa_nil)) (pg_name (i := 3) nd rfl (.inl rfl)) (pss_one (ps_dput (by exact Pk.Room.units1 hr) (pv 1) (pe_tup (pa_cons (pv 2) (pa_cons (pv 3) pa_nil))) (pe_lst pa_nil) rfl)))))
      (pss_cons (ps_for PassesOwn.never rfl (pi_list (pe_call GA (by exact hr.mono (by decide)) (by rfl) gA FAk bA .nil pass0 (pa_cons (pe_ix ix_tup (pv 0) pe_int (fun _ _ => rfl)) (pa_cons (pe_ix ix_tup (pv 0) pe_int (fun _ _ => rfl)) pa_nil)))) (pg_tup rfl (pgs_cons (pg_name (i := 4) nd rfl (.inl rfl)) (pgs_cons (pg_name (i := 5) nd rfl (.inl rfl)) (pgs_cons (pg_name (i := 6) nd rfl (.inl rfl)) (pgs_cons (pg_name (i := 7) nd rfl (.inl rfl)) pgs_nil))))) (pss_one (ps_if (pt_cmpR (op_notInD (room65 hr)) (pv 4) (pe_ix ix_tup (pv 0) pe_int (fun _ _ => rfl)) (by rfl)) (pss_cons (ps_expr (pe_bm PySem.F.plainAttrs_list PySem.F.slot_list_append PySem.F.type_list_append mt_append (pe_dget (by exact Pk.Room.units1 hr) (pv 1) (pv 5) (fun _ _ => rfl)) (pa_cons (pe_tup (pa_cons (pv 6) (pa_cons (pv 7) pa_nil))) pa_nil)))
      (pss_one (ps_expr (pe_bm PySem.F.plainAttrs_list PySem.F.slot_list_append PySem.F.type_list_append mt_append (pe_dget (by exact Pk.Room.units1 hr) (pv 1) (pv 6) (fun _ _ => rfl)) (pa_cons (pe_tup (pa_cons (pv 5) (pa_cons (pv 7) pa_nil))) pa_nil))))) pss_nil)))
      (pss_cons (ps_for PassesOwn.never rfl (pi_list (pe_callTy (call_list_dT rfl) (by rfl) hlist (by decide +kernel) (pa_cons (pv 1) pa_nil))) (pg_name (i := 8) nd rfl (.inl rfl)) (pss_one (ps_dput (by exact Pk.Room.units1 hr) (pv 1) (pv 8) (pe_callB (call_sortB (by exact hr.units)) (by rfl) hsorted (by decide +kernel) (pa_cons (pe_dget (by exact Pk.Room.units1 hr) (pv 1) (pv 8) (fun _ _ => rfl)) pa_nil)) rfl)))
      (pss_one (ps_ret (pv 1))))))), ?_⟩
    refine fun d nd0 => ?_
    have kd : Same H (upd H d (.dT [])) := same_upd nd0
    -- the places
    refine ⟨_, rfl, p, _, _, _, rfl, rfl, SqT.of (kd _ _ hp), rfl, _, _, rfl, .inl ⟨_, SqL.of (kd _ _ hg), rfl⟩, _, _, rfl, rfl, _, rfl, (by rw [List.length_map]; omega), (by rw [List.length_map]; omega), ?_⟩
    rw [List.length_map, show ((gs.length : Int) + 1).toNat = gs.length + 1 by omega]
    refine for_range (lo := 0) (n := gs.length + 1) (fun i σ H' => ∃ (v2 v3 : Option V) (L : List (Pl × Addr)), σ = [some (.ref p), some (.ref d), v2, v3, none, none, none, none, none] ∧ Same H H' ∧ H' d = some (.dT (kvL L)) ∧ L.map (·.1) = gridP i (ls.sum.toNat + 1) ∧ (L.map (·.2)).Nodup ∧ (Cont H' L fun _ => []) ∧ ∀ x ∈ L, H x.2 = none) ?_ ?_ ?_
    · exact ⟨none, none, [], rfl, kd, upd_same, rfl, .nil, (fun x z => nomatch z), fun x z => nomatch z⟩
    · rintro i σ H' hi ⟨v2, v3, L, rfl, k, hd, hgr, hn2, hct, hfr⟩
      refine ⟨_, rfl, p, _, _, _, rfl, rfl, SqT.of (k _ _ hp), rfl, l, ls, rfl, SqL.of (k _ _ hl), _, _, rfl, rfl, _, rfl, by omega, by omega, ?_⟩
      rw [show (ls.sum + 1).toNat = ls.sum.toNat + 1 by omega]
      refine for_range (lo := 0) (n := ls.sum.toNat + 1) (fun j σ H' => ∃ (v3 : Option V) (L : List (Pl × Addr)), σ = [some (.ref p), some (.ref d), some (.int (0 + (i : Int))), v3, none, none, none, none, none] ∧ Same H H' ∧ H' d = some (.dT (kvL L)) ∧ L.map (·.1) = gridP i (ls.sum.toNat + 1) ++ (List.range j).map (fun (b : Nat) => ((i : Int), (b : Int))) ∧ (L.map (·.2)).Nodup ∧ (Cont H' L fun _ => []) ∧ ∀ x ∈ L, H x.2 = none) ?_ ?_ ?_
      · exact ⟨v3, L, rfl, k, hd, by simpa using hgr, hn2, hct, hfr⟩
      · rintro j σ H' hj ⟨v3, L, rfl, k, hd, hgr, hn2, hct, hfr⟩
        refine ⟨Nat.zero_le _, fun r nr => ?_⟩
        obtain ⟨H2, e2, k2, g2⟩ := made (o := .lst []) nr
        rw [e2]
        refine ⟨_, rfl, _, rfl, _, rfl, (by show 2 ≤ sizeLine; decide), fun t nt => ?_⟩
        obtain ⟨H3, e3, k3, g3⟩ := made (o := .tup [V.int (0 + (i : Int)), .int (0 + (j : Int))]) nt
        rw [e3]
        rw [Int.zero_add, Int.zero_add] at g3
        have hd3 := k3 _ _ (k2 _ _ hd)
        have hlen : L.length ≤ 1000 := by
          have z := congrArg List.length hgr
          rw [List.length_map, List.length_append, grid_len, List.length_map, List.length_range] at z
          have : i * (ls.sum.toNat + 1) ≤ 11 * 10 := Nat.mul_le_mul (by omega) (by omega)
          omega
        have out : (((i : Int), (j : Int)) : Pl) ∉ L.map (·.1) := fun m => by
          rw [hgr] at m
          rcases List.mem_append.mp m with z | z
          · have := (mem_grid.mp z).2.1
            omega
          · obtain ⟨b, hb, e⟩ := List.mem_map.mp z
            have := congrArg (·.2) e
            dsimp only at this
            have := List.mem_range.mp hb
            omega
        refine ⟨d, _, rfl, DPut.t (k := plK ((i : Int), (j : Int))) hd3 g3 (by rw [kvL_len]; omega), ?_⟩
        rw [putK_new _ (val_out out)]
        have el : kvL L ++ [(plK ((i : Int), (j : Int)), V.ref r)] = kvL (L ++ [((((i : Int), (j : Int)) : Pl), r)]) := by
          rw [kvL_app]
          rfl
        rw [el]
        have k23 := k2.trans k3
        refine ⟨_, L ++ [((((i : Int), (j : Int)) : Pl), r)], rfl, Same.over (k.trans k23) nd0, upd_same, ?_, ?_, ?_, fun x hx => ?_⟩
        · rw [List.map_append, hgr, List.range_succ, List.map_append, List.append_assoc]
          rfl
        · rw [List.map_append]
          refine List.nodup_append.mpr ⟨hn2, by simp, fun y hy y' hy' e => ?_⟩
          obtain ⟨x, hx, rfl⟩ := List.mem_map.mp hy
          obtain ⟨us, z, _⟩ := hct x hx
          have : y' = r := by simpa using hy'
          rw [e, this, nr] at z
          cases z
        · refine Cont.dict (kvs := kvL L) (fun x hx => ?_) hd3
          rcases List.mem_append.mp hx with hx | hx
          · exact (hct.same k23) x hx
          · rw [List.mem_singleton.mp hx]
            exact ⟨[], k3 _ _ g2, .nil⟩
        · rcases List.mem_append.mp hx with hx | hx
          · exact hfr x hx
          · rw [List.mem_singleton.mp hx]
            exact k.free nr
      · rintro σ H' ⟨v3, L, rfl, k, hd, hgr, hn2, hct, hfr⟩
        refine ⟨_, _, L, rfl, k, hd, ?_, hn2, hct, hfr⟩
        rw [hgr, grid_succ]
    rintro σ H1 ⟨v2, v3, L, rfl, k1, hd1, hgr, hn2, hct, hfr⟩
    have hn1 : (L.map (·.1)).Nodup := by
      rw [hgr]
      exact grid_nd _ _
    -- the links
    refine ⟨_, rfl, p, _, _, _, rfl, rfl, SqT.of (k1 _ _ hp), rfl, _, rfl, p, _, _, _, rfl, rfl, SqT.of (k1 _ _ hp), rfl, l, g, ls, gs, rfl, SqL.of (k1 _ _ hl), SqL.of (k1 _ _ hg), hL, hl1, hl2, hg11, fun H2 r xs k2 nr gr hxs => ?_⟩
    have hct1 := hct
    have hd2 := k2 _ _ hd1
    have hct2 := hct.same k2
    have k02 := k1.trans k2
    have nrd : r ≠ d := fun e => by
      rw [e, hd1] at nr
      cases nr
    refine ⟨r, rfl, ⟨_, SqL.of gr⟩, ?_⟩
    refine for_list (K := K) (a := r) (xs := xs) (fun i σ H' => ∃ (v4 v5 v6 v7 : Option V), σ = [some (.ref p), some (.ref d), v2, v3, v4, v5, v6, v7, none] ∧ Same H H' ∧ Tu H2 H' ∧ H' r = some (.lst xs) ∧ H' d = some (.dT (kvL L)) ∧ Cont H' L (nbE cs ((allE ls gs).take i))) ?_ ?_ ?_ ?_
    · exact ⟨none, none, none, none, rfl, k02, Tu.refl _, gr, hd2, hct2⟩
    · rintro i σ H' _ ⟨_, _, _, _, _, _, _, h, _⟩
      exact SqL.of h
    · rintro i x σ H' hx ⟨v4, v5, v6, v7, rfl, k, tu, gr', hd, hct⟩
      obtain ⟨e, he, t, kk, wa, wb, rfl, ht, hk1, ⟨ta, rfl, hta⟩, ⟨tb, rfl, htb⟩⟩ := Fa.at (Ens.tu hxs tu) hx
      obtain ⟨e1, e2⟩ := (mem_allE top0).mp (List.mem_of_getElem? he)
      have f1 : e.2.1 = (e.1.2.1, e.1.2.2) := congrArg (·.2.1) e1
      have f2 : e.2.2.1 = farP e.1.1 e.1.2.1 e.1.2.2 := congrArg (·.2.2.1) e1
      have hts : (allE ls gs).take (i + 1) = (allE ls gs).take i ++ [e] := by
        rw [List.take_add_one, he]
        rfl
      refine ⟨t, _, rfl, SqT.of ht, rfl, _, _, rfl, _, _, rfl, _, _, rfl, _, _, rfl, rfl, ?_⟩
      refine ⟨_, rfl, _, rfl, p, _, _, _, rfl, rfl, SqT.of (k _ _ hp), rfl, dK (lkC e.1), (kOf cs).map dK, hk1.dp, (hk.same k).dl (SqL.of (k _ _ hc)), sh_dK (okk_lk e2), sh_dKs (fun x hx => okk_valid va x hx), _, rfl, ?_⟩
      rw [any_dK]
      refine ite2 (fun hin => ?_) (fun hin => ?_)
      · have hni : lkC e.1 ∉ kOf cs := fun z => by
          rw [decide_eq_true z] at hin
          cases hin
        have top9 : ls.sum.toNat ≤ 9 := by omega
        have pl := ends_pl hL e2
        have inG : ∀ {z : Pl}, isPl ls gs z = true → ∃ a, (z, a) ∈ L := fun {z} hz => by
          have m : z ∈ L.map (·.1) := by
            rw [hgr]
            exact of_decide_eq_true ((grid_isPl top0 z).trans hz)
          obtain ⟨y, hy, e⟩ := List.mem_map.mp m
          exact ⟨y.2, by rw [← e]; exact hy⟩
        obtain ⟨a1, m1⟩ := inG (by rw [← f1] at pl; exact pl.1)
        obtain ⟨a2, m2⟩ := inG (by rw [← f2] at pl; exact pl.2)
        have ne : ¬ e.2.1 = e.2.2.1 := fun z => by
          rw [f1, f2] at z
          exact far_ne _ _ _ z.symm
        obtain ⟨vs1, h1, b1⟩ := hct _ m1
        have nbl : ∀ y, (nbE cs ((allE ls gs).take i) y).length ≤ 4000 := fun y => by
          have z : ∀ es : List Ed, (nbE cs es y).length ≤ 2 * es.length := fun es => by
            induction es with
            | nil => exact Nat.le_refl _
            | cons e es ih =>
              have : (nbO cs y e).length ≤ 2 := by
                unfold nbO
                split
                · exact Nat.zero_le _
                · rw [List.length_append]
                  split <;> split <;> simp
              show (nbO cs y e ++ nbE cs es y).length ≤ 2 * (es.length + 1)
              rw [List.length_append]
              omega
          have z1 := z ((allE ls gs).take i)
          have z2 : (allE ls gs).length ≤ 12 * 80 + 11 * 3 := by
            unfold allE
            rw [List.length_append, upsE_len, ovsE_len]
            exact Nat.add_le_add (Nat.mul_le_mul (by omega) (by omega)) (Nat.mul_le_mul (by omega) (by omega))
          rw [List.length_take] at z1
          omega
        have gd1 : DGet H' d (.ref ta) (some (.ref a1)) := by
          rw [← val_in hn1 m1]
          exact DGet.t hd hta
        refine ⟨_, rfl, _, rfl, d, _, rfl, gd1, .inl ⟨rfl, _, SqL.of h1⟩, _, rfl, _, rfl, (by show 2 ≤ sizeLine; decide), fun t5 nt5 => ?_⟩
        obtain ⟨H3, e3, k3, g3⟩ := made (o := .tup [V.ref tb, .int e.2.2.2]) nt5
        rw [e3]
        have h13 := k3 _ _ h1
        have l1 : vs1.length ≤ 4000 := by
          rw [b1.len]
          exact nbl _
        refine ⟨a1, vs1, _, rfl, rfl, h13, by omega, ?_⟩
        have c3 := Cont.put (hct.same k3) hn1 hn2 m1 h13 (b1.same k3) (v := .ref t5) (r := (e.2.2.1, e.2.2.2)) ⟨t5, .ref tb, rfl, g3, tb, rfl, k3 _ _ htb⟩
        have tu3 : Tu H' (upd H3 a1 (.lst (vs1 ++ [.ref t5]))) := (tuS k3).trans (tuL h13)
        have nda1 : d ≠ a1 := ne_of hd h1 fun z => nomatch z
        have hd4 : (upd H3 a1 (.lst (vs1 ++ [.ref t5]))) d = some (.dT (kvL L)) := by
          rw [upd_ne nda1]
          exact k3 _ _ hd
        have k4 : Same H (upd H3 a1 (.lst (vs1 ++ [.ref t5]))) := Same.over (k.trans k3) (hfr _ m1)
        have nr1 : r ≠ a1 := fun z => by
          obtain ⟨us, z1, _⟩ := hct1 _ m1
          rw [z, z1] at nr
          cases nr
        have nr2 : r ≠ a2 := fun z => by
          obtain ⟨us, z1, _⟩ := hct1 _ m2
          rw [z, z1] at nr
          cases nr
        have gr4 : (upd H3 a1 (.lst (vs1 ++ [.ref t5]))) r = some (.lst xs) := by
          rw [upd_ne nr1]
          exact k3 _ _ gr'
        generalize upd H3 a1 (.lst (vs1 ++ [.ref t5])) = H4 at *
        obtain ⟨vs2, h2, b2⟩ := c3 _ m2
        have gd2 : DGet H4 d (.ref tb) (some (.ref a2)) := by
          rw [← val_in hn1 m2]
          exact DGet.t hd4 (tu3 _ _ htb)
        refine ⟨_, rfl, _, rfl, d, _, rfl, gd2, .inl ⟨rfl, _, SqL.of h2⟩, _, rfl, _, rfl, (by show 2 ≤ sizeLine; decide), fun t6 nt6 => ?_⟩
        obtain ⟨H5, e5, k5, g5⟩ := made (o := .tup [V.ref ta, .int e.2.2.2]) nt6
        rw [e5]
        have h25 := k5 _ _ h2
        have l2 : vs2.length ≤ 4001 := by
          rw [b2.len]
          unfold upF
          rw [if_neg (show ¬ e.2.2.1 = e.2.1 from fun z => ne z.symm)]
          show (nbE cs ((allE ls gs).take i) e.2.2.1).length ≤ 4001
          have := nbl e.2.2.1
          omega
        refine ⟨a2, vs2, _, rfl, rfl, h25, by omega, ?_⟩
        have c5 := Cont.put (c3.same k5) hn1 hn2 m2 h25 (b2.same k5) (v := .ref t6) (r := (e.2.1, e.2.2.2)) ⟨t6, .ref ta, rfl, g5, ta, rfl, k5 _ _ (tu3 _ _ hta)⟩
        have nda2 : d ≠ a2 := ne_of hd4 h2 fun z => nomatch z
        refine ⟨_, _, _, _, rfl, Same.over (k4.trans k5) (hfr _ m2), tu.trans (tu3.trans ((tuS k5).trans (tuL h25))), ?_, ?_, fun x hx => ?_⟩
        · rw [upd_ne nr2]
          exact k5 _ _ gr4
        · rw [upd_ne nda2]
          exact k5 _ _ hd4
        · obtain ⟨us, z1, z2⟩ := c5 x hx
          refine ⟨us, z1, ?_⟩
          rw [hts, nbE_snoc]
          have ez : upF (upF (nbE cs ((allE ls gs).take i)) e.2.1 (e.2.2.1, e.2.2.2)) e.2.2.1 (e.2.1, e.2.2.2) x.1 = nbE cs ((allE ls gs).take i) x.1 ++ nbO cs x.1 e := by
            unfold upF nbO
            rw [if_neg hni]
            by_cases c1 : x.1 = e.2.1
            · have c2 : ¬ x.1 = e.2.2.1 := fun z => ne (c1.symm.trans z)
              rw [if_neg c2, if_pos c1, if_pos c1, if_neg c2, List.append_nil]
            · by_cases c2 : x.1 = e.2.2.1
              · rw [if_pos c2, if_neg c1, if_neg c1, if_pos c2, List.nil_append]
              · rw [if_neg c2, if_neg c1, if_neg c1, if_neg c2, List.append_nil, List.append_nil]
          rw [← ez]
          exact z2
      · have hin' : lkC e.1 ∈ kOf cs := Decidable.byContradiction fun z => hin (by rw [decide_eq_false z]; rfl)
        refine ⟨_, _, _, _, rfl, k, tu, gr', hd, fun x hx => ?_⟩
        obtain ⟨us, z1, z2⟩ := hct x hx
        refine ⟨us, z1, ?_⟩
        rw [hts, nbE_snoc]
        unfold nbO
        rw [if_pos hin', List.append_nil]
        exact z2
    rintro σ H3 ⟨v4, v5, v6, v7, rfl, k3, tu3, _, hd3, hct3⟩
    rw [hxs.len, List.take_length] at hct3
    -- sorted
    refine ⟨_, rfl, d, _, rfl, .inl hd3, fun m bs nm hks => ⟨m, rfl, ?_⟩⟩
    obtain ⟨H4, e4, k4, g4⟩ := made (o := .lst (bs.map V.ref)) nm
    rw [e4]
    refine ⟨⟨_, SqL.of g4⟩, ?_⟩
    have hlen : (gridP (gs.length + 1) (ls.sum.toNat + 1)).length ≤ 120 := grid_len2 _ _ (by omega) (by omega)
    have hkl : bs.length = L.length := by
      have z : ∀ {kvs : List (Tk × V)} {bs : List Addr}, IsKeys H3 kvs bs → bs.length = kvs.length := fun h => by
        unfold IsKeys at h
        induction h with
        | nil => rfl
        | cons _ _ ih => exact congrArg (· + 1) ih
      rw [z hks, kvL_len]
    have hLl : L.length = (gridP (gs.length + 1) (ls.sum.toNat + 1)).length := by
      rw [← hgr, List.length_map]
    refine for_list (K := K) (a := m) (xs := bs.map V.ref) (fun i σ H' => ∃ (v8 : Option V) (M : List (Pl × Addr)), σ = [some (.ref p), some (.ref d), v2, v3, v4, v5, v6, v7, v8] ∧ Same H H' ∧ Tu H4 H' ∧ H' m = some (.lst (bs.map V.ref)) ∧ H' d = some (.dT (kvL M)) ∧ M.map (·.1) = gridP (gs.length + 1) (ls.sum.toNat + 1) ∧
      Cont H' M fun y => if y ∈ (gridP (gs.length + 1) (ls.sum.toNat + 1)).take i then besL ls gs cs y else nbE cs (allE ls gs) y) ?_ ?_ ?_ ?_
    · refine ⟨none, L, rfl, k3.trans k4, Tu.refl _, g4, k4 _ _ hd3, hgr, ?_⟩
      simpa using hct3.same k4
    · rintro i σ H' _ ⟨_, _, _, _, _, h, _⟩
      exact SqL.of h
    · rintro i u σ H' hi ⟨v8, M, rfl, k, tu, gm, hd, hM, hct⟩
      rw [List.getElem?_map] at hi
      cases hb : bs[i]? with
      | none => rw [hb] at hi; cases hi
      | some b =>
        rw [hb] at hi
        cases hi
        obtain ⟨kx, hkx, hkb⟩ := keys_at hks hb
        unfold kvL at hkx
        rw [List.getElem?_map] at hkx
        cases hLi : L[i]? with
        | none => rw [hLi] at hkx; cases hkx
        | some y =>
          rw [hLi] at hkx
          cases hkx
          have hgi : (gridP (gs.length + 1) (ls.sum.toNat + 1))[i]? = some y.1 := by
            rw [← hgr, List.getElem?_map, hLi]
            rfl
          have hkb' : H' b = some (.tup ((plK y.1).map kV)) := tu _ _ (k4 _ _ hkb)
          have hM1 : (M.map (·.1)).Nodup := by
            rw [hM]
            exact grid_nd _ _
          have ym : y.1 ∈ M.map (·.1) := by
            rw [hM]
            exact List.mem_of_getElem? hgi
          obtain ⟨x, hx, hxy⟩ := List.mem_map.mp ym
          obtain ⟨us, u1, u2⟩ := hct x hx
          have hxy : x.1 = y.1 := hxy
          rw [hxy] at u2
          have nin : y.1 ∉ (gridP (gs.length + 1) (ls.sum.toNat + 1)).take i := fun z => by
            obtain ⟨j, hj⟩ := List.getElem?_of_mem z
            rw [List.getElem?_take] at hj
            split at hj
            · rename_i lt
              have hn := grid_nd (gs.length + 1) (ls.sum.toNat + 1)
              have ei := (List.getElem?_eq_some_iff.mp hgi)
              have ej := (List.getElem?_eq_some_iff.mp hj)
              obtain ⟨ei1, ei2⟩ := ei
              obtain ⟨ej1, ej2⟩ := ej
              exact (List.pairwise_iff_getElem.mp hn) j i ej1 ei1 lt (ej2.trans ei2.symm)
            · cases hj
          dsimp only at u2
          rw [if_neg nin] at u2
          have gd : DGet H' d (.ref b) (some (.ref x.2)) := by
            rw [← val_in hM1 hx, hxy]
            exact DGet.t hd hkb'
          refine ⟨_, rfl, _, rfl, d, _, rfl, gd, x.2, us, _, rfl, SqL.of u1, u2, fun r' ws nr' hws => ?_⟩
          obtain ⟨H5, e5, k5, g5⟩ := made (o := .lst ws) nr'
          rw [e5]
          rw [sort_nbE hL hl1 hl2] at hws
          have hd5 := k5 _ _ hd
          refine ⟨_, rfl, _, rfl, d, _, rfl, DPut.t (k := plK y.1) hd5 (k5 _ _ hkb') (by rw [kvL_len]; have z := congrArg List.length hM; rw [List.length_map] at z; omega), ?_⟩
          rw [put_old ym]
          have nmd : m ≠ d := ne_of gm hd fun z => nomatch z
          refine ⟨_, _, rfl, Same.over (k.trans k5) nd0, tu.trans ((tuS k5).trans (tuU fun xs z => by rw [hd5] at z; cases z)), ?_, upd_same, ?_, ?_⟩
          · rw [upd_ne nmd]
            exact k5 _ _ gm
          · rw [← hM, List.map_map]
            refine List.map_congr_left fun z _ => ?_
            show (if z.1 = y.1 then (z.1, r') else z).1 = z.1
            split <;> rfl
          · refine Cont.dict (kvs := kvL M) (fun z hz => ?_) hd5
            obtain ⟨z0, hz0, rfl⟩ := List.mem_map.mp hz
            have tk : ∀ q, q ∈ (gridP (gs.length + 1) (ls.sum.toNat + 1)).take (i + 1) ↔ (q ∈ (gridP (gs.length + 1) (ls.sum.toNat + 1)).take i ∨ q = y.1) := fun q => by
              rw [List.take_add_one, hgi, List.mem_append]
              simp
            by_cases c : z0.1 = y.1
            · rw [if_pos c]
              refine ⟨ws, g5, ?_⟩
              show Brs H5 ws (if z0.1 ∈ _ then _ else _)
              rw [if_pos ((tk _).mpr (.inr c)), c]
              exact hws.same k5
            · rw [if_neg c]
              obtain ⟨us2, w1, w2⟩ := hct z0 hz0
              refine ⟨us2, k5 _ _ w1, ?_⟩
              have eif : (if z0.1 ∈ (gridP (gs.length + 1) (ls.sum.toNat + 1)).take (i + 1) then besL ls gs cs z0.1 else nbE cs (allE ls gs) z0.1) = (if z0.1 ∈ (gridP (gs.length + 1) (ls.sum.toNat + 1)).take i then besL ls gs cs z0.1 else nbE cs (allE ls gs) z0.1) := by
                by_cases c2 : z0.1 ∈ (gridP (gs.length + 1) (ls.sum.toNat + 1)).take i
                · rw [if_pos c2, if_pos ((tk _).mpr (.inl c2))]
                · rw [if_neg c2, if_neg fun z => ((tk _).mp z).elim c2 c]
              show Brs H5 us2 (if z0.1 ∈ _ then _ else _)
              rw [eif]
              exact w2.same k5
    · rintro σ H' ⟨v8, M, rfl, k, tu, gm, hd, hM, hct⟩
      refine ⟨_, rfl, q H' d k nd0 ⟨M, hd, hM, fun x hx => ?_⟩⟩
      obtain ⟨us, z1, z2⟩ := hct x hx
      refine ⟨us, z1, ?_⟩
      rw [List.length_map, hkl, hLl, List.take_length] at z2
      have hm : x.1 ∈ gridP (gs.length + 1) (ls.sum.toNat + 1) := by
        rw [← hM]
        exact List.mem_map_of_mem (f := (·.1)) hx
      dsimp only at z2
      rw [if_pos hm] at z2
      exact z2
end
section
open GxR NdefX PySem.Spec PyProof.Rows
variable {P : Program} {w : World} {K : PySem.W.Frag} {mg : Str → Option Value} {base : Heap}
/-- what the law needs of the class of houses -/
structure HouseM (P : Program) (w : World) (K : PySem.W.Frag) (mg : Str → Option Value) (base : Heap) where
  C : Addr
  CI : Addr
  TL : Addr
  TI : Addr
  fI : Addr
  fdI : FuncData
  M : Mk K C fI
  GI : FnOk P w K mg base (L2.CX P w) 5 fI fdI ["self", "lengths", "gaps", "closed"] (spHouse K C CI TL TI)
  bI : Binds K fdI ["self", "lengths", "gaps", "closed"] []
  mgC : mg "House" = some (.ref C)
  cl : Cls K C
def spMkH (C TL TI : Addr) : Sp := fun vs H Q _ => ∃ (p : Addr) (ls gs : List Int) (cs : List (Str × Int × Int)), vs = [.ref p] ∧ PartsAt H p ls gs cs ∧ Valid ls gs cs ∧ TabG H TL ∧ TabG H TI ∧ ∀ (H' : Hp) (h : Addr), Kp H H' → HouseAt C H' h ls gs cs → Q (.ref h) H'
theorem ok_mkh {f : Addr} {fd : FuncData} (F : Fun K "_law_house" "_law_house" s__law_house f fd) (Z : HouseM P w K mg base) (hlist : mg "list" = none) : FnOk P w K mg base CX0 7 f fd ["parts"] (spMkH Z.C Z.TL Z.TI) := by
  refine F.ok sc__law_house (fun vs H Q E h => ?_) (fun cdv A outer s H vs Q E hr h => ?_)
  · obtain ⟨p, ls, gs, cs, rfl, _⟩ := h
    rfl
  · obtain ⟨p, ls, gs, cs, rfl, ⟨l, g, c, ks, hp, hl, hg, hc, hk⟩, va, tL, tI, q⟩ := h
    have nd := sc__law_house.nd
    obtain ⟨⟨⟨hl1, hl2⟩, _⟩, ⟨hg11, _⟩, hcs, hnd, hlk⟩ := id va
    refine ⟨_, (pss_one (ps_ret (pe_make Z.M Z.GI (by exact hr.mono (by decide)) (by rfl) Z.mgC Z.bI .nil (passes_call takes0 fun _ _ _ _ h => h) (pa_cons (pe_callTy call_list_of (by rfl) hlist (by decide +kernel) (pa_cons (pe_ix ix_tup (pv 0) pe_int (fun _ _ => rfl)) pa_nil)) (pa_cons (pe_callTy call_list_of (by rfl) hlist (by decide +kernel) (pa_cons (pe_ix ix_tup (pv 0) pe_int (fun _ _ => rfl)) pa_nil)) (pa_cons (pe_callTy call_list_of (by rfl) hlist (by decide +kernel) (pa_cons (pe_ix ix_tup (pv 0) pe_int (fun _ _ => rfl)) pa_nil)) pa_nil)))))), ?_⟩
    refine ⟨_, rfl, p, _, _, _, rfl, rfl, SqT.of hp, rfl, l, _, rfl, .inl (SqL.of hl), fun l1 n1 => ?_⟩
    obtain ⟨H1, e1, k1, g1⟩ := made (o := .lst (ls.map V.int)) n1
    rw [e1]
    refine ⟨_, rfl, p, _, _, _, rfl, rfl, SqT.of (k1 _ _ hp), rfl, g, _, rfl, .inl (SqL.of (k1 _ _ hg)), fun l2 n2 => ?_⟩
    obtain ⟨H2, e2, k2, g2⟩ := made (o := .lst (gs.map V.int)) n2
    rw [e2]
    have k02 := k1.trans k2
    refine ⟨_, rfl, p, _, _, _, rfl, rfl, SqT.of (k02 _ _ hp), rfl, c, _, rfl, .inl (SqL.of (k02 _ _ hc)), fun l3 n3 => ?_⟩
    obtain ⟨H3, e3, k3, g3⟩ := made (o := .lst ks) n3
    rw [e3]
    have k03 := k02.trans k3
    intro x dx nx ndx ne
    have kM : Same H3 (upd (upd H3 dx (.own x)) x (.ins Z.C dx [])) := fun b z e => by
      rw [upd_ne (ne_of_none e nx), upd_ne (ne_of_none e ndx)]
      exact e
    refine ⟨x, dx, l1, l2, l3, ls, gs, ks, cs, rfl, upd_same, kM.seq (SqL.of (k3 _ _ (k2 _ _ g1))), kM.seq (SqL.of (k3 _ _ g2)), kM.seq (SqL.of g3), hk.same (k03.trans kM), by omega, by omega, by omega, (kpS (k03.trans kM)).tab _ tL, (kpS (k03.trans kM)).tab _ tI, fun _ H4 hH k0 _ => ⟨rfl, ?_⟩, fun nv => absurd va nv⟩
    exact q H4 x ((kpS k03).trans (mkKp nx ndx k0)) hH
theorem fit_plK (ps : List Pl) : Fit (ps.map plK) := ⟨[false, false], by decide, fun k hk => by
  obtain ⟨c, _, rfl⟩ := List.mem_map.mp hk
  rfl⟩
theorem kvL_keys (L : List (Pl × Addr)) : (kvL L).map (·.1) = (L.map (·.1)).map plK := by
  unfold kvL
  rw [List.map_map, List.map_map]
  rfl
theorem sort_plK {ps : List Pl} (h : ps.Pairwise fun p q => lsP p q = true) : sortK (ps.map plK) = ps.map plK := by
  refine List.mergeSort_of_pairwise (List.pairwise_map.mpr (h.imp fun {a b} z => ?_))
  show (!PySem.W.dataLt (dP b) (dP a)) = true
  rw [lt_dP]
  have : lsP b a = false := by
    rw [Bool.eq_false_iff]
    intro y
    rw [ls_iff] at z y
    omega
  rw [this]
  rfl
theorem krs_prs {H : Hp} : ∀ {vs : List V} {ps : List Pl}, Krs H vs (ps.map plK) → Prs H vs ps
  | [], [], _ => .nil
  | v :: vs, p :: ps, h => by
    cases h with
    | cons a r => exact .cons a (krs_prs r)
  | [], _ :: _, h => nomatch h
  | _ :: _, [], h => nomatch h
theorem bes_pl {ls gs : List Int} {cs : List (Str × Int × Int)} (hL : Lens ls) {p : Pl} {r : Pl × Int} (h : r ∈ besL ls gs cs p) : isPl ls gs r.1 = true := by
  obtain ⟨c, hc, _⟩ := mem_besL.mp h
  have hl := lnkB_lk hc
  obtain ⟨h1, _⟩ := lnkB_iff.mp hc
  obtain ⟨_, h2⟩ := join_inv h1
  have e := ends_pl hL hl
  rcases h2 with ⟨_, z⟩ | ⟨z, _⟩ <;> rw [z]
  · exact e.2
  · exact e.1
/-- the list of a place -/
theorem bes_at {H : Hp} {d : Addr} {ls gs : List Int} {cs : List (Str × Int × Int)} (h0 : 0 ≤ ls.sum) (h : BesAt H d ls gs cs) {t : Addr} {p : Pl} (ht : H t = some (.tup [.int p.1, .int p.2])) (hp : isPl ls gs p = true) : ∃ (a : Addr) (vs : List V), DGet H d (.ref t) (some (.ref a)) ∧ H a = some (.lst vs) ∧ Brs H vs (besL ls gs cs p) := by
  obtain ⟨L, hd, hg, hc⟩ := h
  have m : p ∈ L.map (·.1) := by
    rw [hg]
    exact of_decide_eq_true ((grid_isPl h0 p).trans hp)
  obtain ⟨x, hx, e⟩ := List.mem_map.mp m
  obtain ⟨vs, h1, h2⟩ := hc x hx
  have n1 : (L.map (·.1)).Nodup := by
    rw [hg]
    exact grid_nd _ _
  have e : x.1 = p := e
  rw [e] at h2
  refine ⟨x.2, vs, ?_, h1, h2⟩
  rw [← val_in n1 hx, e]
  exact DGet.t hd ht
end
theorem ks1 : ¬ (("start" : Str) = "end") := by decide +kernel
theorem ks2 : ¬ (("start" : Str) = "_picks") := by decide +kernel
theorem ks3 : ¬ (("end" : Str) = "_picks") := by decide +kernel
def tf (a b : V) (l : Addr) : List (Str × V) := putF "_picks" (.ref l) (putF "end" b (putF "start" a []))
theorem tf_len2 (a b : V) : (putF "end" b (putF "start" a ([] : List (Str × V)))).length = 2 := by
  show (if ("start" : Str) = "end" then [(("start" : Str), b)] else (("start" : Str), a) :: putF "end" b []).length = 2
  rw [if_neg ks1]
  rfl
theorem tf_start (a b : V) (l : Addr) : (tf a b l).lookup ("start" : Str) = some a := by
  unfold tf
  rw [lookup_putF, if_neg ks2, lookup_putF, if_neg ks1, lookup_putF, if_pos rfl]
theorem tf_end (a b : V) (l : Addr) : (tf a b l).lookup ("end" : Str) = some b := by
  unfold tf
  rw [lookup_putF, if_neg ks3, lookup_putF, if_pos rfl]
theorem tf_picks (a b : V) (l : Addr) : (tf a b l).lookup ("_picks" : Str) = some (.ref l) := by
  unfold tf
  rw [lookup_putF, if_pos rfl]
theorem tf_no (a b : V) (l : Addr) {m : Str} (h1 : ¬ m = "start") (h2 : ¬ m = "end") (h3 : ¬ m = "_picks") : (tf a b l).lookup m = none := by
  unfold tf
  rw [lookup_putF, if_neg h3, lookup_putF, if_neg h2, lookup_putF, if_neg h1]
  rfl
/-- a task stands at p: its start, its end, its picks in order -/
def TaskAt (C : Addr) (H : Hp) (p : Addr) (st en : Pl) (ps : List Pl) : Prop := ∃ (dx l : Addr) (a b : V) (xs : List V),
  H p = some (.ins C dx (tf a b l)) ∧ Pr H a st ∧ Pr H b en ∧ H l = some (.lst xs) ∧ Prs H xs ps ∧ ps.Pairwise lp ∧ ps.Nodup ∧ ps.length ≤ 60
theorem TaskAt.same {C : Addr} {H H' : Hp} {p : Addr} {st en : Pl} {ps : List Pl} (h : TaskAt C H p st en ps) (k : Same H H') : TaskAt C H' p st en ps := by
  obtain ⟨dx, l, a, b, xs, h1, h2, h3, h4, h5, h6⟩ := h
  exact ⟨dx, l, a, b, xs, k _ _ h1, h2.same k, h3.same k, k _ _ h4, h5.same k, h6⟩
theorem TaskAt.over {C : Addr} {H : Hp} {p m : Addr} {st en : Pl} {ps : List Pl} {zs ws : List V} (h : TaskAt C H p st en ps) (hm : H m = some (.lst zs)) (hn : ∀ dx a b r, H p = some (.ins C dx (tf a b r)) → r ≠ m) : TaskAt C (upd H m (.lst ws)) p st en ps := by
  obtain ⟨dx, l, a, b, xs, h1, h2, h3, h4, h5, h6⟩ := h
  exact ⟨dx, l, a, b, xs, by rw [upd_ne (ne_of h1 hm (by intro z; cases z))]; exact h1, h2.over hm, h3.over hm, by rw [upd_ne (hn _ _ _ _ h1)]; exact h4, h5.over hm, h6⟩
/-- what the top has left of the class of tasks and of its errors -/
structure TaskTxt (K : PySem.W.Frag) (mg : Str → Option Value) (C CI : Addr) : Prop where
  cl : Cls K C
  nS : NoAttr K C "start"
  nE : NoAttr K C "end"
  nP : NoAttr K C "_picks"
  mgC : mg "Task" = some (.ref C)
  len : mg "len" = none
  set : mg "set" = none
  sorted : mg "sorted" = none
  list : mg "list" = none
  most : ∃ t, mg "MOST_PICKS" = some (.int 60 t)
  gI : mg "InvalidTask" = some (.ref CI)
  kI : PySem.W.keepIn K (.ref CI) = true
  xI : PySem.W.excIn K CI [.type "ValueError", .type "Exception", .type "BaseException", .type "object"] "ValueError.__new__" = true
  bI : PySem.W.subIn K (.ref CI) (.type "BaseException") = some true
  tI : PySem.W.typeIn K (.ref CI) = some (.type "type")
section
variable {P : Program} {w : World} {K : PySem.W.Frag} {mg : Str → Option Value} {base : Heap}
/-- all but what is at p is as it was -/
def But (p : Addr) (H H' : Hp) : Prop := ∀ b o, H b = some o → b ≠ p → H' b = some o
def spTask (K : PySem.W.Frag) (C CI : Addr) : Sp := fun vs H Q E => ∃ (p dx l : Addr) (a b : V) (st en : Pl) (xs : List V) (ps : List Pl), vs = [.ref p, a, b, .ref l] ∧ H p = some (.ins C dx []) ∧ Pr H a st ∧ Pr H b en ∧
  SqL K H l xs ∧ Prs H xs ps ∧ ps.length ≤ 1000 ∧
  (ps.length ≤ 60 → ps.Nodup → ∀ H', TaskAt C H' p st en (sortP ps) → But p H H' → (∀ dx a b r, H' p = some (.ins C dx (tf a b r)) → H r = none) → Q .non H') ∧
  (¬ (ps.length ≤ 60 ∧ ps.Nodup) → ∀ H', Same H H' → E (.ref CI) none H')
theorem ok_task {f C CI : Addr} {fd : FuncData} (F : Fun K "__init__" "Task.__init__" s_Task___init__ f fd) (T : TaskTxt K mg C CI) : FnOk P w K mg base (L2.CX P w) 2 f fd ["self", "start", "end", "picks"] (spTask K C CI) := by
  refine F.okX sc_Task___init__ (fun vs H Q E h => ?_) (fun cdv A outer s H vs Q E hr h => ?_)
  · obtain ⟨p, dx, l, a, b, st, en, xs, ps, rfl, _⟩ := h
    rfl
  · obtain ⟨p, dx, l, a, b, st, en, xs, ps, rfl, hp, ha, hb, hl, hx, hn, q, e⟩ := h
    obtain ⟨t, hmost⟩ := T.most
    have hxl := hx.len
    refine ⟨_, (pss_cons (ps_if (pt_cmpR op_gt (pe_callB call_len (by rfl) T.len (by decide +kernel) (pa_cons (pv 3) pa_nil)) (pe_glob (v := .int 60) rfl hmost ⟨_, rfl⟩) (nomark _)) (pss_one (ps_raise rfl (takes_of rfl rfl rfl rfl) (pmk_own PySem.F.excBase_ValueError T.xI T.gI T.kI (raises_own T.bI T.tI) rfl))) pss_nil)
      (pss_cons (ps_if (pt_cmpR op_lt (pe_callB call_lenP (by rfl) T.len (by decide +kernel) (pa_cons (pe_callTy (cr_setP rfl hr.units) (by rfl) T.set (by decide +kernel) (pa_cons (pv 3) pa_nil)) pa_nil)) (pe_callB call_len (by rfl) T.len (by decide +kernel) (pa_cons (pv 3) pa_nil)) (nomark _)) (pss_one (ps_raise rfl (takes_of rfl rfl rfl rfl) (pmk_own PySem.F.excBase_ValueError T.xI T.gI T.kI (raises_own T.bI T.tI) rfl))) pss_nil)
      (pss_cons (ps_fld (pv 0) (pv 1) rfl)
      (pss_cons (ps_fld (pv 0) (pv 2) rfl)
      (pss_one (ps_fld (pv 0) (pe_callB call_sortP (by rfl) T.sorted (by decide +kernel) (pa_cons (pv 3) pa_nil)) rfl)))))), ?_⟩
    -- len(picks) > MOST_PICKS
    refine ⟨_, rfl, _, _, rfl, .inl ⟨_, hl, rfl⟩, _, _, rfl, rfl, _, rfl, ?_⟩
    refine ite2 (fun hc => ?_) (fun hc => ?_)
    · have hc' := of_decide_eq_true hc
      exact e (fun z => by omega) H (Same.refl _)
    · have hc' : ps.length ≤ 60 := by
        have : ¬ ((60 : Int) < (xs.length : Int)) := fun z => hc (decide_eq_true z)
        omega
      -- len(set(picks)) < len(picks)
      refine ⟨_, rfl, l, xs, ps, rfl, hl, hx, by omega, fun H1 s0 ns0 k1 hs0 => ⟨s0, ps, rfl, hs0, _, rfl, _, _, rfl, .inl ⟨_, k1.seq hl, rfl⟩, _, _, rfl, rfl, _, rfl, ?_⟩⟩
      refine ite2 (fun hd => ?_) (fun hd => ?_)
      · have hd' := of_decide_eq_true hd
        exact e (fun z => (nub_lt ps).mp (by omega) z.2) H1 k1
      · have hnd : ps.Nodup := by
          have z : ¬ (((nub ps).length : Int) < (xs.length : Int)) := fun z => hd (decide_eq_true z)
          exact Decidable.byContradiction fun y => z (by have := (nub_lt ps).mpr y; omega)
        -- self.start, self.end, self._picks
        have hp1 := k1 _ _ hp
        refine ⟨_, rfl, _, rfl, p, C, dx, [], rfl, hp1, T.cl, T.nS, (by show 0 < 1000; decide), ?_⟩
        refine ⟨_, rfl, _, rfl, p, C, dx, _, rfl, upd_same, T.cl, T.nE, (by show 1 < 1000; decide), ?_⟩
        have hl' : SqL K (upd (upd H1 p (.ins C dx (putF "start" a []))) p (.ins C dx (putF "end" b (putF "start" a [])))) l xs := by
          rcases k1.seq hl with (h | ⟨o, h⟩) | h
          · exact .inl (.inl (by rw [upd_ne (ne_of hp1 h (by intro z; cases z)).symm, upd_ne (ne_of hp1 h (by intro z; cases z)).symm]; exact h))
          · exact .inl (.inr ⟨o, by rw [upd_ne (ne_of hp1 h (by intro z; cases z)).symm, upd_ne (ne_of hp1 h (by intro z; cases z)).symm]; exact h⟩)
          · exact .inr h
        have keep : ∀ c o, H1 c = some o → c ≠ p → (upd (upd H1 p (.ins C dx (putF "start" a []))) p (.ins C dx (putF "end" b (putF "start" a [])))) c = some o := fun c o h n => by
          rw [upd_ne n, upd_ne n]
          exact h
        have tupne : ∀ {v : V} {z : Pl}, Pr H1 v z → Pr (upd (upd H1 p (.ins C dx (putF "start" a []))) p (.ins C dx (putF "end" b (putF "start" a [])))) v z := fun {v z} h => by
          obtain ⟨t, rfl, h⟩ := h
          exact ⟨t, rfl, keep _ _ h (ne_of hp1 h (by intro z; cases z)).symm⟩
        have prsne : ∀ {vs : List V} {zs : List Pl}, Prs H1 vs zs → Prs (upd (upd H1 p (.ins C dx (putF "start" a []))) p (.ins C dx (putF "end" b (putF "start" a [])))) vs zs := fun h => by
          induction h with
          | nil => exact .nil
          | cons x _ ih => exact .cons (tupne x) ih
        refine ⟨_, rfl, l, xs, ps, rfl, hl', prsne (hx.same k1), fun r ys nr hys => ⟨_, rfl, p, C, dx, putF "end" b (putF "start" a []), rfl, ?_, T.cl, T.nP, ?_, ?_⟩⟩
        · rw [upd_ne (ne_of_none upd_same nr)]
          exact upd_same
        · rw [tf_len2]
          decide
        · have npr : p ≠ r := ne_of_none upd_same nr
          have sm : But p H1 (upd (upd (upd (upd H1 p (.ins C dx (putF "start" a []))) p (.ins C dx (putF "end" b (putF "start" a [])))) r (.lst ys)) p (.ins C dx (tf a b r))) := fun c o h n => by
            rw [upd_ne n, upd_ne (ne_of_none (keep c o h n) nr)]
            exact keep c o h n
          have back : ∀ {c : Addr} {xs : List V}, (upd (upd (upd H1 p (.ins C dx (putF "start" a []))) p (.ins C dx (putF "end" b (putF "start" a [])))) r (.lst ys)) c = some (.tup xs) →
              (upd (upd (upd (upd H1 p (.ins C dx (putF "start" a []))) p (.ins C dx (putF "end" b (putF "start" a [])))) r (.lst ys)) p (.ins C dx (tf a b r))) c = some (.tup xs) := fun {c xs} h => by
            rw [upd_ne (show c ≠ p from fun z => by rw [z, upd_ne npr, upd_same] at h; cases h)]
            exact h
          have pr1 : ∀ {v : V} {z : Pl}, Pr (upd (upd H1 p (.ins C dx (putF "start" a []))) p (.ins C dx (putF "end" b (putF "start" a [])))) v z → Pr (upd (upd (upd (upd H1 p (.ins C dx (putF "start" a []))) p (.ins C dx (putF "end" b (putF "start" a [])))) r (.lst ys)) p (.ins C dx (tf a b r))) v z := fun {v z} h => by
            obtain ⟨t, rfl, h⟩ := h
            exact ⟨t, rfl, back (by rw [upd_ne (ne_of_none h nr)]; exact h)⟩
          have pr2 : ∀ {vs : List V} {zs : List Pl}, Prs (upd (upd H1 p (.ins C dx (putF "start" a []))) p (.ins C dx (putF "end" b (putF "start" a [])))) vs zs → Prs (upd (upd (upd (upd H1 p (.ins C dx (putF "start" a []))) p (.ins C dx (putF "end" b (putF "start" a [])))) r (.lst ys)) p (.ins C dx (tf a b r))) vs zs := fun h => by
            induction h with
            | nil => exact .nil
            | cons x _ ih => exact .cons (pr1 x) ih
          refine q hc' hnd _ ⟨dx, r, a, b, ys, upd_same, pr1 (tupne (ha.same k1)), pr1 (tupne (hb.same k1)), ?_, pr2 hys, sortP_pw ps, sortP_nd.mpr hnd, by rw [sortP_len]; exact hc'⟩ (fun c o h n => sm c o (k1 _ _ h) n) fun dx' a' b' r' z => ?_
          · rw [upd_ne npr.symm]
            exact upd_same
          · rw [upd_same] at z
            have z2 := Option.some.inj z
            injection z2 with _ _ z3
            have z4 := tf_picks a b r
            have z6 : tf a b r = tf a' b' r' := z3
            rw [z6, tf_picks] at z4
            have z5 : r' = r := V.ref.inj (Option.some.inj z4)
            subst z5
            rw [upd_ne npr.symm, upd_ne npr.symm] at nr
            exact k1.free nr
def spPicks (C : Addr) : Sp := fun vs H Q _ => ∃ (p : Addr) (st en : Pl) (ps : List Pl), vs = [.ref p] ∧ TaskAt C H p st en ps ∧
  ∀ (r : Addr) (xs : List V), H r = none → Prs H xs ps → Q (.ref r) (upd H r (.lst xs))
theorem ok_picks {f C CI : Addr} {fd : FuncData} (F : Fun K "picks" "Task.picks" s_Task_picks f fd) (T : TaskTxt K mg C CI) : FnOk P w K mg base CX0 1 f fd ["self"] (spPicks C) := by
  refine F.ok sc_Task_picks (fun vs H Q E h => ?_) (fun cdv A outer s H vs Q E hr h => ?_)
  · obtain ⟨p, st, en, ps, rfl, _⟩ := h
    rfl
  · obtain ⟨p, st, en, ps, rfl, ⟨dx, l, a, b, xs, h1, h2, h3, h4, h5, _⟩, q⟩ := h
    exact ⟨_, (pss_one (ps_ret (pe_callTy call_list_of (by rfl) T.list (by decide +kernel) (pa_cons (pe_fld (pv 0) rfl) pa_nil)))), _, rfl, p, C, dx, _, _, rfl, h1, T.cl, T.nP, tf_picks _ _ _, l, xs, rfl, .inl (SqL.of h4), fun r nr => q r xs nr h5⟩
/-- an object of the class made: the heap as it is handed to __init__ -/
theorem mkSame {H : Hp} {x dx : Addr} {o u : HO} (n : H x = none) (m : H dx = none) : Same H (upd (upd H dx u) x o) := fun b o e => by
  rw [upd_ne (ne_of_none e n), upd_ne (ne_of_none e m)]
  exact e
theorem mkBut {H H' : Hp} {x dx : Addr} {o u : HO} (n : H x = none) (m : H dx = none) (k : But x (upd (upd H dx u) x o) H') : Same H H' := fun b o e => k b o (mkSame n m b o e) (ne_of_none e n)
end
section
open GxR NdefX PySem.Spec PyProof.Rows
variable {P : Program} {w : World} {K : PySem.W.Frag} {mg : Str → Option Value} {base : Heap}
theorem ok_is_cross {f fI C : Addr} {fd fdI : FuncData} (F : Fun K "is_cross" "House.is_cross" s_House_is_cross f fd) (T : HouseTxt K mg C) (GI : FnOk P w K mg base CX0 1 fI fdI ["self", "place"] (spPl C isPl)) (bI : Binds K fdI ["self", "place"] []) (mI : Meth K C "is_place" fI) : FnOk P w K mg base CX0 2 f fd ["self", "place"] (spPl C isCr) := by
  refine F.ok sc_House_is_cross (fun vs H Q E h => ?_) (fun cdv A outer s H vs Q E hr h => ?_)
  · obtain ⟨p, v, ls, gs, cs, pl, rfl, _⟩ := h
    rfl
  · obtain ⟨p, v, ls, gs, cs, pl, rfl, hH, ⟨t, rfl, ht⟩, q⟩ := h
    obtain ⟨_, dx, l, g, c, d, h1, h2, h3, h4, h5⟩ := id hH
    refine ⟨_, (pss_one (ps_ret (pe_and (pe_meth (pv 0) T.cl mI GI hr bI .nil pass0 (pa_cons (pv 1) pa_nil)) (pe_one (pe_cmpR op_in_seq (pe_ix ix_tup (pv 1) pe_int (fun _ _ => rfl)) (pe_fld (pv 0) rfl) (by rfl)))))), ?_⟩
    refine ⟨_, rfl, p, dx, _, rfl, h1, hf_no _ _ _ _ _ (by decide +kernel) (by decide +kernel) (by decide +kernel) (by decide +kernel) (by decide +kernel), _, rfl, p, .ref t, ls, gs, cs, pl, rfl, hH, ⟨t, rfl, ht⟩, _, rfl, ?_⟩
    unfold isCr at q
    cases hp : isPl ls gs pl with
    | false =>
      rw [hp] at q
      exact q
    | true =>
      rw [hp, Bool.true_and] at q
      exact ⟨_, rfl, t, _, _, _, rfl, rfl, SqT.of ht, rfl, _, rfl, p, C, dx, _, _, rfl, h1, T.cl, T.nX, hf_crosses _ _ _ _ _, c, _, rfl, .inl (SqL.of h4), rfl, flat_ints _, by rw [inV_ints]; exact q⟩
/-- the first place that is wrong -/
def wrongP (ls gs : List Int) (st en : Pl) (ps : List Pl) : Option Pl := ([st, en].find? fun p => !isCr ls gs p).or (ps.find? fun p => !isPl ls gs p)
def spCheck (CT C CP : Addr) : Sp := fun vs H Q E => ∃ (p t : Addr) (ls gs : List Int) (cs : List (Str × Int × Int)) (st en : Pl) (ps : List Pl), vs = [.ref p, .ref t] ∧ HouseAt C H p ls gs cs ∧ TaskAt CT H t st en ps ∧
  (wrongP ls gs st en ps = none → ∀ H', Same H H' → Q .non H') ∧
  (∀ a, wrongP ls gs st en ps = some a → ∀ (H' : Hp) (d : Addr) (v : V), Same H H' → Pr H' v a → H' d = some (.xd [("place", v)]) → E (.ref CP) (some d) H')
theorem find_snoc {α : Type} {f : α → Bool} {xs : List α} {i : Nat} {x : α} (h0 : (xs.take i).find? f = none) (hx : xs[i]? = some x) : (f x = true → xs.find? f = some x) ∧ (f x = false → (xs.take (i + 1)).find? f = none) := by
  have e : xs.take (i + 1) = xs.take i ++ [x] := by
    rw [List.take_add_one, hx]
    rfl
  refine ⟨fun z => ?_, fun z => ?_⟩
  · have q := List.take_append_drop (i + 1) xs
    rw [← q, List.find?_append, e, List.find?_append, h0]
    simp [z]
  · rw [e, List.find?_append, h0]
    simp [z]
theorem ok_check {f fX fL fI fP pp C CT CI CP : Addr} {fd fdX fdL fdI fdP : FuncData} (F : Fun K "check_task" "check_task" s_check_task f fd) (T : HouseTxt K mg C) (TT : TaskTxt K mg CT CI) (U : PlcTxt K mg CP fI) (GI : FnOk P w K mg base CX0 1 fI fdI ["self", "place"] (spXI K CP "place")) (bI : Binds K fdI ["self", "place"] [])
    (GL : FnOk P w K mg base CX0 1 fL fdL ["self", "place"] (spPl C isPl)) (bL : Binds K fdL ["self", "place"] []) (mL : Meth K C "is_place" fL) (GX : FnOk P w K mg base CX0 2 fX fdX ["self", "place"] (spPl C isCr)) (bX : Binds K fdX ["self", "place"] []) (mX : Meth K C "is_cross" fX)
    (GP : FnOk P w K mg base CX0 1 fP fdP ["self"] (spPicks CT)) (bP : Binds K fdP ["self"] []) (hP : PropOf K CT "picks" pp fP) : FnOk P w K mg base (L2.CX P w) 4 f fd ["house", "task"] (spCheck CT C CP) := by
  refine F.okX sc_check_task (fun vs H Q E h => ?_) (fun cdv A outer s H vs Q E hr h => ?_)
  · obtain ⟨p, t, ls, gs, cs, st, en, ps, rfl, _⟩ := h
    rfl
  · obtain ⟨p, t, ls, gs, cs, st, en, ps, rfl, hH, hT, q, e⟩ := h
    obtain ⟨va, dx, l, g, c, d, h1, _⟩ := id hH
    obtain ⟨dt, r, a, b, xs, t1, ha, hb, ht4, hxs, tw, tn, tl⟩ := id hT
    have nd := sc_check_task.nd
    refine ⟨_, (pss_cons (ps_for (passes_of rfl) rfl (pi_list (pe_lst (pa_cons (pe_fld (pv 1) rfl) (pa_cons (pe_fld (pv 1) rfl) pa_nil)))) (pg_name (i := 2) nd rfl (.inl rfl)) (pss_one (ps_if (pt_not (pt_val (pe_meth (pv 0) T.cl mX GX (by exact hr.mono (by decide)) bX .nil pass0 (pa_cons (pv 2) pa_nil)))) (pss_one (ps_raise rfl (takes_of rfl rfl rfl rfl) (pmk_oex U.o U.i U.y GI (by exact hr.mono (by decide)) bI .nil pass0 (by rfl) U.g (pa_cons (pv 2) pa_nil)))) pss_nil)))
      (pss_one (ps_for (passes_of rfl) rfl (pi_list (pe_prop (pv 1) TT.cl hP GP (by exact hr.mono (by decide)) bP .nil pass0 rfl)) (pg_name (i := 2) nd rfl (.inl rfl)) (pss_one (ps_if (pt_not (pt_val (pe_meth (pv 0) T.cl mL GL (by exact hr.mono (by decide)) bL .nil pass0 (pa_cons (pv 2) pa_nil)))) (pss_one (ps_raise rfl (takes_of rfl rfl rfl rfl) (pmk_oex U.o U.i U.y GI (by exact hr.mono (by decide)) bI .nil pass0 (by rfl) U.g (pa_cons (pv 2) pa_nil)))) pss_nil))))), ?_⟩
    refine ⟨_, rfl, t, CT, dt, _, _, rfl, t1, TT.cl, TT.nS, tf_start _ _ _, _, rfl, t, CT, dt, _, _, rfl, t1, TT.cl, TT.nE, tf_end _ _ _, (by show 2 ≤ sizeLine; decide), fun m nm => ?_⟩
    obtain ⟨H1, e1, k1, g1⟩ := made (o := .lst [a, b]) nm
    rw [e1]
    have hab : Prs H1 [a, b] [st, en] := .cons (ha.same k1) (.cons (hb.same k1) .nil)
    refine ⟨m, rfl, ⟨_, SqL.of g1⟩, ?_⟩
    refine for_list (K := K) (a := m) (xs := [a, b]) (fun i σ H' => (∃ v2 : Option V, σ = [some (.ref p), some (.ref t), v2]) ∧ Same H1 H' ∧ ([st, en].take i).find? (fun p => !isCr ls gs p) = none) ?_ ?_ ?_ ?_
    · exact ⟨⟨_, rfl⟩, Same.refl _, rfl⟩
    · rintro i σ H' _ ⟨_, kt, _⟩
      exact SqL.of (kt _ _ g1)
    · rintro i x σ H' hx ⟨⟨v2, rfl⟩, kt, hno⟩
      obtain ⟨z, hz, hxz⟩ := (hab.same kt).at hx
      obtain ⟨f1, f2⟩ := find_snoc hno hz
      have k1t := k1.trans kt
      refine ⟨_, rfl, p, dx, _, rfl, k1t _ _ h1, hf_no _ _ _ _ _ (by decide +kernel) (by decide +kernel) (by decide +kernel) (by decide +kernel) (by decide +kernel), _, rfl, p, x, ls, gs, cs, z, rfl, hH.kp (kpS k1t), hxz, _, rfl, ?_⟩
      cases hi : isCr ls gs z with
      | false =>
        refine iteT ?_
        have hw : wrongP ls gs st en ps = some z := by
          unfold wrongP
          rw [f1 (by rw [hi]; rfl)]
          rfl
        refine ⟨_, rfl, by show 1 ≤ 1000; decide, fun y ny => ⟨y, x, rfl, U.o, U.n, upd_same, fun dd hd hne => ⟨rfl, dd, [("place", x)], ?_⟩⟩⟩
        obtain ⟨g1, g2, g3, g4⟩ := raised (f := "place") (v := x) ny hd hne
        exact ⟨g1, g2, g3, e z hw _ dd x (k1t.trans g4) (hxz.same g4) upd_same⟩
      | true =>
        refine iteF ?_
        exact ⟨⟨_, rfl⟩, kt, f2 (by rw [hi]; rfl)⟩
    rintro σ H2 ⟨⟨v2, rfl⟩, k2, hno⟩
    have k12 := k1.trans k2
    have hT2 := hT.same k12
    refine ⟨_, rfl, t, dt, _, rfl, k12 _ _ t1, t, st, en, ps, rfl, hT2, fun m2 ys nm2 hys => ?_⟩
    obtain ⟨H3, e3, k3, g3⟩ := made (o := .lst ys) nm2
    rw [e3]
    have hys3 := hys.same k3
    refine ⟨m2, rfl, ⟨_, SqL.of g3⟩, ?_⟩
    refine for_list (K := K) (a := m2) (xs := ys) (fun i σ H' => (∃ v2 : Option V, σ = [some (.ref p), some (.ref t), v2]) ∧ Same H3 H' ∧ (ps.take i).find? (fun p => !isPl ls gs p) = none) ?_ ?_ ?_ ?_
    · exact ⟨⟨_, rfl⟩, Same.refl _, rfl⟩
    · rintro i σ H' _ ⟨_, kt, _⟩
      exact SqL.of (kt _ _ g3)
    · rintro i x σ H' hx ⟨⟨v2, rfl⟩, kt, hno2⟩
      obtain ⟨z, hz, hxz⟩ := (hys3.same kt).at hx
      obtain ⟨f1, f2⟩ := find_snoc hno2 hz
      have k0t := (k12.trans k3).trans kt
      refine ⟨_, rfl, p, dx, _, rfl, k0t _ _ h1, hf_no _ _ _ _ _ (by decide +kernel) (by decide +kernel) (by decide +kernel) (by decide +kernel) (by decide +kernel), _, rfl, p, x, ls, gs, cs, z, rfl, hH.kp (kpS k0t), hxz, _, rfl, ?_⟩
      cases hi : isPl ls gs z with
      | false =>
        refine iteT ?_
        have hw : wrongP ls gs st en ps = some z := by
          unfold wrongP
          have hno' : [st, en].find? (fun p => !isCr ls gs p) = none := hno
          rw [hno', f1 (by rw [hi]; rfl)]
          rfl
        refine ⟨_, rfl, by show 1 ≤ 1000; decide, fun y ny => ⟨y, x, rfl, U.o, U.n, upd_same, fun dd hd hne => ⟨rfl, dd, [("place", x)], ?_⟩⟩⟩
        obtain ⟨g1, g2, g3, g4⟩ := raised (f := "place") (v := x) ny hd hne
        exact ⟨g1, g2, g3, e z hw _ dd x (k0t.trans g4) (hxz.same g4) upd_same⟩
      | true =>
        refine iteF ?_
        exact ⟨⟨_, rfl⟩, kt, f2 (by rw [hi]; rfl)⟩
    rintro σ H4 ⟨⟨v2', rfl⟩, k4, hno2⟩
    rw [hys.len, List.take_length] at hno2
    refine q ?_ H4 ((k12.trans k3).trans k4)
    unfold wrongP
    have hno' : [st, en].find? (fun p => !isCr ls gs p) = none := hno
    rw [hno', hno2]
    rfl
end
section
open GxR NdefX PySem.Spec PyProof.Rows
variable {P : Program} {w : World} {K : PySem.W.Frag} {mg : Str → Option Value} {base : Heap}
structure HD where
  ls : List Int
  gs : List Int
  cs : List (Str × Int × Int)
structure TD where
  st : Pl
  en : Pl
  ps : List Pl
theorem TaskAt.kp {C : Addr} {H H' : Hp} {p : Addr} {st en : Pl} {ps : List Pl} (h : TaskAt C H p st en ps) (k : Kp H H') : TaskAt C H' p st en ps := by
  obtain ⟨dx, l, a, b, xs, h1, h2, h3, h4, h5, h6⟩ := h
  exact ⟨dx, l, a, b, xs, k.ins h1, h2.kp k, h3.kp k, k.lst h4, h5.kp k, h6⟩
def RHouse (C : Addr) (h : HD) : Rel := ⟨fun H v => ∃ p, v = .ref p ∧ HouseAt C H p h.ls h.gs h.cs, fun k ⟨p, e, q⟩ => ⟨p, e, q.kp k⟩⟩
def RTask (C : Addr) (t : TD) : Rel := ⟨fun H v => ∃ p, v = .ref p ∧ TaskAt C H p t.st t.en t.ps, fun k ⟨p, e, q⟩ => ⟨p, e, q.kp k⟩⟩
theorem hi_house {C : Addr} {h : HD} {m : Str} (n1 : ¬ m = "_lengths") (n2 : ¬ m = "_gaps") (n3 : ¬ m = "_crosses") (n4 : ¬ m = "_top") (n5 : ¬ m = "_closed") (H : Hp) (v : V) (r : (RHouse C h).p H v) : ∃ a dx fs, v = .ref a ∧ H a = some (.ins C dx fs) ∧ fs.lookup m = none := by
  obtain ⟨p, rfl, hv, dx, l, g, c, d, h1, _⟩ := r
  exact ⟨p, dx, _, rfl, h1, hf_no _ _ _ _ _ n1 n2 n3 n4 n5⟩
theorem ins_task {C : Addr} {t : TD} (H : Hp) (v : V) (r : (RTask C t).p H v) : ∃ a dx fs, v = .ref a ∧ H a = some (.ins C dx fs) := by
  obtain ⟨p, rfl, dx, l, a, b, xs, h1, _⟩ := r
  exact ⟨p, dx, _, rfl, h1⟩
theorem Dt.pr {H : Hp} {v : V} {p : Pl} (h : Dt H v (dP p)) : Pr H v p := by
  cases h with
  | tup e a =>
    cases a with
    | cons a1 a =>
      cases a with
      | cons a2 a =>
        cases a
        cases a1
        cases a2
        exact ⟨_, rfl, e⟩
theorem Pr.dt {H : Hp} {v : V} {p : Pl} (h : Pr H v p) : Dt H v (dP p) := by
  obtain ⟨t, rfl, e⟩ := h
  exact .tup e (.cons (.int _) (.cons (.int _) .nil))
theorem Prs.dt {H : Hp} {vs : List V} {ps : List Pl} (h : Prs H vs ps) : DtAll H vs (ps.map dP) := by
  induction h with
  | nil => exact .nil
  | cons a _ ih => exact .cons a.dt ih
theorem DtAll.prs {H : Hp} : ∀ {vs : List V} {ps : List Pl}, DtAll H vs (ps.map dP) → Prs H vs ps
  | [], [], _ => .nil
  | [], _ :: _, h => by cases h
  | _ :: _, [], h => by cases h
  | _ :: _, _ :: _, .cons a b => .cons a.pr b.prs
theorem Dt.kr {H : Hp} {v : V} {c : Str × Int × Int} (h : Dt H v (dLk c)) : Kr H v (lkC c) := by
  cases h with
  | tup e a =>
    cases a with
    | cons a1 a =>
      cases a with
      | cons a2 a =>
        cases a with
        | cons a3 a =>
          cases a
          cases a1
          cases a2
          cases a3
          exact ⟨_, rfl, e⟩
theorem Kr.dt {H : Hp} {v : V} {c : Str × Int × Int} (h : Kr H v (lkC c)) : Dt H v (dLk c) := by
  obtain ⟨t, rfl, e⟩ := h
  exact .tup e (.cons (.str _) (.cons (.int _) (.cons (.int _) .nil)))
theorem Krs.dt {H : Hp} : ∀ {vs : List V} {cs : List (Str × Int × Int)}, Krs H vs (kOf cs) → DtAll H vs (cs.map dLk)
  | [], [], _ => .nil
  | [], _ :: _, h => by cases h
  | _ :: _, [], h => by cases h
  | _ :: _, _ :: _, .cons a b => .cons (Kr.dt a) (Krs.dt b)
theorem DtAll.krs {H : Hp} : ∀ {vs : List V} {cs : List (Str × Int × Int)}, DtAll H vs (cs.map dLk) → Krs H vs (kOf cs)
  | [], [], _ => .nil
  | [], _ :: _, h => by cases h
  | _ :: _, [], h => by cases h
  | _ :: _, _ :: _, .cons a b => .cons a.kr b.krs
theorem flats_map {α : Type} {f : α → PyData} (h : ∀ a, flat (f a) = true) : ∀ xs : List α, flats (xs.map f) = true
  | [] => rfl
  | x :: xs => by
    show (flat (f x) && flats (xs.map f)) = true
    rw [h x, flats_map h xs]
    rfl
theorem sok_pl {C : Addr} {h : HD} {a : Pl} (f : List Int → List Int → Pl → Bool) : Sok (spPl C f) [RHouse C h, RD (dP a)] (fun _ => True) (RD (.bool (f h.ls h.gs a))) := fun H om vs ho hr _ Q E q => by
  obtain ⟨v, r, rfl, ⟨p, rfl, hH⟩, u, r', rfl, h2, rfl⟩ := hr
  exact ⟨p, u, h.ls, h.gs, h.cs, a, rfl, hH.kp kp_less, (Dt.pr h2).kp kp_less, q _ _ (Kp.refl _) (.bl _)⟩
theorem sok_picks {C : Addr} {t : TD} : Sok (spPicks C) [RTask C t] (fun _ => True) (RD (.list (t.ps.map dP))) := fun H om vs ho hr _ Q E q => by
  obtain ⟨v, r, rfl, ⟨p, rfl, hT⟩, rfl⟩ := hr
  refine ⟨p, t.st, t.en, t.ps, rfl, hT.kp kp_less, fun r xs n hx => q _ _ (kp_new n) ?_⟩
  rw [new_at ho n]
  exact .lst upd_same ((DtAll.less ho hx.dt (flats_map (fun _ => rfl) _)).kp (kp_new (less_none n)))
theorem sok_check {C CT CP : Addr} {h : HD} {t : TD} : Sok (spCheck CT C CP) [RHouse C h, RTask CT t] (fun _ => wrongP h.ls h.gs t.st t.en t.ps = none) (RD .none) := fun H om vs ho hr hw Q E q => by
  obtain ⟨v, r, rfl, ⟨p, rfl, hH⟩, u, r', rfl, ⟨p', rfl, hT⟩, rfl⟩ := hr
  exact ⟨p, p', h.ls, h.gs, h.cs, t.st, t.en, t.ps, rfl, hH.kp kp_less, hT.kp kp_less, fun _ H' k => q H' _ (kpS k) .non, fun a z => by rw [hw] at z; cases z⟩
end
section
open GxR NdefX PySem.Spec PyProof.Rows
variable {P : Program} {w : World} {K : PySem.W.Frag} {mg : Str → Option Value} {base : Heap} {b : Bool} {c : Ct} {te : TE} {ta : TA} {R R0 : Rel}
/-- a field -/
theorem e_fld {f : Str} {C : Addr} (cl : Cls K C) (no : NoAttr K C f) (h : ∀ H v, R0.p H v → ∃ a dx fs u, v = .ref a ∧ H a = some (.ins C dx fs) ∧ fs.lookup f = some u ∧ R.p H u) (ho : E b c te R0) : E b c (tFld K te f) R := fun σ H s Q q =>
  ho σ H s _ fun H1 x k1 r1 => by
    obtain ⟨a, dx, fs, u, rfl, e, l, r⟩ := h _ _ r1
    exact ⟨a, C, dx, fs, u, rfl, (less_some e).2, cl, no, l, q H1 u k1 r⟩
theorem fld_start {C : Addr} {t : TD} (H : Hp) (v : V) (r : (RTask C t).p H v) : ∃ a dx fs u, v = .ref a ∧ H a = some (.ins C dx fs) ∧ fs.lookup ("start" : Str) = some u ∧ (RD (dP t.st)).p H u := by
  obtain ⟨p, rfl, dx, l, a, b, xs, h1, h2, h3, h4, h5, h6⟩ := r
  exact ⟨p, dx, _, a, rfl, h1, tf_start a b l, h2.dt⟩
theorem fld_end {C : Addr} {t : TD} (H : Hp) (v : V) (r : (RTask C t).p H v) : ∃ a dx fs u, v = .ref a ∧ H a = some (.ins C dx fs) ∧ fs.lookup ("end" : Str) = some u ∧ (RD (dP t.en)).p H u := by
  obtain ⟨p, rfl, dx, l, a, b, xs, h1, h2, h3, h4, h5, h6⟩ := r
  exact ⟨p, dx, _, b, rfl, h1, tf_end a b l, h3.dt⟩
theorem fld_picks {C : Addr} {t : TD} (H : Hp) (v : V) (r : (RTask C t).p H v) : ∃ a dx fs u, v = .ref a ∧ H a = some (.ins C dx fs) ∧ fs.lookup ("_picks" : Str) = some u ∧ (RD (.list (t.ps.map dP))).p H u := by
  obtain ⟨p, rfl, dx, l, a, b, xs, h1, h2, h3, h4, h5, h6⟩ := r
  exact ⟨p, dx, _, .ref l, rfl, h1, tf_picks a b l, .lst h4 h5.dt⟩
theorem hi_task {C : Addr} {t : TD} {m : Str} (n1 : ¬ m = "start") (n2 : ¬ m = "end") (n3 : ¬ m = "_picks") (H : Hp) (v : V) (r : (RTask C t).p H v) : ∃ a dx fs, v = .ref a ∧ H a = some (.ins C dx fs) ∧ fs.lookup m = none := by
  obtain ⟨p, rfl, dx, l, a, b, xs, h1, _⟩ := r
  exact ⟨p, dx, _, rfl, h1, tf_no a b l n1 n2 n3⟩
theorem Pr.less {H : Hp} {M : Addr → Prop} (hM : ∀ a, M a → ∃ o, H a = some o ∧ Mut (some o)) {v : V} {p : Pl} (h : Pr H v p) : Pr (less H M) v p := (Dt.less hM h.dt rfl).pr
theorem Prs.less {H : Hp} {M : Addr → Prop} (hM : ∀ a, M a → ∃ o, H a = some o ∧ Mut (some o)) {vs : List V} {ps : List Pl} (h : Prs H vs ps) : Prs (less H M) vs ps := (DtAll.less hM h.dt (flats_map (fun _ => rfl) _)).prs
/-- Task(start, end, picks) -/
theorem e_mkTask {C CI : Addr} {E' : XK} {st en : Pl} {ps : List Pl} (h60 : ps.length ≤ 60) (nd : ps.Nodup) (ha : EA true c ta [RD (dP st), RD (dP en), RD (.list (ps.map dP))]) : E true c (tMake C (spTask K C CI) [] E' ta) (RTask C ⟨st, en, sortP ps⟩) := fun σ H s Q q =>
  ha σ H s _ fun H1 vs k1 r1 => fun x dx nx ndx ne => by
    obtain ⟨va, r, rfl, h1, vb, r', rfl, h2, vl, r'', rfl, h3, rfl⟩ := r1
    have s1 := s.kp k1
    have up : ∀ {v : V} {d : PyData}, Dt (hb true c σ H1) v d → Dt H1 v d := fun d => d.kp kp_less
    have k5 := mkSame (o := .ins C dx []) (u := .own x) nx ndx
    cases up h3 with
    | @lst l xs _ e a =>
      refine ⟨x, dx, l, va, vb, st, en, xs, ps, rfl, upd_same, (up h1).pr.same k5, (up h2).pr.same k5, SqL.of (k5 _ _ e), a.prs.same k5, by omega, fun _ _ H6 hT hb6 hr => ⟨rfl, ?_⟩, fun bad => absurd ⟨h60, nd⟩ bad⟩
      have c6 := mkBut nx ndx hb6
      have s6 := s1.kp (kpS c6)
      refine q H6 _ (k1.trans (kpS c6)) ⟨x, rfl, ?_⟩
      obtain ⟨dx', l', a', b', ys, e1, pa, pb, el, px, rest⟩ := hT
      have nl : H1 l' = none := by
        have z := hr dx' a' b' l' e1
        by_cases w1 : l' = x
        · rw [w1, upd_same] at z
          cases z
        · rw [upd_ne w1] at z
          by_cases w2 : l' = dx
          · rw [w2, upd_same] at z
            cases z
          · rw [upd_ne w2] at z
            exact z
      have hid : ∀ a, msk true c σ a → ∃ o, H6 a = some o ∧ Mut (some o) := fun a m => s6.hides a m
      have out : ∀ {a : Addr}, H1 a = none → ¬ msk true c σ a := fun n m => by
        obtain ⟨o, e, _⟩ := s1.hides _ m
        rw [n] at e
        cases e
      exact ⟨dx', l', a', b', ys, by rw [hb, less_out (out nx)]; exact e1, pa.less hid, pb.less hid, by rw [hb, less_out (out nl)]; exact el, px.less hid, rest⟩
end
section
open GxR NdefX PySem.Spec PyProof.Rows
variable {P : Program} {w : World} {K : PySem.W.Frag} {mg : Str → Option Value} {base : Heap} {b : Bool} {c : Ct} {ta tb : TE}
abbrev HX : Type := List Int × List Int × List (Str × Int × Int)
abbrev dHX (x : HX) : PyData := eT3 (eL PyData.int) (eL PyData.int) (eL dLk) x
theorem PartsAt.dt {H : Hp} {p : Addr} {x : HX} (h : PartsAt H p x.1 x.2.1 x.2.2) : Dt H (.ref p) (dHX x) := by
  obtain ⟨l, g, c, xs, h1, h2, h3, h4, h5⟩ := h
  exact .tup h1 (.cons (.lst h2 (DtAll.ofInts _)) (.cons (.lst h3 (DtAll.ofInts _)) (.cons (.lst h4 h5.dt) .nil)))
theorem ints_of {H : Hp} : ∀ {vs : List V} {ns : List Int}, DtAll H vs (ns.map PyData.int) → vs = ns.map V.int
  | [], [], _ => rfl
  | [], _ :: _, h => by cases h
  | _ :: _, [], h => by cases h
  | _ :: _, _ :: _, .cons a b => by
    cases a
    rw [ints_of b]
    rfl
theorem Dt.parts {H : Hp} {v : V} {x : HX} (h : Dt H v (dHX x)) : ∃ p, v = .ref p ∧ PartsAt H p x.1 x.2.1 x.2.2 := by
  cases h with
  | tup e a =>
    cases a with
    | cons a1 a =>
      cases a with
      | cons a2 a =>
        cases a with
        | cons a3 a =>
          cases a
          cases a1 with
          | lst e1 b1 =>
            cases a2 with
            | lst e2 b2 =>
              cases a3 with
              | lst e3 b3 =>
                have z1 := ints_of b1
                have z2 := ints_of b2
                subst z1
                subst z2
                exact ⟨_, rfl, _, _, _, _, e, e1, e2, e3, b3.krs⟩
theorem Dt.nums {H : Hp} {v : V} {ns : List Int} (h : Dt H v (.list (ns.map PyData.int))) : ∃ p, v = .ref p ∧ H p = some (.lst (ns.map V.int)) := by
  cases h with
  | lst e a =>
    have z := ints_of a
    subst z
    exact ⟨_, rfl, e⟩
theorem skx_numbers {ns0 : List Int} {m : Nat} : Skx0 (spNumbers K) [RScr K ns0, RD (.int (m : Int))] (fun _ => ns0.length ≤ 63 ∧ m ≤ 200) (fun ns : List Int => RD (.list (ns.map PyData.int))) (fun ns => ns.length = m ∧ Small ns) := fun H vs hr hp Q E q => by
  obtain ⟨v, r, rfl, ⟨a, rfl, h1⟩, u, r', rfl, h2, rfl⟩ := hr
  cases h2
  exact ⟨a, ns0, m, rfl, h1, hp.1, hp.2, fun H' p ns k n e el sm => q H' _ ns (kpS k) ⟨el, sm⟩ (.lst e (DtAll.ofInts _))⟩
structure Drawn (x : HX) : Prop where
  v : Valid x.1 x.2.1 x.2.2
  s9 : x.1.sum ≤ 9
  c8 : x.2.2.length ≤ 8
  cor : x.2.1.length ≤ 4 ∨ x.1.sum ≤ 5
theorem skx_parts {ns : List Int} {a : Nat} : Skx0 (spParts K) [RD (.list (ns.map PyData.int)), RD (.int (a : Int))] (fun _ => Small ns ∧ a + 16 ≤ ns.length) (fun x : HX => RD (dHX x)) Drawn := fun H vs hr hp Q E q => by
  obtain ⟨v, r, rfl, h1, u, r', rfl, h2, rfl⟩ := hr
  obtain ⟨p, rfl, j1⟩ := Dt.nums h1
  cases h2
  exact ⟨p, ns, a, rfl, SqL.of j1, hp.1, hp.2, fun H' t ls gs cs k _ pa va s9 c8 cor => q H' _ (ls, gs, cs) (kpS k) ⟨va, s9, c8, cor⟩ pa.dt⟩
def HX.hd (x : HX) : HD := ⟨x.1, x.2.1, x.2.2⟩
theorem skx_mkh {C TL TI : Addr} {x : HX} : Skx0 (spMkH C TL TI) [RD (dHX x)] (fun H => Valid x.1 x.2.1 x.2.2 ∧ TabG H TL ∧ TabG H TI) (fun _ : Unit => RHouse C x.hd) (fun _ => True) := fun H vs hr hp Q E q => by
  obtain ⟨v, r, rfl, h1, rfl⟩ := hr
  obtain ⟨p, rfl, j1⟩ := Dt.parts h1
  exact ⟨p, _, _, _, rfl, j1, hp.1, hp.2.1, hp.2.2, fun H' h k hh => q H' _ () k trivial ⟨h, rfl, hh⟩⟩
def RBes (x : HX) : Rel := ⟨fun H v => ∃ d, v = .ref d ∧ BesAt H d x.1 x.2.1 x.2.2, fun k ⟨d, e, h⟩ => ⟨d, e, h.kp k⟩⟩
theorem skx_bes {x : HX} : Skx0 (spBes K) [RD (dHX x)] (fun _ => Valid x.1 x.2.1 x.2.2 ∧ x.1.sum ≤ 9) (fun _ : Unit => RBes x) (fun _ => True) := fun H vs hr hp Q E q => by
  obtain ⟨v, r, rfl, h1, rfl⟩ := hr
  obtain ⟨p, rfl, j1⟩ := Dt.parts h1
  exact ⟨p, _, _, _, rfl, j1, hp.1, hp.2, fun H' d k _ hb => q H' _ () (kpS k) trivial ⟨d, rfl, hb⟩⟩
/-- beside[place] -/
def nbs (x : HX) (p : Pl) : List (Pl × Int) := besL x.1 x.2.1 x.2.2 p
theorem Brs.dt {H : Hp} {vs : List V} {rs : List (Pl × Int)} (h : Brs H vs rs) : DtAll H vs (rs.map (eT2 dP PyData.int)) := by
  induction h with
  | nil => exact .nil
  | cons a _ ih =>
    obtain ⟨t, u, rfl, h1, h2⟩ := a
    exact .cons (.tup h1 (.cons h2.dt (.cons (.int _) .nil))) ih
theorem DGet.kp {H H' : Hp} {a : Addr} {y : V} {r : Option V} (h : DGet H a y r) (k : Kp H H') : DGet H' a y r := by
  have rd : ∀ {u : HO}, (∀ ps, u ≠ .tbl ps) → Rd H a u → Rd H' a u := fun {u} n z => by
    rcases z with z | ⟨o, z⟩
    · exact .inl (k.at_ _ _ z n)
    · exact .inr ⟨o, k.at_ _ _ z fun _ e => nomatch e⟩
  rcases h with ⟨kvs, j, h1, h2, h3⟩ | ⟨kvs, j, t, h1, h2, h3, h4⟩
  · exact .inl ⟨kvs, j, rd (fun _ e => nomatch e) h1, h2, h3⟩
  · exact .inr ⟨kvs, j, t, rd (fun _ e => nomatch e) h1, h2, k.tup h3, h4⟩
/-- the places, in order -/
def plcs (x : HX) : List Pl := gridP (x.2.1.length + 1) (x.1.sum.toNat + 1)
theorem n_besS {x : HX} (hd : E true c ta (RBes x)) : EN c (tCB rSortDT (tCons ta tNil)) (OL ((plcs x).map dP)) := fun σ H s Q q =>
  hd σ H s _ fun H1 v k1 r1 => by
    rw [hb_t] at r1
    obtain ⟨d, rfl, hb⟩ := r1
    obtain ⟨L, e, hg, hc⟩ := hb
    refine ⟨d, _, rfl, .inl (less_some e).2, (by rw [kvL_keys]; exact fit_plK _), fun p ys n hy => q H1 p _ k1 n ⟨ys, rfl, ?_⟩⟩
    rw [kvL_keys, hg, sort_plK (grid_pw _ _)] at hy
    have := DtAll.less (M := msk true c σ) (fun a m => (s.kp k1).hides a m) (krs_prs hy).dt (flats_map (fun _ => rfl) _)
    rw [show less H1 (msk true c σ) = bas c σ H1 from hb_t] at this
    exact this
theorem plcs_pl {x : HX} (h0 : 0 ≤ x.1.sum) {p : Pl} : p ∈ plcs x ↔ isPl x.1 x.2.1 p = true := by
  rw [← grid_isPl h0 p]
  exact decide_eq_true_iff.symm
theorem plcs_len (x : HX) : 1 ≤ (plcs x).length := by
  unfold plcs
  rw [grid_len]
  have : 1 * 1 ≤ (x.2.1.length + 1) * (x.1.sum.toNat + 1) := Nat.mul_le_mul (by omega) (by omega)
  omega
theorem plcs_most {x : HX} (d : Drawn x) : (plcs x).length ≤ 120 := by
  have h1 := d.v.2.1.1
  have h2 := d.s9
  have h3 := d.v.lens.pos2
  exact grid_len2 _ _ (by omega) (by omega)
structure TopN (P : Program) (w : World) (K : PySem.W.Frag) (mg : Str → Option Value) (base : Heap) (CX : CXT) (k : Nat) (x : Str) (ps : List Str) (sp : Sp) where
  f : Addr
  fd : FuncData
  G : FnOk P w K mg base CX k f fd ps sp
  b : Binds K fd ps []
  g : mg x = some (.ref f)
  kp : PySem.W.keepIn K (.ref f) = true
end
section
open GxR NdefX PySem.Spec PyProof.Rows
variable {P : Program} {w : World} {K : PySem.W.Frag} {mg : Str → Option Value} {base : Heap}
abbrev TabP := List (Pl × Int)
def kvF (M : TabP) : List (Tk × V) := M.map fun x => (plK x.1, V.int x.2)
def getM (M : TabP) (p : Pl) : Option Int := (M.find? fun x => decide (x.1 = p)).map (·.2)
def setM (M : TabP) (p : Pl) (v : Int) : TabP := if (M.any fun x => decide (x.1 = p)) = true then M.map (fun x => if x.1 = p then (x.1, v) else x) else M ++ [(p, v)]
theorem getM_cons (x : Pl × Int) (M : TabP) (p : Pl) : getM (x :: M) p = if x.1 = p then some x.2 else getM M p := by
  unfold getM
  rw [List.find?_cons]
  by_cases c : x.1 = p
  · rw [if_pos c, decide_eq_true c]
    rfl
  · rw [if_neg c, decide_eq_false c]
theorem val_getM (p : Pl) : ∀ M : TabP, valV (kvF M) (plK p) = (getM M p).map V.int
  | [] => rfl
  | x :: M => by
    rw [getM_cons]
    show valV ((plK x.1, V.int x.2) :: kvF M) (plK p) = _
    by_cases c : x.1 = p
    · rw [if_pos c]
      exact valV_pos (p := (plK x.1, V.int x.2)) (by rw [c])
    · rw [if_neg c, valV_neg fun e => c (plK_inj e)]
      exact val_getM p M
theorem put_setM (M : TabP) (p : Pl) (v : Int) : putK (kvF M) (plK p) (.int v) = kvF (setM M p v) := by
  have e : ((kvF M).any fun kv => decide (kv.1 = plK p)) = M.any fun x => decide (x.1 = p) := by
    unfold kvF
    rw [List.any_map]
    refine congrArg (fun g => M.any g) (funext fun x => ?_)
    show decide (plK x.1 = plK p) = decide (x.1 = p)
    by_cases c : x.1 = p
    · rw [c, decide_eq_true rfl, decide_eq_true rfl]
    · rw [decide_eq_false c, decide_eq_false fun z => c (plK_inj z)]
  unfold putK setM
  rw [e]
  by_cases c : (M.any fun x => decide (x.1 = p)) = true
  · rw [if_pos c, if_pos c]
    unfold kvF
    rw [List.map_map, List.map_map]
    refine List.map_congr_left fun x _ => ?_
    show (if plK x.1 = plK p then (plK x.1, V.int v) else (plK x.1, V.int x.2)) = _
    by_cases d : x.1 = p
    · rw [if_pos (by rw [d])]
      show _ = (plK (if x.1 = p then (x.1, v) else x).1, V.int (if x.1 = p then (x.1, v) else x).2)
      rw [if_pos d]
    · rw [if_neg fun z => d (plK_inj z)]
      show _ = (plK (if x.1 = p then (x.1, v) else x).1, V.int (if x.1 = p then (x.1, v) else x).2)
      rw [if_neg d]
  · rw [if_neg c, if_neg c]
    unfold kvF
    rw [List.map_append]
    rfl
theorem get_setM (M : TabP) (p q : Pl) (v : Int) : getM (setM M p v) q = if q = p then some v else getM M q := by
  unfold setM
  by_cases c : (M.any fun x => decide (x.1 = p)) = true
  · rw [if_pos c]
    induction M with
    | nil => cases c
    | cons x M ih =>
      rw [List.map_cons, getM_cons, getM_cons]
      by_cases d : x.1 = p
      · rw [if_pos d]
        by_cases g : q = p
        · rw [if_pos g, if_pos (show x.1 = q by rw [d, g])]
        · rw [if_neg g, if_neg (show ¬ x.1 = q from fun z => g (by rw [← z, d])), if_neg (show ¬ x.1 = q from fun z => g (by rw [← z, d]))]
          by_cases c2 : (M.any fun x => decide (x.1 = p)) = true
          · rw [ih c2, if_neg g]
          · have e : M.map (fun x => if x.1 = p then (x.1, v) else x) = M := by
              refine (List.map_congr_left (g := id) fun y hy => ?_).trans (List.map_id _)
              have : ¬ y.1 = p := fun z => c2 (List.any_eq_true.mpr ⟨y, hy, decide_eq_true z⟩)
              rw [if_neg this]
              rfl
            rw [e]
      · rw [if_neg d]
        have c2 : (M.any fun x => decide (x.1 = p)) = true := by
          rw [List.any_cons, decide_eq_false d, Bool.false_or] at c
          exact c
        rw [ih c2]
        by_cases g : x.1 = q
        · rw [if_pos g, if_neg (show ¬ q = p from fun z => d (by rw [g, z]))]
          rw [if_pos g]
        · rw [if_neg g, if_neg g]
  · rw [if_neg c]
    have no : ∀ x ∈ M, ¬ x.1 = p := fun x hx z => c (List.any_eq_true.mpr ⟨x, hx, decide_eq_true z⟩)
    clear c
    induction M with
    | nil =>
      show getM [(p, v)] q = _
      rw [getM_cons]
      by_cases g : p = q
      · rw [if_pos g, if_pos g.symm]
      · rw [if_neg g, if_neg fun z => g z.symm]
    | cons x M ih =>
      rw [List.cons_append, getM_cons, getM_cons, ih fun y hy => no y (List.mem_cons_of_mem _ hy)]
      by_cases g : x.1 = q
      · rw [if_pos g, if_pos g, if_neg (show ¬ q = p from fun z => no x List.mem_cons_self (by rw [g, z]))]
      · rw [if_neg g, if_neg g]
theorem keys_setM (M : TabP) (p : Pl) (v : Int) (nd : (M.map (·.1)).Nodup) : ((setM M p v).map (·.1)).Nodup := by
  unfold setM
  by_cases c : (M.any fun x => decide (x.1 = p)) = true
  · rw [if_pos c, List.map_map]
    have e : ((fun x : Pl × Int => x.1) ∘ fun x : Pl × Int => if x.1 = p then (x.1, v) else x) = fun x => x.1 := funext fun x => by
      show (if x.1 = p then (x.1, v) else x).1 = x.1
      split <;> rfl
    rw [e]
    exact nd
  · rw [if_neg c, List.map_append]
    refine List.nodup_append.mpr ⟨nd, by simp, fun y hy y' hy' e => c ?_⟩
    obtain ⟨x, hx, rfl⟩ := List.mem_map.mp hy
    refine List.any_eq_true.mpr ⟨x, hx, decide_eq_true ?_⟩
    rw [e]
    simpa using hy'
theorem getM_key {M : TabP} {p : Pl} : getM M p ≠ none ↔ p ∈ M.map (·.1) := by
  induction M with
  | nil => simp [getM]
  | cons x M ih =>
    rw [getM_cons, List.map_cons, List.mem_cons]
    by_cases c : x.1 = p
    · rw [if_pos c]
      simp [c]
    · rw [if_neg c, ih]
      have : ¬ p = x.1 := fun z => c z.symm
      simp [this]
theorem nodup_sub : ∀ {a b : List Pl}, a.Nodup → (∀ x ∈ a, x ∈ b) → a.length ≤ b.length
  | [], _, _, _ => Nat.zero_le _
  | x :: a, b, nd, h => by
    have hx := h x List.mem_cons_self
    have ih := nodup_sub (a := a) (b := b.erase x) (List.nodup_cons.mp nd).2 fun y hy => by
      have ne : y ≠ x := fun z => (List.nodup_cons.mp nd).1 (by rw [← z]; exact hy)
      exact (List.mem_erase_of_ne ne).mpr (h y (List.mem_cons_of_mem _ hy))
    rw [List.length_erase_of_mem hx] at ih
    have := List.length_pos_of_mem hx
    rw [List.length_cons]
    omega
theorem unmap_plK : ∀ {ks : List Tk}, (∀ k ∈ ks, ∃ p, k = plK p) → ∃ ps : List Pl, ks = ps.map plK
  | [], _ => ⟨[], rfl⟩
  | k :: ks, h => by
    obtain ⟨p, rfl⟩ := h k List.mem_cons_self
    obtain ⟨ps, rfl⟩ := unmap_plK (ks := ks) fun x hx => h x (List.mem_cons_of_mem _ hx)
    exact ⟨p :: ps, rfl⟩
theorem kvF_keys (M : TabP) : (kvF M).map (·.1) = (M.map (·.1)).map plK := by
  unfold kvF
  rw [List.map_map, List.map_map]
  rfl
theorem kvF_len (M : TabP) : (kvF M).length = M.length := List.length_map _
/-- all but the one at L stays -/
def Bt (L : Addr) (H H' : Hp) : Prop := ∀ b o, H b = some o → b ≠ L → H' b = some o
theorem Bt.refl (L : Addr) (H : Hp) : Bt L H H := fun _ _ e _ => e
theorem Bt.put {L : Addr} {H H1 : Hp} {u : HO} (a : Bt L H H1) : Bt L H (upd H1 L u) := fun c o e n => by
  rw [upd_ne n]
  exact a c o e n
theorem Bt.over {L : Addr} {H H1 H2 : Hp} (k : Same H H1) (n : H L = none) (a : Bt L H1 H2) : Same H H2 := fun b o e => a b o (k b o e) (ne_of_none e n)
theorem Pr.bt {L : Addr} {H H1 : Hp} {kvs : List (Tk × V)} {v : V} {p : Pl} (h : Pr H v p) (hL : H L = some (.dT kvs)) (a : Bt L H H1) : Pr H1 v p := by
  obtain ⟨t, rfl, h⟩ := h
  exact ⟨t, rfl, a _ _ h (ne_of h hL fun z => nomatch z)⟩
theorem Prs.bt {L : Addr} {H H1 : Hp} {kvs : List (Tk × V)} {vs : List V} {ps : List Pl} (h : Prs H vs ps) (hL : H L = some (.dT kvs)) (a : Bt L H H1) : Prs H1 vs ps := by
  induction h with
  | nil => exact .nil
  | cons x _ ih => exact .cons (x.bt hL a) ih
/-- a dict of the distances from p -/
def FarAt (H : Hp) (f : Addr) (ls gs : List Int) (cs : List (Str × Int × Int)) (p : Pl) : Prop := ∃ M : TabP, H f = some (.dT (kvF M)) ∧ (M.map (·.1)).Nodup ∧ ∀ q d, getM M q = some d ↔ Dst (besL ls gs cs) p q d
theorem nth_mem {xs : List Int} {i : Int} (h0 : 0 ≤ i) (h1 : i < xs.length) : nth xs i ∈ xs := by
  have h := atI_nth (ns := xs) h0 h1
  obtain ⟨j, rfl⟩ : ∃ j : Nat, i = (j : Int) := ⟨i.toNat, by omega⟩
  have hj : j < xs.length := by omega
  have z : atI (xs.map V.int) (j : Int) = some (V.int xs[j]) := atI_nat (by rw [List.getElem?_map, List.getElem?_eq_getElem hj]; rfl)
  rw [z] at h
  have e := V.int.inj (Option.some.inj h)
  rw [← e]
  exact List.getElem_mem hj
theorem bes_pos {ls gs : List Int} {cs : List (Str × Int × Int)} (va : Valid ls gs cs) : PosE (besL ls gs cs) := fun q p l m => by
  obtain ⟨c, hc, e⟩ := mem_besL.mp m
  have e : l = lenLk gs c.1 c.2.1 := e
  have hl := lnkB_lk hc
  rw [e]
  unfold lenLk
  by_cases hx : c.1 = "up"
  · rw [if_pos hx]
    exact Int.le_refl 1
  · rw [if_neg hx]
    obtain ⟨a0, a1⟩ := isLk_aisle hl hx
    have hg := List.all_eq_true.mp va.2.1.2 (nth gs c.2.1) (nth_mem a0 a1)
    unfold longN at hg
    rw [Bool.and_eq_true, decide_eq_true_eq, decide_eq_true_eq] at hg
    exact hg.1
theorem wk_pl {ls gs : List Int} {cs : List (Str × Int × Int)} (hL : Lens ls) {s p : Pl} {d : Int} (hs : isPl ls gs s = true) (h : Wk (besL ls gs cs) s p d) : isPl ls gs p = true := by
  cases h with
  | nil => exact hs
  | snoc _ m => exact bes_pl hL (r := (p, _)) m
def spFar : Sp := fun vs H Q _ => ∃ (d : Addr) (v : V) (ls gs : List Int) (cs : List (Str × Int × Int)) (p : Pl), vs = [.ref d, v] ∧ BesAt H d ls gs cs ∧ Valid ls gs cs ∧ ls.sum ≤ 9 ∧ Pr H v p ∧ isPl ls gs p = true ∧
  ∀ (H' : Hp) (f : Addr), Same H H' → H f = none → FarAt H' f ls gs cs p → Q (.ref f) H'
theorem ok_far {f : Addr} {fd : FuncData} (F : Fun K "_law_far" "_law_far" s__law_far f fd) (hlen : mg "len" = none) (hrange : mg "range" = none) (hsorted : mg "sorted" = none) : FnOk P w K mg base CX0 1 f fd ["beside", "place"] spFar := by
  refine F.ok sc__law_far (fun vs H Q E h => ?_) (fun cdv A outer s H vs Q E hr h => ?_)
  · obtain ⟨d, v, ls, gs, cs, p, rfl, _⟩ := h
    rfl
  · obtain ⟨d, v, ls, gs, cs, p0, rfl, hB, va, h9, ⟨tp, rfl, htp⟩, hpl, q⟩ := h
    have nd := sc__law_far.nd
    have hline : 1000000 < sizeLine := by decide
    have hL := va.lens
    have top0 := hL.pos2
    have hpos := bes_pos va
    have hg11 := va.2.1.1
    obtain ⟨U, hU⟩ : ∃ U, U = gridP (gs.length + 1) (ls.sum.toNat + 1) := ⟨_, rfl⟩
    have inV : ∀ x dx, Wk (besL ls gs cs) p0 x dx → x ∈ U := fun x dx hx => by
      rw [hU]
      exact of_decide_eq_true ((grid_isPl top0 x).trans (wk_pl hL hpl hx))
    have Vlen : U.length ≤ 120 := by
      rw [hU]
      exact grid_len2 _ _ (by omega) (by omega)
    obtain ⟨L, hd, hgr, _⟩ := id hB
    refine ⟨_, (pss_cons (ps_set (i := 2) nd rfl (.inl rfl) (pe_disp1T (Nat.lt_of_succ_lt (by exact Pk.Room.units1 hr)) (pv 1) pe_int))
      (pss_cons (ps_for PassesOwn.never rfl (pi_range1 rfl hrange (pa_cons (pe_callB call_len_dT (by rfl) hlen (by decide +kernel) (pa_cons (pv 0) pa_nil)) pa_nil)) (pg_name (i := 3) nd rfl (.inl rfl)) (pss_cons (ps_set (i := 4) nd rfl (.inl rfl) pe_bl)
      (pss_cons (ps_for PassesOwn.never rfl (pi_list (pe_callB (call_sortDT rfl (by exact hr.units)) (by rfl) hsorted (by decide +kernel) (pa_cons (pv 2) pa_nil))) (pg_name (i := 5) nd rfl (.inl rfl)) (pss_one (ps_for PassesOwn.never rfl (pi_list (pe_dget (by exact Pk.Room.units1 hr) (pv 0) (pv 5) (fun _ _ => rfl))) (pg_tup rfl (pgs_cons (pg_name (i := 6) nd rfl (.inl rfl)) (pgs_cons (pg_name (i := 7) nd rfl (.inl rfl)) pgs_nil))) (pss_one (ps_if (PW.pt (pw_or (pt_cmp (pc_dnotin (by exact Pk.Room.units1 hr) (pv 6) (pv 2))) (pw_or1 (pt_cmpR op_gt (pe_dget (by exact Pk.Room.units1 hr) (pv 2) (pv 6) (fun _ _ => rfl)) (pe_op op_add (pe_dget (by exact Pk.Room.units1 hr) (pv 2) (pv 5) (fun _ _ => rfl)) (pv 7)) (nomark _))))) (pss_cons (ps_dput (by exact Pk.Room.units1 hr) (pv 2) (pv 6) (pe_op op_add (pe_dget (by exact Pk.Room.units1 hr) (pv 2) (pv 5) (fun _ _ => rfl)) (pv 7)) rfl)
      (pss_one (ps_set (i := 4) nd rfl (.inl rfl) pe_bl))) pss_nil)))))
      (pss_one (ps_if (pt_not (pt_val (pv 4))) (pss_one (ps_break)) pss_nil)))))
      (pss_one (ps_ret (pv 2))))), ?_⟩
    refine fun D nD => ⟨_, rfl, tp, plK p0, rfl, ?_, upd_same, ?_⟩
    · rw [upd_ne (ne_of_none htp nD)]
      exact htp
    have eD : upd (upd H D (.dT [])) D (.dT [(plK p0, V.int 0)]) = upd H D (.dT (kvF [(p0, 0)])) := by
      funext b
      by_cases z : b = D
      · rw [z, upd_same, upd_same]
        rfl
      · rw [upd_ne z, upd_ne z, upd_ne z]
    rw [eD]
    have k0 : Same H (upd H D (.dT (kvF [(p0, 0)]))) := same_upd nD
    have Ll : (kvL L).length = U.length := by
      rw [kvL_len, hU, ← hgr, List.length_map]
    refine ⟨_, rfl, d, _, rfl, k0 _ _ hd, ?_⟩
    refine ⟨_, rfl, by omega, by omega, ?_⟩
    rw [Ll, show ((U.length : Int)).toNat = U.length by omega]
    have fin : ∀ (H' : Hp) (M : TabP), Same H H' → H' D = some (.dT (kvF M)) → (M.map (·.1)).Nodup → (∀ x dx, getM M x = some dx ↔ Dst (besL ls gs cs) p0 x dx) → Q (.ref D) H' := fun H' M k hD hn hM => q H' D k nD ⟨M, hD, hn, hM⟩
    refine for_range (lo := 0) (n := U.length) (fun t σ H' => ∃ (v3 v4 v5 v6 v7 : Option V) (M : TabP), σ = [some (.ref d), some (.ref tp), some (.ref D), v3, v4, v5, v6, v7] ∧ Same H H' ∧ H' D = some (.dT (kvF M)) ∧ (M.map (·.1)).Nodup ∧ getM M p0 = some 0 ∧ (∀ x dx, getM M x = some dx → Wk (besL ls gs cs) p0 x dx) ∧ Near (besL ls gs cs) p0 U (getM M) t) ?_ ?_ ?_
    · have g0 : getM [(p0, 0)] p0 = some 0 := by
        rw [getM_cons, if_pos rfl]
      refine ⟨_, _, _, _, _, [(p0, 0)], rfl, k0, upd_same, by simp, g0, fun x dx hx => ?_, near_zero hpos (inV _ _ .nil) g0⟩
      rw [getM_cons] at hx
      by_cases c : p0 = x
      · rw [if_pos c] at hx
        cases hx
        rw [← c]
        exact .nil
      · rw [if_neg c] at hx
        cases hx
    · rintro t σ H1 ht ⟨v3, v4, v5, v6, v7, M0, rfl, k1, hD1, hn1, h01, hw1, near⟩
      have Mlen : ∀ {M : TabP}, (M.map (·.1)).Nodup → (∀ x dx, getM M x = some dx → Wk (besL ls gs cs) p0 x dx) → M.length ≤ 120 := fun {M} hn hw => by
        have z := nodup_sub hn (b := U) fun x hx => by
          have z := getM_key.mpr hx
          cases e : getM M x with
          | none => exact absurd e z
          | some dx => exact inV x dx (hw x dx e)
        rw [List.length_map] at z
        omega
      refine ⟨_, rfl, D, _, rfl, .inl hD1, (by rw [kvF_keys]; exact fit_plK _), fun m ys nm hys => ⟨m, rfl, ?_⟩⟩
      obtain ⟨H2, e2, k2, gm⟩ := made (o := .lst ys) nm
      rw [e2]
      rw [kvF_keys] at hys
      obtain ⟨hs, ehs⟩ := unmap_plK (ks := sortK ((M0.map (·.1)).map plK)) fun k hk => by
        obtain ⟨x, _, e⟩ := List.mem_map.mp ((sortK_perm _).mem_iff.mp hk)
        exact ⟨x, e.symm⟩
      rw [ehs] at hys
      have hps := krs_prs (hys.same k2)
      have inhs : ∀ x, x ∈ hs ↔ x ∈ M0.map (·.1) := fun x => by
        have z := (sortK_perm ((M0.map (·.1)).map plK)).mem_iff (a := plK x)
        rw [ehs] at z
        constructor
        · intro h
          obtain ⟨y, hy, e⟩ := List.mem_map.mp (z.mp (List.mem_map_of_mem h))
          rw [← plK_inj e]
          exact hy
        · intro h
          obtain ⟨y, hy, e⟩ := List.mem_map.mp (z.mpr (List.mem_map_of_mem h))
          rw [← plK_inj e]
          exact hy
      have hD2 := k2 _ _ hD1
      have k12 := k1.trans k2
      have mD : m ≠ D := ne_of gm hD2 fun z => nomatch z
      refine ⟨⟨_, SqL.of gm⟩, ?_⟩
      refine for_list (K := K) (a := m) (xs := ys) (fun i σ H' => ∃ (v5 v6 v7 : Option V) (ch : Bool) (M : TabP), σ = [some (.ref d), some (.ref tp), some (.ref D), some (.int (0 + (t : Int))), some (.bl ch), v5, v6, v7] ∧ Bt D H2 H' ∧ H' D = some (.dT (kvF M)) ∧ (M.map (·.1)).Nodup ∧ Turn (besL ls gs cs) p0 (getM M0) (hs.take i) (getM M) ch) ?_ ?_ ?_ ?_
      · exact ⟨_, _, _, false, M0, rfl, Bt.refl _ _, hD2, hn1, Turn.start h01 hw1⟩
      · rintro i σ H' _ ⟨_, _, _, _, _, _, bt, _⟩
        exact SqL.of (bt _ _ gm mD)
      · rintro i x σ H3 hx ⟨v5, v6, v7, ch, M, rfl, bt, hD3, hn3, turn⟩
        obtain ⟨here, hh, ⟨th, rfl, hth⟩⟩ := (hps.bt hD2 bt).at hx
        have hsT : hs.take (i + 1) = hs.take i ++ [here] := by
          rw [List.take_add_one, hh]
          rfl
        obtain ⟨d0, hd0⟩ : ∃ d0, getM M0 here = some d0 := by
          have z := getM_key.mpr ((inhs here).mp (List.mem_of_getElem? hh))
          cases e : getM M0 here with
          | none => exact absurd e z
          | some d0 => exact ⟨d0, rfl⟩
        have hpl2 := wk_pl hL hpl (hw1 _ _ hd0)
        have k3 := bt.over k12 nD
        obtain ⟨al, us, hget, hal, hbr⟩ := bes_at top0 (hB.same k3) hth hpl2
        have alD : al ≠ D := ne_of hal hD3 fun z => nomatch z
        refine ⟨_, rfl, _, rfl, d, _, rfl, hget, al, rfl, ⟨_, SqL.of hal⟩, ?_⟩
        refine for_list (K := K) (a := al) (xs := us) (fun j σ H' => ∃ (v6 v7 : Option V) (ch : Bool) (M : TabP), σ = [some (.ref d), some (.ref tp), some (.ref D), some (.int (0 + (t : Int))), some (.bl ch), some (.ref th), v6, v7] ∧ Bt D H3 H' ∧ H' D = some (.dT (kvF M)) ∧ (M.map (·.1)).Nodup ∧ Step (besL ls gs cs) p0 (getM M0) (hs.take i) here ((besL ls gs cs here).take j) (getM M) ch) ?_ ?_ ?_ ?_
        · exact ⟨_, _, ch, M, rfl, Bt.refl _ _, hD3, hn3, turn.step here⟩
        · rintro j σ H' _ ⟨_, _, _, _, _, bt2, _⟩
          exact SqL.of (bt2 _ _ hal alD)
        · rintro j u σ H4 hu ⟨v6, v7, ch4, M4, rfl, bt2, hD4, hn4, step⟩
          have getb : ∀ {vs : List V} {rs : List (Pl × Int)}, Brs H3 vs rs → ∀ {j : Nat} {v : V}, vs[j]? = some v → ∃ r, rs[j]? = some r ∧ Br H3 v r := fun h => by
            induction h with
            | nil => intro j v e; cases e
            | cons a _ ih =>
              intro j v e
              cases j with
              | zero => cases e; exact ⟨_, rfl, a⟩
              | succ j => exact ih e
          obtain ⟨rr, hrr, tb, ub, rfl, htb, tu, rfl, htu⟩ := getb hbr hu
          have htb4 := bt2 _ _ htb (ne_of htb hD3 fun z => nomatch z)
          have htu4 := bt2 _ _ htu (ne_of htu hD3 fun z => nomatch z)
          have hth4 := bt2 _ _ hth (ne_of hth hD3 fun z => nomatch z)
          have tk : (besL ls gs cs here).take (j + 1) = (besL ls gs cs here).take j ++ [(rr.1, rr.2)] := by
            rw [List.take_add_one, hrr]
            rfl
          have hedge : (rr.1, rr.2) ∈ besL ls gs cs here := List.mem_of_getElem? hrr
          obtain ⟨dc, hdc, _⟩ := step.mono _ _ hd0
          have gH : DGet H4 D (.ref th) (some (.int dc)) := by
            have z := DGet.t (k := plK here) hD4 hth4
            rw [val_getM, hdc] at z
            exact z
          have m4 := Mlen hn4 step.walk
          have put : ∀ (H5 : Hp) (v : Int), H5 = upd H4 D (.dT (kvF (setM M4 rr.1 v))) → DPut H4 D (.ref tu) (.int v) H5 := fun H5 v e => by
            have z := DPut.t (H := H4) (a := D) (k := plK rr.1) (v := .int v) hD4 htu4 (by rw [kvF_len]; omega)
            rw [put_setM] at z
            rw [e]
            exact z
          refine ⟨tb, _, rfl, SqT.of htb4, rfl, _, _, rfl, _, _, rfl, rfl, ?_⟩
          have gO : DGet H4 D (.ref tu) ((getM M4 rr.1).map V.int) := by
            rw [← val_getM]
            exact DGet.t (k := plK rr.1) hD4 htu4
          refine ⟨_, rfl, _, rfl, D, _, rfl, gO, _, rfl, ?_⟩
          have less : (∀ d', getM M4 rr.1 = some d' → dc + rr.2 < d') → Step (besL ls gs cs) p0 (getM M0) (hs.take i) here ((besL ls gs cs here).take j ++ [(rr.1, rr.2)]) (getM (setM M4 rr.1 (dc + rr.2))) true := fun lt => step.less hpos hdc hedge lt fun x => get_setM _ _ _ _
          have btp : Bt D H3 (upd H4 D (.dT (kvF (setM M4 rr.1 (dc + rr.2))))) := bt2.put
          cases e : getM M4 rr.1 with
          | none =>
            refine iteT ?_
            refine ⟨_, rfl, _, rfl, D, _, rfl, gH, _, rfl, _, _, rfl, rfl, _, rfl, _, rfl, D, _, rfl, put _ _ rfl, ?_⟩
            refine ⟨_, _, true, setM M4 rr.1 (dc + rr.2), rfl, btp, upd_same, keys_setM _ _ _ hn4, ?_⟩
            rw [tk]
            exact less fun d' z => by rw [e] at z; cases z
          | some d' =>
            refine iteF ?_
            rw [e] at gO
            refine ⟨_, rfl, _, rfl, D, _, rfl, gO, _, rfl, _, rfl, D, _, rfl, gH, _, rfl, _, _, rfl, rfl, _, _, rfl, rfl, _, rfl, ?_⟩
            refine ite2 (fun hc => ?_) (fun hc => ?_)
            · have hc := of_decide_eq_true hc
              refine ⟨_, rfl, _, rfl, D, _, rfl, gH, _, rfl, _, _, rfl, rfl, _, rfl, _, rfl, D, _, rfl, put _ _ rfl, ?_⟩
              refine ⟨_, _, true, setM M4 rr.1 (dc + rr.2), rfl, btp, upd_same, keys_setM _ _ _ hn4, ?_⟩
              rw [tk]
              exact less fun d2 z => by rw [e] at z; cases z; exact hc
            · have hc : ¬ d' > dc + rr.2 := fun z => hc (decide_eq_true z)
              refine ⟨_, _, ch4, M4, rfl, bt2, hD4, hn4, ?_⟩
              rw [tk]
              exact step.keep hdc e (by omega)
        · rintro σ H4 ⟨v6, v7, ch4, M4, rfl, bt2, hD4, hn4, step⟩
          rw [hbr.len, List.take_length] at step
          refine ⟨_, _, _, ch4, M4, rfl, fun b o e n => bt2 b o (bt b o e n) n, hD4, hn4, ?_⟩
          rw [hsT]
          exact step.fin
      · rintro σ H3 ⟨v5, v6, v7, ch, M, rfl, bt, hD3, hn3, turn⟩
        rw [hps.len, List.take_length] at turn
        have k3 := bt.over k12 nD
        have hk : ∀ x, getM M0 x ≠ none → x ∈ hs := fun x hx => (inhs x).mpr (getM_key.mp hx)
        refine ⟨_, rfl, _, rfl, ?_⟩
        cases ch with
        | true =>
          refine iteF ?_
          exact ⟨_, _, _, _, _, M, rfl, k3, hD3, hn3, turn.zero, turn.walk, turn.near hpos inV hk near⟩
        | false =>
          refine iteT ?_
          exact ⟨_, rfl, fin H3 M k3 hD3 hn3 fun x dx => turn.stop hpos hk x dx⟩
    · rintro σ H' ⟨v3, v4, v5, v6, v7, M, rfl, k, hD, hn, h0, hw, near⟩
      exact ⟨_, rfl, fin H' M k hD hn fun x dx => near_all hpos hw near x dx⟩
end
section
open GxR NdefX PySem.Spec PyProof.Rows
variable {P : Program} {w : World} {K : PySem.W.Frag} {b : Bool} {c : Ct} {D : Ends} {ta tb ty tv te td : TE} {M : TabP} {i : Nat} {p q : Pl} {n : Int} {x : HX}
def OTab (M : TabP) : Own := ⟨fun _ o => o = .dT (kvF M), fun _ h => h, fun h => by subst h; exact trivial⟩
/-- a table of the distances -/
def FarM (x : HX) (p : Pl) (M : TabP) : Prop := (M.map (·.1)).Nodup ∧ ∀ q d, getM M q = some d ↔ Dst (nbs x) p q d
theorem FarAt.kp {H H' : Hp} {f : Addr} {ls gs : List Int} {cs : List (Str × Int × Int)} {p : Pl} (h : FarAt H f ls gs cs p) (k : Kp H H') : FarAt H' f ls gs cs p := by
  obtain ⟨M, h1, h2⟩ := h
  exact ⟨M, k.dT h1, h2⟩
def RFar (x : HX) (p : Pl) : Rel := ⟨fun H v => ∃ f, v = .ref f ∧ FarAt H f x.1 x.2.1 x.2.2 p, fun k ⟨f, e, h⟩ => ⟨f, e, h.kp k⟩⟩
def OFar (x : HX) (p : Pl) : Own := ⟨fun _ o => ∃ M, o = .dT (kvF M) ∧ FarM x p M, fun _ h => h, fun ⟨_, e, _⟩ => by subst e; exact trivial⟩
theorem OFar.fix (B : Hp) (f : Addr) (o : HO) (e : B f = some o) (h : (OFar x p).p B o) : (RFar x p).p B (.ref f) := by
  obtain ⟨M, rfl, h⟩ := h
  exact ⟨f, rfl, M, e, h.1, h.2⟩
theorem n_dnew : EN c tDNewT (OTab []) := fun σ H s Q q p n => q H p _ (Kp.refl _) n rfl
theorem plT {H : Hp} {M : Addr → Prop} {v : V} (r : (RD (dP p)).p (less H M) v) : ∃ t, v = .ref t ∧ H t = some (.tup ((plK p).map kV)) := by
  obtain ⟨t, e, h⟩ := Dt.plA (p := p) r
  exact ⟨t, e, (less_some h).2⟩
theorem e_ninO (e : c.g[i]? = some (.own (OTab M))) (hy : E b c ty (RD (dP p))) : E b c (tDNotIn ty (tVar i)) (RD (.bool (!(getM M p).isSome))) := fun σ H s Q q =>
  hy σ H s _ fun H1 y k1 r1 => by
    obtain ⟨a, o, e1, e2, rfl, _⟩ := (s.kp k1).own i _ e
    obtain ⟨t, rfl, ht⟩ := plT r1
    refine ⟨.ref a, e1, a, _, rfl, DGet.t e2 ht, ?_⟩
    rw [val_getM, Option.isSome_map]
    exact q H1 _ k1 (.bl _)
theorem s_dputO (e : c.g[i]? = some (.own (OTab M))) (hv : E true c tv (RD (.int n))) (hy : E false c ty (RD (dP p))) (l : M.length < 16777216) (q : WC (c.set i (.own (OTab (setM M p n)))) D.nx) : WC c (sDPut (tVar i) ty tv D) := fun σ H s => hv σ H s _ fun H1 v k1 r1 => by
  have s1 := s.kp k1
  obtain ⟨a, o, e1, _⟩ := s1.own i _ e
  refine ⟨.ref a, e1, hy σ H1 s1 _ fun H2 y k2 r2 => ?_⟩
  have s2 := s1.kp k2
  obtain ⟨a', o, e1', e2, rfl, _⟩ := s2.own i _ e
  cases e1.symm.trans e1'
  obtain ⟨t, rfl, ht⟩ := plT r2
  cases r1
  refine ⟨a, _, rfl, DPut.t e2 ht (by rw [kvF_len, sizeLine_eq]; exact l), ?_⟩
  rw [put_setM]
  exact q σ _ (s2.mut (C' := OTab (setM M p n)) e e1 rfl).1
theorem far_get {H : Hp} {v : V} {d : Int} (h : (RFar x p).p H v) {t : Addr} (ht : H t = some (.tup ((plK q).map kV))) (hd : Dst (nbs x) p q d) : ∃ f, v = .ref f ∧ DGet H f (.ref t) (some (.int d)) := by
  obtain ⟨f, rfl, M, e, _, h⟩ := h
  have := DGet.t (k := plK q) e ht
  rw [val_getM, (h q d).mpr hd] at this
  exact ⟨f, rfl, this⟩
theorem e_far {d : Int} (hd : Dst (nbs x) p q d) (ha : E b c ta (RFar x p)) (hy : E b c tb (RD (dP q))) : E b c (tDGet ta tb) (RD (.int d)) := fun σ H s Q k =>
  ha σ H s _ fun H1 v k1 r1 => hy σ H1 (s.kp k1) _ fun H2 y k2 r2 => by
    obtain ⟨t, rfl, ht⟩ := plT r2
    obtain ⟨f, rfl, g⟩ := far_get (((RFar x p).mn (hb_kp k2) r1 : (RFar x p).p _ v) |> (RFar x p).mn kp_less) ht hd
    exact ⟨f, _, rfl, g, k H2 _ (k1.trans k2) (.int d)⟩
theorem e_ninF {r : Bool} (hr : r = true ↔ ∃ d, Dst (nbs x) p q d) (ha : E b c ta (RFar x p)) (hy : E b c ty (RD (dP q))) : E b c (tDNotIn ty ta) (RD (.bool (!r))) := fun σ H s Q k =>
  hy σ H s _ fun H1 y k1 r1 => ha σ H1 (s.kp k1) _ fun H2 v k2 r2 => by
    obtain ⟨t, rfl, ht⟩ := plT r1
    obtain ⟨f, rfl, M, e, _, h⟩ := (RFar x p).mn kp_less r2
    refine ⟨f, _, rfl, DGet.t e (k2.tup ht), ?_⟩
    rw [val_getM, Option.isSome_map]
    have : (getM M q).isSome = r := by
      cases c : getM M q with
      | some d => rw [hr.mpr ⟨d, (h q d).mp c⟩]; rfl
      | none =>
        cases c2 : r with
        | false => rfl
        | true =>
          obtain ⟨d, hd⟩ := hr.mp c2
          rw [(h q d).mpr hd] at c
          cases c
    rw [this]
    exact k H2 _ (k1.trans k2) (.bl _)
theorem sok_far : Sok spFar [RBes x, RD (dP p)] (fun _ => Valid x.1 x.2.1 x.2.2 ∧ x.1.sum ≤ 9 ∧ isPl x.1 x.2.1 p = true) (RFar x p) := fun H om vs ho hr hp Q E q => by
  obtain ⟨v, r, rfl, h1, u, r', rfl, h2, rfl⟩ := hr
  obtain ⟨d, rfl, hb⟩ := h1
  refine ⟨d, u, _, _, _, p, rfl, hb.kp kp_less, hp.1, hp.2.1, (Dt.kp kp_less h2).prA, hp.2.2, fun H' f k n hf => q H' _ (kpS k) ⟨f, rfl, ?_⟩⟩
  obtain ⟨M, e, h⟩ := hf
  refine ⟨M, ?_, h⟩
  rw [less_out fun m => ?_]
  · exact e
  · obtain ⟨o, eo, _⟩ := ho f m
    rw [n] at eo
    cases eo
theorem dt_pairs {α : Type} {f : α → PyData} {H : Hp} : ∀ {L : List (V × α)}, (∀ p ∈ L, Dt H p.1 (f p.2)) → DtAll H (L.map (·.1)) ((L.map (·.2)).map f)
  | [], _ => .nil
  | x :: L, h => .cons (h x (.head _)) (dt_pairs fun p hp => h p (.tail _ hp))
theorem pairs_dt {α : Type} {f : α → PyData} {H : Hp} : ∀ {vs : List V} {xs : List α}, DtAll H vs (xs.map f) → ∃ L : List (V × α), L.map (·.1) = vs ∧ L.map (·.2) = xs ∧ ∀ p ∈ L, Dt H p.1 (f p.2)
  | [], [], _ => ⟨[], rfl, rfl, fun _ h => nomatch h⟩
  | [], _ :: _, h => by cases h
  | _ :: _, [], h => by cases h
  | v :: vs, x :: xs, .cons a h => by
    obtain ⟨L, e1, e2, h⟩ := pairs_dt h
    exact ⟨(v, x) :: L, by rw [List.map_cons, e1], by rw [List.map_cons, e2], fun p hp => by
      rcases List.mem_cons.mp hp with z | z
      · rw [z]; exact a
      · exact h p z⟩
theorem nod_q (q : QI) : nod (dQ q) = true := (enc_T2 enc_int enc_P).nod q
theorem s_hpush {qs : List QI} {r : QI} (e : c.g[i]? = some (.own (OL (qs.map dQ)))) (h : E true c te (RD (dQ r))) (hh : HeapQ qs) (l : qs.length < 16777216) (k : ∀ qs', qs'.Perm (qs ++ [r]) → HeapQ qs' → WC (c.set i (.own (OL (qs'.map dQ)))) D.nx) :
    WC c (tDrop (tCB (rHPush K) (tCons (tVar i) (tCons te tNil))) D) := fun σ H s => by
  obtain ⟨a, o, e1, _⟩ := s.own i _ e
  refine ⟨.ref a, e1, h σ H s _ fun H1 v kp r1 => ?_⟩
  have s1 := s.kp kp
  obtain ⟨a', o, e1', e2, ⟨vs, rfl, d⟩, _⟩ := s1.own i _ e
  cases e1.symm.trans e1'
  obtain ⟨L, rfl, rfl, hL⟩ := pairs_dt d
  have up : ∀ {v : V} {q : QI}, Dt (bas c σ H1) v (dQ q) → Dp K H1 v (dQ q) := fun z => (Dt.kp kp_less z).dp (nod_q _)
  rw [hb_t] at r1
  refine ⟨a, v, L, r, rfl, e2, fun p hp => up (hL p hp), up r1, hh, by rw [sizeLine_eq]; simpa using l, fun L' pm hq => ?_⟩
  refine k (L'.map (·.2)) (by simpa using pm.map (·.2)) hq σ _ (s1.mut (C' := OL ((L'.map (·.2)).map dQ)) e e1 ⟨_, rfl, dt_pairs fun p hp => ?_⟩).1
  rcases List.mem_append.mp (pm.mem_iff.mp hp) with z | z
  · exact hL p z
  · rw [List.mem_singleton.mp z]
    exact r1
theorem s_hpop {qs : List QI} {r : QI} {g : TG} (e : c.g[i]? = some (.own (OL ((r :: qs).map dQ)))) (hh : HeapQ (r :: qs)) (l : qs.length < 16777216) (k : ∀ qs', qs'.Perm qs → HeapQ qs' → ∃ G is, EG (c.set i (.own (OL (qs'.map dQ)))) g (RD (dQ r)) G is ∧ WC (c.at G) D.nx) :
    WC c (tAsg (tCB (rHPop K) (tCons (tVar i) tNil)) g D) := fun σ H s => by
  obtain ⟨a, o, e1, e2, ⟨vs, rfl, d⟩, _⟩ := s.own i _ e
  cases d with
  | @cons v vs _ _ hv d =>
    obtain ⟨L, rfl, rfl, hL⟩ := pairs_dt d
    have up : ∀ {v : V} {q : QI}, Dt (bas c σ H) v (dQ q) → Dp K H v (dQ q) := fun z => (Dt.kp kp_less z).dp (nod_q _)
    refine ⟨.ref a, e1, a, v, r, L, rfl, e2, up hv, fun p hp => up (hL p hp), hh, by rw [sizeLine_eq]; simpa using l, fun L' pm hq => ?_⟩
    obtain ⟨s2, eb⟩ := s.mut (C' := OL ((L'.map (·.2)).map dQ)) e e1 ⟨_, rfl, dt_pairs fun p hp => hL p (pm.mem_iff.mp hp)⟩
    obtain ⟨G, is, hg, hw⟩ := k (L'.map (·.2)) (pm.map (·.2)) hq
    exact hg σ _ v s2 (by rw [eb]; exact hv) _ fun σ' s' _ _ => hw σ' _ s'
end
section
open GxR NdefX PySem.Spec PyProof.Rows
variable {P : Program} {w : World} {K : PySem.W.Frag} {mg : Str → Option Value} {base : Heap}
abbrev HD.x (h : HD) : HX := (h.ls, h.gs, h.cs)
theorem sok_bes {C CP : Addr} {h : HD} {p : Pl} : Sok (spBeside C CP) [RHouse C h, RD (dP p)] (fun _ => isPl h.ls h.gs p = true) (RD (.list ((nbs h.x p).map (eT2 dP PyData.int)))) := fun H om vs ho hr hp Q E q => by
  obtain ⟨v, r, rfl, ⟨a, rfl, hH⟩, u, r', rfl, h2, rfl⟩ := hr
  refine ⟨a, u, _, _, _, p, rfl, hH.kp kp_less, (Dt.kp kp_less h2).prA, fun _ H' r xs k n e br => q H' _ (kpS k) (.lst (xs := xs) ?_ ?_), fun z => by rw [hp] at z; cases z⟩
  · rw [less_out fun m => ?_]
    · exact e
    · obtain ⟨o, eo, _⟩ := ho r m
      rw [n] at eo
      cases eo
  · exact DtAll.less (fun a m => by
      obtain ⟨o, eo, mo⟩ := ho a m
      exact ⟨o, k _ _ eo, mo⟩) (Brs.dt br) (flats_map (fun _ => rfl) _)
theorem bes_four {h : HX} {p : Pl} : (nbs h p).length ≤ 4 := by
  have : (aroundP p).length = 4 := rfl
  have := List.length_filterMap_le (besO h.1 h.2.1 h.2.2 p) (aroundP p)
  unfold nbs besL
  omega
theorem nbs_sym {x : HX} (p q : Pl) (l : Int) (h : (q, l) ∈ nbs x p) : (p, l) ∈ nbs x q := by
  obtain ⟨c, e1, e2⟩ := mem_besL.mp h
  exact mem_besL.mpr ⟨c, by rw [← e1]; exact lnkB_comm .., e2⟩
/-- the places that are reached stand in the house -/
theorem plcs_wk {x : HX} (va : Valid x.1 x.2.1 x.2.2) {s p : Pl} {d : Int} (hs : isPl x.1 x.2.1 s = true) (h : Wk (nbs x) s p d) : p ∈ plcs x := (plcs_pl va.lens.pos2).mpr (wk_pl va.lens hs h)
structure LvI (x : HX) (p : Pl) (M : TabP) (qs : List QI) : Prop where
  nd : (M.map (·.1)).Nodup
  near : Near1 (nbs x) p (getM M) qs
  heap : HeapQ qs
  few : qs.length ≤ 5 * M.length + 1
theorem LvI.most {x : HX} {p : Pl} {M : TabP} (va : Valid x.1 x.2.1 x.2.2) (hs : isPl x.1 x.2.1 p = true) (nd : (M.map (·.1)).Nodup) (ok : ∀ q d, getM M q = some d → Dst (nbs x) p q d) : M.length ≤ (plcs x).length := by
  have := nodup_sub nd (b := plcs x) fun q hq => by
    have z := getM_key.mpr hq
    cases e : getM M q with
    | none => exact absurd e z
    | some d => exact plcs_wk va hs (ok q d e).1
  simpa using this
theorem setM_len {M : TabP} {p : Pl} {n : Int} (h : getM M p = none) : (setM M p n).length = M.length + 1 := by
  unfold setM
  have : ¬ (M.any fun x => decide (x.1 = p)) = true := fun z => by
    obtain ⟨y, hy, e⟩ := List.any_eq_true.mp z
    exact getM_key.mpr (List.mem_map.mpr ⟨y, hy, of_decide_eq_true e⟩) h
  rw [if_neg this, List.length_append]
  rfl
def lvM (x : HX) (M : TabP) (qs : List QI) : Nat := 5 * ((plcs x).length - M.length) + qs.length
abbrev RsLv (C : Addr) : HD × Pl → List Rel := fun a => [RHouse C a.1, RD (dP a.2)]
abbrev spLv (C CP : Addr) : Sp := SpE (RsLv C) (fun a _ => Valid a.1.ls a.1.gs a.1.cs ∧ a.1.ls.sum ≤ 9) (fun a => isPl a.1.ls a.1.gs a.2 = true) (fun a => OFar a.1.x a.2) CP "place" (fun a => RD (dP a.2))
theorem ok_levels {f fI fP fB C CP : Addr} {fd fdI fdP fdB : FuncData} (F : Fun K "levels" "levels" s_levels f fd) (gPu : mg "heappush" = some (.builtin "_heapq.heappush")) (gPo : mg "heappop" = some (.builtin "_heapq.heappop")) (T : HouseTxt K mg C) (U : PlcTxt K mg CP fI) (GI : FnOk P w K mg base CX0 1 fI fdI ["self", "place"] (spXI K CP "place")) (bI : Binds K fdI ["self", "place"] [])
    (GP : FnOk P w K mg base CX0 1 fP fdP ["self", "place"] (spPl C isPl)) (bP : Binds K fdP ["self", "place"] []) (mP : Meth K C "is_place" fP) (GB : FnOk P w K mg base (L2.CX P w) 4 fB fdB ["self", "place"] (spBeside C CP)) (bB : Binds K fdB ["self", "place"] []) (mB : Meth K C "beside" fB) :
    FnOk P w K mg base (L2.CX P w) 5 f fd ["house", "place"] (spLv C CP) := by
  refine F.okX sc_levels (fun vs H Q E h => ?_) (fun cdv A outer s H vs Q E hr h => ?_)
  · obtain ⟨a, om, ho, hr, _⟩ := h
    exact hr.len
  · obtain ⟨⟨h, p⟩, om, ho, hR, ⟨va, h9⟩, q1, q2⟩ := h
    have nd := sc_levels.nd
    refine ⟨_, (pss_cons (ps_if (pt_not (pt_val (pe_meth (pv 0) T.cl mP GP (by exact hr.mono (by decide)) bP .nil pass0 (pa_cons (pv 1) pa_nil)))) (pss_one (ps_raise rfl (takes_of rfl rfl rfl rfl) (pmk_oex U.o U.i U.y GI (by exact hr.mono (by decide)) bI .nil pass0 (by rfl) U.g (pa_cons (pv 1) pa_nil)))) pss_nil)
      (pss_cons (ps_set (i := 2) nd rfl (.inl rfl) pe_dnewT)
      (pss_cons (ps_set (i := 3) nd rfl (.inl rfl) (pe_lst (pa_cons (pe_tup (pa_cons pe_int (pa_cons (pv 1) pa_nil))) pa_nil)))
      (pss_cons (ps_while (passes_of rfl) (pt_truth (pv 3) (by intro _; rfl))
        (pss_cons (ps_asg (pe_callBfun (cr_hpop (by exact Pk.room65 hr |> Nat.lt_of_succ_lt)) (by rfl) gPo (pa_cons (pv 3) pa_nil)) (pg_tup rfl (pgs_cons (pg_name (i := 4) nd rfl (.inl rfl)) (pgs_cons (pg_name (i := 5) nd rfl (.inl rfl)) pgs_nil))))
        (pss_one (ps_if (pt_cmp (pc_dnotin (by exact Pk.Room.units1 hr) (pv 5) (pv 2)))
          (pss_cons (ps_dput (by exact Pk.Room.units1 hr) (pv 2) (pv 5) (pv 4) rfl)
          (pss_one (ps_for (passes_of rfl) rfl (pi_list (pe_meth (pv 0) T.cl mB GB (by exact hr.mono (by decide)) bB .nil (passes_call (takes_of rfl rfl rfl rfl) fun _ _ _ _ h => h) (pa_cons (pv 5) pa_nil))) (pg_tup rfl (pgs_cons (pg_name (i := 6) nd rfl (.inl rfl)) (pgs_cons (pg_name (i := 7) nd rfl (.inl rfl)) pgs_nil)))
            (pss_one (ps_if (pt_cmp (pc_dnotin (by exact Pk.Room.units1 hr) (pv 6) (pv 2))) (pss_one (ps_expr (pe_callBfun (cr_hpush (by exact Pk.room65 hr |> Nat.lt_of_succ_lt)) (by rfl) gPu (pa_cons (pv 3) (pa_cons (pe_tup (pa_cons (pe_op op_add (pv 4) (pv 7)) (pa_cons (pv 6) pa_nil))) pa_nil))))) pss_nil))))) pss_nil))))
      (pss_one (ps_ret (pv 2))))))), ?_⟩
    have st := sta_start (N := ["house", "place", "numbers", "queue", "number", "here", "other", "length"]) ho hR
    refine (?_ : WC ⟨H, less H om, om, [.fz (RHouse C h), .fz (RD (dP p)), .any, .any, .any, .any, .any, .any]⟩ _) _ _ st
    replace va : Valid h.ls h.gs h.cs := va
    replace h9 : h.ls.sum ≤ 9 := h9
    have hpos : PosE (nbs h.x) := bes_pos va
    have hU : (plcs h.x).length ≤ 120 := grid_len2 _ _ (by have := va.2.1.1; show h.gs.length + 1 ≤ 12; omega) (by have := va.lens.pos2; show h.ls.sum.toNat + 1 ≤ 10; omega)
    refine s_seq ?_
    refine s_if (t_not (t_T (c_meth (hi_house (by decide +kernel) (by decide +kernel) (by decide +kernel) (by decide +kernel) (by decide +kernel)) (sok_pl _) (e_var rfl) (a_cons (e_var rfl) a_nil) (fun _ _ => trivial)))) (fun hz => ?_) (fun hz => ?_)
    · refine s_raiseF U.o U.n (e_var rfl) fun σ H' d v k e r => q2 ?_ H' d v k e r
      show ¬ isPl h.ls h.gs p = true
      simpa using hz
    have hp : isPl h.ls h.gs p = true := by simpa using hz
    refine s_pass ?_
    refine s_seq ?_
    refine s_new n_dnew ?_
    refine s_seq ?_
    refine s_new (show EN _ _ (OL ([((0 : Int), p)].map dQ)) from n_lst (m_cons (e_tup (m_cons e_int (m_cons (e_var rfl) m_nil))) m_nil)) ?_
    show WC ⟨H, less H om, om, [.fz (RHouse C h), .fz (RD (dP p)), .own (OTab []), .own (OL ([((0 : Int), p)].map dQ)), .any, .any, .any, .any]⟩ _
    show WC ⟨H, less H om, om, [.fz (RHouse C h), .fz (RD (dP p)), .own (OTab []), .own (OL ([((0 : Int), p)].map dQ)), .any, .any, .any, .any]⟩ _
    dsimp only
    refine s_seq ?_
    refine s_while (fun m γ => ∃ (M : TabP) (qs : List QI), γ = [.fz (RHouse C h), .fz (RD (dP p)), .own (OTab M), .own (OL (qs.map dQ)), .any, .any, .any, .any] ∧ LvI h.x p M qs ∧ lvM h.x M qs = m) (lvM h.x [] [((0 : Int), p)]) ?_ ?_
    · exact ⟨[], [((0 : Int), p)], rfl, ⟨by simp, Near1.start, HeapQ.one _, by simp⟩, rfl⟩
    rintro m γ ⟨M, qs, rfl, iv, hm⟩
    have hM := LvI.most va hp iv.nd iv.near.ok
    have few := iv.few
    refine ⟨_, t_truL (i_own rfl), fun hq => ?_, fun hq => ?_⟩
    · cases qs with
      | nil => cases hq
      | cons r qs =>
      obtain ⟨n, here⟩ := r
      rw [List.length_cons] at few
      refine s_seq ?_
      refine s_hpop (r := (n, here)) (qs := qs) rfl iv.heap (by omega) fun qs' pm hh => ⟨_, _, g_tup (gs_cons g_name (gs_cons g_name gs_nil)), ?_⟩
      show WC ⟨H, less H om, om, [.fz (RHouse C h), .fz (RD (dP p)), .own (OTab M), .own (OL (qs'.map dQ)), .fz (RD (.int n)), .fz (RD (dP here)), .any, .any]⟩ _
      have hl := pm.length_eq
      have pm1 : ((n, here) :: qs).Perm ((n, here) :: qs') := pm.symm.cons _
      refine s_if (t_B (e_ninO rfl (e_var rfl))) (fun hn => ?_) (fun hn => ?_)
      · have hn : getM M here = none := by simpa using hn
        refine s_seq ?_
        refine s_dputO rfl (e_var rfl) (e_var rfl) (by omega) ?_
        show WC ⟨H, less H om, om, [.fz (RHouse C h), .fz (RD (dP p)), .own (OTab (setM M here n)), .own (OL (qs'.map dQ)), .fz (RD (.int n)), .fz (RD (dP here)), .any, .any]⟩ _
        have N2 : Near2 (nbs h.x) p here n [] (getM (setM M here n)) qs' := iv.near.pop_new hpos pm1 (fun y hy => by
          have := iv.heap.least y hy
          unfold ltQ at this
          rw [decide_eq_false_iff_not] at this
          have z : ¬ (y.1 < n ∨ _) := this
          omega) hn (fun y => get_setM _ _ _ _)
        have nd2 := keys_setM M here n iv.nd
        have len2 := setM_len (n := n) hn
        have M2 := LvI.most va hp nd2 N2.ok
        have hpl : isPl h.ls h.gs here = true := wk_pl (cs := h.cs) va.lens hp (N2.ok _ _ N2.at_).1
        refine s_for (xs := nbs h.x here) (enc := eT2 dP PyData.int) (fun j γ => ∃ qs2 : List QI, γ = [.fz (RHouse C h), .fz (RD (dP p)), .own (OTab (setM M here n)), .own (OL (qs2.map dQ)), .fz (RD (.int n)), .fz (RD (dP here)), .any, .any] ∧ Near2 (nbs h.x) p here n ((nbs h.x here).take j) (getM (setM M here n)) qs2 ∧ HeapQ qs2 ∧ qs2.length ≤ qs'.length + j)
          (c_meth (hi_house (by decide +kernel) (by decide +kernel) (by decide +kernel) (by decide +kernel) (by decide +kernel)) sok_bes (e_var rfl) (a_cons (e_var rfl) a_nil) (fun _ _ => hpl)) ⟨qs', rfl, N2, hh, Nat.le_refl _⟩ ?_ ?_
        · rintro h1 j r γ kp hx ⟨qs2, rfl, N, hh2, l2⟩
          have tk : (nbs h.x here).take (j + 1) = (nbs h.x here).take j ++ [(r.1, r.2)] := by
            rw [List.take_add_one, hx]
            rfl
          have hj : j < (nbs h.x here).length := (List.getElem?_eq_some_iff.mp hx).1
          have four := bes_four (h := h.x) (p := here)
          refine ⟨_, _, g_tup (gs_cons g_name (gs_cons g_name gs_nil)), ?_⟩
          show WC ⟨H, h1, om, [.fz (RHouse C h), .fz (RD (dP p)), .own (OTab (setM M here n)), .own (OL (qs2.map dQ)), .fz (RD (.int n)), .fz (RD (dP here)), .fz (RD (dP r.1)), .fz (RD (.int r.2))]⟩ _
          refine s_if (t_B (e_ninO rfl (e_var rfl))) (fun ho => ?_) (fun ho => ?_)
          · refine s_hpush (qs := qs2) (r := (n + r.2, r.1)) rfl (e_tup (m_cons (e_op o_add (e_var rfl) (e_var rfl)) (m_cons (e_var rfl) m_nil))) hh2 (by omega) fun qs3 pm3 hh3 => ?_
            show WC ⟨H, h1, om, [.fz (RHouse C h), .fz (RD (dP p)), .own (OTab (setM M here n)), .own (OL (qs3.map dQ)), .fz (RD (.int n)), .fz (RD (dP here)), .fz (RD (dP r.1)), .fz (RD (.int r.2))]⟩ _
            refine s_drop 6 ?_
            refine s_drop 7 ?_
            have l3 := pm3.length_eq
            rw [List.length_append, List.length_singleton] at l3
            refine s_of ⟨qs3, rfl, ?_, hh3, by omega⟩
            rw [tk]
            exact N.push (List.mem_of_getElem? hx) pm3
          · refine s_pass ?_
            refine s_drop 6 ?_
            refine s_drop 7 ?_
            refine s_of ⟨qs2, rfl, ?_, hh2, by omega⟩
            rw [tk]
            refine N.old fun z => ?_
            rw [z] at ho
            cases ho
        · rintro γ ⟨qs2, rfl, N, hh2, l2⟩
          rw [List.take_length] at N
          have four := bes_four (h := h.x) (p := here)
          refine s_drop 4 ?_
          refine s_drop 5 ?_
          refine s_of ⟨_, ?_, setM M here n, qs2, rfl, ⟨nd2, N.done, hh2, by omega⟩, rfl⟩
          rw [← hm]
          unfold lvM
          rw [List.length_cons]
          omega
      · refine s_pass ?_
        refine s_drop 4 ?_
        refine s_drop 5 ?_
        refine s_of ⟨_, ?_, M, qs', rfl, ⟨iv.nd, iv.near.pop_old pm1 (fun z => by rw [z] at hn; cases hn), hh, by omega⟩, rfl⟩
        rw [← hm]
        unfold lvM
        rw [List.length_cons]
        omega
    · cases qs with
      | cons r qs => cases hq
      | nil =>
      exact s_retOwn (C := OTab M) rfl fun H' a o k n e => q1 hp H' a o k n ⟨M, e, iv.nd, fun q d => iv.near.fin hpos q d⟩
end
section
open GxR NdefX PySem.Spec PyProof.Rows
variable {P : Program} {w : World} {K : PySem.W.Frag} {mg : Str → Option Value} {base : Heap}
/-- a place from which t is reached -/
abbrev Rea (x : HX) (t p : Pl) : Prop := ∃ d, Dst (nbs x) t p d
theorem e_dist {b : Bool} {c : Ct} {ta tb : TE} {x : HX} {t q : Pl} (h : Rea x t q) (ha : E b c ta (RFar x t)) (hy : E b c tb (RD (dP q))) : E b c (tDGet ta tb) (RD (.int (dist (nbs x) t q))) := e_far (dist_dst h) ha hy
end
section
open GxR NdefX PySem.Spec PyProof.Rows
variable {P : Program} {w : World} {K : PySem.W.Frag} {b : Bool} {c : Ct} {D : Ends} {t ta tb ty td te : TE} {M : TabP} {i : Nat} {p q : Pl} {n : Int} {x : HX} {R : Rel}
theorem FarM.key {M : TabP} (h : FarM x p M) {q : Pl} : q ∈ M.map (·.1) ↔ Rea x p q := by
  rw [← getM_key]
  constructor
  · intro z
    cases e : getM M q with
    | none => exact absurd e z
    | some d => exact ⟨d, (h.2 q d).mp e⟩
  · rintro ⟨d, hd⟩ z
    rw [(h.2 q d).mpr hd] at z
    cases z
theorem FarM.perm {M N : TabP} (h : FarM x p M) (g : FarM x p N) : (M.map (·.1)).Perm (N.map (·.1)) := (List.perm_ext_iff_of_nodup h.1 g.1).mpr fun q => h.key.trans g.key.symm
theorem lp_ls {p q : Pl} (h : lsP q p = false) : lp p q := by
  have : ¬ (q.1 < p.1 ∨ (q.1 = p.1 ∧ q.2 < p.2)) := fun z => by
    rw [ls_iff.mpr z] at h
    cases h
  unfold lp
  omega
open Classical in
/-- the places that are reached, in order -/
noncomputable def reachL (x : HX) (p : Pl) : List Pl := (plcs x).filter fun q => decide (Rea x p q)
open Classical in
theorem FarM.sorted {M : TabP} (va : Valid x.1 x.2.1 x.2.2) (hp : isPl x.1 x.2.1 p = true) (h : FarM x p M) : sortP (M.map (·.1)) = reachL x p := by
  have pw : (reachL x p).Pairwise lp := ((grid_pw _ _).filter _).imp fun {y z} h => lp_ls (by
    rw [Bool.eq_false_iff]
    intro e
    rw [ls_iff] at e h
    omega)
  have nd : (reachL x p).Nodup := ((grid_pw _ _).filter _).imp fun {y z} h e => by
    rw [e, ls_irrefl] at h
    cases h
  refine (sortP_of ((List.perm_ext_iff_of_nodup nd h.1).mpr fun q => ?_) pw).symm
  rw [h.key]
  unfold reachL
  rw [List.mem_filter]
  exact ⟨fun z => of_decide_eq_true z.2, fun z => ⟨plcs_wk va hp z.choose_spec.1, decide_eq_true z⟩⟩
theorem n_eF (h : EN c t (OFar x p)) : E b c t (RFar x p) := fun σ H s Q q => h σ H s Q fun H' a o k n ⟨M, e, h⟩ => by
  subst e
  refine q _ _ (k.trans (kp_new n)) ⟨a, rfl, M, ?_, h.1, h.2⟩
  rw [hb_new (s.kp k) n]
  exact upd_same
/-- what is told of a table that is being changed -/
theorem s_ownFar {k : L2.St → Hp → Prop} (e : c.g[i]? = some (.own (OFar x p))) (h : ∀ M, FarM x p M → WC (c.set i (.own (OTab M))) k) : WC c k := fun σ H s => by
  obtain ⟨a, o, e1, e2, ⟨M, rfl, hM⟩, _⟩ := s.own i _ e
  have := (s.mut (C' := OTab M) (o := .dT (kvF M)) e e1 rfl).1
  rw [show upd H a (.dT (kvF M)) = H from funext fun y => (by
    by_cases z : y = a
    · rw [z, upd_same, e2]
    · rw [upd_ne z])] at this
  exact h M hM σ H this
end
section
open GxR NdefX PySem.Spec PyProof.Rows
/-- lists and tuples stand there, too -/
def SeqKp (H H' : Hp) : Prop := (∀ a xs, H a = some (.lst xs) → H' a = some (.lst xs)) ∧ ∀ a xs, H a = some (.tup xs) → H' a = some (.tup xs)
section
variable {H H' : Hp} (k : SeqKp H H')
include k
mutual
theorem Dt.sq : ∀ {v : V} {d : PyData}, Dt H v d → nod d = true → Dt H' v d
  | _, _, .non, _ => .non
  | _, _, .bl b, _ => .bl b
  | _, _, .int i, _ => .int i
  | _, _, .str x, _ => .str x
  | _, .list ds, .lst e q, h => .lst (k.1 _ _ e) (DtAll.sq q h)
  | _, _, .dT _ _, h => by cases h
  | _, _, .dK _ _, h => by cases h
  | _, .tuple ds, .tup e q, h => .tup (k.2 _ _ e) (DtAll.sq q h)
theorem DtAll.sq : ∀ {vs : List V} {ds : List PyData}, DtAll H vs ds → nods ds = true → DtAll H' vs ds
  | _, _, .nil, _ => .nil
  | _, d :: ds, .cons a b, h => by
    have h' : (nod d && nods ds) = true := h
    rw [Bool.and_eq_true] at h'
    exact .cons (Dt.sq a h'.1) (DtAll.sq b h'.2)
end
end
theorem seqkp_upd {H : Hp} {d : Addr} {u o : HO} (e : H d = some u) (n1 : ∀ xs, u ≠ .lst xs) (n2 : ∀ xs, u ≠ .tup xs) : SeqKp H (upd H d o) :=
  ⟨fun a xs h => by
    rw [upd_ne fun z => by rw [z, e] at h; exact n1 xs (Option.some.inj h)]
    exact h, fun a xs h => by
    rw [upd_ne fun z => by rw [z, e] at h; exact n2 xs (Option.some.inj h)]
    exact h⟩
/-- what can be held fast here -/
def DL : HO → Prop
  | .dT _ => True
  | .ext _ => True
  | _ => False
theorem DL.l {u : HO} (h : DL u) (xs : List V) : u ≠ .lst xs := fun e => by rw [e] at h; exact h
theorem DL.t {u : HO} (h : DL u) (xs : List V) : u ≠ .tup xs := fun e => by rw [e] at h; exact h
theorem DL.b {u : HO} (h : DL u) (ps) : u ≠ .tbl ps := fun e => by rw [e] at h; exact h
theorem DL.m {u : HO} (h : DL u) : Mut (some u) := by
  cases u <;> first | exact trivial | exact h.elim
/-- what stands though a dict is held fast -/
def Lk (R : Rel) : Prop := ∀ (H : Hp) (v : V) (d : Addr) (u : HO) (od : Obj), DL u → H d = some u → R.p H v → R.p (upd H d (.frz od u)) v
/-- .. and though it is let go -/
def Uk (C : Own) : Prop := ∀ (H : Hp) (o : HO) (d : Addr) (u : HO) (od : Obj), DL u → H d = some (.frz od u) → C.p H o → C.p (upd H d u) o
def UkR (R : Rel) : Prop := ∀ (H : Hp) (v : V) (d : Addr) (u : HO) (od : Obj), DL u → H d = some (.frz od u) → R.p H v → R.p (upd H d u) v
theorem lk_D {d : PyData} (n : nod d = true) : Lk (RD d) := fun H v a u od hu e r => r.sq (seqkp_upd e hu.l hu.t) n
theorem uk_D {d : PyData} (n : nod d = true) : UkR (RD d) := fun H v a u od _ e r => r.sq (seqkp_upd e (fun _ z => nomatch z) fun _ z => nomatch z) n
theorem uk_OL {ds : List PyData} (n : nods ds = true) : Uk (OL ds) := fun H o a u od _ e ⟨vs, eo, r⟩ => ⟨vs, eo, r.sq (seqkp_upd e (fun _ z => nomatch z) fun _ z => nomatch z) n⟩
def AllLk : List Slot → Prop
  | [] => True
  | .fz R :: g => Lk R ∧ AllLk g
  | _ :: g => AllLk g
theorem AllLk.at : ∀ {g : List Slot}, AllLk g → ∀ {j : Nat} {R : Rel}, g[j]? = some (.fz R) → Lk R
  | [], _, _, _, e => by simp at e
  | .fz S :: g, h, 0, R, e => by cases e; exact h.1
  | .fz S :: g, h, j + 1, R, e => AllLk.at (g := g) h.2 e
  | .any :: g, h, 0, R, e => by cases e
  | .any :: g, h, j + 1, R, e => AllLk.at (g := g) h e
  | .own C :: g, h, 0, R, e => by cases e
  | .own C :: g, h, j + 1, R, e => AllLk.at (g := g) h e
theorem no_bas {c : Ct} {σ : L2.St} {H : Hp} (no : noOwn c.g = true) : bas c σ H = less H c.om := by
  funext a
  by_cases m : c.om a
  · rw [less_in m]
    exact bas_in (.inr m)
  · rw [less_out m]
    refine bas_out ?_
    rintro (⟨i, C, e, _⟩ | z)
    · have := List.all_eq_true.mp no _ (List.mem_of_getElem? e)
      cases this
    · exact m z
theorem upd_less' {H : Hp} {om : Addr → Prop} {d : Addr} {o : HO} (n : ¬ om d) : less (upd H d o) om = upd (less H om) d o := by
  funext a
  by_cases e : a = d
  · rw [e, upd_same, less_out n, upd_same]
  · rw [upd_ne e]
    by_cases m : om a
    · rw [less_in m, less_in m]
    · rw [less_out m, less_out m, upd_ne e]
theorem Sta.lk {c : Ct} {σ : L2.St} {H : Hp} (s : Sta c σ H) (no : noOwn c.g = true) {i : Nat} {R' : Rel} {d : Addr} {u0 : HO} {od : Obj} {v : V} (hu : DL u0) (nd : ¬ c.om d) (e3 : less H c.om d = some u0) (ev : σ[i]? = some (some v)) (hR : R'.p (upd (less H c.om) d (.frz od u0)) v) (st : AllLk (c.g.set i .any)) :
    Sta ⟨upd H d (.frz od u0), less (upd H d (.frz od u0)) c.om, c.om, c.g.set i (.fz R')⟩ σ (upd H d (.frz od u0)) := by
  have no' : noOwn (c.g.set i (.fz R')) = true := List.all_eq_true.mpr fun x hx => by
    rcases List.mem_or_eq_of_mem_set hx with z | z
    · exact List.all_eq_true.mp no x z
    · rw [z]; rfl
  have eb : bas ⟨upd H d (.frz od u0), less (upd H d (.frz od u0)) c.om, c.om, c.g.set i (.fz R')⟩ σ (upd H d (.frz od u0)) = upd (less H c.om) d (.frz od u0) := (no_bas no').trans (upd_less' nd)
  have noO : ∀ {j : Nat} {C : Own}, (c.g.set i (.fz R'))[j]? ≠ some (.own C) := fun {j C} z => by
    have := List.all_eq_true.mp no' _ (List.mem_of_getElem? z)
    cases this
  refine ⟨by show _ = (c.g.set i _).length; rw [List.length_set]; exact s.len, fun j R q => ?_, fun j C q => absurd q noO, fun j k C C' p q => absurd q noO, by rw [eb, upd_less' nd]; exact Kp.refl _, Kp.refl _, fun x m => ?_⟩
  · rw [eb]
    rcases getset q with ⟨rfl, z⟩ | ⟨nj, z⟩
    · cases z
      exact ⟨_, ev, hR⟩
    · obtain ⟨u, q1, q2⟩ := s.fz j R z
      rw [no_bas no] at q2
      refine ⟨u, q1, st.at (j := j) (R := R) ?_ _ _ d u0 od hu e3 q2⟩
      rw [List.getElem?_set_ne fun y => nj y.symm]
      exact z
  · obtain ⟨u, q1, q2⟩ := s.hid x m
    exact ⟨u, by rw [upd_ne fun z => nd (by rw [← z]; exact m)]; exact q1, q2⟩
/-- let go again -/
theorem kp_unlock {H H' : Hp} {d : Addr} {od : Obj} {u : HO} (e : H d = some u) (nt : ∀ ps, u ≠ .tbl ps) (k : Kp (upd H d (.frz od u)) H') : Kp H (upd H' d u) := by
  refine ⟨fun y o ey n => ?_, fun T ht => ?_⟩
  · by_cases z : y = d
    · subst z
      rw [e] at ey
      cases ey
      exact upd_same
    · rw [upd_ne z]
      exact k.at_ _ _ (by rw [upd_ne z]; exact ey) n
  · have ta : T ≠ d := fun z => by
      obtain ⟨ps, e3, _⟩ := ht
      rw [z, e] at e3
      cases e3
      exact nt _ rfl
    obtain ⟨ps, e3, e6⟩ := k.tab T (by
      obtain ⟨ps, e3, e6⟩ := ht
      exact ⟨ps, by rw [upd_ne ta]; exact e3, e6⟩)
    exact ⟨ps, by rw [upd_ne ta]; exact e3, e6⟩
theorem upd_swap {H : Hp} {p d : Addr} {o u : HO} (h : d ≠ p) : upd (upd H p o) d u = upd (upd H d u) p o := by
  funext a
  by_cases h1 : a = d
  · subst h1
    rw [upd_same, upd_ne h, upd_same]
  · rw [upd_ne h1]
    by_cases h2 : a = p
    · subst h2
      rw [upd_same, upd_same]
    · rw [upd_ne h2, upd_ne h2, upd_ne h1]
abbrev RowR (Rv : Pl → Rel) (H : Hp) : Tk × V → Pl → Prop := fun kv k => kv.1 = plK k ∧ (Rv k).p H kv.2
theorem rowR_kp {H H' : Hp} {Rv : Pl → Rel} {kvs : List (Tk × V)} {ks : List Pl} (h : Paired (RowR Rv H) kvs ks) (k : Kp H H') : Paired (RowR Rv H') kvs ks := Paired.mapP h fun _ _ z => ⟨z.1, (Rv _).mn k z.2⟩
/-- not held fast; held fast; either -/
def RGu (Rv : Pl → Rel) (ks : List Pl) : Rel := ⟨fun H v => ∃ a kvs, v = .ref a ∧ H a = some (.dT kvs) ∧ Paired (RowR Rv H) kvs ks, fun k ⟨a, kvs, h1, h2, h3⟩ => ⟨a, kvs, h1, k.dT h2, rowR_kp h3 k⟩⟩
def RGk (Rv : Pl → Rel) (ks : List Pl) : Rel := ⟨fun H v => ∃ a kvs od, v = .ref a ∧ H a = some (.frz od (.dT kvs)) ∧ Paired (RowR Rv H) kvs ks, fun k ⟨a, kvs, od, h1, h2, h3⟩ => ⟨a, kvs, od, h1, k.frz h2, rowR_kp h3 k⟩⟩
def RGd (Rv : Pl → Rel) (ks : List Pl) : Rel := ⟨fun H v => ∃ a kvs, v = .ref a ∧ Rd H a (.dT kvs) ∧ Paired (RowR Rv H) kvs ks, fun k ⟨a, kvs, h1, h2, h3⟩ => ⟨a, kvs, h1, h2.elim (fun z => .inl (k.dT z)) fun ⟨o, z⟩ => .inr ⟨o, k.frz z⟩, rowR_kp h3 k⟩⟩
def OGu (Rv : Pl → Rel) (ks : List Pl) : Own := ⟨fun B o => ∃ kvs, o = .dT kvs ∧ Paired (RowR Rv B) kvs ks, fun k ⟨kvs, h1, h2⟩ => ⟨kvs, h1, rowR_kp h2 k⟩, fun ⟨_, h, _⟩ => by subst h; exact trivial⟩
section
variable {P : Program} {w : World} {K : PySem.W.Frag} {b : Bool} {c : Ct} {t ta tk tv ty te te1 : TE} {Rv : Pl → Rel} {ks : List Pl} {p : Pl}
theorem gu_d (h : E b c ta (RGu Rv ks)) : E b c ta (RGd Rv ks) := h.imp fun H v ⟨a, kvs, h1, h2, h3⟩ => ⟨a, kvs, h1, .inl h2, h3⟩
theorem gk_d (h : E b c ta (RGk Rv ks)) : E b c ta (RGd Rv ks) := h.imp fun H v ⟨a, kvs, od, h1, h2, h3⟩ => ⟨a, kvs, h1, .inr ⟨od, h2⟩, h3⟩
theorem fixGu (B : Hp) (a : Addr) (o : HO) (e : B a = some o) (h : (OGu Rv ks).p B o) : (RGu Rv ks).p B (.ref a) := by
  obtain ⟨kvs, rfl, h⟩ := h
  exact ⟨a, kvs, rfl, e, h⟩
theorem n_eGu (h : EN c ta (OGu Rv ks)) : E b c ta (RGu Rv ks) := fun σ H s Q q => h σ H s Q fun H' a o k n r => by
  refine q _ _ (k.trans (kp_new n)) ?_
  rw [hb_new (s.kp k) n]
  exact fixGu _ a _ upd_same ((OGu Rv ks).mn (bas_hb.trans (kp_new (less_none n))) r)
theorem rowR_get {H : Hp} {kvs : List (Tk × V)} (h : Paired (RowR Rv H) kvs ks) (p : Pl) : (p ∈ ks → ∃ v, valV kvs (plK p) = some v ∧ (Rv p).p H v) ∧ (p ∉ ks → valV kvs (plK p) = none) := by
  induction h with
  | nil => exact ⟨(fun z => nomatch z), fun _ => rfl⟩
  | @cons kv k kvs ks q _ ih =>
    by_cases z : k = p
    · subst z
      exact ⟨fun _ => ⟨kv.2, valV_pos (p := kv) q.1, q.2⟩, fun n => absurd (.head _) n⟩
    · have : ¬ kv.1 = plK p := fun y => z (plK_inj (q.1.symm.trans y))
      rw [valV_neg this]
      refine ⟨fun m => ih.1 ?_, fun n => ih.2 fun m => n (.tail _ m)⟩
      rcases List.mem_cons.mp m with y | y
      · exact absurd y.symm z
      · exact y
theorem e_getR (hp : p ∈ ks) (ha : E b c ta (RGd Rv ks)) (hy : E b c ty (RD (dP p))) : E b c (tDGet ta ty) (Rv p) := fun σ H s Q q =>
  ha σ H s _ fun H1 v k1 r1 => hy σ H1 (s.kp k1) _ fun H2 y k2 r2 => by
    obtain ⟨a, kvs, rfl, h1, h2⟩ := (RGd Rv ks).mn (hb_kp k2) r1
    obtain ⟨t, rfl, ht⟩ := plT r2
    obtain ⟨v, hv, rv⟩ := (rowR_get h2 p).1 hp
    refine ⟨a, v, rfl, ?_, q H2 v (k1.trans k2) rv⟩
    rw [← hv]
    refine .inr ⟨kvs, plK p, t, ?_, rfl, ht, rfl⟩
    rcases h1 with h1 | ⟨od, h1⟩
    · exact .inl (less_some h1).2
    · exact .inr ⟨od, (less_some h1).2⟩
/-- held fast -/
theorem n_lock {C : Own} (i : Nat) (e : c.g[i]? = some (.fz (RGu Rv ks))) (no : noOwn c.g = true) (st : AllLk (c.g.set i .any)) (hRv : ∀ k, Lk (Rv k)) (hC : Uk C) (h : ∀ hs' h0', EN ⟨hs', h0', c.om, c.g.set i (.fz (RGk Rv ks))⟩ t C) : EN c (tLockE t) C := fun σ H s Q q => by
  obtain ⟨v, e1, a, kvs, rfl, e2, rows⟩ := s.fz i _ e
  rw [no_bas no] at e2 rows
  obtain ⟨nd, e3⟩ := less_some e2
  refine ⟨a, .dT kvs, e3, trivial, fun od => ?_⟩
  have s2 := s.lk (R' := RGk Rv ks) (u0 := .dT kvs) (od := od) no trivial nd e2 e1 ⟨a, kvs, od, rfl, upd_same, Paired.mapP rows fun _ _ z => ⟨z.1, hRv _ _ _ _ _ od trivial e2 z.2⟩⟩ st
  have no' : noOwn (c.g.set i (.fz (RGk Rv ks))) = true := List.all_eq_true.mpr fun x hx => by
    rcases List.mem_or_eq_of_mem_set hx with z | z
    · exact List.all_eq_true.mp no x z
    · rw [z]; rfl
  refine h _ _ σ _ s2 _ fun H' p o k n r => ?_
  have e4 : H' a = some (.frz od (.dT kvs)) := k.at_ _ _ upd_same (fun _ z => nomatch z)
  have ap : a ≠ p := fun z => by rw [z, n] at e4; cases e4
  refine ⟨by rw [upd_ne ap]; exact e4, ?_⟩
  rw [upd_swap ap]
  refine q _ p o (kp_unlock e3 (fun _ z => nomatch z) k) (by rw [upd_ne fun z => ap z.symm]; exact n) ?_
  rw [no_bas no'] at r
  rw [no_bas no, upd_less' nd]
  exact hC _ _ a (.dT kvs) od trivial (by rw [less_out nd]; exact e4) r
theorem s_lockA {i : Nat} {D : Ends} (h : WC c (tAsg (tLockE te) (gName i) D)) : WC c (tLock (tAsg te (gName i)) D) := h
theorem paired_at {α β : Type} {F : α → β → Prop} {xs : List α} {ys : List β} (h : Paired F xs ys) : ∀ {i : Nat} {y : β}, ys[i]? = some y → ∃ x, xs[i]? = some x ∧ F x y := by
  induction h with
  | nil => intro i y e; simp at e
  | @cons a b as bs q _ ih =>
    intro i y e
    cases i with
    | zero => cases e; exact ⟨a, rfl, q⟩
    | succ i => exact ih e
/-- the keys of a dict that is held fast -/
theorem w_keysR (hd : E true c t (RGk Rv ks)) : EWg c (iKeys t) ks (fun p => RD (dP p)) := fun σ H s Q q => hd σ H s _ fun H1 v k1 r1 => by
  rw [hb_t] at r1
  obtain ⟨d, kvs, od, rfl, h, rows⟩ := r1
  have n : kvs.length = ks.length := Paired.length rows
  refine ⟨d, od, rfl, .inr ⟨kvs, (less_some h).2, q H1 _ k1 ⟨fun i G N hd k hi => ⟨(less_some (k.frz h)).2, by omega⟩, fun i G N hd k hi => ⟨(less_some (k.frz h)).2, by omega⟩, fun i G N v G' hd k y m hm => ?_⟩⟩⟩
  obtain ⟨rfl, kk, vv, t, e, rfl, ht⟩ := y
  obtain ⟨kv, e2, rk, _⟩ := paired_at rows hm
  rw [e] at e2
  cases e2
  replace rk : kk = plK m := rk
  subst rk
  refine ⟨Kp.refl _, .tup ?_ (.cons (.int _) (.cons (.int _) .nil))⟩
  rw [less_out fun m => ?_]
  · exact ht
  · obtain ⟨o, eo, mo⟩ := hd t m
    rw [ht] at eo
    cases eo
    exact mo
structure KdR (c : Ct) (σ : L2.St) (H1 : Hp) (D : Addr) (Rv : Pl → Rel) (ks : List Pl) (H : Hp) : Prop where
  ex : ∃ kvs, H D = some (.dT kvs) ∧ Paired (RowR Rv (bas ⟨c.hs, c.h0, fun a => c.om a ∨ a = D, c.g⟩ σ H)) kvs ks
  st : Sta ⟨c.hs, c.h0, fun a => c.om a ∨ a = D, c.g⟩ σ H
  kp : Kp H1 (wo H D)
theorem KdR.grow {σ : L2.St} {H1 H H' : Hp} {D : Addr} (h : KdR c σ H1 D Rv ks H) (k : Kp H H') : KdR c σ H1 D Rv ks H' := by
  obtain ⟨kvs, e, a⟩ := h.ex
  exact ⟨⟨kvs, k.dT e, rowR_kp a (h.st.kb k)⟩, h.st.kp k, h.kp.trans (wo_kp k)⟩
theorem putK_new {kvs : List (Tk × V)} {k : Tk} {v : V} (n : ∀ kv ∈ kvs, kv.1 ≠ k) : putK kvs k v = kvs ++ [(k, v)] := by
  unfold putK
  rw [if_neg]
  intro z
  obtain ⟨kv, hk, e⟩ := List.any_eq_true.mp z
  exact n kv hk (of_decide_eq_true e)
theorem rowR_key {H : Hp} {kvs : List (Tk × V)} (h : Paired (RowR Rv H) kvs ks) : ∀ kv ∈ kvs, ∃ k ∈ ks, kv.1 = plK k := by
  induction h with
  | nil => exact fun _ z => nomatch z
  | cons q _ ih =>
    intro kv hk
    rcases List.mem_cons.mp hk with z | z
    · subst z
      exact ⟨_, .head _, q.1⟩
    · obtain ⟨g, hg, e⟩ := ih kv z
      exact ⟨g, .tail _ hg, e⟩
theorem notin_take {ms : List Pl} (nd : ms.Nodup) {n : Nat} {p : Pl} (h : ms[n]? = some p) : p ∉ ms.take n := fun m => by
  obtain ⟨i, hi, e⟩ := List.getElem_of_mem m
  rw [List.length_take] at hi
  rw [List.getElem_take] at e
  obtain ⟨h3, h4⟩ := List.getElem?_eq_some_iff.mp h
  have := (List.getElem_inj nd (h₀ := by omega) (h₁ := h3)).mp (e.trans h4.symm)
  omega
theorem n_dcR {wi : TI} {g : TG} {is vs : List Nat} {Gs : Pl → List Slot} (hs : EWg c wi ks (fun p => RD (dP p))) (nd : ks.Nodup) (hw : anyAt c.g vs = true) (his : ∀ i ∈ is, i ∈ vs)
    (hg : ∀ om, ∀ x ∈ ks, EG ⟨c.hs, c.h0, om, c.g⟩ g (RD (dP x)) (Gs x) is)
    (hk : ∀ om, ∀ x ∈ ks, E true ⟨c.hs, c.h0, om, Gs x⟩ tk (RD (dP x))) (hv : ∀ om, ∀ x ∈ ks, E true ⟨c.hs, c.h0, om, Gs x⟩ tv (Rv x)) (hl : ks.length < 16777216) :
    EN c (tDcT wi g tk tv vs) (OGu Rv ks) := fun σ H s Q q => by
  have hw := anyAt_of hw
  refine hs σ H s _ fun H1 J k1 ok D nD => ?_
  have s1 := s.kp k1
  have fD : Fre c.hs D := .of s1.ks nD
  have sw := s1.wipe hw
  have ew : ∀ H', bas c (wipe σ vs) H' = bas c σ H' := fun H' => bas_iff (fun a => or_congr (own_wipe hw a) Iff.rfl) fun _ _ => rfl
  refine ⟨fun i m H' => m = ks.length - i ∧ i ≤ ks.length ∧ KdR c (wipe σ vs) H1 D Rv (ks.take i) H', ⟨ks.length, rfl, Nat.zero_le _, ?_⟩, ?_⟩
  · obtain ⟨sh, eb⟩ := sw.hide (o := .dT []) nD trivial
    exact ⟨⟨[], upd_same, by rw [List.take_zero]; exact .nil⟩, sh, by rw [less_upd]; exact kp_of fun b o e => by rw [wo_ne (ne_of_none e nD)]; exact e⟩
  rintro i m H' ⟨rfl, hi, h⟩
  have kB : Kp (bas c σ H1) (bas ⟨c.hs, c.h0, fun a => c.om a ∨ a = D, c.g⟩ (wipe σ vs) H') := by
    rw [← bas_less, ew]
    exact s1.kb h.kp
  by_cases hlt : i < ks.length
  · refine .inr ⟨ok.go i H' _ h.st.hid' kB hlt, KdR c (wipe σ vs) H1 D Rv (ks.take (i + 1)), fun H'' p' => ⟨ks.length - (i + 1), by omega, rfl, hlt, p'⟩, fun v H2 y => ?_⟩
    have ex := List.getElem?_eq_getElem hlt
    obtain ⟨k2, r⟩ := ok.yld i H' _ v H2 h.st.hid' kB y _ ex
    have h2 := h.grow k2
    have hm : ks[i] ∈ ks := List.getElem_mem hlt
    refine hg _ _ hm _ H2 v h2.st r _ fun σ2 s2 e2 w2 => ⟨(w2 vs his).trans (wipe_wipe fun _ m => m), hk _ _ hm σ2 H2 s2 _ fun H3 y k3 r3 => hv _ _ hm σ2 H3 (s2.kp k3) _ fun H4 z k4 r4 => ?_⟩
    have h4 := (h2.grow k3).grow k4
    obtain ⟨kvs, ea, aa⟩ := h4.ex
    obtain ⟨t, rfl, ht⟩ := plT ((RD (dP ks[i])).mn (hb_kp k4) r3)
    rw [hb_t] at r4
    have new : ∀ kv ∈ kvs, kv.1 ≠ plK ks[i] := fun kv hkv y => by
      obtain ⟨x', hx', e⟩ := rowR_key aa kv hkv
      have : x' = ks[i] := plK_inj (e.symm.trans y)
      rw [this] at hx'
      exact notin_take nd ex hx'
    refine ⟨t, kvs, plK ks[i], rfl, ht, ea, ?_, ?_⟩
    · rw [Paired.length aa, List.length_take, sizeLine_eq]
      omega
    · rw [putK_new new]
      obtain ⟨s5, eb⟩ := h4.st.hmut (p := D) (o := .dT (kvs ++ [(plK ks[i], z)])) (.inr rfl) fD trivial
      rw [List.take_add_one, ex]
      refine ⟨⟨_, upd_same, ?_⟩, s5, by rw [less_upd]; exact h4.kp⟩
      rw [eb]
      refine Paired.snoc aa ⟨rfl, ?_⟩
      rw [← e2]
      exact r4
  · have e : i = ks.length := by omega
    subst e
    refine .inl ⟨ok.stop _ H' _ h.st.hid' kB (Nat.le_refl _), ?_⟩
    obtain ⟨kvs, ea, aa⟩ := h.ex
    rw [← upd_less ea]
    refine q _ D _ (k1.trans h.kp) wo_at ⟨kvs, rfl, ?_⟩
    rw [← ew, bas_less]
    rw [List.take_length] at aa
    exact aa
end
section
variable {c : Ct} {α β : Type} {xs : List α} {R : α → Rel} {G : α → List Slot} {is is1 vs vs1 : List Nat} {p : α → Bool} {wi wi1 : TI} {te : TE} {tt tt1 : TT} {g g1 : TG}
  {ys : α → List β} {R1 : β → Rel} {G1 : α → β → List Slot} {p1 : α → β → Bool} {f : α → β → PyData}
theorem n_lc2G (n : Nat) (hs : EWg c wi xs R) (hw : anyAt c.g vs = true) (his : ∀ i ∈ is, i ∈ vs)
    (hg : ∀ om, ∀ x ∈ xs, EG ⟨c.hs, c.h0, om, c.g⟩ g (R x) (G x) is) (ht : ∀ om, ∀ x ∈ xs, ET ⟨c.hs, c.h0, om, G x⟩ tt (p x))
    (hs1 : ∀ om, ∀ x ∈ xs, p x = true → EWg ⟨c.hs, c.h0, om, G x⟩ wi1 (ys x) R1)
    (hw1 : ∀ x ∈ xs, anyAt (G x) vs1 = true) (his1 : ∀ i ∈ is1, i ∈ vs1)
    (hg1 : ∀ om, ∀ x ∈ xs, ∀ y ∈ ys x, EG ⟨c.hs, c.h0, om, G x⟩ g1 (R1 y) (G1 x y) is1) (ht1 : ∀ om, ∀ x ∈ xs, ∀ y ∈ ys x, ET ⟨c.hs, c.h0, om, G1 x y⟩ tt1 (p1 x y))
    (he : ∀ om, ∀ x ∈ xs, p x = true → ∀ y ∈ ys x, p1 x y = true → E true ⟨c.hs, c.h0, om, G1 x y⟩ te (RD (f x y))) (hl : xs.length * n < 16777216) (hn : ∀ x ∈ xs, (ys x).length ≤ n) :
    EN c (tLc2 wi g tt wi1 g1 tt1 te vs vs1) (OL (res2 p ys p1 f xs)) := fun σ H s Q q => by
  have hw := anyAt_of hw
  refine hs σ H s _ fun H1 J k1 ok D nD => ?_
  have s1 := s.kp k1
  have fD : Fre c.hs D := .of s1.ks nD
  have sw := s1.wipe hw
  have ew : ∀ H', bas c (wipe σ vs) H' = bas c σ H' := fun H' => bas_iff (fun a => or_congr (own_wipe hw a) Iff.rfl) fun _ _ => rfl
  have lres : ∀ i, i ≤ xs.length → (res2 p ys p1 f (xs.take i)).length ≤ i * n := fun i => by
    induction i with
    | zero => intro _; rw [List.take_zero]; exact Nat.zero_le _
    | succ i ih =>
      intro hi
      have hx := List.getElem?_eq_getElem (show i < xs.length by omega)
      rw [res2_succ hx, List.length_append, Nat.succ_mul]
      refine Nat.add_le_add (ih (by omega)) ?_
      split
      · rw [List.length_map]
        exact Nat.le_trans (List.length_filter_le _ _) (hn _ (List.getElem_mem _))
      · exact Nat.zero_le _
  refine ⟨fun i m H => m = xs.length - i ∧ i ≤ xs.length ∧ Kc c (wipe σ vs) H1 D (res2 p ys p1 f (xs.take i)) H, ⟨xs.length, by simp, Nat.zero_le _, ?_⟩, ?_⟩
  · obtain ⟨sh, eb⟩ := sw.hide (o := .lst []) nD trivial
    exact ⟨⟨[], upd_same, .nil⟩, sh, by rw [less_upd]; exact kp_of fun b o e => by rw [wo_ne (ne_of_none e nD)]; exact e⟩
  rintro i m H' ⟨rfl, hi, h⟩
  have kB : Kp (bas c σ H1) (bas ⟨c.hs, c.h0, fun a => c.om a ∨ a = D, c.g⟩ (wipe σ vs) H') := by
    rw [← bas_less, ew]
    exact s1.kb h.kp
  by_cases hlt : i < xs.length
  case neg =>
    have e : i = xs.length := by omega
    subst e
    obtain ⟨acc, ea, aa⟩ := h.ex
    refine .inl ⟨ok.stop _ H' _ h.st.hid' kB (Nat.le_refl _), ?_⟩
    rw [← upd_less ea]
    refine q _ D _ (k1.trans h.kp) wo_at ⟨acc, rfl, ?_⟩
    rw [← ew, bas_less]
    rw [List.take_length] at aa
    exact aa
  refine .inr ⟨ok.go i H' _ h.st.hid' kB hlt, fun H' => i + 1 ≤ xs.length ∧ Kc c (wipe σ vs) H1 D (res2 p ys p1 f (xs.take (i + 1))) H', fun H' p' => ⟨xs.length - (i + 1), by omega, rfl, p'.1, p'.2⟩, fun v H2 y => ?_⟩
  have ex := List.getElem?_eq_getElem hlt
  obtain ⟨k2, r⟩ := ok.yld i H' _ v H2 h.st.hid' kB y _ ex
  have h2 := h.grow k2
  have hm : xs[i] ∈ xs := List.getElem_mem hlt
  generalize xs[i] = x at ex r hm
  refine hg _ x hm _ H2 v h2.st r _ fun σ2 s2 e2 w2 => ⟨(w2 vs his).trans (wipe_wipe fun _ m => m), ht _ x hm σ2 H2 s2 _ fun H3 k3 => ?_⟩
  cases hp : p x with
  | false =>
    rw [if_neg Bool.false_ne_true]
    refine ⟨hlt, ?_⟩
    rw [res2_succ ex, hp, if_neg Bool.false_ne_true, List.append_nil]
    exact h2.grow k3
  | true =>
    rw [if_pos rfl]
    have s3 := s2.kp k3
    refine hs1 _ x hm hp σ2 H3 s3 _ fun H4 J1 k4 ok1 => ?_
    have h4 := (h2.grow k3).grow k4
    have s4 := s3.kp k4
    obtain ⟨acc0, ea0, aa0⟩ := h4.ex
    have hwx := anyAt_of (hw1 x hm)
    have sw2 := s4.wipe (vs := vs1) hwx
    have ew1 : ∀ H', bas ⟨c.hs, c.h0, fun b => c.om b ∨ b = D, G x⟩ (wipe σ2 vs1) H' = bas ⟨c.hs, c.h0, fun b => c.om b ∨ b = D, G x⟩ σ2 H' := fun H' => bas_iff (fun a => or_congr (own_wipe hwx a) Iff.rfl) fun _ _ => rfl
    have ez : ∀ H', bas ⟨c.hs, c.h0, fun b => c.om b ∨ b = D, G x⟩ (wipe σ2 vs1) H' = bas ⟨c.hs, c.h0, fun b => c.om b ∨ b = D, c.g⟩ (wipe σ vs) H' := fun H' => (ew1 H').trans (e2 H')
    refine ⟨fun j k H5 => k = (ys x).length - j ∧ j ≤ (ys x).length ∧ Kc c (wipe σ vs) H1 D (res2 p ys p1 f (xs.take i) ++ (((ys x).take j).filter (p1 x)).map (f x)) H5 ∧
      Kc ⟨c.hs, c.h0, c.om, G x⟩ (wipe σ2 vs1) (wo H4 D) D (res2 p ys p1 f (xs.take i) ++ (((ys x).take j).filter (p1 x)).map (f x)) H5, ⟨(ys x).length, by simp, Nat.zero_le _, ?_, ?_⟩, ?_⟩
    · rw [List.take_zero, List.filter_nil, List.map_nil, List.append_nil]
      exact h4
    · rw [List.take_zero, List.filter_nil, List.map_nil, List.append_nil]
      exact ⟨⟨acc0, ea0, by rw [ez]; exact aa0⟩, sw2, Kp.refl _⟩
    rintro j k H5 ⟨rfl, hj, g5, g6⟩
    have kB1 : Kp (bas ⟨c.hs, c.h0, fun b => c.om b ∨ b = D, G x⟩ σ2 H4) (bas ⟨c.hs, c.h0, fun b => c.om b ∨ b = D, G x⟩ (wipe σ2 vs1) H5) := by
      rw [← ew1 H4, ← bas_less (c := ⟨c.hs, c.h0, c.om, G x⟩), ← bas_less (c := ⟨c.hs, c.h0, c.om, G x⟩)]
      exact less_kp g6.kp
    by_cases hjt : j < (ys x).length
    case neg =>
      have e : j = (ys x).length := by omega
      subst e
      refine .inl ⟨ok1.stop _ H5 _ g6.st.hid' kB1 (Nat.le_refl _), hlt, ?_⟩
      rw [res2_succ ex, hp, if_pos rfl]
      rw [List.take_length] at g5
      exact g5
    refine .inr ⟨ok1.go j H5 _ g6.st.hid' kB1 hjt, fun H6 => j + 1 ≤ (ys x).length ∧ Kc c (wipe σ vs) H1 D (res2 p ys p1 f (xs.take i) ++ (((ys x).take (j + 1)).filter (p1 x)).map (f x)) H6 ∧
      Kc ⟨c.hs, c.h0, c.om, G x⟩ (wipe σ2 vs1) (wo H4 D) D (res2 p ys p1 f (xs.take i) ++ (((ys x).take (j + 1)).filter (p1 x)).map (f x)) H6, fun H6 p6 => ⟨(ys x).length - (j + 1), by omega, rfl, p6.1, p6.2⟩, fun v6 H6 y6 => ?_⟩
    have ez6 := List.getElem?_eq_getElem hjt
    obtain ⟨k6, r6⟩ := ok1.yld j H5 _ v6 H6 g6.st.hid' kB1 y6 _ ez6
    have hz : (ys x)[j] ∈ ys x := List.getElem_mem hjt
    generalize (ys x)[j] = z at ez6 r6 hz
    have g56 := g5.grow k6
    have g66 := g6.grow k6
    refine hg1 _ x hm z hz _ H6 v6 g66.st r6 _ fun σ3 s6 e6 w6 => ⟨(w6 vs1 his1).trans (wipe_wipe fun _ m => m), ht1 _ x hm z hz σ3 H6 s6 _ fun H7 k7 => ?_⟩
    cases hp1 : p1 x z with
    | false =>
      rw [if_neg Bool.false_ne_true]
      rw [ft_succ ez6, hp1, if_neg Bool.false_ne_true, List.append_nil]
      exact ⟨hjt, g56.grow k7, g66.grow k7⟩
    | true =>
      rw [if_pos rfl]
      refine he _ x hm hp z hz hp1 σ3 H7 (s6.kp k7) _ fun H8 v8 k8 r8 => ?_
      have g58 := (g56.grow k7).grow k8
      have g68 := (g66.grow k7).grow k8
      obtain ⟨acc, ea, aa⟩ := g58.ex
      rw [hb_t] at r8
      refine ⟨acc, ea, ?_, hjt, ?_, ?_⟩
      · have b1 := lres i (by omega)
        have b2 := lc_len (p := p1 x) (f := f x) (xs := ys x) (i := j) (hn x hm)
        rw [aa.len, List.length_append]
        have b3 : (i + 1) * n ≤ xs.length * n := Nat.mul_le_mul_right _ (by omega)
        rw [Nat.succ_mul] at b3
        rw [sizeLine_eq]
        omega
      · rw [ft_succ ez6, hp1, if_pos rfl, ← List.append_assoc]
        refine g58.put fD ea ?_
        rw [← ez, ← e6]
        exact r8
      · rw [ft_succ ez6, hp1, if_pos rfl, ← List.append_assoc]
        refine g68.put fD ea ?_
        show Dt (bas ⟨c.hs, c.h0, fun b => c.om b ∨ b = D, G x⟩ (wipe σ2 vs1) H8) v8 (f x z)
        rw [← e6]
        exact r8
end
end
section
open GxR NdefX PySem.Spec PyProof.Rows
variable {P : Program} {w : World} {K : PySem.W.Frag} {mg : Str → Option Value} {base : Heap} {x qual : Str} {st : Stmt} {f : Addr} {fd : FuncData} {N ps : List Str} {k : Nat} {α β : Type} {Rs : α → List Rel} {Pr : α → Hp → Prop} {R : β → Rel} {G : α → β → Prop}
def SpX0 {α β : Type} (Rs : α → List Rel) (P : α → Hp → Prop) (R : β → Rel) (G : α → β → Prop) : Sp := fun vs H Q _ => ∃ a : α, Rok (Rs a) H vs ∧ P a H ∧ ∀ H' v y, Kp H H' → G a y → (R y).p H' v → Q v H'
theorem skx0_spx {α β : Type} {Rs : α → List Rel} {P : α → Hp → Prop} {R : β → Rel} {G : α → β → Prop} (a : α) : Skx0 (SpX0 Rs P R G) (Rs a) (P a) R (G a) := fun H vs hr hp Q E q => ⟨a, hr, hp, q⟩
theorem fn_okX0 (F : Fun K x qual st f fd) (S : FnScope N ps (defScope st)) (hl : ∀ a, (Rs a).length = ps.length)
    (hbody : ∀ (cdv : Value) (A : Around) (outer : List Env) (s : Shared) (H : Hp) (E : XK), Room k (A.deeper (envOfC qual (defScope st) s.heap.objs.size f cdv)) →
      ∃ t, PSs (cxOf CX0 P w K mg base N qual (defScope st) f cdv A outer s H E).nox (defBody st) t ∧ ∀ (a : α) (hs : Hp) (Q : VK), Pr a hs → (∀ H' v y, Kp hs H' → G a y → (R y).p (less H' fun _ => False) v → Q v H') → WC ⟨hs, hs, fun _ => False, slots0 (Rs a) N.length⟩ (t { nx := fun _ H' => Q .non H', rt := Q })) :
    FnOk P w K mg base CX0 (k + 1) f fd ps (SpX0 Rs Pr R G) := by
  refine F.ok S (fun vs H Q E h => ?_) (fun cdv A outer s H vs Q E hr h => ?_)
  · obtain ⟨a, hr, _⟩ := h
    rw [hr.len, hl]
  · obtain ⟨a, hR, hP, q⟩ := h
    obtain ⟨t, ht, hw⟩ := hbody cdv A outer s H E hr
    have z := sta_start (H := H) (om := fun _ => False) (N := N) (fun _ z => z.elim) (by rw [less_no]; exact hR)
    rw [less_no] at z
    exact ⟨t, ht, hw a H Q hP (fun H' v y k g r => q H' v y k g (by rw [less_no] at r; exact r)) _ _ z⟩
end
theorem ix_mem {α : Type} [Inhabited α] {xs : List α} {i : Int} (h0 : 0 ≤ i) (h1 : i < xs.length) : ix xs i ∈ xs := by
  obtain ⟨j, rfl⟩ : ∃ j : Nat, i = (j : Int) := ⟨i.toNat, by omega⟩
  have e := List.getElem?_eq_getElem (l := xs) (show j < xs.length by omega)
  rw [ix_nat e]
  exact List.getElem_mem _
theorem e_exU {c : Ct} {te : TE} {R : Rel} {G : Unit → Prop} (h : EX c te (fun _ => R) G) : E true c te R := fun σ H s Q q => h σ H s Q fun H' v _ k _ r => q H' v k (by rw [hb_t]; exact r)
section
open GxR NdefX PySem.Spec PyProof.Rows
variable {K : PySem.W.Frag}
theorem n_sortP {c : Ct} {t : TE} {ps : List Pl} (h : EI c t (ps.map dP)) : EN c (tCB (rSortP K) (tCons t tNil)) (OL ((sortP ps).map dP)) := fun σ H s Q q =>
  h σ H s _ fun H1 a vs k1 e1 r1 => ⟨a, vs, ps, rfl, SqL.of e1, (r1.kp kp_less).prs, fun p ys n hy => q H1 p _ k1 n ⟨ys, rfl, by
    have := DtAll.less (M := msk true c σ) (fun a m => (s.kp k1).hides a m) hy.dt (flats_map (fun _ => rfl) _)
    rw [show less H1 (msk true c σ) = bas c σ H1 from hb_t] at this
    exact this⟩⟩
end
section
open GxR NdefX PySem.Spec PyProof.Rows
variable {P : Program} {w : World} {K : PySem.W.Frag} {mg : Str → Option Value} {base : Heap}
/-- a task that does not fit -/
theorem s_unfit {c : Ct} {C CT CP : Addr} {h : HD} {t : TD} {r : Pl} {ta : TA} {E' : XK} {D : Ends} {b : Bool} (hw : wrongP h.ls h.gs t.st t.en t.ps = some r) (ha : EA b c ta [RHouse C h, RTask CT t])
    (k : ∀ H' d v, Kp c.hs H' → H' d = some (.xd [("place", v)]) → (RD (dP r)).p (less H' c.om) v → E' (.ref CP) (some d) H') : WC c (tDrop (tCall (spCheck CT C CP) [] E' ta) D) := fun σ H s => ha σ H s _ fun H1 vs k1 r1 => by
  rw [List.append_nil]
  obtain ⟨v, r', rfl, ⟨p, rfl, hH⟩, u, r'', rfl, ⟨p', rfl, hT⟩, rfl⟩ := r1
  refine ⟨p, p', h.ls, h.gs, h.cs, t.st, t.en, t.ps, rfl, hH.kp kp_less, hT.kp kp_less, fun z => by (rw [z] at hw; cases hw), fun a z H' d v k2 pr e => ?_⟩
  rw [hw] at z
  cases z
  have s2 := (s.kp k1).kp (kpS k2)
  exact k H' d v (s.ks.trans (k1.trans (kpS k2))) e (Dt.less (fun a m => s2.hid a m) pr.dt rfl)
theorem skn_lv {C CP : Addr} {h : HD} {p : Pl} (e : isPl h.ls h.gs p = true) : Skn (spLv C CP) [RHouse C h, RD (dP p)] (fun _ => Valid h.ls h.gs h.cs ∧ h.ls.sum ≤ 9) (OFar h.x p) := fun H om vs ho hr hp Q E k => ⟨(h, p), om, ho, hr, hp, fun _ => k, fun n => absurd e n⟩
open Classical in
noncomputable def cutO (x : HX) (st en : Pl) (ps : List Pl) : Option Pl := ([en] ++ ps).find? fun m => !decide (Rea x st m)
theorem wrong_st {h : HD} {t : TD} (hw : wrongP h.ls h.gs t.st t.en t.ps = none) : isCr h.ls h.gs t.st = true ∧ isCr h.ls h.gs t.en = true ∧ ∀ p ∈ t.ps, isPl h.ls h.gs p = true := by
  unfold wrongP at hw
  rw [Option.or_eq_none_iff, List.find?_eq_none, List.find?_eq_none] at hw
  refine ⟨?_, ?_, fun p hp => ?_⟩
  · simpa using hw.1 t.st (by simp)
  · simpa using hw.1 t.en (by simp)
  · simpa using hw.2 p hp
abbrev spCo (C CT CP : Addr) : Sp := fun vs H Q E => ∃ (a : HD × TD) (om : Addr → Prop), Hd H om ∧ Rok [RHouse C a.1, RTask CT a.2] (less H om) vs ∧ Valid a.1.ls a.1.gs a.1.cs ∧ a.1.ls.sum ≤ 9 ∧ a.2.ps.length ≤ 60 ∧
  (wrongP a.1.ls a.1.gs a.2.st a.2.en a.2.ps = none → ∀ H' v, Kp H H' → (RD (eO dP (cutO a.1.x a.2.st a.2.en a.2.ps))).p (less H' om) v → Q v H') ∧
  (∀ r, wrongP a.1.ls a.1.gs a.2.st a.2.en a.2.ps = some r → ∀ H' d v, Kp H H' → H' d = some (.xd [("place", v)]) → (RD (dP r)).p (less H' om) v → E (.ref CP) (some d) H')
theorem ok_cutoff {f fC fL fP pp C CT CP CIT : Addr} {fd fdC fdL fdP : FuncData} (F : Fun K "cut_off" "cut_off" s_cut_off f fd) (TT : TaskTxt K mg CT CIT)
    (GC : FnOk P w K mg base (L2.CX P w) 4 fC fdC ["house", "task"] (spCheck CT C CP)) (bC : Binds K fdC ["house", "task"] []) (gC : mg "check_task" = some (.ref fC)) (kC : PySem.W.keepIn K (.ref fC) = true)
    (GL : FnOk P w K mg base (L2.CX P w) 5 fL fdL ["house", "place"] (spLv C CP)) (bL : Binds K fdL ["house", "place"] []) (gL : mg "levels" = some (.ref fL)) (kL : PySem.W.keepIn K (.ref fL) = true)
    (GP : FnOk P w K mg base CX0 1 fP fdP ["self"] (spPicks CT)) (bP : Binds K fdP ["self"] []) (hP : PropOf K CT "picks" pp fP) :
    FnOk P w K mg base (L2.CX P w) 6 f fd ["house", "task"] (spCo C CT CP) := by
  refine F.okX sc_cut_off (fun vs H Q E h => ?_) (fun cdv A outer s H vs Q E hr h => ?_)
  · obtain ⟨a, om, ho, hr, _⟩ := h
    exact hr.len
  · obtain ⟨⟨h, t⟩, om, ho, hR, va, h9, l60, q1, q2⟩ := h
    have nd := sc_cut_off.nd
    refine ⟨_, (pss_cons (ps_expr (pe_call GC (by exact hr.mono (by decide)) (by rfl) gC kC bC .nil (passes_call (takes_of rfl rfl rfl rfl) fun _ _ _ _ h => h) (pa_cons (pv 0) (pa_cons (pv 1) pa_nil))))
      (pss_cons (ps_set (i := 2) nd rfl (.inl rfl) (pe_call GL (by exact hr.mono (by decide)) (by rfl) gL kL bL .nil (passes_call (takes_of rfl rfl rfl rfl) fun _ _ _ _ h => h) (pa_cons (pv 0) (pa_cons (pe_fld (pv 1) rfl) pa_nil))))
      (pss_cons (ps_for (passes_of rfl) rfl (pi_list (pe_op op_cat (pe_lst (pa_cons (pe_fld (pv 1) rfl) pa_nil)) (pe_prop (pv 1) TT.cl hP GP (by exact hr.mono (by decide)) bP .nil pass0 rfl))) (pg_name (i := 3) nd rfl (.inl rfl)) (pss_one (ps_if (pt_cmp (pc_dnotin (by exact Pk.Room.units1 hr) (pv 3) (pv 2))) (pss_one (ps_ret (pv 3))) pss_nil)))
      (pss_one (ps_ret pe_non))))), ?_⟩
    have st := sta_start (N := ["house", "task", "numbers", "mark"]) ho hR
    refine (?_ : WC ⟨H, less H om, om, [.fz (RHouse C h), .fz (RTask CT t), .any, .any]⟩ _) _ _ st
    replace va : Valid h.ls h.gs h.cs := va
    replace h9 : h.ls.sum ≤ 9 := h9
    replace l60 : t.ps.length ≤ 60 := l60
    cases hb : wrongP h.ls h.gs t.st t.en t.ps with
    | some r =>
      refine s_seq ?_
      exact s_unfit (b := true) hb (a_cons (e_var rfl) (a_cons (e_var rfl) a_nil)) (q2 r hb)
    | none =>
      replace q1 : ∀ H' v, Kp H H' → (RD (eO dP (cutO h.x t.st t.en t.ps))).p (less H' om) v → Q v H' := q1 hb
      obtain ⟨hst, hen, hps⟩ := wrong_st hb
      have pst : isPl h.ls h.gs t.st = true := by
        unfold isCr at hst
        rw [Bool.and_eq_true] at hst
        exact hst.1
      refine s_seq ?_
      refine s_expr (c_call (sok_check (h := h) (t := t)) (a_cons (e_var rfl) (a_cons (e_var rfl) a_nil)) (fun _ _ => hb)) ?_
      refine s_seq ?_
      refine s_new (n_call (skn_lv (h := h) pst) (a_cons (e_var rfl) (a_cons (e_fld TT.cl TT.nS fld_start (e_var rfl)) a_nil)) (fun _ _ => ⟨va, h9⟩)) ?_
      show WC ⟨H, less H om, om, [.fz (RHouse C h), .fz (RTask CT t), .own (OFar h.x t.st), .any]⟩ _
      refine s_ownFar (i := 2) (x := h.x) (p := t.st) rfl fun M fM => ?_
      show WC ⟨H, less H om, om, [.fz (RHouse C h), .fz (RTask CT t), .own (OTab M), .any]⟩ _
      have rea : ∀ m, (getM M m).isSome = true ↔ Rea h.x t.st m := fun m => by
        rw [Option.isSome_iff_ne_none, getM_key, fM.key]
      dsimp only
      refine s_seq ?_
      refine s_for (xs := [t.en] ++ t.ps) (enc := dP) (fun j γ => γ = [.fz (RHouse C h), .fz (RTask CT t), .own (OTab M), .any] ∧ ∀ m ∈ ([t.en] ++ t.ps).take j, Rea h.x t.st m)
        (n_e (n_catM (xs := [t.en]) (ys := t.ps) (i_n (n_lstM (xs := [t.en]) (enc := dP) (m_cons (e_fld TT.cl TT.nE fld_end (e_var rfl)) m_nil))) (i_of (c_prop ins_task sok_picks (e_var rfl) (fun _ _ => trivial))) (by show 1 + _ ≤ _; omega))) ⟨rfl, fun _ z => by simp at z⟩ ?_ ?_
      · rintro h1 j m γ kp hx ⟨rfl, ia⟩
        refine ⟨_, _, g_name, ?_⟩
        show WC ⟨H, h1, om, [.fz (RHouse C h), .fz (RTask CT t), .own (OTab M), .fz (RD (dP m))]⟩ _
        refine s_if (t_B (e_ninO rfl (e_var rfl))) (fun z => ?_) (fun z => ?_)
        · refine s_ret (R := RD (eO dP (some m))) (e_var rfl) fun H' v k r => q1 H' v k ?_
          have : cutO h.x t.st t.en t.ps = some m := by
            have nr : ¬ Rea h.x t.st m := fun y => by
              rw [(rea m).mpr y] at z
              cases z
            exact (find_snoc (f := fun m => !@decide _ (Classical.propDecidable (Rea h.x t.st m))) (List.find?_eq_none.mpr fun y hy => by simpa using ia y hy) hx).1 (by simpa using nr)
          rw [this]
          exact r
        · have hm : Rea h.x t.st m := (rea m).mp (by simpa using z)
          refine s_pass ?_
          refine s_drop 3 ?_
          refine s_of ⟨rfl, fun y hy => ?_⟩
          rw [List.take_add_one, hx] at hy
          rcases List.mem_append.mp hy with z | z
          · exact ia y z
          · rw [List.mem_singleton.mp (show y ∈ [m] from z)]
            exact hm
      · rintro γ ⟨rfl, ia⟩
        rw [List.take_length] at ia
        dsimp only
        refine s_ret (R := RD (eO dP none)) e_non fun H' v k r => q1 H' v k ?_
        have : cutO h.x t.st t.en t.ps = none := List.find?_eq_none.mpr fun y hy => by simpa using ia y hy
        rw [this]
        exact r
theorem sok_co {C CT CP : Addr} {h : HD} {t : TD} (hw : wrongP h.ls h.gs t.st t.en t.ps = none) : Sok (spCo C CT CP) [RHouse C h, RTask CT t] (fun _ => Valid h.ls h.gs h.cs ∧ h.ls.sum ≤ 9 ∧ t.ps.length ≤ 60) (RD (eO dP (cutO h.x t.st t.en t.ps))) := fun H om vs ho hR hp Q E k => ⟨(h, t), om, ho, hR, hp.1, hp.2.1, hp.2.2, fun _ => k, fun r z => by rw [show wrongP h.ls h.gs t.st t.en t.ps = some r from z] at hw; cases hw⟩
end
section
open GxR NdefX PySem.Spec PyProof.Rows
variable {P : Program} {w : World} {K : PySem.W.Frag} {b : Bool} {c : Ct} {ta tb : TE} {α : Type} {enc : α → PyData} {lt : α → α → Bool}
theorem o_ltO (O : OrdD enc lt) {x y : α} : O2 (rLtO K enc lt) (RD (enc x)) (RD (enc y)) (RD (.bool (lt x y))) := fun H M u v _ r1 r2 Q q =>
  ⟨x, y, (Dt.kp kp_less r1).dp (O.nod _), (Dt.kp kp_less r2).dp (O.nod _), q H _ (Kp.refl _) (.bl _)⟩
def sortO (lt : α → α → Bool) (xs : List α) : List α := xs.mergeSort fun x y => !lt y x
theorem sortO_mem {xs : List α} {x : α} : x ∈ sortO lt xs ↔ x ∈ xs := (List.mergeSort_perm _ _).mem_iff
theorem sortO_len {xs : List α} : (sortO lt xs).length = xs.length := (List.mergeSort_perm _ _).length_eq
theorem n_sortO (O : OrdD enc lt) {xs : List α} (h : EI c ta (xs.map enc)) : EN c (tCB (rSortO K enc lt) (tCons ta tNil)) (OL ((sortO lt xs).map enc)) := fun σ H s Q q =>
  h σ H s _ fun H1 a vs k1 e1 r1 => by
    obtain ⟨L, rfl, rfl, hL⟩ := pairs_dt r1
    refine ⟨a, L, rfl, e1, fun p hp => (Dt.kp kp_less (hL p hp)).dp (O.nod _), fun p n => q H1 p _ k1 n ⟨_, rfl, ?_⟩⟩
    have e : sortO lt (L.map (·.2)) = (L.mergeSort fun x y => !lt y.2 x.2).map (·.2) := (List.map_mergeSort (f := fun p : V × α => p.2) fun a _ b _ => rfl).symm
    rw [e]
    exact dt_pairs fun p hp => hL p ((List.mergeSort_perm _ _).mem_iff.mp hp)
theorem alikeP (p q : Pl) : PySem.W.alike (dP p) (dP q) = true := by
  show PySem.W.alike (.tuple [.int _, .int _]) (.tuple [.int _, .int _]) = true
  simp [PySem.W.alike, PySem.W.alikeAll]
theorem ordP : OrdD dP lsP := ⟨lt_dP, alikeP, fun a => ⟨_, _, rfl⟩, fun a b h => by
  have h : PyData.tuple [.int a.1, .int a.2] = .tuple [.int b.1, .int b.2] := h
  simp only [PyData.tuple.injEq, List.cons.injEq, PyData.int.injEq, and_true] at h
  exact Prod.ext h.1 h.2, fun a => by show (1 : Nat) ≤ 8; decide, fun a => rfl⟩
abbrev dE : Pl × Pl → PyData := eT2 dP dP
abbrev lsE (e f : Pl × Pl) : Bool := if e.1 = f.1 then lsP e.2 f.2 else lsP e.1 f.1
theorem eqvP (p q : Pl) : PyData.eqv (dP p) (dP q) = decide (p = q) := enc_P.eqv p q
theorem ordE : OrdD dE lsE := ⟨fun e f => by
    show PySem.W.dataLt (.tuple [dP e.1, dP e.2]) (.tuple [dP f.1, dP f.2]) = _
    rw [PySem.W.dataLt_pair (alikeP _ _) (by simp [PySem.W.alikeAll, alikeP]), eqvP, lt_dP, lt_dP]
    rw [eqvP]
    by_cases h : e.1 = f.1
    · rw [if_pos (decide_eq_true h), lsE, if_pos h]
      by_cases g : e.2 = f.2
      · rw [if_pos (decide_eq_true g), g]
        unfold lsP
        rw [eq_comm, decide_eq_false_iff_not]
        omega
      · rw [if_neg (by rw [decide_eq_false g]; exact fun z => nomatch z)]
    · rw [if_neg (by rw [decide_eq_false h]; exact fun z => nomatch z), lsE, if_neg h],
  fun e f => by
    show PySem.W.alike (.tuple [dP e.1, dP e.2]) (.tuple [dP f.1, dP f.2]) = true
    simp [PySem.W.alike, PySem.W.alikeAll, alikeP], fun a => ⟨_, _, rfl⟩, fun a b h => by
  have h : PyData.tuple [dP a.1, dP a.2] = .tuple [dP b.1, dP b.2] := h
  simp only [PyData.tuple.injEq, List.cons.injEq, and_true] at h
  exact Prod.ext (ordP.inj _ _ h.1) (ordP.inj _ _ h.2), fun a => by show (2 : Nat) ≤ 8; decide, fun a => rfl⟩
abbrev dW : Int × Pl × Pl → PyData := eT3 PyData.int dP dP
abbrev lsW (e f : Int × Pl × Pl) : Bool := if e.1 = f.1 then (if e.2.1 = f.2.1 then lsP e.2.2 f.2.2 else lsP e.2.1 f.2.1) else decide (e.1 < f.1)
theorem ordW : OrdD dW lsW := ⟨fun e f => by
    show PySem.W.dataLt (.tuple [.int e.1, dP e.2.1, dP e.2.2]) (.tuple [.int f.1, dP f.2.1, dP f.2.2]) = _
    rw [PySem.W.dataLt_tuple, PySem.W.dataLt_cons (by simp [PySem.W.alike]), PySem.W.dataLt_cons (alikeP _ _), PySem.W.dataLt_cons (alikeP _ _), eqvP, eqvP, lt_dP, lt_dP, PySem.W.dataLt_int]
    have ei : PyData.eqv (.int e.1) (.int f.1) = decide (e.1 = f.1) := enc_int.eqv e.1 f.1
    rw [ei]
    by_cases h : e.1 = f.1
    · rw [if_pos (decide_eq_true h), lsW, if_pos h]
      by_cases g : e.2.1 = f.2.1
      · rw [if_pos (decide_eq_true g), if_pos g]
        by_cases k : e.2.2 = f.2.2
        · rw [if_pos (decide_eq_true k), k]
          have z : lsP f.2.2 f.2.2 = false := by
            unfold lsP
            rw [decide_eq_false_iff_not]
            omega
          rw [z]
          exact lex_irrefl _
        · rw [if_neg (by rw [decide_eq_false k]; exact fun z => nomatch z)]
      · rw [if_neg (by rw [decide_eq_false g]; exact fun z => nomatch z), if_neg g]
    · rw [if_neg (by rw [decide_eq_false h]; exact fun z => nomatch z), lsW, if_neg h],
  fun e f => by
    show PySem.W.alike (.tuple [.int e.1, dP e.2.1, dP e.2.2]) (.tuple [.int f.1, dP f.2.1, dP f.2.2]) = true
    simp [PySem.W.alike, PySem.W.alikeAll, alikeP], fun a => ⟨_, _, rfl⟩, fun a b h => by
  have h : PyData.tuple [.int a.1, dP a.2.1, dP a.2.2] = .tuple [.int b.1, dP b.2.1, dP b.2.2] := h
  simp only [PyData.tuple.injEq, List.cons.injEq, PyData.int.injEq, and_true] at h
  exact Prod.ext h.1 (Prod.ext (ordP.inj _ _ h.2.1) (ordP.inj _ _ h.2.2)), fun a => by show (2 : Nat) ≤ 8; decide, fun a => rfl⟩
end
section
open GxR NdefX PySem.Spec PyProof.Rows
variable {P : Program} {w : World} {K : PySem.W.Frag} {b : Bool} {c : Ct} {D : Ends} {ta tb ty tv te td : TE} {M : MapE} {i : Nat} {e : Pl × Pl} {n : Int}
theorem PairAt.kp {H H' : Hp} {t : Addr} (h : PairAt H t e) (k : Kp H H') : PairAt H' t e := by
  obtain ⟨u, v, h1, h2, h3⟩ := h
  exact ⟨u, v, k.tup h1, k.tup h2, k.tup h3⟩
theorem rowE_kp {H H' : Hp} {xs : List (NestedKey × Addr × Value)} (h : Paired (RowE H) M xs) (k : Kp H H') : Paired (RowE H') M xs := Paired.mapP h fun _ _ z => ⟨z.1, z.2.1.kp k, z.2.2⟩
theorem tup_less {H : Hp} {W : Addr → Prop} (hd : Hd H W) {t : Addr} {xs : List V} (h : H t = some (.tup xs)) : less H W t = some (.tup xs) := by
  by_cases m : W t
  · obtain ⟨o, e, mu⟩ := hd t m
    rw [h] at e
    cases e
    exact mu.elim
  · rw [less_out m]
    exact h
theorem rowE_less {H : Hp} {W : Addr → Prop} (hd : Hd H W) {xs : List (NestedKey × Addr × Value)} (h : Paired (RowE H) M xs) : Paired (RowE (less H W)) M xs := Paired.mapP h fun _ _ z => ⟨z.1, by
  obtain ⟨u, v, h1, h2, h3⟩ := z.2.1
  exact ⟨u, v, tup_less hd h1, tup_less hd h2, tup_less hd h3⟩, z.2.2⟩
def OPD (P : Program) (w : World) (M : MapE) : Own := ⟨fun B o => ∃ a' xs, o = .ext (PDAt P w a' xs) ∧ Paired (RowE B) M xs ∧ (M.map fun x : (Pl × Pl) × Int => x.1).Nodup ∧ M.length ≤ sizeLine,
  fun k ⟨a', xs, h1, h2, h3, h4⟩ => ⟨a', xs, h1, rowE_kp h2 k, h3, h4⟩, fun ⟨_, _, h, _⟩ => by subst h; exact trivial⟩
theorem n_pnew : EN c (tPNew P w) (OPD P w []) := fun σ H s Q q p n => q H p _ (Kp.refl _) n ⟨p, [], rfl, .nil, .nil, Nat.zero_le _⟩
theorem dE_at {H : Hp} {W : Addr → Prop} {v : V} (r : (RD (dE e)).p (less H W) v) : ∃ t, v = .ref t ∧ PairAt H t e := by
  have r : Dt (less H W) v (.tuple [dP e.1, dP e.2]) := r
  cases r with
  | tup h a =>
    cases a with
    | cons a1 a =>
      cases a with
      | cons a2 a =>
        cases a
        obtain ⟨u, rfl, hu⟩ := a1.plA
        obtain ⟨v, rfl, hv⟩ := a2.plA
        exact ⟨_, rfl, u, v, (less_some h).2, (less_some hu).2, (less_some hv).2⟩
theorem OPD.of {H : Hp} {σ : L2.St} {p : Addr} {o : HO} (e2 : H p = some o) (h : (OPD P w M).p (bas c σ H) o) : PDOf P w H p M := by
  obtain ⟨a', xs, rfl, h2, h3, h4⟩ := h
  exact ⟨a', xs, e2, rowE_kp h2 kp_less, h3, h4⟩
theorem s_pputO (es : c.g[i]? = some (.own (OPD P w M))) (hv : E true c tv (RD (.int n))) (hy : E false c ty (RD (dE e))) (g : getE M e = none) (l : M.length < 16777216) (q : WC (c.set i (.own (OPD P w (M ++ [(e, n)])))) D.nx) :
    WC c (sPPut P w (tVar i) ty tv D) := fun σ H s => hv σ H s _ fun H1 v k1 r1 => by
  have s1 := s.kp k1
  obtain ⟨a, o, e1, _⟩ := s1.own i _ es
  refine ⟨.ref a, e1, hy σ H1 s1 _ fun H2 y k2 r2 => ?_⟩
  have s2 := s1.kp k2
  obtain ⟨a', o, e1', e2, h2, _⟩ := s2.own i _ es
  cases e1.symm.trans e1'
  obtain ⟨t, rfl, ht⟩ := dE_at r2
  cases r1
  refine ⟨a, t, M, e, n, rfl, rfl, rfl, OPD.of e2 h2, ht, g, by rw [sizeLine_eq]; exact l, fun xs d => ?_⟩
  obtain ⟨a'', ys, z1, z2, z3, z4⟩ := d
  rw [upd_same] at z1
  have z1 := Option.some.inj z1
  have back : Paired (RowE H2) (M ++ [(e, n)]) ys := Paired.mapP z2 fun _ _ z => ⟨z.1, by
    have nt : ∀ {t : Addr} {us : List V}, upd H2 a (.ext (PDAt P w a xs)) t = some (.tup us) → H2 t = some (.tup us) := fun {t us} h => by
      by_cases y : t = a
      · subst y
        rw [upd_same] at h
        cases h
      · rw [upd_ne y] at h
        exact h
    obtain ⟨u, v, h1, h2, h3⟩ := z.2.1
    exact ⟨u, v, nt h1, nt h2, nt h3⟩, z.2.2⟩
  refine q σ _ (s2.mut (C' := OPD P w (M ++ [(e, n)])) (o := .ext (PDAt P w a xs)) es e1 ⟨a'', ys, z1, ?_, z3, z4⟩).1
  exact rowE_less (W := fun x => isOwn c.g σ x ∨ c.om x) (fun x m => s2.hides (b := true) x ⟨rfl, m⟩) back
def RPD (P : Program) (w : World) (M : MapE) : Rel := ⟨fun H v => ∃ a, v = .ref a ∧ PDOf P w H a M, fun k ⟨a, h1, a', xs, h2, h3, h4⟩ => ⟨a, h1, a', xs, k.at_ a _ h2 (fun _ z => nomatch z), rowE_kp h3 k, h4⟩⟩
theorem fixPD (B : Hp) (a : Addr) (o : HO) (h1 : B a = some o) (h : (OPD P w M).p B o) : (RPD P w M).p B (.ref a) := by
  obtain ⟨a', xs, rfl, h2, h3, h4⟩ := h
  exact ⟨a, rfl, a', xs, h1, h2, h3, h4⟩
theorem n_ePD (h : EN c ta (OPD P w M)) : E b c ta (RPD P w M) := fun σ H s Q q => h σ H s Q fun H' a o k n r => by
  refine q _ _ (k.trans (kp_new n)) ?_
  rw [hb_new (s.kp k) n]
  exact fixPD _ a _ upd_same ((OPD P w M).mn (bas_hb.trans (kp_new (less_none n))) r)
theorem e_pget (g : getE M e = some n) (ha : E b c ta (RPD P w M)) (hy : E b c ty (RD (dE e))) : E b c (tPGet P w ta ty) (RD (.int n)) := fun σ H s Q q =>
  ha σ H s _ fun H1 v k1 r1 => hy σ H1 (s.kp k1) _ fun H2 y k2 r2 => by
    obtain ⟨a, rfl, d⟩ := (RPD P w M).mn ((hb_kp k2).trans hb_in) r1
    obtain ⟨t, rfl, ht⟩ := dE_at r2
    exact ⟨a, t, M, e, n, rfl, rfl, d.rd, ht, g, q H2 _ (k1.trans k2) (.int _)⟩
end
section
open GxR NdefX PySem.Spec PyProof.Rows
variable {P : Program} {w : World} {K : PySem.W.Frag} {mg : Str → Option Value} {base : Heap}
theorem ix_nth0 {ls : List Int} (h : 1 ≤ ls.length) : ix ls 0 = nth ls 0 := by
  cases ls with
  | nil => cases h
  | cons a l => exact ix_nat (xs := a :: l) (j := 0) rfl
theorem isPl_iff {ls gs : List Int} {p : Pl} : isPl ls gs p = true ↔ (0 ≤ p.1 ∧ p.1 ≤ gs.length) ∧ (0 ≤ p.2 ∧ p.2 ≤ ls.sum) := by
  unfold isPl
  simp
theorem cr_of {ls gs : List Int} {a k : Int} (h0 : 0 ≤ a) (h1 : a ≤ gs.length) (lens : Lens ls) (c : k ∈ crossN ls) : isCr ls gs (a, k) = true := by
  have := lens.cross c
  unfold isCr
  rw [isPl_iff.mpr ⟨⟨h0, h1⟩, this⟩, Bool.true_and]
  exact decide_eq_true c
theorem isCr_pl {ls gs : List Int} {p : Pl} (h : isCr ls gs p = true) : isPl ls gs p = true := by
  unfold isCr at h
  rw [Bool.and_eq_true] at h
  exact h.1
def Rs__law_crosses  : (List Int) × (List Int) × (List (Str × Int × Int)) → List Rel := fun x => [(RD ((eT3 (eL PyData.int) (eL PyData.int) (eL dLk)) (x.1, x.2.1, x.2.2)))]
def P__law_crosses  : (List Int) × (List Int) × (List (Str × Int × Int)) → Hp → Prop := fun x H => Valid x.1 x.2.1 x.2.2
def R__law_crosses  : (List Pl) → Rel := fun y => (RD (.list (y.map dP)))
def G__law_crosses  : (List Int) × (List Int) × (List (Str × Int × Int)) → ((List Pl)) → Prop := fun x y => (∀ p ∈ y, isCr x.1 x.2.1 p = true) ∧ 1 ≤ y.length ∧ y.length ≤ 36
theorem ok__law_crosses {f : Addr} {fd : FuncData} (F : Fun K "_law_crosses" "_law_crosses" s__law_crosses f fd) (z_range : mg "range" = none) (z_len : mg "len" = none) (z_sum : mg "sum" = none) (z_sorted : mg "sorted" = none) (z_set : mg "set" = none) : FnOk P w K mg base CX0 1 f fd ["parts"] (SpX (Rs__law_crosses ) (P__law_crosses ) (R__law_crosses ) (G__law_crosses )) := by
  refine fn_okX F sc__law_crosses (fun _ => rfl) fun cdv A outer s H E0 hr => ?_
  have nd := sc__law_crosses.nd
  refine ⟨_, (pss_cons (ps_set (i := 1) nd rfl (.inl rfl) (pe_lst pa_nil))
      (pss_cons (ps_for PassesOwn.never rfl (pi_range1 rfl z_range (pa_cons (pe_op op_add (pe_callB call_len (by rfl) z_len (by decide +kernel) (pa_cons (pe_ix (r := rIxT K) ix_tup (pv 0) pe_int (fun _ _ => rfl)) pa_nil)) pe_int) pa_nil)) (pg_name (i := 2) nd rfl (.inr rfl)) (pss_one (ps_set (i := 1) nd rfl (.inl rfl) (pe_op op_cat (pv 1) (pe_lc (own := [("height", 3)]) (g := (gName 3)) (tt := tYes) rfl nd (pi_list (pe_callB (cr_sortedSet rfl) (by rfl) z_sorted (by decide +kernel) (pa_cons (pe_callTy (cr_setI rfl) (by rfl) z_set (by decide +kernel) (pa_cons (pe_lst (pa_cons pe_int (pa_cons (pe_ix (r := rIxL K) ix_list (pe_ix (r := rIxT K) ix_tup (pv 0) pe_int (fun _ _ => rfl)) pe_int (fun _ _ => rfl)) (pa_cons (pe_callB (cr_sum rfl) (by rfl) z_sum (by decide +kernel) (pa_cons (pe_ix (r := rIxT K) ix_tup (pv 0) pe_int (fun _ _ => rfl)) pa_nil)) pa_nil)))) pa_nil)) pa_nil))) (blkOk_by (N := ["parts", "found", "aisle", "height"]) (sc := defScope s__law_crosses) (by decide +kernel)) (fun _ _ _ _ _ => (pg_name (i := 3) nd rfl (.inl rfl))) (fun _ _ _ _ _ => pts_nil) (fun _ _ _ _ _ => (pe_tup (pa_cons (pv 2) (pa_cons (pv 3) pa_nil)))))))))
      (pss_one (ps_ret (pv 1))))), ?_⟩
  rintro ⟨ls, gs, cs⟩ hs om Q hp q
  show WC ⟨hs, (less hs om), om, [.fz (RD ((eT3 (eL PyData.int) (eL PyData.int) (eL dLk)) (ls, gs, cs))), .any, .any, .any]⟩ _
  replace hp : Valid ls gs cs := hp
  have lens : Lens ls := hp.lens
  have l1 : 1 ≤ ls.length := hp.1.1.1
  have le2 : ls.length ≤ 2 := hp.1.1.2
  have g11 : gs.length ≤ 11 := hp.2.1.1
  have crs := cross_rise lens l1 le2
  have nth0 : ix ls 0 = nth ls 0 := ix_nth0 l1
  have cl : (crossN ls).length = ls.length + 1 := by unfold crossN; rw [List.length_map, List.length_range]
  refine s_seq ?_
  refine s_set (n_e (n_lst m_nil)) ?_
  show WC ⟨hs, (less hs om), om, [.fz (RD ((eT3 (eL PyData.int) (eL PyData.int) (eL dLk)) (ls, gs, cs))), .fz (RD (.list (([] : List ((Int) × (Int))).map dP))), .any, .any]⟩ _
  refine s_seq ?_
  refine s_rng (lo := 0) (n := (((gs.length : Int) + 1) : Int).toNat) (fun (i : Nat) γ => ∃ (fs : List ((Int) × (Int))), γ = [.fz (RD ((eT3 (eL PyData.int) (eL PyData.int) (eL dLk)) (ls, gs, cs))), .fz (RD (.list (fs.map dP))), .any, .any] ∧ ((∀ p ∈ fs, isCr ls gs p = true) ∧ fs.length = i * (ls.length + 1))) (w_rng1 (j := ((gs.length : Int) + 1)) (e_op o_add (e_cb o_lenM (a_cons (e_op (o_ixT rfl) (e_var rfl) e_int) a_nil)) e_int) (by omega)) ⟨([] : List ((Int) × (Int))), rfl, ⟨(fun _ h => nomatch h), by simp⟩⟩ ?_ ?_
  · rintro i γ hx ⟨fs, rfl, ⟨f1, f2⟩⟩
    have fb : fs.length ≤ i * 3 := by rw [f2]; exact Nat.mul_le_mul_left _ (by omega)
    refine ⟨_, _, g_name, ?_⟩
    show WC ⟨hs, (less hs om), om, [.fz (RD ((eT3 (eL PyData.int) (eL PyData.int) (eL dLk)) (ls, gs, cs))), .fz (RD (.list (fs.map dP))), .fz (RD (.int (0 + (i : Int)))), .any]⟩ _
    refine s_set (n_e (n_catM (xs := fs) (ys := ((crossN ls).map fun k => ((0 + (i : Int)), k))) (i_of (e_var rfl)) (i_n (n_lcM1 (xs := (crossN ls)) (enc := PyData.int) (h := fun k => ((0 + (i : Int)), k)) (encB := dP) (i_n (n_sortSetI (xs := [0, (ix ls 0), ls.sum]) (ys := (crossN ls)) (i_n (n_lstM (xs := [0, (ix ls 0), ls.sum]) (enc := PyData.int) (m_cons e_int (m_cons (e_op (o_ixL (ix_at (xs := ls) (i := 0) (by omega))) (e_op (o_ixT rfl) (e_var rfl) e_int) e_int) (m_cons (e_cb o_sum (a_cons (e_op (o_ixT rfl) (e_var rfl) e_int) a_nil)) m_nil))))) (by show 3 ≤ 60; decide) (fun k => by rw [nth0]; exact (crs.2 k).symm) crs.1)) rfl (by decide) (fun _ k hxk => g_name) (fun _ k hxk hyk => by exact (e_tup (m_cons (e_var rfl) (m_cons (e_var rfl) m_nil)))) (by omega))) (by rw [List.length_map, cl]; omega))) ?_
    show WC ⟨hs, (less hs om), om, [.fz (RD ((eT3 (eL PyData.int) (eL PyData.int) (eL dLk)) (ls, gs, cs))), .fz (RD (.list ((fs ++ ((crossN ls).map fun k => ((0 + (i : Int)), k))).map dP))), .fz (RD (.int (0 + (i : Int)))), .any]⟩ _
    refine s_drop 2 ?_
    show WC ⟨hs, (less hs om), om, [.fz (RD ((eT3 (eL PyData.int) (eL PyData.int) (eL dLk)) (ls, gs, cs))), .fz (RD (.list ((fs ++ ((crossN ls).map fun k => ((0 + (i : Int)), k))).map dP))), .any, .any]⟩ _
    exact s_of ⟨(fs ++ ((crossN ls).map fun k => ((0 + (i : Int)), k))), rfl, ⟨fun p hp => (List.mem_append.mp hp).elim (f1 p) fun z => by obtain ⟨k, hk, rfl⟩ := List.mem_map.mp z; exact cr_of (by omega) (by omega) lens hk, by rw [List.length_append, List.length_map, f2, cl]; simp [Nat.add_mul, Nat.add_assoc]⟩⟩
  · rintro γ ⟨fs, rfl, ⟨f1, f2⟩⟩
    show WC ⟨hs, (less hs om), om, [.fz (RD ((eT3 (eL PyData.int) (eL PyData.int) (eL dLk)) (ls, gs, cs))), .fz (RD (.list (fs.map dP))), .any, .any]⟩ _
    refine s_retX (ex_e (R := R__law_crosses ) (G := G__law_crosses  _) fs (e_var rfl) ?_) q
    exact ⟨f1, by rw [f2]; exact Nat.le_trans (show 1 ≤ 1 * 1 by decide) (Nat.mul_le_mul (by omega) (by omega)), by rw [f2]; exact Nat.le_trans (Nat.mul_le_mul (show _ ≤ 12 by omega) (show ls.length + 1 ≤ 3 by omega)) (by decide)⟩
def Rs__law_task  : (List Int) × Nat × (List Int) × (List Int) × (List (Str × Int × Int)) × Nat → List Rel := fun x => [(RD (.list (x.1.map PyData.int))), (RD (.int (x.2.1 : Int))), (RD ((eT3 (eL PyData.int) (eL PyData.int) (eL dLk)) (x.2.2.1, x.2.2.2.1, x.2.2.2.2.1))), (RD (.int (x.2.2.2.2.2 : Int)))]
def P__law_task  : (List Int) × Nat × (List Int) × (List Int) × (List (Str × Int × Int)) × Nat → Hp → Prop := fun x H => Drawn (x.2.2.1, x.2.2.2.1, x.2.2.2.2.1) ∧ x.2.1 + 4 + x.2.2.2.2.2 ≤ x.1.length ∧ x.2.2.2.2.2 ≤ 20
def R__law_task  : Pl × Pl × (List Pl) → Rel := fun y => (RD ((eT3 dP dP (eL dP)) (y.1, y.2.1, y.2.2)))
def G__law_task  : (List Int) × Nat × (List Int) × (List Int) × (List (Str × Int × Int)) × Nat → (Pl × Pl × (List Pl)) → Prop := fun x y => isCr x.2.2.1 x.2.2.2.1 y.1 = true ∧ isCr x.2.2.1 x.2.2.2.1 y.2.1 = true ∧ y.2.2.Nodup ∧ (∀ p ∈ y.2.2, isPl x.2.2.1 x.2.2.2.1 p = true) ∧ y.2.2.length ≤ x.2.2.2.2.2
theorem ok__law_task {f : Addr} {fd : FuncData} (F : Fun K "_law_task" "_law_task" s__law_task f fd) (t__law_crosses : TopD P w K mg base 1 "_law_crosses" ["parts"] (SpX (Rs__law_crosses ) (P__law_crosses ) (R__law_crosses ) (G__law_crosses ))) (z_int : mg "int" = none) (z_len : mg "len" = none) (t__law_beside : TopD P w K mg base 2 "_law_beside" ["parts"] (spBes K)) (z_sorted : mg "sorted" = none) (z_range : mg "range" = none) : FnOk P w K mg base CX0 3 f fd ["numbers", "at", "parts", "many"] (SpX0 (Rs__law_task ) (P__law_task ) (R__law_task ) (G__law_task )) := by
  refine fn_okX0 F sc__law_task (fun _ => rfl) fun cdv A outer s H E0 hr => ?_
  have nd := sc__law_task.nd
  refine ⟨_, (pss_cons (ps_set (i := 4) nd rfl (.inl rfl) (pe_call t__law_crosses.G (by exact hr.mono (by decide)) (by rfl) t__law_crosses.g t__law_crosses.kp t__law_crosses.b .nil pass0 (pa_cons (pv 2) pa_nil)))
      (pss_cons (ps_set (i := 5) nd rfl (.inl rfl) (pe_ix (r := rIxL K) ix_list (pv 4) (pe_op op_mod (pe_callTy call_int1 (by rfl) z_int (by decide +kernel) (pa_cons (pe_ix (r := rIxL K) ix_list (pv 0) (pv 1) (fun _ _ => rfl)) pa_nil)) (pe_callB call_len (by rfl) z_len (by decide +kernel) (pa_cons (pv 4) pa_nil))) (fun _ _ => rfl)))
      (pss_cons (ps_set (i := 6) nd rfl (.inl rfl) (pe_ix (r := rIxL K) ix_list (pe_lst (pa_cons (pv 5) (pa_cons (pe_ix (r := rIxL K) ix_list (pv 4) (pe_op op_mod (pe_callTy call_int1 (by rfl) z_int (by decide +kernel) (pa_cons (pe_ix (r := rIxL K) ix_list (pv 0) (pe_op op_add (pv 1) pe_int) (fun _ _ => rfl)) pa_nil)) (pe_callB call_len (by rfl) z_len (by decide +kernel) (pa_cons (pv 4) pa_nil))) (fun _ _ => rfl)) pa_nil))) (pe_op op_mod (pe_callTy call_int1 (by rfl) z_int (by decide +kernel) (pa_cons (pe_ix (r := rIxL K) ix_list (pv 0) (pe_op op_add (pv 1) pe_int) (fun _ _ => rfl)) pa_nil)) pe_int) (fun _ _ => rfl)))
      (pss_cons (ps_set (i := 7) nd rfl (.inl rfl) (pe_callB (call_sortDT rfl (by exact hr.units)) (by rfl) z_sorted (by decide +kernel) (pa_cons (pe_call t__law_beside.G (by exact hr.mono (by decide)) (by rfl) t__law_beside.g t__law_beside.kp t__law_beside.b .nil pass0 (pa_cons (pv 2) pa_nil)) pa_nil)))
      (pss_cons (ps_set (i := 8) nd rfl (.inl rfl) (pe_lst pa_nil))
      (pss_cons (ps_for PassesOwn.never rfl (pi_range1 rfl z_range (pa_cons (pe_op op_mod (pe_callTy call_int1 (by rfl) z_int (by decide +kernel) (pa_cons (pe_ix (r := rIxL K) ix_list (pv 0) (pe_op op_add (pv 1) pe_int) (fun _ _ => rfl)) pa_nil)) (pe_op op_add (pv 3) pe_int)) pa_nil)) (pg_name (i := 9) nd rfl (.inl rfl)) (pss_cons (ps_set (i := 10) nd rfl (.inl rfl) (pe_ix (r := rIxL K) ix_list (pv 7) (pe_op op_mod (pe_callTy call_int1 (by rfl) z_int (by decide +kernel) (pa_cons (pe_ix (r := rIxL K) ix_list (pv 0) (pe_op op_add (pe_op op_add (pv 1) pe_int) (pv 9)) (fun _ _ => rfl)) pa_nil)) (pe_callB call_len (by rfl) z_len (by decide +kernel) (pa_cons (pv 7) pa_nil))) (fun _ _ => rfl)))
      (pss_one (ps_if (pt_cmpR (r := rNotInD K) (op_notInD (room65 hr)) (pv 10) (pv 8) (by rfl)) (pss_one (ps_expr (pe_bm PySem.F.plainAttrs_list PySem.F.slot_list_append PySem.F.type_list_append mt_append (pv 8) (pa_cons (pv 10) pa_nil)))) pss_nil))))
      (pss_one (ps_ret (pe_tup (pa_cons (pv 5) (pa_cons (pv 6) (pa_cons (pv 8) pa_nil)))))))))))), ?_⟩
  rintro ⟨ns, a, ls, gs, cs, m⟩ hs Q hp q
  show WC ⟨hs, hs, (fun _ => False), [.fz (RD (.list (ns.map PyData.int))), .fz (RD (.int (a : Int))), .fz (RD ((eT3 (eL PyData.int) (eL PyData.int) (eL dLk)) (ls, gs, cs))), .fz (RD (.int (m : Int))), .any, .any, .any, .any, .any, .any, .any]⟩ _
  replace hp : Drawn (ls, gs, cs) ∧ a + 4 + m ≤ ns.length ∧ m ≤ 20 := hp
  obtain ⟨hd, ha, hm⟩ := hp
  have pl1 := plcs_len (ls, gs, cs)
  have pl2 := plcs_most hd
  have sp : 0 ≤ ls.sum := hd.v.lens.pos2
  refine s_seq ?_
  refine s_setX (x_call (skx_spx (Rs := Rs__law_crosses ) (P := P__law_crosses ) (R := R__law_crosses ) (G := G__law_crosses ) (ls, gs, cs)) (a_cons (e_var rfl) a_nil) (fun H kp => by show Valid ls gs cs; exact hd.v)) ?_
  rintro ks ⟨k1, k2, k3⟩
  show WC ⟨hs, hs, (fun _ => False), [.fz (RD (.list (ns.map PyData.int))), .fz (RD (.int (a : Int))), .fz (RD ((eT3 (eL PyData.int) (eL PyData.int) (eL dLk)) (ls, gs, cs))), .fz (RD (.int (m : Int))), .fz (RD (.list (ks.map dP))), .any, .any, .any, .any, .any, .any]⟩ _
  refine s_seq ?_
  have s0 := Int.emod_nonneg (ix ns (a : Int)) (show ((ks.length : Int)) ≠ 0 by omega)
  have s1 := Int.emod_lt_of_pos (ix ns (a : Int)) (show (0 : Int) < (ks.length : Int) by omega)
  obtain ⟨st, hst, est⟩ : ∃ q, isCr ls gs q = true ∧ ix ks (ix ns (a : Int) % (ks.length : Int)) = q := ⟨_, k1 _ (ix_mem s0 s1), rfl⟩
  refine s_set (E.eq (e_op (o_ixL (ix_at (xs := ks) (i := ((ix ns (a : Int)) % (ks.length : Int))) ⟨by omega, s1⟩)) (e_var rfl) (e_op (o_mod (i := (ix ns (a : Int))) (j := (ks.length : Int)) (by omega)) (e_cb o_int (a_cons (e_op (o_ixL (ix_at (xs := ns) (i := (a : Int)) (by omega))) (e_var rfl) (e_var rfl)) a_nil)) (e_cb o_lenM (a_cons (e_var rfl) a_nil)))) (e := dP st) (by rw [est])) ?_
  show WC ⟨hs, hs, (fun _ => False), [.fz (RD (.list (ns.map PyData.int))), .fz (RD (.int (a : Int))), .fz (RD ((eT3 (eL PyData.int) (eL PyData.int) (eL dLk)) (ls, gs, cs))), .fz (RD (.int (m : Int))), .fz (RD (.list (ks.map dP))), .fz (RD (dP st)), .any, .any, .any, .any, .any]⟩ _
  refine s_seq ?_
  have e0 := Int.emod_nonneg (ix ns ((a : Int) + 1)) (show ((ks.length : Int)) ≠ 0 by omega)
  have e1 := Int.emod_lt_of_pos (ix ns ((a : Int) + 1)) (show (0 : Int) < (ks.length : Int) by omega)
  have t0 := Int.emod_nonneg (ix ns ((a : Int) + 2)) (show (2 : Int) ≠ 0 by decide)
  have t1 := Int.emod_lt_of_pos (ix ns ((a : Int) + 2)) (show (0 : Int) < 2 by decide)
  obtain ⟨en, hen, een⟩ : ∃ q, isCr ls gs q = true ∧ ix [st, ix ks (ix ns ((a : Int) + 1) % (ks.length : Int))] (ix ns ((a : Int) + 2) % 2) = q := ⟨_, by
      have m2 := ix_mem (xs := [st, ix ks (ix ns ((a : Int) + 1) % (ks.length : Int))]) (i := ix ns ((a : Int) + 2) % 2) t0 t1
      rcases List.mem_cons.mp m2 with z | z
      · rw [z]; exact hst
      · rw [List.mem_singleton.mp z]; exact k1 _ (ix_mem e0 e1), rfl⟩
  refine s_set (E.eq (e_op (o_ixL (ix_at (xs := [st, (ix ks ((ix ns ((a : Int) + 1)) % (ks.length : Int)))]) (i := ((ix ns ((a : Int) + 2)) % 2)) (by show -(2 : Int) ≤ _ ∧ _ < (2 : Int); omega))) (n_e (n_lstM (xs := [st, (ix ks ((ix ns ((a : Int) + 1)) % (ks.length : Int)))]) (enc := dP) (m_cons (e_var rfl) (m_cons (e_op (o_ixL (ix_at (xs := ks) (i := ((ix ns ((a : Int) + 1)) % (ks.length : Int))) ⟨by omega, e1⟩)) (e_var rfl) (e_op (o_mod (i := (ix ns ((a : Int) + 1))) (j := (ks.length : Int)) (by omega)) (e_cb o_int (a_cons (e_op (o_ixL (ix_at (xs := ns) (i := ((a : Int) + 1)) (by omega))) (e_var rfl) (e_op o_add (e_var rfl) e_int)) a_nil)) (e_cb o_lenM (a_cons (e_var rfl) a_nil)))) m_nil)))) (e_op (o_mod (i := (ix ns ((a : Int) + 2))) (j := 2) (by omega)) (e_cb o_int (a_cons (e_op (o_ixL (ix_at (xs := ns) (i := ((a : Int) + 2)) (by omega))) (e_var rfl) (e_op o_add (e_var rfl) e_int)) a_nil)) e_int)) (e := dP en) (by rw [een])) ?_
  show WC ⟨hs, hs, (fun _ => False), [.fz (RD (.list (ns.map PyData.int))), .fz (RD (.int (a : Int))), .fz (RD ((eT3 (eL PyData.int) (eL PyData.int) (eL dLk)) (ls, gs, cs))), .fz (RD (.int (m : Int))), .fz (RD (.list (ks.map dP))), .fz (RD (dP st)), .fz (RD (dP en)), .any, .any, .any, .any]⟩ _
  refine s_seq ?_
  refine s_set (n_e (n_besS (e_exU (x_call0 (skx_bes) (a_cons (e_var rfl) a_nil) (fun H kp => ⟨hd.v, hd.s9⟩))))) ?_
  show WC ⟨hs, hs, (fun _ => False), [.fz (RD (.list (ns.map PyData.int))), .fz (RD (.int (a : Int))), .fz (RD ((eT3 (eL PyData.int) (eL PyData.int) (eL dLk)) (ls, gs, cs))), .fz (RD (.int (m : Int))), .fz (RD (.list (ks.map dP))), .fz (RD (dP st)), .fz (RD (dP en)), .fz (RD (.list ((plcs (ls, gs, cs)).map dP))), .any, .any, .any]⟩ _
  refine s_seq ?_
  refine s_new (n_lst m_nil) ?_
  show WC ⟨hs, hs, (fun _ => False), [.fz (RD (.list (ns.map PyData.int))), .fz (RD (.int (a : Int))), .fz (RD ((eT3 (eL PyData.int) (eL PyData.int) (eL dLk)) (ls, gs, cs))), .fz (RD (.int (m : Int))), .fz (RD (.list (ks.map dP))), .fz (RD (dP st)), .fz (RD (dP en)), .fz (RD (.list ((plcs (ls, gs, cs)).map dP))), .own (OL (([] : List ((Int) × (Int))).map dP)), .any, .any]⟩ _
  refine s_seq ?_
  have c0 := Int.emod_nonneg (ix ns ((a : Int) + 3)) (show (((m : Int) + 1)) ≠ 0 by omega)
  have c1 := Int.emod_lt_of_pos (ix ns ((a : Int) + 3)) (show (0 : Int) < ((m : Int) + 1) by omega)
  refine s_rng (lo := 0) (n := (((ix ns ((a : Int) + 3)) % ((m : Int) + 1)) : Int).toNat) (fun (i : Nat) γ => ∃ (qs : List ((Int) × (Int))), γ = [.fz (RD (.list (ns.map PyData.int))), .fz (RD (.int (a : Int))), .fz (RD ((eT3 (eL PyData.int) (eL PyData.int) (eL dLk)) (ls, gs, cs))), .fz (RD (.int (m : Int))), .fz (RD (.list (ks.map dP))), .fz (RD (dP st)), .fz (RD (dP en)), .fz (RD (.list ((plcs (ls, gs, cs)).map dP))), .own (OL (qs.map dP)), .any, .any] ∧ (qs.Nodup ∧ (∀ p ∈ qs, isPl ls gs p = true) ∧ qs.length ≤ i)) (w_rng1 (j := ((ix ns ((a : Int) + 3)) % ((m : Int) + 1))) (e_op (o_mod (i := (ix ns ((a : Int) + 3))) (j := ((m : Int) + 1)) (by omega)) (e_cb o_int (a_cons (e_op (o_ixL (ix_at (xs := ns) (i := ((a : Int) + 3)) (by omega))) (e_var rfl) (e_op o_add (e_var rfl) e_int)) a_nil)) (e_op o_add (e_var rfl) e_int)) (by omega)) ⟨([] : List ((Int) × (Int))), rfl, ⟨.nil, (fun _ h => nomatch h), Nat.zero_le _⟩⟩ ?_ ?_
  · rintro i γ hx ⟨qs, rfl, ⟨q1, q2, q3⟩⟩
    have il : i < (m + 1) := by omega
    refine ⟨_, _, g_name, ?_⟩
    show WC ⟨hs, hs, (fun _ => False), [.fz (RD (.list (ns.map PyData.int))), .fz (RD (.int (a : Int))), .fz (RD ((eT3 (eL PyData.int) (eL PyData.int) (eL dLk)) (ls, gs, cs))), .fz (RD (.int (m : Int))), .fz (RD (.list (ks.map dP))), .fz (RD (dP st)), .fz (RD (dP en)), .fz (RD (.list ((plcs (ls, gs, cs)).map dP))), .own (OL (qs.map dP)), .fz (RD (.int (0 + (i : Int)))), .any]⟩ _
    refine s_seq ?_
    have p0 := Int.emod_nonneg (ix ns (((a : Int) + 4) + (0 + (i : Int)))) (show (((plcs (ls, gs, cs)).length : Int)) ≠ 0 by omega)
    have p1 := Int.emod_lt_of_pos (ix ns (((a : Int) + 4) + (0 + (i : Int)))) (show (0 : Int) < ((plcs (ls, gs, cs)).length : Int) by omega)
    obtain ⟨pk, hpk, epk⟩ : ∃ q, isPl ls gs q = true ∧ ix (plcs (ls, gs, cs)) (ix ns (((a : Int) + 4) + (0 + (i : Int))) % ((plcs (ls, gs, cs)).length : Int)) = q := ⟨_, (plcs_pl sp).mp (ix_mem p0 p1), rfl⟩
    refine s_set (E.eq (e_op (o_ixL (ix_at (xs := (plcs (ls, gs, cs))) (i := ((ix ns (((a : Int) + 4) + (0 + (i : Int)))) % ((plcs (ls, gs, cs)).length : Int))) ⟨by omega, p1⟩)) (e_var rfl) (e_op (o_mod (i := (ix ns (((a : Int) + 4) + (0 + (i : Int))))) (j := ((plcs (ls, gs, cs)).length : Int)) (by omega)) (e_cb o_int (a_cons (e_op (o_ixL (ix_at (xs := ns) (i := (((a : Int) + 4) + (0 + (i : Int)))) (by omega))) (e_var rfl) (e_op o_add (e_op o_add (e_var rfl) e_int) (e_var rfl))) a_nil)) (e_cb o_lenM (a_cons (e_var rfl) a_nil)))) (e := dP pk) (by rw [epk])) ?_
    show WC ⟨hs, hs, (fun _ => False), [.fz (RD (.list (ns.map PyData.int))), .fz (RD (.int (a : Int))), .fz (RD ((eT3 (eL PyData.int) (eL PyData.int) (eL dLk)) (ls, gs, cs))), .fz (RD (.int (m : Int))), .fz (RD (.list (ks.map dP))), .fz (RD (dP st)), .fz (RD (dP en)), .fz (RD (.list ((plcs (ls, gs, cs)).map dP))), .own (OL (qs.map dP)), .fz (RD (.int (0 + (i : Int)))), .fz (RD (dP pk))]⟩ _
    refine s_if (t_T (e_op (o_niE (f := dP) (a := pk) (xs := qs) (hd := inferInstance) (by exact enc_P) (by decide) (by exact ⟨trivial, trivial⟩) (by exact (fun _ _ => ⟨trivial, trivial⟩))) (e_var rfl) (e_own rfl))) (fun h1 => ?_) (fun h1 => ?_)
    · have := h1
      refine s_appM (xs := qs) (a := pk) rfl (e_var rfl) (by omega) ?_
      show WC ⟨hs, hs, (fun _ => False), [.fz (RD (.list (ns.map PyData.int))), .fz (RD (.int (a : Int))), .fz (RD ((eT3 (eL PyData.int) (eL PyData.int) (eL dLk)) (ls, gs, cs))), .fz (RD (.int (m : Int))), .fz (RD (.list (ks.map dP))), .fz (RD (dP st)), .fz (RD (dP en)), .fz (RD (.list ((plcs (ls, gs, cs)).map dP))), .own (OL ((qs ++ [pk]).map dP)), .fz (RD (.int (0 + (i : Int)))), .fz (RD (dP pk))]⟩ _
      refine s_drop 9 ?_
      refine s_drop 10 ?_
      show WC ⟨hs, hs, (fun _ => False), [.fz (RD (.list (ns.map PyData.int))), .fz (RD (.int (a : Int))), .fz (RD ((eT3 (eL PyData.int) (eL PyData.int) (eL dLk)) (ls, gs, cs))), .fz (RD (.int (m : Int))), .fz (RD (.list (ks.map dP))), .fz (RD (dP st)), .fz (RD (dP en)), .fz (RD (.list ((plcs (ls, gs, cs)).map dP))), .own (OL ((qs ++ [pk]).map dP)), .any, .any]⟩ _
      exact s_of ⟨(qs ++ [pk]), rfl, ⟨List.nodup_append.mpr ⟨q1, by simp, fun y hy y2 hy2 e => by rw [List.mem_singleton.mp hy2] at e; rw [e] at hy; simp [hy] at this⟩, fun p hp => (List.mem_append.mp hp).elim (q2 p) fun z => by rw [List.mem_singleton.mp z]; exact hpk, by rw [List.length_append, List.length_singleton]; omega⟩⟩
    · have := h1
      refine s_pass ?_
      refine s_drop 9 ?_
      refine s_drop 10 ?_
      show WC ⟨hs, hs, (fun _ => False), [.fz (RD (.list (ns.map PyData.int))), .fz (RD (.int (a : Int))), .fz (RD ((eT3 (eL PyData.int) (eL PyData.int) (eL dLk)) (ls, gs, cs))), .fz (RD (.int (m : Int))), .fz (RD (.list (ks.map dP))), .fz (RD (dP st)), .fz (RD (dP en)), .fz (RD (.list ((plcs (ls, gs, cs)).map dP))), .own (OL (qs.map dP)), .any, .any]⟩ _
      exact s_of ⟨qs, rfl, ⟨q1, q2, by omega⟩⟩
  · rintro γ ⟨qs, rfl, ⟨q1, q2, q3⟩⟩
    show WC ⟨hs, hs, (fun _ => False), [.fz (RD (.list (ns.map PyData.int))), .fz (RD (.int (a : Int))), .fz (RD ((eT3 (eL PyData.int) (eL PyData.int) (eL dLk)) (ls, gs, cs))), .fz (RD (.int (m : Int))), .fz (RD (.list (ks.map dP))), .fz (RD (dP st)), .fz (RD (dP en)), .fz (RD (.list ((plcs (ls, gs, cs)).map dP))), .own (OL (qs.map dP)), .any, .any]⟩ _
    refine s_fixM (i := 8) rfl ?_
    show WC ⟨hs, hs, (fun _ => False), [.fz (RD (.list (ns.map PyData.int))), .fz (RD (.int (a : Int))), .fz (RD ((eT3 (eL PyData.int) (eL PyData.int) (eL dLk)) (ls, gs, cs))), .fz (RD (.int (m : Int))), .fz (RD (.list (ks.map dP))), .fz (RD (dP st)), .fz (RD (dP en)), .fz (RD (.list ((plcs (ls, gs, cs)).map dP))), .fz (RD (.list (qs.map dP))), .any, .any]⟩ _
    refine s_retX (ex_e (R := R__law_task ) (G := G__law_task  _) (st, en, qs) (e_tup (m_cons (e_var rfl) (m_cons (e_var rfl) (m_cons (e_var rfl) m_nil)))) ?_) q
    exact ⟨hst, hen, q1, q2, show qs.length ≤ m by omega⟩
def Rs__law_made (CT CIT fT : Addr) (fdT : FuncData) : Pl × Pl × (List Pl) → List Rel := fun x => [(RD ((eT3 dP dP (eL dP)) (x.1, x.2.1, x.2.2)))]
def P__law_made (CT CIT fT : Addr) (fdT : FuncData) : Pl × Pl × (List Pl) → Hp → Prop := fun x H => x.2.2.Nodup ∧ x.2.2.length ≤ 60
def R__law_made (CT CIT fT : Addr) (fdT : FuncData) : Pl × Pl × (List Pl) → Rel := fun x => (RTask CT (⟨x.1, x.2.1, sortP x.2.2⟩ : TD))
theorem ok__law_made (CT CIT fT : Addr) (fdT : FuncData) {f : Addr} {fd : FuncData} (F : Fun K "_law_made" "_law_made" s__law_made f fd) (z_list : mg "list" = none) (MT : Mk K CT fT) (GT : FnOk P w K mg base (L2.CX P w) 2 fT fdT ["self", "start", "end", "picks"] (spTask K CT CIT)) (bT : Binds K fdT ["self", "start", "end", "picks"] []) (mgT : mg "Task" = some (.ref CT)) : FnOk P w K mg base CX0 4 f fd ["task"] (Sps (Rs__law_made CT CIT fT fdT) (P__law_made CT CIT fT fdT) (R__law_made CT CIT fT fdT)) := by
  refine fn_ok F sc__law_made (fun _ => rfl) fun cdv A outer s H E0 hr => ?_
  have nd := sc__law_made.nd
  refine ⟨_, (pss_one (ps_ret (pe_make MT GT (by exact hr.mono (by decide)) (by rfl) mgT bT .nil (passes_call takes0 fun _ _ _ _ h => h) (pa_cons (pe_ix (r := rIxT K) ix_tup (pv 0) pe_int (fun _ _ => rfl)) (pa_cons (pe_ix (r := rIxT K) ix_tup (pv 0) pe_int (fun _ _ => rfl)) (pa_cons (pe_callTy call_list_of (by rfl) z_list (by decide +kernel) (pa_cons (pe_ix (r := rIxT K) ix_tup (pv 0) pe_int (fun _ _ => rfl)) pa_nil)) pa_nil)))))), ?_⟩
  rintro ⟨st, en, qs⟩ hs om Q hp q
  show WC ⟨hs, (less hs om), om, [.fz (RD ((eT3 dP dP (eL dP)) (st, en, qs)))]⟩ _
  replace hp : qs.Nodup ∧ qs.length ≤ 60 := hp
  replace q : ∀ H' v, Kp hs H' → (RTask CT (⟨st, en, sortP qs⟩ : TD)).p (less H' om) v → Q v H' := q
  exact s_ret (E.low (e_mkTask (st := st) (en := en) (ps := qs) hp.2 hp.1 (a_cons (e_op (o_ixT rfl) (e_var rfl) e_int) (a_cons (e_op (o_ixT rfl) (e_var rfl) e_int) (a_cons (n_e (n_list (i_of (e_op (o_ixT rfl) (e_var rfl) e_int)))) a_nil))))) q
def Rs__law_marks  : Pl × Pl × (List Pl) → List Rel := fun x => [(RD ((eT3 dP dP (eL dP)) (x.1, x.2.1, x.2.2)))]
def P__law_marks  : Pl × Pl × (List Pl) → Hp → Prop := fun x H => x.2.2.length ≤ 60
def R__law_marks  : Pl × Pl × (List Pl) → Own := fun x => OL ((marksP ([x.1, x.2.1] ++ x.2.2)).map dP)
theorem ok__law_marks {f : Addr} {fd : FuncData} (F : Fun K "_law_marks" "_law_marks" s__law_marks f fd) (z_set : mg "set" = none) (z_sorted : mg "sorted" = none) : FnOk P w K mg base CX0 1 f fd ["task"] (SpN (Rs__law_marks ) (P__law_marks ) (R__law_marks )) := by
  refine fn_okN F sc__law_marks (fun _ => rfl) fun cdv A outer s H E0 hr => ?_
  have nd := sc__law_marks.nd
  refine ⟨_, (pss_one (ps_ret (pe_callB (call_sortS rfl (by exact hr.units)) (by rfl) z_sorted (by decide +kernel) (pa_cons (pe_callTy (cr_setP rfl (by exact hr.units)) (by rfl) z_set (by decide +kernel) (pa_cons (pe_op op_cat (pe_lst (pa_cons (pe_ix (r := rIxT K) ix_tup (pv 0) pe_int (fun _ _ => rfl)) (pa_cons (pe_ix (r := rIxT K) ix_tup (pv 0) pe_int (fun _ _ => rfl)) pa_nil))) (pe_ix (r := rIxT K) ix_tup (pv 0) pe_int (fun _ _ => rfl))) pa_nil)) pa_nil)))), ?_⟩
  rintro ⟨st, en, qs⟩ hs om Q hp q
  show WC ⟨hs, (less hs om), om, [.fz (RD ((eT3 dP dP (eL dP)) (st, en, qs)))]⟩ _
  replace hp : qs.length ≤ 60 := hp
  replace q : ∀ H' p o, Kp hs H' → H' p = none → (OL ((marksP ([st, en] ++ qs)).map dP)).p (less H' om) o → Q (.ref p) (upd H' p o) := q
  refine s_retNew (EN.eqL (n_sortSP (e_setP (i_n (n_catM (xs := [st, en]) (ys := qs) (i_n (n_lstM (xs := [st, en]) (enc := dP) (m_cons (e_op (o_ixT rfl) (e_var rfl) e_int) (m_cons (e_op (o_ixT rfl) (e_var rfl) e_int) m_nil)))) (i_of (e_op (o_ixT rfl) (e_var rfl) e_int)) (by show 2 + qs.length ≤ 16777216; omega))) (by rw [List.length_append]; show 2 + qs.length < 64; omega))) (congrArg (List.map dP) (show (marksP ([st, en] ++ qs)) = (marksP ([st, en] ++ qs)) from ?_))) q
  rfl
end
section
open GxR NdefX PySem.Spec PyProof.Rows
variable {P : Program} {w : World} {K : PySem.W.Frag} {mg : Str → Option Value} {base : Heap}
theorem marks_le (st en : Pl) (qs : List Pl) : (marksP ([st, en] ++ qs)).length ≤ 2 + qs.length := by
  unfold marksP
  rw [sortP_len]
  have := nodup_sub (nub_nd ([st, en] ++ qs)) (b := [st, en] ++ qs) fun p hp => nub_mem.mp hp
  rw [List.length_append] at this
  exact this
theorem marksP_nd {r : List Pl} : (marksP r).Nodup := sortP_nd.mpr (nub_nd r)
end
section
open GxR NdefX PySem.Spec PyProof.Rows
variable {P : Program} {w : World} {K : PySem.W.Frag} {mg : Str → Option Value} {base : Heap}
abbrev RsNr (C CT : Addr) : HD × TD → List Rel := fun a => [RHouse C a.1, RTask CT a.2]
abbrev PNr : HD × TD → Prop := fun a => Drawn a.1.x ∧ wrongP a.1.ls a.1.gs a.2.st a.2.en a.2.ps = none ∧ a.2.ps.length ≤ 7
abbrev spCr (C CT CU : Addr) : Sp := fun vs H Q E => ∃ (a : HD × TD) (om : Addr → Prop), Hd H om ∧ Rok (RsNr C CT a) (less H om) vs ∧ PNr a ∧
  (cutO a.1.x a.2.st a.2.en a.2.ps = none → ∀ H', Kp H H' → Q .non H') ∧
  (∀ r, cutO a.1.x a.2.st a.2.en a.2.ps = some r → ∀ H' d v, Kp H H' → H' d = some (.xd [("place", v)]) → (RD (dP r)).p (less H' om) v → E (.ref CU) (some d) H')
structure FarTxt (K : PySem.W.Frag) (mg : Str → Option Value) (CP fP : Addr) : Prop where
  g : mg "Unreachable" = some (.ref CP)
  o : OexC K CP
  n : PySem.W.findIn K (.ref CP) "place" = some none
  i : PySem.W.findIn K (.ref CP) "__init__" = some (some (.ref fP))
  y : PySem.W.typeIn K (.ref fP) = some (.type "function")
theorem ok_farinit {f C : Addr} {fd : FuncData} (F : Fun K "__init__" "Unreachable.__init__" s_Unreachable___init__ f fd) : FnOk P w K mg base CX0 1 f fd ["self", "place"] (spXI K C "place") := by
  refine F.ok sc_Unreachable___init__ (fun vs H Q E h => ?_) (fun cdv A outer s H vs Q E hr h => ?_)
  · obtain ⟨a, v, rfl, _⟩ := h
    rfl
  · obtain ⟨a, v, rfl, T, hno, ha, q⟩ := h
    exact ⟨_, pss_one (ps_ost (pv 0) (pv 1)), v, rfl, _, rfl, a, C, rfl, T, hno, .inl ⟨ha, q⟩⟩
theorem ok_checkround {f fO fI C CT CP CU : Addr} {fd fdO fdI : FuncData} (F : Fun K "check_round" "check_round" s_check_round f fd) (U : FarTxt K mg CU fI) (GI : FnOk P w K mg base CX0 1 fI fdI ["self", "place"] (spXI K CU "place")) (bI : Binds K fdI ["self", "place"] [])
    (GO : FnOk P w K mg base (L2.CX P w) 6 fO fdO ["house", "task"] (spCo C CT CP)) (bO : Binds K fdO ["house", "task"] []) (gO : mg "cut_off" = some (.ref fO)) (kO : PySem.W.keepIn K (.ref fO) = true) :
    FnOk P w K mg base (L2.CX P w) 7 f fd ["house", "task"] (spCr C CT CU) := by
  refine F.okX sc_check_round (fun vs H Q E h => ?_) (fun cdv A outer s H vs Q E hr h => ?_)
  · obtain ⟨a, om, ho, hr, _⟩ := h
    exact hr.len
  · obtain ⟨⟨h, t⟩, om, ho, hR, ⟨hd, hw, l7⟩, q1, q2⟩ := h
    have nd := sc_check_round.nd
    refine ⟨_, (pss_cons (ps_set (i := 2) nd rfl (.inl rfl) (pe_call GO (by exact hr.mono (by decide)) (by rfl) gO kO bO .nil (passes_call (takes_of rfl rfl rfl rfl) fun _ _ _ _ h => h) (pa_cons (pv 0) (pa_cons (pv 1) pa_nil))))
      (pss_one (ps_if (pt_cmpR op_notN (pv 2) pe_non (nomark _)) (pss_one (ps_raise rfl (takes_of rfl rfl rfl rfl) (pmk_oex U.o U.i U.y GI (by exact hr.mono (by decide)) bI .nil pass0 (by rfl) U.g (pa_cons (pv 2) pa_nil)))) pss_nil))), ?_⟩
    have st := sta_start (N := ["house", "task", "mark"]) ho hR
    refine (?_ : WC ⟨H, less H om, om, [.fz (RHouse C h), .fz (RTask CT t), .any]⟩ _) _ _ st
    replace hd : Drawn h.x := hd
    replace l7 : t.ps.length ≤ 7 := l7
    try dsimp only
    refine s_seq ?_
    refine s_set (show Pk.E _ _ _ (RD (eO dP (cutO h.x t.st t.en t.ps))) from c_call (sok_co (h := h) (t := t) hw) (a_cons (e_var rfl) (a_cons (e_var rfl) a_nil)) (fun _ _ => ⟨hd.v, hd.s9, by omega⟩)) ?_
    show WC ⟨H, less H om, om, [.fz (RHouse C h), .fz (RTask CT t), .fz (RD (eO dP (cutO h.x t.st t.en t.ps)))]⟩ _
    cases hc : cutO h.x t.st t.en t.ps with
    | none =>
      show WC ⟨H, less H om, om, [.fz (RHouse C h), .fz (RTask CT t), .fz (RD .none)]⟩ _
      try dsimp only
      refine s_if (t_T (e_op o_notN (e_var rfl) e_non)) (fun z => absurd z (by simp [isN])) (fun _ => ?_)
      refine s_pass ?_
      exact s_end fun σ H' k => q1 hc H' k
    | some r =>
      show WC ⟨H, less H om, om, [.fz (RHouse C h), .fz (RTask CT t), .fz (RD (dP r))]⟩ _
      try dsimp only
      refine s_if (t_T (e_op o_notN (e_var rfl) e_non)) (fun _ => ?_) (fun z => absurd (show true = false from z) (by decide))
      exact s_raiseF U.o U.n (e_var rfl) fun σ H' d v k e rv => q2 r hc H' d v k e rv
theorem sok_cr {C CT CU : Addr} {h : HD} {t : TD} (hc : cutO h.x t.st t.en t.ps = none) : Sok (spCr C CT CU) [RHouse C h, RTask CT t] (fun _ => PNr (h, t)) (RD .none) := fun H om vs ho hR hp Q E k => ⟨(h, t), om, ho, hR, hp, fun _ H' kp => k H' _ kp .non, fun r z => by
  rw [show cutO h.x t.st t.en t.ps = some r from z] at hc
  cases hc⟩
theorem s_gone {c : Ct} {C CT CU : Addr} {h : HD} {t : TD} {r : Pl} {ta : TA} {E' : XK} {D : Ends} (hP : PNr (h, t)) (hc : cutO h.x t.st t.en t.ps = some r) (ha : EA true c ta (RsNr C CT (h, t)))
    (k : ∀ H' d v, Kp c.hs H' → H' d = some (.xd [("place", v)]) → (RD (dP r)).p (less H' c.om) v → E' (.ref CU) (some d) H') : WC c (tDrop (tCall (spCr C CT CU) [] E' ta) D) := fun σ H s => ha σ H s _ fun H1 vs k1 r1 => by
  rw [List.append_nil]
  refine ⟨(h, t), msk true c σ, (s.kp k1).hd, r1, hP, fun z => (by rw [show cutO h.x t.st t.en t.ps = none from z] at hc; cases hc), fun r' z H' d v k2 e rv => ?_⟩
  rw [show cutO h.x t.st t.en t.ps = some r' from z] at hc
  cases hc
  have rv2 : (RD (dP r)).p (bas c σ H') v := by
    rw [← hb_t]
    exact rv
  exact k H' d v (s.ks.trans (k1.trans k2)) e ((RD (dP r)).mn (less_mono fun _ z => .inr z) rv2)
end
section
open GxR NdefX PySem.Spec PyProof.Rows
variable {P : Program} {w : World} {K : PySem.W.Frag} {mg : Str → Option Value} {base : Heap} {b : Bool} {c : Ct} {ta : TE}
noncomputable def reaB (x : HX) (t p : Pl) : Bool := @decide (Rea x t p) (Classical.propDecidable _)
theorem reaB_t {x : HX} {t p : Pl} : reaB x t p = true ↔ ∃ d, Dst (nbs x) t p d := by
  unfold reaB
  exact @decide_eq_true_iff _ (Classical.propDecidable _)
theorem cutO_eq {x : HX} {st en : Pl} {ps : List Pl} : cutO x st en ps = ([en] ++ ps).find? fun m => !reaB x st m := rfl
theorem e_isiL {ds : List PyData} (h : EI c ta ds) : E b c (tCB (rIsi K) (tCons ta (tCons (tC (.ty "list")) tNil))) (RD (.bool true)) := fun σ H s Q q => h σ H s _ fun H1 a vs k1 e1 r1 => ⟨.ref a, .ty "list", .type "list", .type "list", true, rfl, .ty _, .base (.lst e1), rfl, q H1 _ k1 (.bl _)⟩
theorem gone_at {x : HX} {st m : Pl} {en : Pl} {ps : List Pl} {i : Nat} (ia : (([en] ++ ps).take i).all (reaB x st) = true) (hx : ([en] ++ ps)[i]? = some m) (h : (!reaB x st m) = true) : cutO x st en ps = some m :=
  (find_snoc (f := fun m => !reaB x st m) (List.find?_eq_none.mpr fun y hy => by have := List.all_eq_true.mp ia y hy; simp [this]) hx).1 h
theorem gone_no {x : HX} {st en : Pl} {ps : List Pl} (ia : ([en] ++ ps).all (reaB x st) = true) : cutO x st en ps = none :=
  List.find?_eq_none.mpr fun y hy => by
    have := List.all_eq_true.mp ia y hy
    have e : (!reaB x st y) = false := by simp [this]
    show ¬ (!reaB x st y) = true
    rw [e]
    exact fun z => nomatch z
theorem gone_rea {x : HX} {st en : Pl} {ps : List Pl} (hc : cutO x st en ps = none) : ∀ m ∈ [en] ++ ps, Rea x st m := fun m hm => reaB_t.mp (by
  have := List.find?_eq_none.mp (cutO_eq.symm.trans hc) m hm
  simpa using this)
end
section
open GxR NdefX PySem.Spec PyProof.Rows
variable {P : Program} {w : World} {K : PySem.W.Frag} {mg : Str → Option Value} {base : Heap}
def Rs__law_first_gone  : HX × Pl × Pl × (List Pl) → List Rel := fun x => [(RBes x.1), (RD ((eT3 dP dP (eL dP)) (x.2.1, x.2.2.1, x.2.2.2)))]
def P__law_first_gone  : HX × Pl × Pl × (List Pl) → Hp → Prop := fun x H => Drawn x.1 ∧ isPl x.1.1 x.1.2.1 x.2.1 = true ∧ x.2.2.2.length ≤ 7
noncomputable def R__law_first_gone  : HX × Pl × Pl × (List Pl) → Rel := fun x => (RD ((eO dP) (cutO x.1 x.2.1 x.2.2.1 (sortP x.2.2.2))))
theorem ok__law_first_gone {f : Addr} {fd : FuncData} (F : Fun K "_law_first_gone" "_law_first_gone" s__law_first_gone f fd) (t__law_far : TopD P w K mg base 1 "_law_far" ["beside", "place"] (spFar)) (z_sorted : mg "sorted" = none) : FnOk P w K mg base CX0 2 f fd ["beside", "task"] (Sps (Rs__law_first_gone ) (P__law_first_gone ) (R__law_first_gone )) := by
  refine fn_ok F sc__law_first_gone (fun _ => rfl) fun cdv A outer s H E0 hr => ?_
  have nd := sc__law_first_gone.nd
  refine ⟨_, (pss_cons (ps_set (i := 2) nd rfl (.inl rfl) (pe_call t__law_far.G (by exact hr.mono (by decide)) (by rfl) t__law_far.g t__law_far.kp t__law_far.b .nil pass0 (pa_cons (pv 0) (pa_cons (pe_ix (r := rIxT K) ix_tup (pv 1) pe_int (fun _ _ => rfl)) pa_nil))))
      (pss_cons (ps_for PassesOwn.never rfl (pi_list (pe_op op_cat (pe_lst (pa_cons (pe_ix (r := rIxT K) ix_tup (pv 1) pe_int (fun _ _ => rfl)) pa_nil)) (pe_callB call_sortP (by rfl) z_sorted (by decide +kernel) (pa_cons (pe_ix (r := rIxT K) ix_tup (pv 1) pe_int (fun _ _ => rfl)) pa_nil)))) (pg_name (i := 3) nd rfl (.inl rfl)) (pss_one (ps_if (pt_cmp (pc_dnotin (by exact Pk.Room.units1 hr) (pv 3) (pv 2))) (pss_one (ps_ret (pv 3))) pss_nil)))
      (pss_one (ps_ret pe_non)))), ?_⟩
  rintro ⟨x, st, en, qs⟩ hs om Q hp q
  show WC ⟨hs, (less hs om), om, [.fz (RBes x), .fz (RD ((eT3 dP dP (eL dP)) (st, en, qs))), .any, .any]⟩ _
  replace hp : Drawn x ∧ isPl x.1 x.2.1 st = true ∧ qs.length ≤ 7 := hp
  replace q : ∀ H' v, Kp hs H' → (RD ((eO dP) (cutO x st en (sortP qs)))).p (less H' om) v → Q v H' := q
  obtain ⟨hd, hst, hq7⟩ := hp
  have lq : (sortP qs).length = qs.length := sortP_len _
  refine s_seq ?_
  refine s_set (c_call sok_far (a_cons (e_var rfl) (a_cons (e_op (o_ixT rfl) (e_var rfl) e_int) a_nil)) (fun _ _ => ⟨hd.v, hd.s9, hst⟩)) ?_
  show WC ⟨hs, (less hs om), om, [.fz (RBes x), .fz (RD ((eT3 dP dP (eL dP)) (st, en, qs))), .fz (RFar x st), .any]⟩ _
  refine s_seq ?_
  refine s_for (xs := ([en] ++ (sortP qs))) (enc := dP) (fun (i : Nat) γ => γ = [.fz (RBes x), .fz (RD ((eT3 dP dP (eL dP)) (st, en, qs))), .fz (RFar x st), .any] ∧ ((([en] ++ sortP qs).take i).all (reaB x st) = true)) (n_e (n_catM (xs := [en]) (ys := (sortP qs)) (i_n (n_lstM (xs := [en]) (enc := dP) (m_cons (e_op (o_ixT rfl) (e_var rfl) e_int) m_nil))) (i_n (n_sortP (i_of (e_op (o_ixT rfl) (e_var rfl) e_int)))) (by show 1 + _ ≤ 16777216; omega))) ⟨rfl, rfl⟩ ?_ ?_
  · rintro h1_1 i m γ kp hx ⟨rfl, ia⟩
    refine ⟨_, _, g_name, ?_⟩
    show WC ⟨hs, h1_1, om, [.fz (RBes x), .fz (RD ((eT3 dP dP (eL dP)) (st, en, qs))), .fz (RFar x st), .fz (RD (dP m))]⟩ _
    refine s_if (t_B (e_ninF (r := reaB x st m) reaB_t (e_var rfl) (e_var rfl))) (fun h1 => ?_) (fun h1 => ?_)
    · have := h1
      refine s_ret (E.eq (e_var rfl) (e := (eO dP) (cutO x st en (sortP qs))) ?_) q
      exact congrArg (eO dP) (gone_at ia hx this).symm
    · have := h1
      refine s_pass ?_
      refine s_drop 3 ?_
      show WC ⟨hs, h1_1, om, [.fz (RBes x), .fz (RD ((eT3 dP dP (eL dP)) (st, en, qs))), .fz (RFar x st), .any]⟩ _
      exact s_of ⟨rfl, by rw [List.take_add_one, hx, List.all_append, ia]; simpa using this⟩
  · rintro γ ⟨rfl, ia⟩
    show WC ⟨hs, (less hs om), om, [.fz (RBes x), .fz (RD ((eT3 dP dP (eL dP)) (st, en, qs))), .fz (RFar x st), .any]⟩ _
    dsimp only
    show WC ⟨hs, (less hs om), om, [.fz (RBes x), .fz (RD ((eT3 dP dP (eL dP)) (st, en, qs))), .fz (RFar x st), .any]⟩ _
    refine s_ret (E.eq e_non (e := (eO dP) (cutO x st en (sortP qs))) ?_) q
    exact congrArg (eO dP) (gone_no (by rw [List.take_length] at ia; exact ia)).symm
end
section
open GxR NdefX PySem.Spec PyProof.Rows
noncomputable def pairs1 (x : HX) (one : Pl) (os : List Pl) : MapE := (os.filter (lsP one)).map fun o => ((one, o), dist (nbs x) one o)
noncomputable def pairsL (x : HX) (ms os : List Pl) : MapE := ms.flatMap fun one => pairs1 x one os
theorem pairs1_succ {x : HX} {one o : Pl} {os : List Pl} {j : Nat} (h : os[j]? = some o) : pairs1 x one (os.take (j + 1)) = pairs1 x one (os.take j) ++ (if lsP one o = true then [((one, o), dist (nbs x) one o)] else []) := by
  unfold pairs1
  rw [List.take_add_one, h, List.filter_append, List.map_append]
  congr 1
  show (List.filter (lsP one) [o]).map _ = _
  cases hp : lsP one o <;> simp [hp]
theorem pairsL_succ {x : HX} {one : Pl} {ms os : List Pl} {k : Nat} (h : ms[k]? = some one) : pairsL x (ms.take (k + 1)) os = pairsL x (ms.take k) os ++ pairs1 x one os := by
  unfold pairsL
  rw [List.take_add_one, h, List.flatMap_append]
  congr 1
  show [one].flatMap _ = _
  rw [List.flatMap_cons, List.flatMap_nil, List.append_nil]
theorem pairs_new {x : HX} {one o : Pl} {ms : List Pl} {k j : Nat} (nd : ms.Nodup) (hk : ms[k]? = some one) (hj : ms[j]? = some o) : getE (pairsL x (ms.take k) ms ++ pairs1 x one (ms.take j)) (one, o) = none := by
  have nt : ∀ {n : Nat} {p : Pl}, ms[n]? = some p → p ∉ ms.take n := fun {n p} h m => by
    obtain ⟨i, hi, e⟩ := List.getElem_of_mem m
    rw [List.length_take] at hi
    rw [List.getElem_take] at e
    have h2 := (List.getElem?_eq_some_iff.mp h)
    obtain ⟨h3, h4⟩ := h2
    have := (List.getElem_inj nd (h₀ := by omega) (h₁ := h3)).mp (e.trans h4.symm)
    omega
  unfold getE
  rw [Option.map_eq_none_iff, List.find?_eq_none]
  intro y hy z
  have z := of_decide_eq_true z
  rcases List.mem_append.mp hy with hy | hy
  · obtain ⟨p, hp, hy⟩ := List.mem_flatMap.mp hy
    obtain ⟨q, _, rfl⟩ := List.mem_map.mp hy
    have : p = one := congrArg Prod.fst z
    rw [this] at hp
    exact nt hk hp
  · obtain ⟨q, hq, rfl⟩ := List.mem_map.mp hy
    have : q = o := congrArg Prod.snd z
    rw [this] at hq
    exact nt hj (List.mem_filter.mp hq).1
theorem pairs1_len {x : HX} {one : Pl} {os : List Pl} : (pairs1 x one os).length ≤ os.length := by
  unfold pairs1
  rw [List.length_map]
  exact List.length_filter_le _ _
theorem pairsL_len {x : HX} {os : List Pl} : ∀ {ms : List Pl}, (pairsL x ms os).length ≤ ms.length * os.length
  | [] => Nat.zero_le _
  | m :: ms => by
    show (pairs1 x m os ++ pairsL x ms os).length ≤ _
    rw [List.length_append, List.length_cons, Nat.succ_mul]
    have := pairs1_len (x := x) (one := m) (os := os)
    have := pairsL_len (x := x) (os := os) (ms := ms)
    omega
end
section
open GxR NdefX PySem.Spec PyProof.Rows
variable {P : Program} {w : World} {K : PySem.W.Frag} {mg : Str → Option Value} {base : Heap} {b : Bool} {c : Ct} {ty : TE} {M : TabP} {i : Nat} {p : Pl} {n : Int}
theorem e_lotO (e : c.g[i]? = some (.own (OTab M))) (g : getM M p = some n) (hy : E b c ty (RD (dP p))) : E b c (tDGet (tVar i) ty) (RD (.int n)) := fun σ H s Q q => by
  obtain ⟨a, o, e1, _⟩ := s.own i _ e
  refine ⟨.ref a, e1, hy σ H s _ fun H1 y k1 r1 => ?_⟩
  obtain ⟨a2, o2, e1', e2, rfl, _⟩ := (s.kp k1).own i _ e
  cases e1.symm.trans e1'
  obtain ⟨t, rfl, ht⟩ := plT r1
  have z := DGet.t (k := plK p) e2 ht
  rw [val_getM, g] at z
  exact ⟨a, _, rfl, z, q H1 _ k1 (.int _)⟩
theorem e_lenO (e : c.g[i]? = some (.own (OTab M))) : E b c (tCB rLenT (tCons (tVar i) tNil)) (RD (.int (M.length : Int))) := fun σ H s Q q => by
  obtain ⟨a, o, e1, e2, rfl, _⟩ := s.own i _ e
  refine ⟨.ref a, e1, a, _, rfl, e2, ?_⟩
  rw [kvF_len]
  exact q H _ (Kp.refl _) (.int _)
def lotF (ms : List Pl) (prs : List (Pl × Pl)) : Pl → Int := prs.foldl (fun f e => uni f e.2 e.1) fun m => ((ms.idxOf m : Nat) : Int)
theorem lotF_succ {ms : List Pl} {prs : List (Pl × Pl)} {k : Nat} {e : Pl × Pl} (h : prs[k]? = some e) : lotF ms (prs.take (k + 1)) = uni (lotF ms (prs.take k)) e.2 e.1 := by
  unfold lotF
  rw [List.take_add_one, h, List.foldl_append]
  rfl
/-- a table whose keys are of ms, told by f -/
structure LotsM (ms : List Pl) (f : Pl → Int) (M : TabP) : Prop where
  nd : (M.map (·.1)).Nodup
  sub : ∀ p, getM M p ≠ none → p ∈ ms
  val : ∀ m ∈ ms, getM M m = some (f m)
theorem tab_len {ms : List Pl} {M : TabP} (nd : (M.map (·.1)).Nodup) (sub : ∀ p, getM M p ≠ none → p ∈ ms) : M.length ≤ ms.length := by
  have := nodup_sub nd (b := ms) fun p hp => sub p (getM_key.mpr hp)
  rwa [List.length_map] at this
theorem not_take {ms : List Pl} (nd : ms.Nodup) {n : Nat} {p : Pl} (h : ms[n]? = some p) : p ∉ ms.take n := fun m => by
  obtain ⟨i, hi, e⟩ := List.getElem_of_mem m
  rw [List.length_take] at hi
  rw [List.getElem_take] at e
  obtain ⟨h3, h4⟩ := List.getElem?_eq_some_iff.mp h
  have := (List.getElem_inj nd (h₀ := by omega) (h₁ := h3)).mp (e.trans h4.symm)
  omega
def OLots (ms : List Pl) (prs : List (Pl × Pl)) : Own := ⟨fun _ o => ∃ M, o = .dT (kvF M) ∧ LotsM ms (lotF ms prs) M, fun _ h => h, fun ⟨_, h, _⟩ => by subst h; exact trivial⟩
abbrev RsLo : List Pl × List (Pl × Pl) → List Rel := fun a => [RD (.list (a.1.map dP)), RD (.list (a.2.map dE))]
abbrev PLo : List Pl × List (Pl × Pl) → Hp → Prop := fun a _ => a.1.Nodup ∧ a.1.length ≤ 100 ∧ ∀ e ∈ a.2, e.1 ∈ a.1 ∧ e.2 ∈ a.1
theorem ok_lots {f : Addr} {fd : FuncData} (F : Fun K "_law_lots" "_law_lots" s__law_lots f fd) (z_len : mg "len" = none) : FnOk P w K mg base CX0 1 f fd ["marks", "pairs"] (SpN RsLo PLo fun a => OLots a.1 a.2) := by
  refine fn_okN F sc__law_lots (fun _ => rfl) fun cdv A outer s H E0 hr => ?_
  have nd := sc__law_lots.nd
  refine ⟨_, (pss_cons (ps_set (i := 2) nd rfl (.inl rfl) pe_dnewT)
      (pss_cons (ps_for PassesOwn.never rfl (pi_list (pv 0)) (pg_name (i := 3) nd rfl (.inl rfl)) (pss_one (ps_dput (by exact Pk.Room.units1 hr) (pv 2) (pv 3) (pe_callB call_len_dT (by rfl) z_len (by decide +kernel) (pa_cons (pv 2) pa_nil)) rfl)))
      (pss_cons (ps_for PassesOwn.never rfl (pi_list (pv 1)) (pg_tup rfl (pgs_cons (pg_name (i := 4) nd rfl (.inl rfl)) (pgs_cons (pg_name (i := 5) nd rfl (.inl rfl)) pgs_nil)))
        (pss_cons (ps_set (i := 6) nd rfl (.inl rfl) (pe_dget (by exact Pk.Room.units1 hr) (pv 2) (pv 4) (fun _ _ => rfl)))
        (pss_one (ps_for PassesOwn.never rfl (pi_list (pv 0)) (pg_name (i := 3) nd rfl (.inl rfl)) (pss_one (ps_if (pt_cmpR (r := rEq) op_eq (pe_dget (by exact Pk.Room.units1 hr) (pv 2) (pv 3) (fun _ _ => rfl)) (pv 6) (nomark _)) (pss_one (ps_dput (by exact Pk.Room.units1 hr) (pv 2) (pv 3) (pe_dget (by exact Pk.Room.units1 hr) (pv 2) (pv 5) (fun _ _ => rfl)) rfl)) pss_nil))))))
      (pss_one (ps_ret (pv 2)))))), ?_⟩
  rintro ⟨ms, prs⟩ hs om Q ⟨mn, ml, hp⟩ q
  show WC ⟨hs, less hs om, om, [.fz (RD (.list (ms.map dP))), .fz (RD (.list (prs.map dE))), .any, .any, .any, .any, .any]⟩ _
  replace mn : ms.Nodup := mn
  replace ml : ms.length ≤ 100 := ml
  replace hp : ∀ e ∈ prs, e.1 ∈ ms ∧ e.2 ∈ ms := hp
  replace q : ∀ H' p o, Kp hs H' → H' p = none → (OLots ms prs).p (less H' om) o → Q (.ref p) (upd H' p o) := q
  refine s_seq ?_
  refine s_new n_dnew ?_
  show WC ⟨hs, less hs om, om, [.fz (RD (.list (ms.map dP))), .fz (RD (.list (prs.map dE))), .own (OTab []), .any, .any, .any, .any]⟩ _
  try dsimp only
  refine s_seq ?_
  refine s_for (xs := ms) (enc := dP) (fun i γ => ∃ M : TabP, γ = [.fz (RD (.list (ms.map dP))), .fz (RD (.list (prs.map dE))), .own (OTab M), .any, .any, .any, .any] ∧ (M.map (·.1)).Nodup ∧ M.length = i ∧ (∀ p, getM M p ≠ none → p ∈ ms.take i) ∧ ∀ m ∈ ms.take i, getM M m = some ((ms.idxOf m : Nat) : Int)) (e_var rfl) ⟨[], rfl, .nil, rfl, fun p h => absurd rfl h, fun m h => by rw [List.take_zero] at h; cases h⟩ ?_ ?_
  · rintro h1 i m γ kp hx ⟨M, rfl, m1, m2, m3, m4⟩
    refine ⟨_, _, g_name, ?_⟩
    show WC ⟨hs, h1, om, [.fz (RD (.list (ms.map dP))), .fz (RD (.list (prs.map dE))), .own (OTab M), .fz (RD (dP m)), .any, .any, .any]⟩ _
    have il : i < ms.length := (List.getElem?_eq_some_iff.mp hx).1
    have hn : getM M m = none := by
      cases z : getM M m with
      | none => rfl
      | some v => exact absurd (m3 m (by rw [z]; exact fun y => nomatch y)) (not_take mn hx)
    have hi : ((ms.idxOf m : Nat) : Int) = (M.length : Int) := by
      obtain ⟨h3, h4⟩ := List.getElem?_eq_some_iff.mp hx
      rw [← h4, mn.idxOf_getElem, m2]
    refine s_dputO rfl (e_lenO rfl) (e_var rfl) (by omega) ?_
    refine s_drop 3 ?_
    refine s_of ⟨_, rfl, keys_setM _ _ _ m1, by rw [setM_len hn, m2], fun p h => ?_, fun p h => ?_⟩
    · rw [get_setM] at h
      rw [List.take_add_one, hx]
      by_cases z : p = m
      · rw [z]; exact List.mem_append_right _ (by simp)
      · rw [if_neg z] at h
        exact List.mem_append_left _ (m3 p h)
    · rw [get_setM]
      by_cases z : p = m
      · rw [if_pos z, z, hi]
      · rw [if_neg z]
        rw [List.take_add_one, hx] at h
        rcases List.mem_append.mp h with y | y
        · exact m4 p y
        · exact absurd (by simpa using y) z
  · rintro γ ⟨M0, rfl, m1, m2, m3, m4⟩
    rw [List.take_length] at m3 m4
    try dsimp only
    refine s_seq ?_
    refine s_for (xs := prs) (enc := dE) (fun k γ => ∃ M : TabP, γ = [.fz (RD (.list (ms.map dP))), .fz (RD (.list (prs.map dE))), .own (OTab M), .any, .any, .any, .any] ∧ LotsM ms (lotF ms (prs.take k)) M) (e_var rfl) ⟨M0, rfl, m1, m3, m4⟩ ?_ ?_
    · rintro h1 k e γ kp hx ⟨M, rfl, L⟩
      obtain ⟨p1, p2⟩ := hp e (List.mem_of_getElem? hx)
      refine ⟨_, _, g_tup (gs_cons g_name (gs_cons g_name gs_nil)), ?_⟩
      show WC ⟨hs, h1, om, [.fz (RD (.list (ms.map dP))), .fz (RD (.list (prs.map dE))), .own (OTab M), .any, .fz (RD (dP e.1)), .fz (RD (dP e.2)), .any]⟩ _
      refine s_seq ?_
      refine s_set (e_lotO rfl (L.val _ p1) (e_var rfl)) ?_
      show WC ⟨hs, h1, om, [.fz (RD (.list (ms.map dP))), .fz (RD (.list (prs.map dE))), .own (OTab M), .any, .fz (RD (dP e.1)), .fz (RD (dP e.2)), .fz (RD (.int (lotF ms (prs.take k) e.1)))]⟩ _
      try dsimp only
      obtain ⟨f, hf⟩ : ∃ f, f = lotF ms (prs.take k) := ⟨_, rfl⟩
      rw [← hf] at L
      rw [← hf]
      refine s_for (xs := ms) (enc := dP) (fun j γ => ∃ M : TabP, γ = [.fz (RD (.list (ms.map dP))), .fz (RD (.list (prs.map dE))), .own (OTab M), .any, .fz (RD (dP e.1)), .fz (RD (dP e.2)), .fz (RD (.int (f e.1)))] ∧ LotsM ms (fun m => if m ∈ ms.take j then uni f e.2 e.1 m else f m) M) (e_var rfl) ⟨M, rfl, L.nd, L.sub, fun m hm => by rw [L.val m hm, List.take_zero]; simp⟩ ?_ ?_
      · rintro h2 j m γ kp2 hx2 ⟨M2, rfl, L2⟩
        refine ⟨_, _, g_name, ?_⟩
        show WC ⟨hs, h2, om, [.fz (RD (.list (ms.map dP))), .fz (RD (.list (prs.map dE))), .own (OTab M2), .fz (RD (dP m)), .fz (RD (dP e.1)), .fz (RD (dP e.2)), .fz (RD (.int (f e.1)))]⟩ _
        have mm : m ∈ ms := List.mem_of_getElem? hx2
        have vm : getM M2 m = some (f m) := by
          rw [L2.val m mm, if_neg (not_take mn hx2)]
        have vo : getM M2 e.2 = some (f e.2) := by
          rw [L2.val _ p2]
          have u2 : uni f e.2 e.1 e.2 = f e.2 := by
            unfold uni
            split <;> rfl
          split
          · rw [u2]
          · rfl
        have ll := tab_len L2.nd L2.sub
        have st : ∀ p ∈ ms, p ≠ m → (if p ∈ ms.take (j + 1) then uni f e.2 e.1 p else f p) = if p ∈ ms.take j then uni f e.2 e.1 p else f p := fun p _ ne => by
          have : p ∈ ms.take (j + 1) ↔ p ∈ ms.take j := by
            rw [List.take_add_one, hx2, List.mem_append]
            simp [ne]
          simp only [this]
        have sm : m ∈ ms.take (j + 1) := by
          rw [List.take_add_one, hx2]
          exact List.mem_append_right _ (by simp)
        refine s_if (t_T (e_op o_eqI (e_lotO rfl vm (e_var rfl)) (e_var rfl))) (fun z => ?_) (fun z => ?_)
        · have z : f m = f e.1 := of_decide_eq_true z
          refine s_dputO rfl (e_lotO rfl vo (e_var rfl)) (e_var rfl) (by omega) ?_
          refine s_drop 3 ?_
          refine s_of ⟨_, rfl, keys_setM _ _ _ L2.nd, fun p h => ?_, fun p h => ?_⟩
          · rw [get_setM] at h
            by_cases y : p = m
            · rw [y]; exact mm
            · rw [if_neg y] at h
              exact L2.sub p h
          · rw [get_setM]
            by_cases y : p = m
            · rw [if_pos y, y, if_pos sm]
              unfold uni
              rw [if_pos z]
            · rw [if_neg y, st p h y]
              exact L2.val p h
        · have z : ¬ f m = f e.1 := of_decide_eq_false z
          refine s_pass ?_
          refine s_drop 3 ?_
          refine s_of ⟨_, rfl, L2.nd, L2.sub, fun p h => ?_⟩
          by_cases y : p = m
          · rw [y, if_pos sm, vm]
            unfold uni
            rw [if_neg z]
          · rw [st p h y]
            exact L2.val p h
      · rintro γ ⟨M2, rfl, L2⟩
        rw [List.take_length] at L2
        refine s_drop 4 ?_
        refine s_drop 5 ?_
        refine s_drop 6 ?_
        refine s_of ⟨_, rfl, L2.nd, L2.sub, fun p h => ?_⟩
        rw [L2.val p h, if_pos h, lotF_succ hx, hf]
    · rintro γ ⟨M, rfl, L⟩
      rw [List.take_length] at L
      exact s_retOwn rfl fun H' a o k n e => q H' a o k n (by
        have e : o = .dT (kvF M) := e
        exact ⟨M, e, L⟩)
end
section
open GxR NdefX PySem.Spec PyProof.Rows
variable {P : Program} {w : World} {K : PySem.W.Frag} {mg : Str → Option Value} {base : Heap}
def Rs__law_pairs (P : Program) (w : World) : HX × Pl × Pl × (List Pl) → List Rel := fun x => [(RBes x.1), (RD ((eT3 dP dP (eL dP)) (x.2.1, x.2.2.1, x.2.2.2)))]
def P__law_pairs (P : Program) (w : World) : HX × Pl × Pl × (List Pl) → Hp → Prop := fun x H => Drawn x.1 ∧ x.2.2.2.length ≤ 7 ∧ (∀ m ∈ marksP ([x.2.1, x.2.2.1] ++ x.2.2.2), isPl x.1.1 x.1.2.1 m = true) ∧ ∀ m ∈ marksP ([x.2.1, x.2.2.1] ++ x.2.2.2), ∀ o ∈ marksP ([x.2.1, x.2.2.1] ++ x.2.2.2), Rea x.1 m o
noncomputable def R__law_pairs (P : Program) (w : World) : HX × Pl × Pl × (List Pl) → Own := fun x => OPD P w ((pairsL x.1 (marksP ([x.2.1, x.2.2.1] ++ x.2.2.2)) (marksP ([x.2.1, x.2.2.1] ++ x.2.2.2))))
theorem ok__law_pairs (P : Program) (w : World) {f : Addr} {fd : FuncData} (F : Fun K "_law_pairs" "_law_pairs" s__law_pairs f fd) (t__law_marks : TopD P w K mg base 1 "_law_marks" ["task"] (SpN (Rs__law_marks ) (P__law_marks ) (R__law_marks ))) (t__law_far : TopD P w K mg base 1 "_law_far" ["beside", "place"] (spFar)) : FnOk P w K mg base CX0 2 f fd ["beside", "task"] (SpN (Rs__law_pairs P w) (P__law_pairs P w) (R__law_pairs P w)) := by
  refine fn_okN F sc__law_pairs (fun _ => rfl) fun cdv A outer s H E0 hr => ?_
  have nd := sc__law_pairs.nd
  refine ⟨_, (pss_cons (ps_set (i := 2) nd rfl (.inl rfl) (pe_call t__law_marks.G (by exact hr.mono (by decide)) (by rfl) t__law_marks.g t__law_marks.kp t__law_marks.b .nil pass0 (pa_cons (pv 1) pa_nil)))
      (pss_cons (ps_set (i := 3) nd rfl (.inl rfl) pe_pnew)
      (pss_cons (ps_for PassesOwn.never rfl (pi_list (pv 2)) (pg_name (i := 4) nd rfl (.inl rfl)) (pss_cons (ps_set (i := 5) nd rfl (.inl rfl) (pe_call t__law_far.G (by exact hr.mono (by decide)) (by rfl) t__law_far.g t__law_far.kp t__law_far.b .nil pass0 (pa_cons (pv 0) (pa_cons (pv 4) pa_nil))))
      (pss_one (ps_for PassesOwn.never rfl (pi_list (pv 2)) (pg_name (i := 6) nd rfl (.inl rfl)) (pss_one (ps_if (pt_cmpR (r := rLtO K dP lsP) (op_ltO ordP (by exact hr.units)) (pv 4) (pv 6) (nomark _)) (pss_one (ps_pput (by exact hr.units) (pv 3) (pe_tup (pa_cons (pv 4) (pa_cons (pv 6) pa_nil))) (pe_dget (by exact Pk.Room.units1 hr) (pv 5) (pv 6) (fun _ _ => rfl)) rfl)) pss_nil))))))
      (pss_one (ps_ret (pv 3)))))), ?_⟩
  rintro ⟨x, st, en, qs⟩ hs om Q hp q
  show WC ⟨hs, (less hs om), om, [.fz (RBes x), .fz (RD ((eT3 dP dP (eL dP)) (st, en, qs))), .any, .any, .any, .any, .any]⟩ _
  replace hp : Drawn x ∧ qs.length ≤ 7 ∧ (∀ m ∈ marksP ([st, en] ++ qs), isPl x.1 x.2.1 m = true) ∧ ∀ m ∈ marksP ([st, en] ++ qs), ∀ o ∈ marksP ([st, en] ++ qs), Rea x m o := hp
  replace q : ∀ H' p o, Kp hs H' → H' p = none → (OPD P w ((pairsL x (marksP ([st, en] ++ qs)) (marksP ([st, en] ++ qs))))).p (less H' om) o → Q (.ref p) (upd H' p o) := q
  obtain ⟨hd, hq7, hpl, hre⟩ := hp
  obtain ⟨ms, hms⟩ : ∃ ms, marksP ([st, en] ++ qs) = ms := ⟨_, rfl⟩
  have ml : ms.length ≤ 9 := by rw [← hms]; have := marks_le st en qs; omega
  have mn : ms.Nodup := by rw [← hms]; exact marksP_nd
  rw [hms] at hpl hre
  refine s_seq ?_
  refine s_set (E.eq (n_e (show EN _ _ (OL ((marksP ([st, en] ++ qs)).map dP)) from n_call (skn_spn (Rs := Rs__law_marks ) (P := P__law_marks ) (C := R__law_marks ) (st, en, qs)) (a_cons (e_var rfl) a_nil) (fun H kp => by show qs.length ≤ 60; exact (by omega)))) (e := .list (ms.map dP)) (by rw [hms])) ?_
  show WC ⟨hs, (less hs om), om, [.fz (RBes x), .fz (RD ((eT3 dP dP (eL dP)) (st, en, qs))), .fz (RD (.list (ms.map dP))), .any, .any, .any, .any]⟩ _
  refine s_seq ?_
  refine s_new n_pnew ?_
  show WC ⟨hs, (less hs om), om, [.fz (RBes x), .fz (RD ((eT3 dP dP (eL dP)) (st, en, qs))), .fz (RD (.list (ms.map dP))), .own (OPD P w ([])), .any, .any, .any]⟩ _
  refine s_seq ?_
  refine s_for (xs := ms) (enc := dP) (fun (i : Nat) γ => ∃ (Mp : MapE), γ = [.fz (RBes x), .fz (RD ((eT3 dP dP (eL dP)) (st, en, qs))), .fz (RD (.list (ms.map dP))), .own (OPD P w (Mp)), .any, .any, .any] ∧ (Mp = pairsL x (ms.take i) ms)) (e_var rfl) ⟨[], rfl, rfl⟩ ?_ ?_
  · rintro h1_1 k one1 γ kp hx ⟨Mp, rfl, hM⟩
    have hm1 : one1 ∈ ms := List.mem_of_getElem? hx
    refine ⟨_, _, g_name, ?_⟩
    show WC ⟨hs, h1_1, om, [.fz (RBes x), .fz (RD ((eT3 dP dP (eL dP)) (st, en, qs))), .fz (RD (.list (ms.map dP))), .own (OPD P w (Mp)), .fz (RD (dP one1)), .any, .any]⟩ _
    refine s_seq ?_
    refine s_set (c_call sok_far (a_cons (e_var rfl) (a_cons (e_var rfl) a_nil)) (fun _ _ => ⟨hd.v, hd.s9, (hpl _ hm1)⟩)) ?_
    show WC ⟨hs, h1_1, om, [.fz (RBes x), .fz (RD ((eT3 dP dP (eL dP)) (st, en, qs))), .fz (RD (.list (ms.map dP))), .own (OPD P w (Mp)), .fz (RD (dP one1)), .fz (RFar x one1), .any]⟩ _
    refine s_for (xs := ms) (enc := dP) (fun (i : Nat) γ => ∃ (Mq : MapE), γ = [.fz (RBes x), .fz (RD ((eT3 dP dP (eL dP)) (st, en, qs))), .fz (RD (.list (ms.map dP))), .own (OPD P w (Mq)), .fz (RD (dP one1)), .fz (RFar x one1), .any] ∧ (Mq = pairsL x (ms.take k) ms ++ pairs1 x one1 (ms.take i))) (e_var rfl) ⟨Mp, rfl, by rw [hM]; simp [pairs1]⟩ ?_ ?_
    · rintro h1_2 j o1 γ kp hx2 ⟨Mq, rfl, hN⟩
      have hm2 : o1 ∈ ms := List.mem_of_getElem? hx2
      refine ⟨_, _, g_name, ?_⟩
      show WC ⟨hs, h1_2, om, [.fz (RBes x), .fz (RD ((eT3 dP dP (eL dP)) (st, en, qs))), .fz (RD (.list (ms.map dP))), .own (OPD P w (Mq)), .fz (RD (dP one1)), .fz (RFar x one1), .fz (RD (dP o1))]⟩ _
      refine s_if (t_T (e_op (o_ltO ordP) (e_var rfl) (e_var rfl))) (fun h1 => ?_) (fun h1 => ?_)
      · have := h1
        refine s_pputO (e := (one1, o1)) rfl (e_dist (x := x) (t := one1) (q := o1) (hre _ hm1 _ hm2) (e_var rfl) (e_var rfl)) (e_tup (m_cons (e_var rfl) (m_cons (e_var rfl) m_nil))) (by rw [hN]; exact pairs_new mn hx hx2) (by have a1 := pairsL_len (x := x) (os := ms) (ms := ms.take k); have a2 := pairs1_len (x := x) (one := one1) (os := ms.take j); rw [List.length_take] at a1 a2; have a3 : min k ms.length * ms.length ≤ 9 * 9 := Nat.mul_le_mul (by omega) ml; rw [hN, List.length_append]; omega) ?_
        show WC ⟨hs, h1_2, om, [.fz (RBes x), .fz (RD ((eT3 dP dP (eL dP)) (st, en, qs))), .fz (RD (.list (ms.map dP))), .own (OPD P w ((Mq ++ [((one1, o1), (dist (nbs x) one1 o1))]))), .fz (RD (dP one1)), .fz (RFar x one1), .fz (RD (dP o1))]⟩ _
        refine s_drop 6 ?_
        show WC ⟨hs, h1_2, om, [.fz (RBes x), .fz (RD ((eT3 dP dP (eL dP)) (st, en, qs))), .fz (RD (.list (ms.map dP))), .own (OPD P w ((Mq ++ [((one1, o1), (dist (nbs x) one1 o1))]))), .fz (RD (dP one1)), .fz (RFar x one1), .any]⟩ _
        exact s_of ⟨(Mq ++ [((one1, o1), (dist (nbs x) one1 o1))]), rfl, by rw [hN, pairs1_succ hx2, if_pos (by simpa using this), List.append_assoc]⟩
      · have := h1
        refine s_pass ?_
        refine s_drop 6 ?_
        show WC ⟨hs, h1_2, om, [.fz (RBes x), .fz (RD ((eT3 dP dP (eL dP)) (st, en, qs))), .fz (RD (.list (ms.map dP))), .own (OPD P w (Mq)), .fz (RD (dP one1)), .fz (RFar x one1), .any]⟩ _
        exact s_of ⟨Mq, rfl, by rw [hN, pairs1_succ hx2, if_neg (by simpa using this), List.append_nil]⟩
    · rintro γ ⟨Mq, rfl, hN⟩
      show WC ⟨hs, h1_1, om, [.fz (RBes x), .fz (RD ((eT3 dP dP (eL dP)) (st, en, qs))), .fz (RD (.list (ms.map dP))), .own (OPD P w (Mq)), .fz (RD (dP one1)), .fz (RFar x one1), .any]⟩ _
      have hM2 := hN
      rw [List.take_length] at hM2
      refine s_drop 4 ?_
      refine s_drop 5 ?_
      show WC ⟨hs, h1_1, om, [.fz (RBes x), .fz (RD ((eT3 dP dP (eL dP)) (st, en, qs))), .fz (RD (.list (ms.map dP))), .own (OPD P w (Mq)), .any, .any, .any]⟩ _
      exact s_of ⟨Mq, rfl, by rw [pairsL_succ hx]; exact hM2⟩
  · rintro γ ⟨Mp, rfl, hM⟩
    show WC ⟨hs, (less hs om), om, [.fz (RBes x), .fz (RD ((eT3 dP dP (eL dP)) (st, en, qs))), .fz (RD (.list (ms.map dP))), .own (OPD P w (Mp)), .any, .any, .any]⟩ _
    refine s_retOwn (C := OPD P w ((pairsL x (marksP ([st, en] ++ qs)) (marksP ([st, en] ++ qs))))) (show some (Slot.own (OPD P w (Mp))) = some (Slot.own (OPD P w ((pairsL x (marksP ([st, en] ++ qs)) (marksP ([st, en] ++ qs)))))) from congrArg (fun z => some (Slot.own (OPD P w (z)))) (show Mp = (pairsL x (marksP ([st, en] ++ qs)) (marksP ([st, en] ++ qs))) from ?_)) q
    rw [hM, List.take_length, hms]
end
section
open GxR NdefX PySem.Spec PyProof.Rows
variable {P : Program} {w : World} {K : PySem.W.Frag} {mg : Str → Option Value} {base : Heap} {b : Bool} {c : Ct} {ta tb ty : TE} {x : HX} {p q : Pl}
abbrev mksP (st en : Pl) (ps : List Pl) : List Pl := marksP ([st, en] ++ ps)
abbrev mks (t : TD) : List Pl := mksP t.st t.en t.ps
theorem ok_tmarks {f CT CIT : Addr} {fd : FuncData} (F : Fun K "marks" "Task.marks" s_Task_marks f fd) (TT : TaskTxt K mg CT CIT) : FnOk P w K mg base CX0 1 f fd ["self"] (SpN (fun t : TD => [RTask CT t]) (fun t _ => t.ps.length ≤ 60) fun t => OL ((mks t).map dP)) := by
  refine fn_okN F sc_Task_marks (fun _ => rfl) fun cdv A outer s H E0 hr => ?_
  refine ⟨_, (pss_one (ps_ret (pe_callB (call_sortS rfl (by exact hr.units)) (by rfl) TT.sorted (by decide +kernel) (pa_cons (pe_callTy (cr_setP rfl (by exact hr.units)) (by rfl) TT.set (by decide +kernel) (pa_cons (pe_op op_cat (pe_lst (pa_cons (pe_fld (pv 0) rfl) (pa_cons (pe_fld (pv 0) rfl) pa_nil))) (pe_fld (pv 0) rfl)) pa_nil)) pa_nil)))), ?_⟩
  rintro t hs om Q l60 q
  show WC ⟨hs, less hs om, om, [.fz (RTask CT t)]⟩ _
  replace l60 : t.ps.length ≤ 60 := l60
  refine s_retNew (n_sortSP (e_setP (i_n (n_catM (xs := [t.st, t.en]) (ys := t.ps) (i_n (n_lstM (xs := [t.st, t.en]) (enc := dP) (m_cons (e_fld TT.cl TT.nS fld_start (e_var rfl)) (m_cons (e_fld TT.cl TT.nE fld_end (e_var rfl)) m_nil)))) (i_of (e_fld TT.cl TT.nP fld_picks (e_var rfl))) (by show 2 + _ ≤ _; omega))) (by rw [List.length_append]; show 2 + t.ps.length < 64; omega))) q
def RFarD (x : HX) (p : Pl) : Rel := ⟨fun H v => ∃ f M, v = .ref f ∧ Rd H f (.dT (kvF M)) ∧ FarM x p M, fun k ⟨f, M, h1, h2, h3⟩ => ⟨f, M, h1, h2.elim (fun z => .inl (k.dT z)) fun ⟨o, z⟩ => .inr ⟨o, k.frz z⟩, h3⟩⟩
theorem far_d (h : E b c ta (RFar x p)) : E b c ta (RFarD x p) := h.imp fun H v ⟨f, e, M, h1, h2, h3⟩ => ⟨f, M, e, .inl h1, h2, h3⟩
theorem lk_FarD : Lk (RFarD x p) := fun H v d u od hu e ⟨f, M, h1, h2, h3⟩ => by
  refine ⟨f, M, h1, ?_, h3⟩
  by_cases z : f = d
  · subst z
    rcases h2 with h2 | ⟨o, h2⟩
    · rw [e] at h2
      cases h2
      exact .inr ⟨od, upd_same⟩
    · rw [e] at h2
      cases h2
      exact hu.elim
  · rcases h2 with h2 | ⟨o, h2⟩
    · exact .inl (by rw [upd_ne z]; exact h2)
    · exact .inr ⟨o, by rw [upd_ne z]; exact h2⟩
theorem e_farD {d : Int} (hd : Dst (nbs x) p q d) (ha : E b c ta (RFarD x p)) (hy : E b c ty (RD (dP q))) : E b c (tDGet ta ty) (RD (.int d)) := fun σ H s Q k =>
  ha σ H s _ fun H1 v k1 r1 => hy σ H1 (s.kp k1) _ fun H2 y k2 r2 => by
    obtain ⟨t, rfl, ht⟩ := plT r2
    obtain ⟨f, M, rfl, h2, h3⟩ := (RFarD x p).mn kp_less ((RFarD x p).mn (hb_kp k2) r1)
    refine ⟨f, .int d, rfl, ?_, k H2 _ (k1.trans k2) (.int d)⟩
    refine .inr ⟨kvF M, plK q, t, h2, rfl, ht, ?_⟩
    rw [val_getM, (h3.2 q d).mpr hd]
    rfl
abbrev spLm (C CT CU : Addr) : Sp := fun vs H Q E => ∃ (a : HD × TD) (om : Addr → Prop), Hd H om ∧ Rok (RsNr C CT a) (less H om) vs ∧ PNr a ∧
  (cutO a.1.x a.2.st a.2.en a.2.ps = none → ∀ H' p o, Kp H H' → H' p = none → (OGu (RFarD a.1.x) (mks a.2)).p (less H' om) o → Q (.ref p) (upd H' p o)) ∧
  (∀ r, cutO a.1.x a.2.st a.2.en a.2.ps = some r → ∀ H' d v, Kp H H' → H' d = some (.xd [("place", v)]) → (RD (dP r)).p (less H' om) v → E (.ref CU) (some d) H')
theorem mem_mks {st en m : Pl} {ps : List Pl} : m ∈ mksP st en ps ↔ m ∈ [st, en] ++ ps := sortP_mem.trans nub_mem
theorem mks_pl {t : TD} {h : HD} (hw : wrongP h.ls h.gs t.st t.en t.ps = none) : ∀ m ∈ mks t, isPl h.ls h.gs m = true := fun m hm => by
  obtain ⟨h1, h2, h3⟩ := wrong_st (h := h) (t := t) hw
  have pl : ∀ {p : Pl}, isCr h.ls h.gs p = true → isPl h.ls h.gs p = true := fun h => by
    unfold isCr at h
    rw [Bool.and_eq_true] at h
    exact h.1
  rcases List.mem_append.mp (mem_mks.mp hm) with z | z
  · rcases List.mem_cons.mp z with y | y
    · rw [y]; exact pl h1
    · rw [List.mem_singleton.mp y]; exact pl h2
  · exact h3 m z
theorem mks_len {t : TD} (h : t.ps.length ≤ 7) : (mks t).length ≤ 9 := by
  have := marks_le t.st t.en t.ps
  show (marksP ([t.st, t.en] ++ t.ps)).length ≤ 9
  omega
theorem ok_lom {f fR fM fL C CT CIT CP CU : Addr} {fd fdR fdM fdL : FuncData} (F : Fun K "_levels_of_marks" "_levels_of_marks" s__levels_of_marks f fd) (TT : TaskTxt K mg CT CIT)
    (GR : FnOk P w K mg base (L2.CX P w) 7 fR fdR ["house", "task"] (spCr C CT CU)) (bR : Binds K fdR ["house", "task"] []) (gR : mg "check_round" = some (.ref fR)) (kR : PySem.W.keepIn K (.ref fR) = true)
    (GM : FnOk P w K mg base CX0 1 fM fdM ["self"] (SpN (fun t : TD => [RTask CT t]) (fun t _ => t.ps.length ≤ 60) fun t => OL ((mks t).map dP))) (bM : Binds K fdM ["self"] []) (mM : Meth K CT "marks" fM)
    (GL : FnOk P w K mg base (L2.CX P w) 5 fL fdL ["house", "place"] (spLv C CP)) (bL : Binds K fdL ["house", "place"] []) (gL : mg "levels" = some (.ref fL)) (kL : PySem.W.keepIn K (.ref fL) = true) :
    FnOk P w K mg base (L2.CX P w) 8 f fd ["house", "task"] (spLm C CT CU) := by
  refine F.okX sc__levels_of_marks (fun vs H Q E h => ?_) (fun cdv A outer s H vs Q E hr h => ?_)
  · obtain ⟨a, om, ho, hr, _⟩ := h
    exact hr.len
  · obtain ⟨⟨h, t⟩, om, ho, hR, hP, q1, q2⟩ := h
    have nd := sc__levels_of_marks.nd
    refine ⟨_, (pss_cons (ps_expr (pe_call GR (by exact hr.mono (by decide)) (by rfl) gR kR bR .nil (passes_call (takes_of rfl rfl rfl rfl) fun _ _ _ _ h => h) (pa_cons (pv 0) (pa_cons (pv 1) pa_nil))))
      (pss_one (ps_ret (pe_dcT (own := [("mark", 2)]) (g := gName 2) rfl (by exact hr.units0) nd (pi_list (pe_meth0 (pv 1) TT.cl mM GM (by exact hr.mono (by decide)) bM .nil pass0)) (blkOk_by (N := ["house", "task", "mark"]) (sc := defScope s__levels_of_marks) (by decide +kernel)) (fun _ _ _ _ _ => ⟨pg_name (i := 2) nd rfl (.inl rfl), pv 2, pe_call GL (by exact hr.mono (by decide)) (by rfl) gL kL bL .nil (passes_call takes0 fun _ _ _ _ h => h) (pa_cons (pv 0) (pa_cons (pv 2) pa_nil))⟩))))), ?_⟩
    have st := sta_start (N := ["house", "task", "mark"]) ho hR
    refine (?_ : WC ⟨H, less H om, om, [.fz (RHouse C h), .fz (RTask CT t), .any]⟩ _) _ _ st
    obtain ⟨hd, hw, l7⟩ := id hP
    replace hd : Drawn h.x := hd
    replace l7 : t.ps.length ≤ 7 := l7
    replace hw : wrongP h.ls h.gs t.st t.en t.ps = none := hw
    refine s_seq ?_
    cases hc : cutO h.x t.st t.en t.ps with
    | some r => exact s_gone (h := h) (t := t) hP hc (a_cons (e_var rfl) (a_cons (e_var rfl) a_nil)) (q2 r hc)
    | none =>
      replace q1 : ∀ H' p o, Kp H H' → H' p = none → (OGu (RFarD h.x) (mks t)).p (less H' om) o → Q (.ref p) (upd H' p o) := q1 hc
      refine s_expr (c_call (sok_cr (h := h) (t := t) hc) (a_cons (e_var rfl) (a_cons (e_var rfl) a_nil)) (fun _ _ => hP)) ?_
      have hpl := mks_pl hw
      refine s_retNew (n_dcR (ks := mks t) (Rv := RFarD h.x) (is := [2]) (Gs := fun m => [.fz (RHouse C h), .fz (RTask CT t), .fz (RD (dP m))]) (w_list (n_e (n_meth (hi_task (by decide +kernel) (by decide +kernel) (by decide +kernel)) (skn_spn (Rs := fun t : TD => [RTask CT t]) (P := fun t _ => t.ps.length ≤ 60) (C := fun t => OL ((mks t).map dP)) t) (e_var rfl) a_nil (fun _ _ => by show t.ps.length ≤ 60; omega)))) marksP_nd rfl (by decide) (fun _ m hm => g_name) (fun _ m hm => e_var rfl)
        (fun _ m hm => far_d (n_eF (n_call (skn_lv (h := h) (hpl m hm)) (a_cons (e_var rfl) (a_cons (e_var rfl) a_nil)) (fun _ _ => ⟨hd.v, hd.s9⟩)))) (by have := mks_len l7; omega)) q1
end
section
open GxR NdefX PySem.Spec PyProof.Rows
variable {P : Program} {w : World} {K : PySem.W.Frag} {mg : Str → Option Value} {base : Heap} {b : Bool} {c : Ct} {ta tb ty : TE} {x : HX} {p q : Pl}
abbrev RvG (g : Pl → Pl) : Pl → Rel := fun k => RD (dP (g k))
theorem uk_Gu {Rv : Pl → Rel} {ks : List Pl} (h : ∀ k, UkR (Rv k)) : Uk (OGu Rv ks) := fun H o d u od hu e ⟨kvs', h1, h2⟩ => ⟨kvs', h1, Paired.mapP h2 fun _ _ z => ⟨z.1, h _ _ _ _ _ _ hu e z.2⟩⟩
theorem lk_G {g : Pl → Pl} (k : Pl) : Lk (RvG g k) := lk_D rfl
theorem uk_G {g : Pl → Pl} (k : Pl) : UkR (RvG g k) := uk_D rfl
abbrev RsWj : List Pl × (Pl → Pl) × Pl × Pl → List Rel := fun a => [RGu (RvG a.2.1) a.1, RD (dP a.2.2.1), RD (dP a.2.2.2)]
abbrev PWj : List Pl × (Pl → Pl) × Pl × Pl → Hp → Prop := fun a _ => a.1.Nodup ∧ a.2.2.1 ∈ a.1 ∧ a.2.2.2 ∈ a.1 ∧ a.1.length ≤ 100
abbrev spWj : Sp := SpN RsWj PWj fun a => OGu (RvG (uni a.2.1 a.2.2.1 a.2.2.2)) a.1
theorem ok_withjoined {f : Addr} {fd : FuncData} (F : Fun K "_with_joined" "_with_joined" s__with_joined f fd) : FnOk P w K mg base CX0 2 f fd ["groups", "one", "other"] spWj := by
  refine fn_okN F sc__with_joined (fun _ => rfl) fun cdv A outer s H E0 hr => ?_
  have nd := sc__with_joined.nd
  refine ⟨_, (pss_one (ps_ret (pe_lock (pe_dcT (own := [("mark", 3)]) (g := gName 3) rfl (by exact hr.units0) nd (pi_keys (pv 0)) (blkOk_by (N := ["groups", "one", "other", "mark"]) (sc := defScope s__with_joined) (by decide +kernel)) (fun _ _ _ _ _ => ⟨pg_name (i := 3) nd rfl (.inl rfl), pv 3,
    pe_ifExp (pt_cmpR (r := rEqD K) (op_eqD hr.units) (pe_dget (by exact Pk.Room.units1 hr) (pv 0) (pv 3) (fun _ _ => rfl)) (pe_dget (by exact Pk.Room.units1 hr) (pv 0) (pv 2) (fun _ _ => rfl)) (nomark _)) (pe_dget (by exact Pk.Room.units1 hr) (pv 0) (pv 1) (fun _ _ => rfl)) (pe_dget (by exact Pk.Room.units1 hr) (pv 0) (pv 3) (fun _ _ => rfl))⟩))))), ?_⟩
  rintro ⟨ks, g, one, other⟩ hs om Q ⟨kn, h1, h2, kl⟩ q
  show WC ⟨hs, less hs om, om, [.fz (RGu (RvG g) ks), .fz (RD (dP one)), .fz (RD (dP other)), .any]⟩ _
  replace kn : ks.Nodup := kn
  replace h1 : one ∈ ks := h1
  replace h2 : other ∈ ks := h2
  replace kl : ks.length ≤ 100 := kl
  refine s_retNew (n_lock 0 rfl rfl ⟨lk_D rfl, lk_D rfl, trivial⟩ lk_G (uk_Gu uk_G) fun hs' h0' => ?_) q
  show EN ⟨hs', h0', om, [.fz (RGk (RvG g) ks), .fz (RD (dP one)), .fz (RD (dP other)), .any]⟩ _ _
  exact n_dcR (Rv := RvG (uni g one other)) (is := [3]) (Gs := fun m => [.fz (RGk (RvG g) ks), .fz (RD (dP one)), .fz (RD (dP other)), .fz (RD (dP m))]) (w_keysR (e_var rfl)) kn rfl (by decide) (fun _ m hm => g_name) (fun _ m hm => e_var rfl)
    (fun _ m hm => Pk.E.eq (e_ite (enc := dP) (u := g one) (v := g m) (t_T (e_op (show O2 (rEqD K) (RD (dP (g m))) (RD (dP (g other))) _ from o_eqE (f := dP) (hd := inferInstance) enc_P (by decide) ⟨trivial, trivial⟩ ⟨trivial, trivial⟩) (e_getR (Rv := RvG g) hm (gk_d (e_var rfl)) (e_var rfl)) (e_getR (Rv := RvG g) h2 (gk_d (e_var rfl)) (e_var rfl)))) (fun _ => e_getR (Rv := RvG g) h1 (gk_d (e_var rfl)) (e_var rfl)) (fun _ => e_getR (Rv := RvG g) hm (gk_d (e_var rfl)) (e_var rfl))) (congrArg dP (by
      unfold uni
      by_cases z : g m = g other
      · rw [if_pos (decide_eq_true z), if_pos z]
      · rw [if_neg (by rw [decide_eq_false z]; exact fun y => nomatch y), if_neg z]))) (by show ks.length < 16777216; omega)
noncomputable def W0 (x : HX) (ms : List Pl) : List (Int × Pl × Pl) := ms.flatMap fun one => (ms.filter (lsP one)).map fun o => (dist (nbs x) one o, one, o)
noncomputable def SW (x : HX) (ms : List Pl) : List (Int × Pl × Pl) := sortO lsW (W0 x ms)
noncomputable def SL (x : HX) (ms : List Pl) : List (Pl × Pl) := (SW x ms).map (·.2)
theorem mem_SL {ms : List Pl} {e : Pl × Pl} : e ∈ SL x ms ↔ e.1 ∈ ms ∧ e.2 ∈ ms ∧ lsP e.1 e.2 = true := by
  unfold SL SW
  rw [List.mem_map]
  constructor
  · rintro ⟨y, hy, rfl⟩
    rw [sortO_mem] at hy
    obtain ⟨one, h1, hy⟩ := List.mem_flatMap.mp hy
    obtain ⟨o, h2, rfl⟩ := List.mem_map.mp hy
    obtain ⟨h2, h3⟩ := List.mem_filter.mp h2
    exact ⟨h1, h2, h3⟩
  · rintro ⟨h1, h2, h3⟩
    refine ⟨(dist (nbs x) e.1 e.2, e.1, e.2), ?_, rfl⟩
    rw [sortO_mem]
    exact List.mem_flatMap.mpr ⟨e.1, h1, List.mem_map.mpr ⟨e.2, List.mem_filter.mpr ⟨h2, h3⟩, rfl⟩⟩
/-- one turn: the pairs taken, the groups -/
def krS (s : List (Pl × Pl) × (Pl → Pl)) (e : Pl × Pl) : List (Pl × Pl) × (Pl → Pl) := if s.2 e.1 = s.2 e.2 then s else (s.1 ++ [e], uni s.2 e.1 e.2)
def krA (L : List (Pl × Pl)) : List (Pl × Pl) × (Pl → Pl) := L.foldl krS ([], fun m => m)
theorem foldl_krS : ∀ {L : List (Pl × Pl)} {s : List (Pl × Pl) × (Pl → Pl)}, L.foldl krS s = (s.1 ++ (kr s.2 L).1, (kr s.2 L).2)
  | [], s => by
    show s = (s.1 ++ [], s.2)
    rw [List.append_nil]
  | e :: L, s => by
    rw [List.foldl_cons, foldl_krS]
    by_cases z : s.2 e.1 = s.2 e.2
    · rw [kr_no z, show krS s e = s from if_pos z]
    · rw [kr_yes z, show krS s e = (s.1 ++ [e], uni s.2 e.1 e.2) from if_neg z, List.append_assoc]
      rfl
theorem krA_eq {L : List (Pl × Pl)} : krA L = kr (fun m => m) L := foldl_krS.trans (by rw [List.nil_append])
theorem krA_succ {L : List (Pl × Pl)} {k : Nat} {e : Pl × Pl} (h : L[k]? = some e) : krA (L.take (k + 1)) = krS (krA (L.take k)) e := by
  unfold krA
  rw [List.take_add_one, h, List.foldl_append]
  rfl
/-- the least tree -/
noncomputable def treeL (x : HX) (ms : List Pl) : List (Pl × Pl) := sortO lsE (krA (SL x ms)).1
abbrev RsLp : HX × List Pl → List Rel := fun a => [RGu (RFarD a.1) a.2]
abbrev PLp : HX × List Pl → Hp → Prop := fun a _ => a.2.Nodup ∧ a.2.length ≤ 9 ∧ ∀ m ∈ a.2, ∀ o ∈ a.2, Rea a.1 m o
abbrev spLp : Sp := SpN RsLp PLp fun a => OL ((treeL a.1 a.2).map dE)
theorem krA_len (L : List (Pl × Pl)) : (krA L).1.length ≤ L.length := by
  rw [krA_eq]
  exact kr_sub.length_le
theorem W0_len {ms : List Pl} (l : ms.length ≤ 9) : (W0 x ms).length ≤ 81 := by
  have : ∀ l : List Pl, (l.flatMap fun one => (ms.filter (lsP one)).map fun o => (dist (nbs x) one o, one, o)).length ≤ l.length * 9 := fun l => by
    induction l with
    | nil => exact Nat.zero_le _
    | cons m l ih =>
      rw [List.flatMap_cons, List.length_append, List.length_map, List.length_cons, Nat.succ_mul]
      have := List.length_filter_le (lsP m) ms
      omega
  have z := this ms
  unfold W0
  have : ms.length * 9 ≤ 9 * 9 := Nat.mul_le_mul_right _ l
  omega
theorem SL_len {ms : List Pl} (l : ms.length ≤ 9) : (SL x ms).length ≤ 81 := by
  unfold SL SW
  rw [List.length_map, sortO_len]
  exact W0_len l
theorem ok_leastpairs {f fJ : Addr} {fd fdJ : FuncData} (F : Fun K "_least_pairs" "_least_pairs" s__least_pairs f fd) (z_sorted : mg "sorted" = none)
    (GJ : FnOk P w K mg base CX0 2 fJ fdJ ["groups", "one", "other"] spWj) (bJ : Binds K fdJ ["groups", "one", "other"] []) (gJ : mg "_with_joined" = some (.ref fJ)) (kJ : PySem.W.keepIn K (.ref fJ) = true) :
    FnOk P w K mg base CX0 3 f fd ["numbers"] spLp := by
  refine fn_okN F sc__least_pairs (fun _ => rfl) fun cdv A outer s H E0 hr => ?_
  have nd := sc__least_pairs.nd
  refine ⟨_, (pss_cons (ps_lock (ps_setLc2 (i := 1) (own := [("one", 5), ("other", 6)]) (vs1 := [6]) (g := gName 5) (g1 := gName 6) (tt := tYes) rfl nd rfl rfl rfl (pi_keys (pv 0)) (blkOk_by (N := ["numbers", "pairs", "groups", "tree", "_", "one", "other", "mark"]) (sc := defScope s__least_pairs) (by decide +kernel)) (by decide)
        (fun _ _ _ _ _ => pg_name (i := 5) nd rfl (.inl rfl)) (fun _ _ _ _ _ => pts_nil) (fun _ _ _ _ _ => pi_keys (pv 0)) (fun _ _ _ _ _ => pg_name (i := 6) nd rfl (.inl rfl)) (fun _ _ _ _ _ => pts_one (pt_cmpR (r := rLtO K dP lsP) (op_ltO ordP (by exact hr.units)) (pv 5) (pv 6) (nomark _)))
        (fun _ _ _ _ _ => pe_tup (pa_cons (pe_dget (by exact Pk.Room.units1 hr) (pe_dget (by exact Pk.Room.units1 hr) (pv 0) (pv 5) (fun _ _ => rfl)) (pv 6) (fun _ _ => rfl)) (pa_cons (pv 5) (pa_cons (pv 6) pa_nil))))))
      (pss_cons (ps_lock (ps_setDcT (i := 2) (own := [("mark", 7)]) (g := gName 7) rfl (by exact hr.units0) nd rfl rfl rfl (pi_keys (pv 0)) (blkOk_by (N := ["numbers", "pairs", "groups", "tree", "_", "one", "other", "mark"]) (sc := defScope s__least_pairs) (by decide +kernel)) (fun _ _ _ _ _ => ⟨pg_name (i := 7) nd rfl (.inl rfl), pv 7, pv 7⟩)))
      (pss_cons (ps_set (i := 3) nd rfl (.inl rfl) (pe_lst pa_nil))
      (pss_cons (ps_for PassesOwn.never rfl (pi_list (pe_callB (cr_sortO ordW (by exact hr.units)) (by rfl) z_sorted (by decide +kernel) (pa_cons (pv 1) pa_nil))) (pg_tup rfl (pgs_cons (pg_name (i := 4) nd rfl (.inl rfl)) (pgs_cons (pg_name (i := 5) nd rfl (.inl rfl)) (pgs_cons (pg_name (i := 6) nd rfl (.inl rfl)) pgs_nil))))
        (pss_one (ps_if (pt_cmpR (r := rNeD K) (op_neD hr.units) (pe_dget (by exact Pk.Room.units1 hr) (pv 2) (pv 5) (fun _ _ => rfl)) (pe_dget (by exact Pk.Room.units1 hr) (pv 2) (pv 6) (fun _ _ => rfl)) (nomark _))
          (pss_cons (ps_set (i := 2) nd rfl (.inl rfl) (pe_call GJ (by exact hr.mono (by decide)) (by rfl) gJ kJ bJ .nil pass0 (pa_cons (pv 2) (pa_cons (pv 5) (pa_cons (pv 6) pa_nil)))))
          (pss_one (ps_expr (pe_bm PySem.F.plainAttrs_list PySem.F.slot_list_append PySem.F.type_list_append mt_append (pv 3) (pa_cons (pe_tup (pa_cons (pv 5) (pa_cons (pv 6) pa_nil))) pa_nil))))) pss_nil)))
      (pss_one (ps_ret (pe_callB (cr_sortO ordE (by exact hr.units)) (by rfl) z_sorted (by decide +kernel) (pa_cons (pv 3) pa_nil)))))))), ?_⟩
  rintro ⟨x, ms⟩ hs om Q ⟨mn, ml, re⟩ q
  show WC ⟨hs, less hs om, om, [.fz (RGu (RFarD x) ms), .any, .any, .any, .any, .any, .any, .any]⟩ _
  replace mn : ms.Nodup := mn
  replace ml : ms.length ≤ 9 := ml
  replace re : ∀ m ∈ ms, ∀ o ∈ ms, Rea x m o := re
  replace q : ∀ H' p o, Kp hs H' → H' p = none → (OL ((treeL x ms).map dE)).p (less H' om) o → Q (.ref p) (upd H' p o) := q
  refine s_seq ?_
  have eW : res2 (fun _ : Pl => true) (fun _ => ms) lsP (fun one o => dW (dist (nbs x) one o, one, o)) ms = (W0 x ms).map dW := by
    unfold res2 W0
    rw [List.filter_eq_self.mpr fun _ _ => rfl, List.map_flatMap]
    congr 1
    funext y
    rw [List.map_map]
    rfl
  refine s_lockA ?_
  refine s_set (n_e (EN.eqL (n_lock (C := OL (res2 (fun _ : Pl => true) (fun _ => ms) lsP (fun one o => dW (dist (nbs x) one o, one, o)) ms)) 0 rfl rfl trivial (fun k => lk_FarD) (uk_OL (by rw [eW]; exact nodAll (fun a => ordW.nod a) _)) fun hs' h0' => ?_) eW)) ?_
  · show EN ⟨hs', h0', om, [.fz (RGk (RFarD x) ms), .any, .any, .any, .any, .any, .any, .any]⟩ _ _
    exact n_lc2G (R1 := fun p => RD (dP p)) (is := [5]) (is1 := [6]) (G := fun o => [.fz (RGk (RFarD x) ms), .any, .any, .any, .any, .fz (RD (dP o)), .any, .any]) (G1 := fun o t => [.fz (RGk (RFarD x) ms), .any, .any, .any, .any, .fz (RD (dP o)), .fz (RD (dP t)), .any]) ms.length (w_keysR (e_var rfl)) rfl (by decide) (fun _ m hm => g_name) (fun _ m hm => t_yes) (fun _ m hm _ => w_keysR (e_var rfl)) (fun _ _ => rfl) (by decide) (fun _ m hm o ho => g_name) (fun _ m hm o ho => t_T (e_op (o_ltO ordP) (e_var rfl) (e_var rfl)))
      (fun _ m hm _ o ho _ => e_tup (m_cons (e_farD (dist_dst (re m hm o ho)) (e_getR (Rv := RFarD x) hm (gk_d (e_var rfl)) (e_var rfl)) (e_var rfl)) (m_cons (e_var rfl) (m_cons (e_var rfl) m_nil)))) (by have : ms.length * ms.length ≤ 9 * 9 := Nat.mul_le_mul ml ml; omega) (fun _ _ => Nat.le_refl _)
  show WC ⟨hs, less hs om, om, [.fz (RGu (RFarD x) ms), .fz (RD (.list ((W0 x ms).map dW))), .any, .any, .any, .any, .any, .any]⟩ _
  try dsimp only
  refine s_seq ?_
  refine s_lockA ?_
  refine s_set (R := RGu (RvG fun m => m) ms) (n_eGu (n_lock 0 rfl rfl ⟨lk_D (show nods ((W0 x ms).map dW) = true from nodAll (fun a => ordW.nod a) _), trivial⟩ (fun k => lk_FarD) (uk_Gu uk_G) fun hs' h0' => ?_)) ?_
  · show EN ⟨hs', h0', om, [.fz (RGk (RFarD x) ms), .fz (RD (.list ((W0 x ms).map dW))), .any, .any, .any, .any, .any, .any]⟩ _ _
    exact n_dcR (Rv := RvG fun m => m) (is := [7]) (Gs := fun m => [.fz (RGk (RFarD x) ms), .fz (RD (.list ((W0 x ms).map dW))), .any, .any, .any, .any, .any, .fz (RD (dP m))]) (w_keysR (e_var rfl)) mn rfl (by decide) (fun _ m hm => g_name) (fun _ m hm => e_var rfl) (fun _ m hm => e_var rfl) (by omega)
  show WC ⟨hs, less hs om, om, [.fz (RGu (RFarD x) ms), .fz (RD (.list ((W0 x ms).map dW))), .fz (RGu (RvG fun m => m) ms), .any, .any, .any, .any, .any]⟩ _
  try dsimp only
  refine s_seq ?_
  refine s_new (n_lst m_nil) ?_
  show WC ⟨hs, less hs om, om, [.fz (RGu (RFarD x) ms), .fz (RD (.list ((W0 x ms).map dW))), .fz (RGu (RvG fun m => m) ms), .own (OL (([] : List (Pl × Pl)).map dE)), .any, .any, .any, .any]⟩ _
  try dsimp only
  refine s_seq ?_
  have sl := SL_len (x := x) ml
  refine s_for (xs := SW x ms) (enc := dW) (fun i γ => γ = [.fz (RGu (RFarD x) ms), .fz (RD (.list ((W0 x ms).map dW))), .fz (RGu (RvG (krA ((SL x ms).take i)).2) ms), .own (OL ((krA ((SL x ms).take i)).1.map dE)), .any, .any, .any, .any]) (n_e (n_sortO ordW (i_of (e_var rfl)))) rfl ?_ ?_
  · rintro h1 i y γ kp hx rfl
    refine ⟨_, _, g_tup (gs_cons g_name (gs_cons g_name (gs_cons g_name gs_nil))), ?_⟩
    obtain ⟨s0, hs0⟩ : ∃ s0, s0 = krA ((SL x ms).take i) := ⟨_, rfl⟩
    have hx2 : (SL x ms)[i]? = some y.2 := by
      unfold SL
      rw [List.getElem?_map, hx]
      rfl
    have ki : (krA ((SL x ms).take i)).1.length ≤ 81 := by
      have := krA_len ((SL x ms).take i)
      rw [List.length_take] at this
      omega
    obtain ⟨m1, m2, _⟩ := mem_SL.mp (List.mem_of_getElem? hx2)
    have nx := krA_succ hx2
    rw [← hs0] at nx ki ⊢
    show WC ⟨hs, h1, om, [.fz (RGu (RFarD x) ms), .fz (RD (.list ((W0 x ms).map dW))), .fz (RGu (RvG s0.2) ms), .own (OL (s0.1.map dE)), .fz (RD (.int y.1)), .fz (RD (dP y.2.1)), .fz (RD (dP y.2.2)), .any]⟩ _
    refine s_if (t_T (e_op (show O2 (rNeD K) (RD (dP (s0.2 y.2.1))) (RD (dP (s0.2 y.2.2))) _ from o_neE (f := dP) (hd := inferInstance) enc_P (by decide) ⟨trivial, trivial⟩ ⟨trivial, trivial⟩) (e_getR (Rv := RvG s0.2) m1 (gu_d (e_var rfl)) (e_var rfl)) (e_getR (Rv := RvG s0.2) m2 (gu_d (e_var rfl)) (e_var rfl)))) (fun z => ?_) (fun z => ?_)
    · have z : ¬ s0.2 y.2.1 = s0.2 y.2.2 := by simpa using z
      refine s_seq ?_
      refine s_set (n_eGu (n_call (skn_spn (Rs := RsWj) (P := PWj) (C := fun a => OGu (RvG (uni a.2.1 a.2.2.1 a.2.2.2)) a.1) (ms, s0.2, y.2.1, y.2.2)) (a_cons (e_var rfl) (a_cons (e_var rfl) (a_cons (e_var rfl) a_nil))) (fun _ _ => ⟨mn, m1, m2, by show ms.length ≤ 100; omega⟩))) ?_
      show WC ⟨hs, h1, om, [.fz (RGu (RFarD x) ms), .fz (RD (.list ((W0 x ms).map dW))), .fz (RGu (RvG (uni s0.2 y.2.1 y.2.2)) ms), .own (OL (s0.1.map dE)), .fz (RD (.int y.1)), .fz (RD (dP y.2.1)), .fz (RD (dP y.2.2)), .any]⟩ _
      try dsimp only
      refine s_appM (xs := s0.1) (a := y.2) (enc := dE) rfl (e_tup (m_cons (e_var rfl) (m_cons (e_var rfl) m_nil))) (by omega) ?_
      refine s_drop 4 ?_
      refine s_drop 5 ?_
      refine s_drop 6 ?_
      refine s_of ?_
      rw [nx, show krS s0 y.2 = (s0.1 ++ [y.2], uni s0.2 y.2.1 y.2.2) from if_neg z]
      rfl
    · have z : s0.2 y.2.1 = s0.2 y.2.2 := by simpa using z
      refine s_pass ?_
      refine s_drop 4 ?_
      refine s_drop 5 ?_
      refine s_drop 6 ?_
      refine s_of ?_
      rw [nx, show krS s0 y.2 = s0 from if_pos z]
      rfl
  · rintro γ rfl
    have e : (SL x ms).take (SW x ms).length = SL x ms := List.take_of_length_le (by unfold SL; rw [List.length_map]; exact Nat.le_refl _)
    rw [e]
    try dsimp only
    exact s_retNew (n_sortO ordE (i_own rfl)) q
noncomputable def lenT (x : HX) (T : List (Pl × Pl)) : Int := (T.map fun e => dist (nbs x) e.1 e.2).sum
abbrev RsLn : HX × List Pl × List (Pl × Pl) → List Rel := fun a => [RGu (RFarD a.1) a.2.1, RD (.list (a.2.2.map dE))]
abbrev PLn : HX × List Pl × List (Pl × Pl) → Hp → Prop := fun a _ => (∀ m ∈ a.2.1, ∀ o ∈ a.2.1, Rea a.1 m o) ∧ (∀ e ∈ a.2.2, e.1 ∈ a.2.1 ∧ e.2 ∈ a.2.1) ∧ a.2.2.length ≤ 1000
abbrev spLn : Sp := Sps RsLn PLn fun a => RD (.int (lenT a.1 a.2.2))
theorem ok_lengthof {f : Addr} {fd : FuncData} (F : Fun K "_length_of" "_length_of" s__length_of f fd) (z_sum : mg "sum" = none) : FnOk P w K mg base CX0 2 f fd ["numbers", "tree"] spLn := by
  refine fn_ok F sc__length_of (fun _ => rfl) fun cdv A outer s H E0 hr => ?_
  have nd := sc__length_of.nd
  refine ⟨_, (pss_one (ps_ret (pe_callB (cr_sum rfl) (by rfl) z_sum (by decide +kernel) (pa_cons (pe_lc (own := [("one", 2), ("other", 3)]) (g := gTup K 2 (gCons (gName 2) (gCons (gName 3) gNil))) (tt := tYes) rfl nd (pi_list (pv 1)) (blkOk_by (N := ["numbers", "tree", "one", "other"]) (sc := defScope s__length_of) (by decide +kernel))
    (fun _ _ _ _ _ => (show PG _ _ (gTup K 2 (gCons (gName 2) (gCons (gName 3) gNil))) from pg_tup rfl (pgs_cons (pg_name (i := 2) nd rfl (.inl rfl)) (pgs_cons (pg_name (i := 3) nd rfl (.inl rfl)) pgs_nil)))) (fun _ _ _ _ _ => pts_nil) (fun _ _ _ _ _ => pe_dget (by exact Pk.Room.units1 hr) (pe_dget (by exact Pk.Room.units1 hr) (pv 0) (pv 2) (fun _ _ => rfl)) (pv 3) (fun _ _ => rfl))) pa_nil)))), ?_⟩
  rintro ⟨x, ms, T⟩ hs om Q ⟨re, hT, tl⟩ q
  show WC ⟨hs, less hs om, om, [.fz (RGu (RFarD x) ms), .fz (RD (.list (T.map dE))), .any, .any]⟩ _
  replace re : ∀ m ∈ ms, ∀ o ∈ ms, Rea x m o := re
  replace hT : ∀ e ∈ T, e.1 ∈ ms ∧ e.2 ∈ ms := hT
  replace tl : T.length ≤ 1000 := tl
  exact s_ret (e_cb o_sum (a_cons (n_e (n_lcM1 (xs := T) (enc := dE) (h := fun e => dist (nbs x) e.1 e.2) (encB := PyData.int) (is := [2, 3]) (i_of (e_var rfl)) rfl (by decide) (fun _ e he => g_tup (gs_cons g_name (gs_cons g_name gs_nil))) (fun _ e he _ => e_farD (dist_dst (re _ (hT e he).1 _ (hT e he).2)) (e_getR (Rv := RFarD x) (hT e he).1 (gu_d (e_var rfl)) (e_var rfl)) (e_var rfl)) (by omega))) a_nil)) q
end
section
open GxR NdefX PySem.Spec PyProof.Rows
variable {P : Program} {w : World} {K : PySem.W.Frag} {mg : Str → Option Value} {base : Heap}
theorem wk_cat {α : Type} {e : α → List (α × Int)} {s p : α} {d : Int} (h : Wk e s p d) : ∀ {q : α} {d' : Int}, Wk e p q d' → Wk e s q (d + d')
  | _, _, .nil => by
    rw [Int.add_zero]
    exact h
  | _, _, .snoc (d := d1) (l := l) w m => by
    rw [← Int.add_assoc]
    exact .snoc (wk_cat h w) m
theorem rea_cat {x : HX} (va : Valid x.1 x.2.1 x.2.2) {s p q : Pl} (h1 : Rea x s p) (h2 : Rea x p q) : Rea x s q := by
  obtain ⟨d1, h1⟩ := h1
  obtain ⟨d2, h2⟩ := h2
  obtain ⟨d, h, _⟩ := (wk_cat h1.1 h2.1).dst (bes_pos va)
  exact ⟨d, h⟩
theorem rea_back {x : HX} {s p : Pl} (h : Rea x s p) : Rea x p s := by
  obtain ⟨d, h⟩ := h
  exact ⟨d, h.back nbs_sym⟩
end
section
open GxR NdefX PySem.Spec PyProof.Rows
section
variable {X : Cx} {α : Type} {enc : α → PyData} {lt : α → α → Bool}
def rGtO (K : PySem.W.Frag) (enc : α → PyData) (lt : α → α → Bool) : R2 := fun x y H Q => ∃ a b, Dp K H x (enc a) ∧ Dp K H y (enc b) ∧ Q (.bl (lt b a)) H
theorem op_gtO (O : OrdD enc lt) (hu : X.A.units + 64 < cLine) : OpR X (compareOp .Gt) (rGtO X.K enc lt) := by
  intro pins s σ H x y v u Q I rx ry h
  obtain ⟨a, b, ha, hb, q⟩ := h
  obtain ⟨as, r1⟩ := Dp.reads I _ x v ha rx
  obtain ⟨bs, r2⟩ := Dp.reads I _ y u hb ry
  have d := O.dep a
  refine PySem.W.gt_data r1 r2 (O.al a b) (O.ne a) (by omega) ?_
  rw [O.lt_eq]
  exact ⟨.bl _, H, I, rfl, q⟩
end
variable {P : Program} {w : World} {K : PySem.W.Frag} {mg : Str → Option Value} {base : Heap} {b : Bool} {c : Ct} {ta tb ty : TE} {x : HX} {p q : Pl}
theorem o_gtO {α : Type} {enc : α → PyData} {lt : α → α → Bool} (O : OrdD enc lt) {x y : α} : O2 (rGtO K enc lt) (RD (enc x)) (RD (enc y)) (RD (.bool (lt y x))) := fun H M u v _ r1 r2 Q q =>
  ⟨x, y, (Dt.kp kp_less r1).dp (O.nod _), (Dt.kp kp_less r2).dp (O.nod _), q H _ (Kp.refl _) (.bl _)⟩
theorem e_ninR {Rv : Pl → Rel} {ks : List Pl} (ha : E b c ta (RGd Rv ks)) (hy : E b c ty (RD (dP p))) : E b c (tDNotIn ty ta) (RD (.bool (!decide (p ∈ ks)))) := fun σ H s Q k =>
  hy σ H s _ fun H1 y k1 r1 => ha σ H1 (s.kp k1) _ fun H2 v k2 r2 => by
    obtain ⟨t, rfl, ht⟩ := plT r1
    obtain ⟨a, kvs, rfl, h1, h2⟩ := r2
    refine ⟨a, valV kvs (plK p), rfl, .inr ⟨kvs, plK p, t, ?_, rfl, k2.tup ht, rfl⟩, ?_⟩
    · rcases h1 with h1 | ⟨od, h1⟩
      · exact .inl (less_some h1).2
      · exact .inr ⟨od, (less_some h1).2⟩
    · have e : (valV kvs (plK p)).isSome = decide (p ∈ ks) := by
        by_cases m : p ∈ ks
        · obtain ⟨v, hv, _⟩ := (rowR_get h2 p).1 m
          rw [hv, decide_eq_true m]
          rfl
        · rw [(rowR_get h2 p).2 m, decide_eq_false m]
          rfl
      rw [e]
      exact k H2 _ (k1.trans k2) (.bl _)
def joinsB (ms : List Pl) : (Pl → Pl) → List (Pl × Pl) → Bool
  | _, [] => true
  | g, e :: T => (decide (e.1 ∈ ms) && decide (e.2 ∈ ms)) && ((!lsP e.2 e.1 && !decide (g e.1 = g e.2)) && joinsB ms (uni g e.1 e.2) T)
def isTreeB (ms : List Pl) (T : List (Pl × Pl)) : Bool := (decide ((T.length : Int) = (ms.length : Int) - 1) && decide (T = sortO lsE T)) && joinsB ms (fun m => m) T
theorem drop_cons {α : Type} {T : List α} {i : Nat} {e : α} (h : T[i]? = some e) : T.drop i = e :: T.drop (i + 1) := by
  obtain ⟨hi, he⟩ := List.getElem?_eq_some_iff.mp h
  rw [List.drop_eq_getElem_cons hi, he]
abbrev RsIt (CT : Addr) : TD × List (Pl × Pl) → List Rel := fun a => [RTask CT a.1, RD (.list (a.2.map dE))]
abbrev PIt : TD × List (Pl × Pl) → Hp → Prop := fun a _ => a.1.ps.length ≤ 7
abbrev spIt (CT : Addr) : Sp := Sps (RsIt CT) PIt fun a => RD (.bool (isTreeB (mks a.1) a.2))
abbrev spMk (CT : Addr) : Sp := SpN (fun t : TD => [RTask CT t]) (fun t _ => t.ps.length ≤ 60) fun t => OL ((mks t).map dP)
theorem encT2P : Enc dE 2 (fun p : Pl × Pl => (True ∧ True) ∧ (True ∧ True)) := enc_T2 enc_P enc_P
theorem ok_istree {f fM fJ CT CIT : Addr} {fd fdM fdJ : FuncData} (F : Fun K "is_tree" "is_tree" s_is_tree f fd) (TT : TaskTxt K mg CT CIT) (z_len : mg "len" = none) (z_sorted : mg "sorted" = none)
    (GM : FnOk P w K mg base CX0 1 fM fdM ["self"] (spMk CT)) (bM : Binds K fdM ["self"] []) (mM : Meth K CT "marks" fM)
    (GJ : FnOk P w K mg base CX0 2 fJ fdJ ["groups", "one", "other"] spWj) (bJ : Binds K fdJ ["groups", "one", "other"] []) (gJ : mg "_with_joined" = some (.ref fJ)) (kJ : PySem.W.keepIn K (.ref fJ) = true) :
    FnOk P w K mg base CX0 3 f fd ["task", "tree"] (spIt CT) := by
  refine fn_ok F sc_is_tree (fun _ => rfl) fun cdv A outer s H E0 hr => ?_
  have nd := sc_is_tree.nd
  refine ⟨_, (pss_cons (ps_set (i := 2) nd rfl (.inl rfl) (pe_meth0 (pv 0) TT.cl mM GM (by exact hr.mono (by decide)) bM .nil pass0))
    (pss_cons (ps_if (PW.pt (pw_or (pt_cmpR (r := rNe) op_ne (pe_callB call_len (by rfl) z_len (by decide +kernel) (pa_cons (pv 1) pa_nil)) (pe_op op_sub (pe_callB call_len (by rfl) z_len (by decide +kernel) (pa_cons (pv 2) pa_nil)) pe_int) (nomark _)) (pw_or1 (pt_cmpR (r := rNeD K) (op_neD hr.units) (pv 1) (pe_callB (cr_sortO ordE (by exact hr.units)) (by rfl) z_sorted (by decide +kernel) (pa_cons (pv 1) pa_nil)) (nomark _))))) (pss_one (ps_ret pe_bl)) pss_nil)
    (pss_cons (ps_setDcT (i := 3) (own := [("mark", 6)]) (g := gName 6) rfl (by exact hr.units0) nd rfl rfl rfl (pi_list (pv 2)) (blkOk_by (N := ["task", "tree", "marks", "groups", "one", "other", "mark"]) (sc := defScope s_is_tree) (by decide +kernel)) (fun _ _ _ _ _ => ⟨pg_name (i := 6) nd rfl (.inl rfl), pv 6, pv 6⟩))
    (pss_cons (ps_for PassesOwn.never rfl (pi_list (pv 1)) (pg_tup rfl (pgs_cons (pg_name (i := 4) nd rfl (.inl rfl)) (pgs_cons (pg_name (i := 5) nd rfl (.inl rfl)) pgs_nil)))
      (pss_cons (ps_if (PW.pt (pw_or (pt_cmp (pc_dnotin (by exact Pk.Room.units1 hr) (pv 4) (pv 3))) (pw_or1 (pt_cmp (pc_dnotin (by exact Pk.Room.units1 hr) (pv 5) (pv 3)))))) (pss_one (ps_ret pe_bl)) pss_nil)
      (pss_cons (ps_if (PW.pt (pw_or (pt_cmpR (r := rGtO K dP lsP) (op_gtO ordP (by exact hr.units)) (pv 4) (pv 5) (nomark _)) (pw_or1 (pt_cmpR (r := rEqD K) (op_eqD hr.units) (pe_dget (by exact Pk.Room.units1 hr) (pv 3) (pv 4) (fun _ _ => rfl)) (pe_dget (by exact Pk.Room.units1 hr) (pv 3) (pv 5) (fun _ _ => rfl)) (nomark _))))) (pss_one (ps_ret pe_bl)) pss_nil)
      (pss_one (ps_set (i := 3) nd rfl (.inl rfl) (pe_call GJ (by exact hr.mono (by decide)) (by rfl) gJ kJ bJ .nil pass0 (pa_cons (pv 3) (pa_cons (pv 4) (pa_cons (pv 5) pa_nil)))))))))
    (pss_one (ps_ret pe_bl)))))), ?_⟩
  rintro ⟨t, T⟩ hs om Q l7 q
  show WC ⟨hs, less hs om, om, [.fz (RTask CT t), .fz (RD (.list (T.map dE))), .any, .any, .any, .any, .any]⟩ _
  replace l7 : t.ps.length ≤ 7 := l7
  replace q : ∀ H' v, Kp hs H' → (RD (.bool (isTreeB (mks t) T))).p (less H' om) v → Q v H' := q
  refine s_seq ?_
  refine s_set (n_e (n_meth (hi_task (by decide +kernel) (by decide +kernel) (by decide +kernel)) (skn_spn (Rs := fun t : TD => [RTask CT t]) (P := fun t _ => t.ps.length ≤ 60) (C := fun t => OL ((mks t).map dP)) t) (e_var rfl) a_nil (fun _ _ => by show t.ps.length ≤ 60; omega))) ?_
  have mn : (mks t).Nodup := marksP_nd
  have ml := mks_len l7
  generalize mks t = ms at mn ml q ⊢
  show WC ⟨hs, less hs om, om, [.fz (RTask CT t), .fz (RD (.list (T.map dE))), .fz (RD (.list (ms.map dP))), .any, .any, .any, .any]⟩ _
  try dsimp only
  refine s_seq ?_
  refine s_if (t_or (t_T (e_op o_neI (e_cb o_lenM (a_cons (e_var rfl) a_nil)) (e_op o_sub (e_cb o_lenM (a_cons (e_var rfl) a_nil)) e_int))) (fun _ => t_T (e_op (show O2 (rNeD K) (RD (.list (T.map dE))) (RD (.list ((sortO lsE T).map dE))) _ from o_neE (f := fun xs : List (Pl × Pl) => .list (xs.map dE)) (a := T) (b := sortO lsE T) (hd := inferInstance) (enc_list encT2P) (by decide) (fun _ _ => ⟨⟨trivial, trivial⟩, ⟨trivial, trivial⟩⟩) (fun _ _ => ⟨⟨trivial, trivial⟩, ⟨trivial, trivial⟩⟩)) (e_var rfl) (n_e (n_sortO ordE (i_of (e_var rfl))))))) (fun z => ?_) (fun z => ?_)
  · refine s_ret (Pk.E.eq e_bl ?_) q
    have : (decide ((T.length : Int) = (ms.length : Int) - 1) && decide (T = sortO lsE T)) = false := by
      rw [Bool.or_eq_true, Bool.not_eq_true', Bool.not_eq_true'] at z
      rcases z with z | z
      · rw [z]; rfl
      · rw [z, Bool.and_false]
    unfold isTreeB
    rw [this]
    rfl
  have e0 : isTreeB ms T = joinsB ms (fun m => m) T := by
    rw [Bool.or_eq_false_iff, Bool.not_eq_false', Bool.not_eq_false'] at z
    unfold isTreeB
    rw [z.1, z.2]
    rfl
  rw [e0] at q
  refine s_pass ?_
  refine s_seq ?_
  refine s_set (R := RGu (RvG fun m => m) ms) (n_eGu (n_dcR (Rv := RvG fun m => m) (is := [6]) (Gs := fun m => [.fz (RTask CT t), .fz (RD (.list (T.map dE))), .fz (RD (.list (ms.map dP))), .any, .any, .any, .fz (RD (dP m))]) (w_list (e_var rfl)) mn rfl (by decide) (fun _ m hm => g_name) (fun _ m hm => e_var rfl) (fun _ m hm => e_var rfl) (by omega))) ?_
  show WC ⟨hs, less hs om, om, [.fz (RTask CT t), .fz (RD (.list (T.map dE))), .fz (RD (.list (ms.map dP))), .fz (RGu (RvG fun m => m) ms), .any, .any, .any]⟩ _
  try dsimp only
  refine s_seq ?_
  refine s_for (xs := T) (enc := dE) (fun i γ => ∃ g : Pl → Pl, γ = [.fz (RTask CT t), .fz (RD (.list (T.map dE))), .fz (RD (.list (ms.map dP))), .fz (RGu (RvG g) ms), .any, .any, .any] ∧ joinsB ms g (T.drop i) = joinsB ms (fun m => m) T) (e_var rfl) ⟨_, rfl, rfl⟩ ?_ ?_
  · rintro h1 i e γ kp hx ⟨g, rfl, ig⟩
    refine ⟨_, _, g_tup (gs_cons g_name (gs_cons g_name gs_nil)), ?_⟩
    show WC ⟨hs, h1, om, [.fz (RTask CT t), .fz (RD (.list (T.map dE))), .fz (RD (.list (ms.map dP))), .fz (RGu (RvG g) ms), .fz (RD (dP e.1)), .fz (RD (dP e.2)), .any]⟩ _
    rw [drop_cons hx] at ig
    replace ig : ((decide (e.1 ∈ ms) && decide (e.2 ∈ ms)) && ((!lsP e.2 e.1 && !decide (g e.1 = g e.2)) && joinsB ms (uni g e.1 e.2) (T.drop (i + 1)))) = joinsB ms (fun m => m) T := ig
    refine s_seq ?_
    refine s_if (t_or (t_B (e_ninR (gu_d (e_var rfl)) (e_var rfl))) (fun _ => t_B (e_ninR (gu_d (e_var rfl)) (e_var rfl)))) (fun z => ?_) (fun z => ?_)
    · refine s_ret (Pk.E.eq e_bl ?_) q
      rw [← ig]
      rw [Bool.or_eq_true, Bool.not_eq_true', Bool.not_eq_true'] at z
      rcases z with z | z
      · rw [z]; rfl
      · rw [z, Bool.and_false]; rfl
    rw [Bool.or_eq_false_iff, Bool.not_eq_false', Bool.not_eq_false'] at z
    rw [z.1, z.2, Bool.true_and, Bool.true_and] at ig
    have m1 : e.1 ∈ ms := of_decide_eq_true z.1
    have m2 : e.2 ∈ ms := of_decide_eq_true z.2
    refine s_pass ?_
    refine s_seq ?_
    refine s_if (t_or (t_T (e_op (o_gtO ordP) (e_var rfl) (e_var rfl))) (fun _ => t_T (e_op (show O2 (rEqD K) (RD (dP (g e.1))) (RD (dP (g e.2))) _ from o_eqE (f := dP) (hd := inferInstance) enc_P (by decide) ⟨trivial, trivial⟩ ⟨trivial, trivial⟩) (e_getR (Rv := RvG g) m1 (gu_d (e_var rfl)) (e_var rfl)) (e_getR (Rv := RvG g) m2 (gu_d (e_var rfl)) (e_var rfl))))) (fun z => ?_) (fun z => ?_)
    · refine s_ret (Pk.E.eq e_bl ?_) q
      rw [← ig]
      rw [Bool.or_eq_true] at z
      rcases z with z | z
      · rw [z]; rfl
      · rw [z, Bool.not_true, Bool.and_false]; rfl
    rw [Bool.or_eq_false_iff] at z
    rw [z.1, z.2, Bool.not_false, Bool.true_and, Bool.true_and] at ig
    refine s_pass ?_
    refine s_set (n_eGu (n_call (skn_spn (Rs := RsWj) (P := PWj) (C := fun a => OGu (RvG (uni a.2.1 a.2.2.1 a.2.2.2)) a.1) (ms, g, e.1, e.2)) (a_cons (e_var rfl) (a_cons (e_var rfl) (a_cons (e_var rfl) a_nil))) (fun _ _ => ⟨mn, m1, m2, by show ms.length ≤ 100; omega⟩))) ?_
    show WC ⟨hs, h1, om, [.fz (RTask CT t), .fz (RD (.list (T.map dE))), .fz (RD (.list (ms.map dP))), .fz (RGu (RvG (uni g e.1 e.2)) ms), .fz (RD (dP e.1)), .fz (RD (dP e.2)), .any]⟩ _
    try dsimp only
    refine s_drop 4 ?_
    refine s_drop 5 ?_
    exact s_of ⟨_, rfl, ig⟩
  · rintro γ ⟨g, rfl, ig⟩
    rw [List.drop_length] at ig
    try dsimp only
    refine s_ret (Pk.E.eq e_bl ?_) q
    rw [← ig]
    rfl
section
variable {C CT CU : Addr} {h : HD} {t : TD}
theorem skn_lm (hc : cutO h.x t.st t.en t.ps = none) : Skn (spLm C CT CU) [RHouse C h, RTask CT t] (fun _ => PNr (h, t)) (OGu (RFarD h.x) (mks t)) := fun H om vs ho hR hp Q E k => ⟨(h, t), om, ho, hR, hp, fun _ => k, fun r z => by
  rw [show cutO h.x t.st t.en t.ps = some r from z] at hc
  cases hc⟩
/-- never a value -/
def EV (c : Ct) (te : TE) : Prop := ∀ σ H, Sta c σ H → ∀ Q : VK, te σ H Q
theorem ev_lm {r : Pl} {ta : TA} {E' : XK} (hP : PNr (h, t)) (hc : cutO h.x t.st t.en t.ps = some r) (ha : EA true c ta (RsNr C CT (h, t)))
    (k : ∀ H' d v, Kp c.hs H' → H' d = some (.xd [("place", v)]) → (RD (dP r)).p (less H' c.om) v → E' (.ref CU) (some d) H') : EV c (tCall (spLm C CT CU) [] E' ta) := fun σ H s Q => ha σ H s _ fun H1 vs k1 r1 => by
  rw [List.append_nil]
  refine ⟨(h, t), msk true c σ, (s.kp k1).hd, r1, hP, fun z => (by rw [show cutO h.x t.st t.en t.ps = none from z] at hc; cases hc), fun r' z H' d v k2 e rv => ?_⟩
  rw [show cutO h.x t.st t.en t.ps = some r' from z] at hc
  cases hc
  have rv2 : (RD (dP r)).p (bas c σ H') v := by
    rw [← hb_t]
    exact rv
  exact k H' d v (s.ks.trans (k1.trans k2)) e ((RD (dP r)).mn (less_mono fun _ z => .inr z) rv2)
theorem rea_all (hP : PNr (h, t)) (hc : cutO h.x t.st t.en t.ps = none) : ∀ m ∈ mks t, ∀ o ∈ mks t, Rea h.x m o := by
  obtain ⟨hd, hw, l7⟩ := hP
  replace hd : Drawn h.x := hd
  have st : ∀ m ∈ mks t, Rea h.x t.st m := fun m hm => by
    rcases List.mem_append.mp (mem_mks.mp hm) with z | z
    · rcases List.mem_cons.mp z with y | y
      · rw [y]; exact ⟨0, Dst.self (bes_pos hd.v)⟩
      · exact gone_rea hc m (List.mem_append_left _ y)
    · exact gone_rea hc m (List.mem_append_right _ z)
  exact fun m hm o ho => rea_cat hd.v (rea_back (st m hm)) (st o ho)
abbrev spLt (C CT CU : Addr) : Sp := fun vs H Q E => ∃ (a : HD × TD) (om : Addr → Prop), Hd H om ∧ Rok (RsNr C CT a) (less H om) vs ∧ PNr a ∧
  (cutO a.1.x a.2.st a.2.en a.2.ps = none → ∀ H' p o, Kp H H' → H' p = none → (OL ((treeL a.1.x (mks a.2)).map dE)).p (less H' om) o → Q (.ref p) (upd H' p o)) ∧
  (∀ r, cutO a.1.x a.2.st a.2.en a.2.ps = some r → ∀ H' d v, Kp H H' → H' d = some (.xd [("place", v)]) → (RD (dP r)).p (less H' om) v → E (.ref CU) (some d) H')
abbrev RsTl (C CT : Addr) : HD × TD × List (Pl × Pl) → List Rel := fun a => [RHouse C a.1, RTask CT a.2.1, RD (.list (a.2.2.map dE))]
abbrev spTl (C CT CU : Addr) (Pr : HD × TD × List (Pl × Pl) → Prop) (R : HD × TD × List (Pl × Pl) → Rel) : Sp := fun vs H Q E => ∃ (a : HD × TD × List (Pl × Pl)) (om : Addr → Prop), Hd H om ∧ Rok (RsTl C CT a) (less H om) vs ∧ PNr (a.1, a.2.1) ∧ a.2.2.length ≤ 1000 ∧ Pr a ∧
  (cutO a.1.x a.2.1.st a.2.1.en a.2.1.ps = none → ∀ H' v, Kp H H' → (R a).p (less H' om) v → Q v H') ∧
  (∀ r, cutO a.1.x a.2.1.st a.2.1.en a.2.1.ps = some r → ∀ H' d v, Kp H H' → H' d = some (.xd [("place", v)]) → (RD (dP r)).p (less H' om) v → E (.ref CU) (some d) H')
abbrev inMs : HD × TD × List (Pl × Pl) → Prop := fun a => ∀ e ∈ a.2.2, e.1 ∈ mks a.2.1 ∧ e.2 ∈ mks a.2.1
theorem ok_leasttree {f fL fP : Addr} {fd fdL fdP : FuncData} (F : Fun K "least_tree" "least_tree" s_least_tree f fd)
    (GL : FnOk P w K mg base (L2.CX P w) 8 fL fdL ["house", "task"] (spLm C CT CU)) (bL : Binds K fdL ["house", "task"] []) (gL : mg "_levels_of_marks" = some (.ref fL)) (kL : PySem.W.keepIn K (.ref fL) = true)
    (GP : FnOk P w K mg base CX0 3 fP fdP ["numbers"] spLp) (bP : Binds K fdP ["numbers"] []) (gP : mg "_least_pairs" = some (.ref fP)) (kP : PySem.W.keepIn K (.ref fP) = true) :
    FnOk P w K mg base (L2.CX P w) 9 f fd ["house", "task"] (spLt C CT CU) := by
  refine F.okX sc_least_tree (fun vs H Q E h => ?_) (fun cdv A outer s H vs Q E hr h => ?_)
  · obtain ⟨a, om, ho, hr, _⟩ := h
    exact hr.len
  · obtain ⟨⟨h, t⟩, om, ho, hR, hP, q1, q2⟩ := h
    have nd := sc_least_tree.nd
    refine ⟨_, (pss_one (ps_ret (pe_call GP (by exact hr.mono (by decide)) (by rfl) gP kP bP .nil pass0 (pa_cons (pe_call GL (by exact hr.mono (by decide)) (by rfl) gL kL bL .nil (passes_call (takes_of rfl rfl rfl rfl) fun _ _ _ _ h => h) (pa_cons (pv 0) (pa_cons (pv 1) pa_nil))) pa_nil)))), ?_⟩
    have st := sta_start (N := ["house", "task"]) ho hR
    refine (?_ : WC ⟨H, less H om, om, [.fz (RHouse C h), .fz (RTask CT t)]⟩ _) _ _ st
    obtain ⟨hd, hw, l7⟩ := id hP
    replace l7 : t.ps.length ≤ 7 := l7
    cases hc : cutO h.x t.st t.en t.ps with
    | some r => exact fun σ H1 s => ev_lm (h := h) (t := t) hP hc (a_cons (e_var rfl) (a_cons (e_var rfl) a_nil)) (q2 r hc) σ H1 s _
    | none => exact s_retNew (n_call (skn_spn (Rs := RsLp) (P := PLp) (C := fun a => OL ((treeL a.1 a.2).map dE)) (h.x, mks t)) (a_cons (n_eGu (n_call (skn_lm (h := h) (t := t) hc) (a_cons (e_var rfl) (a_cons (e_var rfl) a_nil)) (fun _ _ => hP))) a_nil) (fun _ _ => ⟨marksP_nd, mks_len l7, rea_all hP hc⟩)) (q1 hc)
theorem ok_treelength {f fL fN : Addr} {fd fdL fdN : FuncData} (F : Fun K "tree_length" "tree_length" s_tree_length f fd)
    (GL : FnOk P w K mg base (L2.CX P w) 8 fL fdL ["house", "task"] (spLm C CT CU)) (bL : Binds K fdL ["house", "task"] []) (gL : mg "_levels_of_marks" = some (.ref fL)) (kL : PySem.W.keepIn K (.ref fL) = true)
    (GN : FnOk P w K mg base CX0 2 fN fdN ["numbers", "tree"] spLn) (bN : Binds K fdN ["numbers", "tree"] []) (gN : mg "_length_of" = some (.ref fN)) (kN : PySem.W.keepIn K (.ref fN) = true) :
    FnOk P w K mg base (L2.CX P w) 9 f fd ["house", "task", "tree"] (spTl C CT CU inMs fun a => RD (.int (lenT a.1.x a.2.2))) := by
  refine F.okX sc_tree_length (fun vs H Q E h => ?_) (fun cdv A outer s H vs Q E hr h => ?_)
  · obtain ⟨a, om, ho, hr, _⟩ := h
    exact hr.len
  · obtain ⟨⟨h, t, T⟩, om, ho, hR, hP, tl, hT, q1, q2⟩ := h
    have nd := sc_tree_length.nd
    refine ⟨_, (pss_one (ps_ret (pe_call GN (by exact hr.mono (by decide)) (by rfl) gN kN bN .nil pass0 (pa_cons (pe_call GL (by exact hr.mono (by decide)) (by rfl) gL kL bL .nil (passes_call (takes_of rfl rfl rfl rfl) fun _ _ _ _ h => h) (pa_cons (pv 0) (pa_cons (pv 1) pa_nil))) (pa_cons (pv 2) pa_nil))))), ?_⟩
    have st := sta_start (N := ["house", "task", "tree"]) ho hR
    refine (?_ : WC ⟨H, less H om, om, [.fz (RHouse C h), .fz (RTask CT t), .fz (RD (.list (T.map dE)))]⟩ _) _ _ st
    replace hP : PNr (h, t) := hP
    replace tl : T.length ≤ 1000 := tl
    replace hT : ∀ e ∈ T, e.1 ∈ mks t ∧ e.2 ∈ mks t := hT
    cases hc : cutO h.x t.st t.en t.ps with
    | some r => exact fun σ H1 s => ev_lm (h := h) (t := t) hP hc (a_cons (e_var rfl) (a_cons (e_var rfl) a_nil)) (q2 r hc) σ H1 s _
    | none => exact s_ret (c_call (sok_sps (Rs := RsLn) (P := PLn) (R := fun a => RD (.int (lenT a.1 a.2.2))) (h.x, mks t, T)) (a_cons (n_eGu (n_call (skn_lm (h := h) (t := t) hc) (a_cons (e_var rfl) (a_cons (e_var rfl) a_nil)) (fun _ _ => hP))) (a_cons (e_var rfl) a_nil)) (fun _ _ => ⟨rea_all hP hc, hT, tl⟩)) (q1 hc)
theorem joins_in : ∀ {T : List (Pl × Pl)} {ms : List Pl} {g : Pl → Pl}, joinsB ms g T = true → ∀ e ∈ T, e.1 ∈ ms ∧ e.2 ∈ ms
  | [], _, _, _, _, he => nomatch he
  | e :: T, ms, g, h, y, hy => by
    have h : ((decide (e.1 ∈ ms) && decide (e.2 ∈ ms)) && ((!lsP e.2 e.1 && !decide (g e.1 = g e.2)) && joinsB ms (uni g e.1 e.2) T)) = true := h
    simp only [Bool.and_eq_true, decide_eq_true_eq] at h
    rcases List.mem_cons.mp hy with z | z
    · rw [z]; exact h.1
    · exact joins_in h.2.2 y z
noncomputable def isLeastB (x : HX) (ms : List Pl) (T : List (Pl × Pl)) : Bool := isTreeB ms T && decide (lenT x T = lenT x (treeL x ms))
theorem treeL_in {ms : List Pl} : ∀ e ∈ treeL x ms, e.1 ∈ ms ∧ e.2 ∈ ms := fun e he => by
  unfold treeL at he
  rw [sortO_mem, krA_eq] at he
  have := mem_SL.mp (kr_sub.subset he)
  exact ⟨this.1, this.2.1⟩
theorem treeL_len {ms : List Pl} (l : ms.length ≤ 9) : (treeL x ms).length ≤ 81 := by
  unfold treeL
  rw [sortO_len]
  exact Nat.le_trans (krA_len _) (SL_len l)
theorem ok_isleast {f fL fN fT fP : Addr} {fd fdL fdN fdT fdP : FuncData} (F : Fun K "is_least_tree" "is_least_tree" s_is_least_tree f fd)
    (GL : FnOk P w K mg base (L2.CX P w) 8 fL fdL ["house", "task"] (spLm C CT CU)) (bL : Binds K fdL ["house", "task"] []) (gL : mg "_levels_of_marks" = some (.ref fL)) (kL : PySem.W.keepIn K (.ref fL) = true)
    (GT : FnOk P w K mg base CX0 3 fT fdT ["task", "tree"] (spIt CT)) (bT : Binds K fdT ["task", "tree"] []) (gT : mg "is_tree" = some (.ref fT)) (kT : PySem.W.keepIn K (.ref fT) = true)
    (GN : FnOk P w K mg base CX0 2 fN fdN ["numbers", "tree"] spLn) (bN : Binds K fdN ["numbers", "tree"] []) (gN : mg "_length_of" = some (.ref fN)) (kN : PySem.W.keepIn K (.ref fN) = true)
    (GP : FnOk P w K mg base CX0 3 fP fdP ["numbers"] spLp) (bP : Binds K fdP ["numbers"] []) (gP : mg "_least_pairs" = some (.ref fP)) (kP : PySem.W.keepIn K (.ref fP) = true) :
    FnOk P w K mg base (L2.CX P w) 9 f fd ["house", "task", "tree"] (spTl C CT CU (fun _ => True) fun a => RD (.bool (isLeastB a.1.x (mks a.2.1) a.2.2))) := by
  refine F.okX sc_is_least_tree (fun vs H Q E h => ?_) (fun cdv A outer s H vs Q E hr h => ?_)
  · obtain ⟨a, om, ho, hr, _⟩ := h
    exact hr.len
  · obtain ⟨⟨h, t, T⟩, om, ho, hR, hP, tl, _, q1, q2⟩ := h
    have nd := sc_is_least_tree.nd
    refine ⟨_, (pss_cons (ps_set (i := 3) nd rfl (.inl rfl) (pe_call GL (by exact hr.mono (by decide)) (by rfl) gL kL bL .nil (passes_call (takes_of rfl rfl rfl rfl) fun _ _ _ _ h => h) (pa_cons (pv 0) (pa_cons (pv 1) pa_nil))))
      (pss_cons (ps_if (pt_not (pt_val (pe_call GT (by exact hr.mono (by decide)) (by rfl) gT kT bT .nil pass0 (pa_cons (pv 1) (pa_cons (pv 2) pa_nil))))) (pss_one (ps_ret pe_bl)) pss_nil)
      (pss_one (ps_ret (pe_cmpR (r := rEq) op_eq (pe_call GN (by exact hr.mono (by decide)) (by rfl) gN kN bN .nil pass0 (pa_cons (pv 3) (pa_cons (pv 2) pa_nil))) (pe_call GN (by exact hr.mono (by decide)) (by rfl) gN kN bN .nil pass0 (pa_cons (pv 3) (pa_cons (pe_call GP (by exact hr.mono (by decide)) (by rfl) gP kP bP .nil pass0 (pa_cons (pv 3) pa_nil)) pa_nil))) (nomark _)))))), ?_⟩
    have st := sta_start (N := ["house", "task", "tree", "numbers"]) ho hR
    refine (?_ : WC ⟨H, less H om, om, [.fz (RHouse C h), .fz (RTask CT t), .fz (RD (.list (T.map dE))), .any]⟩ _) _ _ st
    replace hP : PNr (h, t) := hP
    replace tl : T.length ≤ 1000 := tl
    have l7 : t.ps.length ≤ 7 := hP.2.2
    refine s_seq ?_
    cases hc : cutO h.x t.st t.en t.ps with
    | some r => exact fun σ H1 s => ev_lm (h := h) (t := t) hP hc (a_cons (e_var rfl) (a_cons (e_var rfl) a_nil)) (q2 r hc) σ H1 s _
    | none =>
      replace q1 : ∀ H' v, Kp H H' → (RD (.bool (isLeastB h.x (mks t) T))).p (less H' om) v → Q v H' := q1 hc
      have re := rea_all hP hc
      refine s_set (n_eGu (n_call (skn_lm (h := h) (t := t) hc) (a_cons (e_var rfl) (a_cons (e_var rfl) a_nil)) (fun _ _ => hP))) ?_
      show WC ⟨H, less H om, om, [.fz (RHouse C h), .fz (RTask CT t), .fz (RD (.list (T.map dE))), .fz (RGu (RFarD h.x) (mks t))]⟩ _
      try dsimp only
      refine s_seq ?_
      refine s_if (t_not (t_B (show Pk.E _ _ _ (RD (.bool (isTreeB (mks t) T))) from c_call (sok_sps (Rs := RsIt CT) (P := PIt) (R := fun a => RD (.bool (isTreeB (mks a.1) a.2))) (t, T)) (a_cons (e_var rfl) (a_cons (e_var rfl) a_nil)) (fun _ _ => l7)))) (fun z => ?_) (fun z => ?_)
      · refine s_ret (Pk.E.eq e_bl ?_) q1
        rw [Bool.not_eq_true'] at z
        unfold isLeastB
        rw [z]
        rfl
      rw [Bool.not_eq_false'] at z
      have hT := joins_in (Bool.and_eq_true _ _ ▸ z : _ ∧ _).2
      refine s_pass ?_
      refine s_ret (Pk.E.eq (e_op o_eqI (show Pk.E _ _ _ (RD (.int (lenT h.x T))) from c_call (sok_sps (Rs := RsLn) (P := PLn) (R := fun a => RD (.int (lenT a.1 a.2.2))) (h.x, mks t, T)) (a_cons (e_var rfl) (a_cons (e_var rfl) a_nil)) (fun _ _ => ⟨re, hT, tl⟩))
        (show Pk.E _ _ _ (RD (.int (lenT h.x (treeL h.x (mks t))))) from c_call (sok_sps (Rs := RsLn) (P := PLn) (R := fun a => RD (.int (lenT a.1 a.2.2))) (h.x, mks t, treeL h.x (mks t))) (a_cons (e_var rfl) (a_cons (n_e (n_call (skn_spn (Rs := RsLp) (P := PLp) (C := fun a => OL ((treeL a.1 a.2).map dE)) (h.x, mks t)) (a_cons (e_var rfl) a_nil) (fun _ _ => ⟨marksP_nd, mks_len l7, re⟩))) a_nil)) (fun _ _ => ⟨re, treeL_in, Nat.le_trans (treeL_len (mks_len l7)) (by decide)⟩))) ?_) q1
      unfold isLeastB
      rw [z, Bool.true_and]
end
end
section
open GxR NdefX PySem.Spec PyProof.Rows
variable {P : Program} {w : World} {K : PySem.W.Frag} {mg : Str → Option Value} {base : Heap} {b : Bool} {c : Ct} {t ta tb ty : TE} {x : HX} {p q : Pl} {M : MapE} {e : Pl × Pl} {n : Int}
def OLk (C : Own) : Prop := ∀ (H : Hp) (o : HO) (d : Addr) (u : HO) (od : Obj), DL u → H d = some u → C.p H o → C.p (upd H d (.frz od u)) o
theorem olk_OL {ds : List PyData} (n : nods ds = true) : OLk (OL ds) := fun H o a u od hu e ⟨vs, eo, r⟩ => ⟨vs, eo, r.sq (seqkp_upd e hu.l hu.t) n⟩
def AllLk2 : List Slot → Prop
  | [] => True
  | .fz R :: g => Lk R ∧ AllLk2 g
  | .own C :: g => OLk C ∧ AllLk2 g
  | .any :: g => AllLk2 g
theorem AllLk2.at : ∀ {g : List Slot}, AllLk2 g → ∀ {j : Nat}, (∀ (R : Rel), g[j]? = some (.fz R) → Lk R) ∧ ∀ (C : Own), g[j]? = some (.own C) → OLk C
  | [], _, _ => And.intro (fun _ e => by simp at e) (fun _ e => by simp at e)
  | .fz S :: g, h, 0 => And.intro (fun _ e => by cases e; exact h.1) (fun _ e => by cases e)
  | .fz S :: g, h, j + 1 => AllLk2.at (g := g) h.2
  | .any :: g, h, 0 => And.intro (fun _ e => by cases e) (fun _ e => by cases e)
  | .any :: g, h, j + 1 => AllLk2.at (g := g) h
  | .own C :: g, h, 0 => And.intro (fun _ e => by cases e) (fun _ e => by cases e; exact h.1)
  | .own C :: g, h, j + 1 => AllLk2.at (g := g) h.2
theorem Sta.lkO {c : Ct} {σ : L2.St} {H : Hp} (s : Sta c σ H) {i : Nat} {R R' : Rel} {d : Addr} {u0 : HO} {od : Obj} {v : V} (hu : DL u0) (e3 : bas c σ H d = some u0) (ei : c.g[i]? = some (.fz R)) (ev : σ[i]? = some (some v)) (hR : R'.p (upd (bas c σ H) d (.frz od u0)) v) (st : AllLk2 (c.g.set i .any)) :
    Sta ⟨upd c.hs d (.frz od u0), upd (bas c σ H) d (.frz od u0), c.om, c.g.set i (.fz R')⟩ σ (upd H d (.frz od u0)) := by
  obtain ⟨nm, eH⟩ := less_some e3
  have own' : ∀ a, isOwn (c.g.set i (.fz R')) σ a ↔ isOwn c.g σ a := fun a => by
    constructor
    · rintro ⟨j, C, e1, e2⟩
      rcases getset e1 with ⟨_, z⟩ | ⟨_, z⟩
      · cases z
      · exact ⟨j, C, z, e2⟩
    · rintro ⟨j, C, e1, e2⟩
      refine ⟨j, C, ?_, e2⟩
      rw [List.getElem?_set_ne fun z => by rw [← z, ei] at e1; cases e1]
      exact e1
  have eb : bas ⟨upd c.hs d (.frz od u0), upd (bas c σ H) d (.frz od u0), c.om, c.g.set i (.fz R')⟩ σ (upd H d (.frz od u0)) = upd (bas c σ H) d (.frz od u0) := by
    funext a
    by_cases m : isOwn c.g σ a ∨ c.om a
    · have m' : isOwn (c.g.set i (.fz R')) σ a ∨ c.om a := m.elim (fun z => .inl ((own' a).mpr z)) .inr
      rw [bas_in (c := ⟨upd c.hs d (.frz od u0), upd (bas c σ H) d (.frz od u0), c.om, c.g.set i (.fz R')⟩) m']
      have ad : a ≠ d := fun z => nm (by rw [← z]; exact m)
      rw [upd_ne ad, bas_in m]
    · have m' : ¬ (isOwn (c.g.set i (.fz R')) σ a ∨ c.om a) := fun z => m (z.elim (fun y => .inl ((own' a).mp y)) .inr)
      rw [bas_out (c := ⟨upd c.hs d (.frz od u0), upd (bas c σ H) d (.frz od u0), c.om, c.g.set i (.fz R')⟩) m']
      by_cases ad : a = d
      · rw [ad, upd_same, upd_same]
      · rw [upd_ne ad, upd_ne ad, bas_out m]
  have back : ∀ {j : Nat} {C : Own}, (c.g.set i (.fz R'))[j]? = some (.own C) → j ≠ i ∧ c.g[j]? = some (.own C) := fun {j C} z => by
    rcases getset z with ⟨_, y⟩ | y
    · cases y
    · exact y
  have ks : Kp (upd c.hs d (.frz od u0)) (upd H d (.frz od u0)) := by
    refine ⟨fun y o ey n => ?_, fun T ht => ?_⟩
    · by_cases z : y = d
      · subst z
        rw [upd_same] at ey ⊢
        exact ey
      · rw [upd_ne z] at ey ⊢
        exact s.ks.at_ y o ey n
    · obtain ⟨ps, e4, e5⟩ := ht
      have td : T ≠ d := fun z => by rw [z, upd_same] at e4; cases e4
      rw [upd_ne td] at e4
      obtain ⟨qs, e6, e7⟩ := s.ks.tab T ⟨ps, e4, e5⟩
      exact ⟨qs, by rw [upd_ne td]; exact e6, e7⟩
  refine ⟨by show _ = (c.g.set i _).length; rw [List.length_set]; exact s.len, fun j S q => ?_, fun j C q => ?_, fun j k C C' p q1 q2 q3 q4 => ?_, by rw [eb]; exact Kp.refl _, ks, fun y m => ?_⟩
  · rw [eb]
    rcases getset q with ⟨rfl, z⟩ | ⟨nj, z⟩
    · cases z
      exact ⟨_, ev, hR⟩
    · obtain ⟨u, q1, q2⟩ := s.fz j S z
      exact ⟨u, q1, (st.at (j := j)).1 S (by rw [List.getElem?_set_ne fun y => nj y.symm]; exact z) _ _ d u0 od hu e3 q2⟩
  · obtain ⟨nj, z⟩ := back q
    obtain ⟨p, o, q1, q2, q3, q4, q5⟩ := s.own j C z
    have pd : p ≠ d := fun y => nm (.inl ⟨j, C, z, by rw [← y]; exact q1⟩)
    refine ⟨p, o, q1, by rw [upd_ne pd]; exact q2, by rw [eb]; exact (st.at (j := j)).2 C (by rw [List.getElem?_set_ne fun y => nj y.symm]; exact z) _ _ d u0 od hu e3 q3, ⟨fun o' eo => ?_, fun ht => ?_⟩, q5⟩
    · replace eo : L2.upd c.hs d (.frz od u0) p = some o' := eo
      rw [upd_ne pd] at eo
      exact q4.1 o' eo
    · obtain ⟨ps, e4, e5⟩ := ht
      replace e4 : L2.upd c.hs d (.frz od u0) p = some (.tbl ps) := e4
      rw [upd_ne pd] at e4
      exact q4.2 ⟨ps, e4, e5⟩
  · exact s.ne j k C C' p (back q1).2 (back q2).2 q3 q4
  · obtain ⟨u, q1, q2⟩ := s.hid y m
    exact ⟨u, by rw [upd_ne fun z => nm (by rw [← z]; exact .inr m)]; exact q1, q2⟩
theorem n_lockO {R R' : Rel} {C : Own} (i : Nat) (e : c.g[i]? = some (.fz R)) (op : ∀ B v, R.p B v → ∃ d u, v = .ref d ∧ DL u ∧ B d = some u ∧ ∀ od, R'.p (upd B d (.frz od u)) v) (st : AllLk2 (c.g.set i .any)) (hC : Uk C) (h : ∀ hs' h0', EN ⟨hs', h0', c.om, c.g.set i (.fz R')⟩ t C) : EN c (tLockE t) C := fun σ H s Q q => by
  obtain ⟨v, e1, r1⟩ := s.fz i _ e
  obtain ⟨a, u, rfl, hu, e2, r2⟩ := op _ _ r1
  obtain ⟨nm, e3⟩ := less_some e2
  refine ⟨a, u, e3, hu.m, fun od => ?_⟩
  have s2 := s.lkO (R' := R') (od := od) hu e2 e e1 (r2 od) st
  have own' : ∀ a, isOwn (c.g.set i (.fz R')) σ a ↔ isOwn c.g σ a := fun a => by
    constructor
    · rintro ⟨j, C, e1, e2⟩
      rcases getset e1 with ⟨_, z⟩ | ⟨_, z⟩
      · cases z
      · exact ⟨j, C, z, e2⟩
    · rintro ⟨j, C, e1, e2⟩
      refine ⟨j, C, ?_, e2⟩
      rw [List.getElem?_set_ne fun z => by rw [← z, e] at e1; cases e1]
      exact e1
  refine h _ _ σ _ s2 _ fun H' p o k n r => ?_
  have e4 : H' a = some (.frz od u) := k.at_ _ _ upd_same (fun _ z => nomatch z)
  have ap : a ≠ p := fun z => by rw [z, n] at e4; cases e4
  refine ⟨by rw [upd_ne ap]; exact e4, ?_⟩
  rw [upd_swap ap]
  refine q _ p o (kp_unlock e3 hu.b k) (by rw [upd_ne fun z => ap z.symm]; exact n) ?_
  have eb : bas ⟨upd c.hs a (.frz od u), upd (bas c σ H) a (.frz od u), c.om, c.g.set i (.fz R')⟩ σ H' = bas c σ H' := by
    funext y
    by_cases m : isOwn c.g σ y ∨ c.om y
    · rw [bas_in m]
      exact bas_in (c := ⟨upd c.hs a (.frz od u), upd (bas c σ H) a (.frz od u), c.om, c.g.set i (.fz R')⟩) (m.elim (fun z => .inl ((own' y).mpr z)) .inr)
    · rw [bas_out m]
      exact bas_out (c := ⟨upd c.hs a (.frz od u), upd (bas c σ H) a (.frz od u), c.om, c.g.set i (.fz R')⟩) fun z => m (z.elim (fun y => .inl ((own' _).mp y)) .inr)
  rw [eb] at r
  have := hC _ _ a u od hu (by rw [bas_out nm]; exact e4) r
  rw [show bas c σ (upd H' a u) = upd (bas c σ H') a u from upd_less' nm]
  exact this
/-- a call of a def whose new object tells nothing of the heap -/
theorem n_callF {ta : TA} {sp : Sp} {Rs : List Rel} {Pr : Hp → Prop} {C : Own} {E' : XK} (hsp : Skn sp Rs Pr C) (hC : ∀ H H' o, C.p H o → C.p H' o) (ha : EA false c ta Rs) (hp : ∀ H, Pr H) : EN c (tCall sp [] E' ta) C := fun σ H s Q q => ha σ H s _ fun H1 vs k1 r1 => by
  rw [List.append_nil]
  exact hsp H1 (msk false c σ) vs (fun a m => nomatch m.1) r1 (hp _) Q E' fun H' p o k n r => q H' p o (k1.trans k) n (hC _ _ _ r)
def RPk (P : Program) (w : World) (M : MapE) : Rel := ⟨fun H v => ∃ d d' od xs, v = .ref d ∧ H d = some (.frz od (.ext (PDAt P w d' xs))) ∧ Paired (RowE H) M xs ∧ (M.map fun x : (Pl × Pl) × Int => x.1).Nodup ∧ M.length ≤ sizeLine,
  fun k ⟨d, d', od, xs, h1, h2, h3, h4⟩ => ⟨d, d', od, xs, h1, k.frz h2, rowE_kp h3 k, h4⟩⟩
theorem PairAt.upd {H : Hp} {t d : Addr} {u o : HO} (hu : DL u) (ed : H d = some u) (h : PairAt H t e) : PairAt (L2.upd H d o) t e := by
  obtain ⟨a, v, h1, h2, h3⟩ := h
  have k := seqkp_upd (o := o) ed hu.l hu.t
  exact ⟨a, v, k.2 _ _ h1, k.2 _ _ h2, k.2 _ _ h3⟩
theorem op_PD (B : Hp) (v : V) (r : (RPD P w M).p B v) : ∃ d u, v = .ref d ∧ DL u ∧ B d = some u ∧ ∀ od, (RPk P w M).p (L2.upd B d (.frz od u)) v := by
  obtain ⟨a, rfl, d', xs, h1, h2, h3, h4⟩ := r
  exact ⟨a, .ext (PDAt P w d' xs), rfl, trivial, h1, fun od => ⟨a, d', od, xs, rfl, upd_same, Paired.mapP h2 fun _ _ z => ⟨z.1, z.2.1.upd (show DL (.ext (PDAt P w d' xs)) from trivial) h1, z.2.2⟩, h3, h4⟩⟩
theorem e_pgetK (g : getE M e = some n) (ha : E b c ta (RPk P w M)) (hy : E b c ty (RD (dE e))) : E b c (tPGet P w ta ty) (RD (.int n)) := fun σ H s Q q =>
  ha σ H s _ fun H1 v k1 r1 => hy σ H1 (s.kp k1) _ fun H2 y k2 r2 => by
    obtain ⟨a, d', od, xs, rfl, h2, h3, h4, h5⟩ := (RPk P w M).mn ((hb_kp k2).trans hb_in) r1
    obtain ⟨t, rfl, ht⟩ := dE_at r2
    exact ⟨a, t, M, e, n, rfl, rfl, ⟨d', xs, .inr ⟨od, h2⟩, h3, h4, h5⟩, ht, g, q H2 _ (k1.trans k2) (.int _)⟩
theorem w_keysE (hd : E true c t (RPk P w M)) : EWg c (iKeysE P w t) M (fun m => RD (dE m.1)) := fun σ H s Q q => hd σ H s _ fun H1 v k1 r1 => by
  obtain ⟨d, d', od, xs, rfl, h2, h3, h4, h5⟩ := r1
  rw [hb_t] at h2 h3
  refine ⟨d, d', od, M, xs, rfl, (less_some h2).2, rowE_kp h3 kp_less, q H1 _ k1 ⟨fun i G N hd k hi => ⟨⟨xs, (less_some (k.frz h2)).2, rowE_kp h3 (k.trans kp_less)⟩, hi⟩, fun i G N hd k hi => ⟨⟨xs, (less_some (k.frz h2)).2, rowE_kp h3 (k.trans kp_less)⟩, hi⟩, fun i G N v G' hd k y m hm => ?_⟩⟩
  obtain ⟨rfl, e, n, q, e1, rfl, u, v, p1, p2, p3⟩ := y
  rw [hm] at e1
  cases e1
  exact ⟨Kp.refl _, .tup (tup_less hd p1) (.cons (.tup (tup_less hd p2) (.cons (.int _) (.cons (.int _) .nil))) (.cons (.tup (tup_less hd p3) (.cons (.int _) (.cons (.int _) .nil))) .nil))⟩
theorem pairsL_get {ms os : List Pl} {m : (Pl × Pl) × Int} (h : m ∈ pairsL x ms os) : getE (pairsL x ms os) m.1 = some m.2 ∧ m.2 = dist (nbs x) m.1.1 m.1.2 := by
  have val : ∀ y ∈ pairsL x ms os, y.2 = dist (nbs x) y.1.1 y.1.2 := fun y hy => by
    obtain ⟨one, _, hy⟩ := List.mem_flatMap.mp hy
    obtain ⟨o, _, rfl⟩ := List.mem_map.mp hy
    rfl
  refine ⟨?_, val m h⟩
  unfold getE
  cases z : (pairsL x ms os).find? fun y => decide (y.1 = m.1) with
  | none => exact absurd (decide_eq_true rfl) (List.find?_eq_none.mp z m h)
  | some y =>
    have e1 : y.1 = m.1 := of_decide_eq_true (List.find?_some (p := fun y : (Pl × Pl) × Int => decide (y.1 = m.1)) z)
    have e2 := val y (List.mem_of_find?_eq_some z)
    show some y.2 = some m.2
    rw [e2, val m h, e1]
theorem pairsL_W0 {ms : List Pl} : (pairsL x ms ms).map (fun m => (m.2, m.1.1, m.1.2)) = W0 x ms := by
  unfold pairsL W0 pairs1
  rw [List.map_flatMap]
  congr 1
  funext one
  rw [List.map_map]
  rfl
theorem pairsL_of {ms : List Pl} {e : Pl × Pl} (h1 : e.1 ∈ ms) (h2 : e.2 ∈ ms) (h3 : lsP e.1 e.2 = true) : getE (pairsL x ms ms) e = some (dist (nbs x) e.1 e.2) := by
  have : (e, dist (nbs x) e.1 e.2) ∈ pairsL x ms ms := List.mem_flatMap.mpr ⟨e.1, h1, List.mem_map.mpr ⟨e.2, List.mem_filter.mpr ⟨h2, h3⟩, rfl⟩⟩
  exact (pairsL_get this).1
theorem lotF_app {ms : List Pl} {T : List (Pl × Pl)} {e : Pl × Pl} : lotF ms (T ++ [e]) = uni (lotF ms T) e.2 e.1 := by
  unfold lotF
  rw [List.foldl_append]
  rfl
theorem alike0 {ms : List Pl} : Alike ms (fun m => m) (lotF ms []) := fun m hm n hn => by
  show m = n ↔ ((ms.idxOf m : Nat) : Int) = ((ms.idxOf n : Nat) : Int)
  constructor
  · intro z; rw [z]
  · intro z
    have z : ms.idxOf m = ms.idxOf n := by omega
    have h1 := List.getElem_idxOf (List.idxOf_lt_length_iff.mpr hm)
    have h2 := List.getElem_idxOf (List.idxOf_lt_length_iff.mpr hn)
    rw [← h1, ← h2]
    simp only [z]
theorem s_ownLots {i : Nat} {ms : List Pl} {prs : List (Pl × Pl)} {k : L2.St → Hp → Prop} (e : c.g[i]? = some (.own (OLots ms prs))) (h : ∀ M, LotsM ms (lotF ms prs) M → WC (c.set i (.own (OTab M))) k) : WC c k := fun σ H s => by
  obtain ⟨a, o, e1, e2, ⟨M, rfl, hM⟩, _⟩ := s.own i _ e
  have := (s.mut (C' := OTab M) (o := .dT (kvF M)) e e1 rfl).1
  rw [show L2.upd H a (.dT (kvF M)) = H from funext fun y => (by
    by_cases z : y = a
    · rw [z, upd_same, e2]
    · rw [upd_ne z])] at this
  exact h M hM σ H this
noncomputable abbrev RsLl (P : Program) (w : World) : HX × List Pl → List Rel := fun a => [RD (.list (a.2.map dP)), RPD P w (pairsL a.1 a.2 a.2)]
abbrev PLl : HX × List Pl → Hp → Prop := fun a _ => a.2.Nodup ∧ a.2.length ≤ 9
noncomputable abbrev spLl (P : Program) (w : World) : Sp := SpN (RsLl P w) PLl fun a => OL ((treeL a.1 a.2).map dE)
theorem ok_lleast {f fO : Addr} {fd fdO : FuncData} (F : Fun K "_law_least_tree" "_law_least_tree" s__law_least_tree f fd) (z_sorted : mg "sorted" = none)
    (GO : FnOk P w K mg base CX0 1 fO fdO ["marks", "pairs"] (SpN RsLo PLo fun a => OLots a.1 a.2)) (bO : Binds K fdO ["marks", "pairs"] []) (gO : mg "_law_lots" = some (.ref fO)) (kO : PySem.W.keepIn K (.ref fO) = true) :
    FnOk P w K mg base CX0 2 f fd ["marks", "pairs"] (spLl P w) := by
  refine fn_okN F sc__law_least_tree (fun _ => rfl) fun cdv A outer s H E0 hr => ?_
  have nd := sc__law_least_tree.nd
  refine ⟨_, (pss_cons (ps_set (i := 2) nd rfl (.inl rfl) (pe_lst pa_nil))
    (pss_cons (ps_for PassesOwn.never rfl (pi_list (pe_callB (cr_sortO ordW (by exact hr.units)) (by rfl) z_sorted (by decide +kernel) (pa_cons (pe_lock (pe_lc (own := [("pair", 7)]) (g := gName 7) (tt := tYes) rfl nd (show PI _ _ _ (iKeysE P w (tVar 1)) from pi_keysE (pv 1)) (blkOk_by (N := ["marks", "pairs", "tree", "length", "one", "other", "lots", "pair"]) (sc := defScope s__law_least_tree) (by decide +kernel)) (fun _ _ _ _ _ => pg_name (i := 7) nd rfl (.inl rfl)) (fun _ _ _ _ _ => pts_nil)
        (fun _ _ _ _ _ => pe_tup (pa_cons (show PE _ _ (tPGet P w (tVar 1) (tVar 7)) from pe_pget (by exact hr.units) (pv 1) (pv 7) (fun _ _ => rfl)) (pa_cons (pe_ix (r := rIxT K) ix_tup (pv 7) pe_int (fun _ _ => rfl)) (pa_cons (pe_ix (r := rIxT K) ix_tup (pv 7) pe_int (fun _ _ => rfl)) pa_nil)))))) pa_nil))) (pg_tup rfl (pgs_cons (pg_name (i := 3) nd rfl (.inl rfl)) (pgs_cons (pg_name (i := 4) nd rfl (.inl rfl)) (pgs_cons (pg_name (i := 5) nd rfl (.inl rfl)) pgs_nil))))
      (pss_cons (ps_set (i := 6) nd rfl (.inl rfl) (pe_call GO (by exact hr.mono (by decide)) (by rfl) gO kO bO .nil pass0 (pa_cons (pv 0) (pa_cons (pv 2) pa_nil))))
      (pss_one (ps_if (pt_cmpR (r := rNe) op_ne (pe_dget (by exact Pk.Room.units1 hr) (pv 6) (pv 4) (fun _ _ => rfl)) (pe_dget (by exact Pk.Room.units1 hr) (pv 6) (pv 5) (fun _ _ => rfl)) (nomark _))
        (pss_one (ps_expr (pe_bm PySem.F.plainAttrs_list PySem.F.slot_list_append PySem.F.type_list_append mt_append (pv 2) (pa_cons (pe_tup (pa_cons (pv 4) (pa_cons (pv 5) pa_nil))) pa_nil)))) pss_nil))))
    (pss_one (ps_ret (pe_callB (cr_sortO ordE (by exact hr.units)) (by rfl) z_sorted (by decide +kernel) (pa_cons (pv 2) pa_nil)))))), ?_⟩
  rintro ⟨x, ms⟩ hs om Q ⟨mn, ml⟩ q
  show WC ⟨hs, less hs om, om, [.fz (RD (.list (ms.map dP))), .fz (RPD P w (pairsL x ms ms)), .any, .any, .any, .any, .any, .any]⟩ _
  replace mn : ms.Nodup := mn
  replace ml : ms.length ≤ 9 := ml
  replace q : ∀ H' p o, Kp hs H' → H' p = none → (OL ((treeL x ms).map dE)).p (less H' om) o → Q (.ref p) (L2.upd H' p o) := q
  refine s_seq ?_
  refine s_new (n_lst m_nil) ?_
  show WC ⟨hs, less hs om, om, [.fz (RD (.list (ms.map dP))), .fz (RPD P w (pairsL x ms ms)), .own (OL (([] : List (Pl × Pl)).map dE)), .any, .any, .any, .any, .any]⟩ _
  try dsimp only
  refine s_seq ?_
  have sl := SL_len (x := x) ml
  have eM : ((pairsL x ms ms).map fun m => (m.2, m.1.1, m.1.2)).map dW = (W0 x ms).map dW := by rw [pairsL_W0]
  refine s_for (xs := SW x ms) (enc := dW) (fun i γ => ∃ T : List (Pl × Pl), γ = [.fz (RD (.list (ms.map dP))), .fz (RPD P w (pairsL x ms ms)), .own (OL (T.map dE)), .any, .any, .any, .any, .any] ∧ T = (krA ((SL x ms).take i)).1 ∧ Alike ms (krA ((SL x ms).take i)).2 (lotF ms T))
    (n_e (n_sortO ordW (i_n (EN.eqL (n_lockO (R' := RPk P w (pairsL x ms ms)) (C := OL (((pairsL x ms ms).map fun m => (m.2, m.1.1, m.1.2)).map dW)) 1 rfl op_PD ⟨lk_D (show nods (ms.map dP) = true from nodAll (fun a => ordP.nod a) _), olk_OL rfl, trivial⟩ (uk_OL (nodAll (fun a => ordW.nod a) _)) fun hs' h0' => ?_) eM)))) ⟨[], rfl, rfl, alike0⟩ ?_ ?_
  · show EN ⟨hs', h0', om, [.fz (RD (.list (ms.map dP))), .fz (RPk P w (pairsL x ms ms)), .own (OL (([] : List (Pl × Pl)).map dE)), .any, .any, .any, .any, .any]⟩ _ _
    exact n_lcGM1 (xs := pairsL x ms ms) (fe := fun m => (m.2, m.1.1, m.1.2)) (encB := dW) (is := [7]) (G := fun m => [.fz (RD (.list (ms.map dP))), .fz (RPk P w (pairsL x ms ms)), .own (OL (([] : List (Pl × Pl)).map dE)), .any, .any, .any, .any, .fz (RD (dE m.1))]) (w_keysE (e_var rfl)) rfl (by decide) (fun _ m hm => g_name)
      (fun _ m hm _ => e_tup (m_cons (e_pgetK (pairsL_get hm).1 (e_var rfl) (e_var rfl)) (m_cons (e_op (o_ixT (ds := [dP m.1.1, dP m.1.2]) rfl) (e_var rfl) e_int) (m_cons (e_op (o_ixT (ds := [dP m.1.1, dP m.1.2]) rfl) (e_var rfl) e_int) m_nil)))) (by
        have := pairsL_len (x := x) (os := ms) (ms := ms)
        have : ms.length * ms.length ≤ 9 * 9 := Nat.mul_le_mul ml ml
        omega)
  · rintro h1 i y γ kp hx ⟨T, rfl, hT, al⟩
    refine ⟨_, _, g_tup (gs_cons g_name (gs_cons g_name (gs_cons g_name gs_nil))), ?_⟩
    show WC ⟨hs, h1, om, [.fz (RD (.list (ms.map dP))), .fz (RPD P w (pairsL x ms ms)), .own (OL (T.map dE)), .fz (RD (.int y.1)), .fz (RD (dP y.2.1)), .fz (RD (dP y.2.2)), .any, .any]⟩ _
    have hx2 : (SL x ms)[i]? = some y.2 := by
      unfold SL
      rw [List.getElem?_map, hx]
      rfl
    obtain ⟨m1, m2, _⟩ := mem_SL.mp (List.mem_of_getElem? hx2)
    have nx := krA_succ hx2
    have hin : ∀ e ∈ T, e.1 ∈ ms ∧ e.2 ∈ ms := fun e he => by
      rw [hT, krA_eq] at he
      have := mem_SL.mp (List.mem_of_mem_take (kr_sub.subset he))
      exact ⟨this.1, this.2.1⟩
    have tl : T.length ≤ 81 := by
      rw [hT]
      have := krA_len ((SL x ms).take i)
      rw [List.length_take] at this
      omega
    obtain ⟨s0, hs0⟩ : ∃ s0, s0 = krA ((SL x ms).take i) := ⟨_, rfl⟩
    rw [← hs0] at nx hT al
    have eq : lotF ms T y.2.1 = lotF ms T y.2.2 ↔ s0.2 y.2.1 = s0.2 y.2.2 := (al _ m1 _ m2).symm
    refine s_seq ?_
    refine s_new (n_callF (skn_spn (Rs := RsLo) (P := PLo) (C := fun a => OLots a.1 a.2) (ms, T)) (fun _ _ _ h => h) (a_cons (e_var rfl) (a_cons (e_own rfl) a_nil)) (fun _ => ⟨mn, by show ms.length ≤ 100; omega, hin⟩)) ?_
    show WC ⟨hs, h1, om, [.fz (RD (.list (ms.map dP))), .fz (RPD P w (pairsL x ms ms)), .own (OL (T.map dE)), .fz (RD (.int y.1)), .fz (RD (dP y.2.1)), .fz (RD (dP y.2.2)), .own (OLots ms T), .any]⟩ _
    refine s_ownLots (i := 6) rfl fun M L => ?_
    show WC ⟨hs, h1, om, [.fz (RD (.list (ms.map dP))), .fz (RPD P w (pairsL x ms ms)), .own (OL (T.map dE)), .fz (RD (.int y.1)), .fz (RD (dP y.2.1)), .fz (RD (dP y.2.2)), .own (OTab M), .any]⟩ _
    try dsimp only
    refine s_if (t_T (e_op o_neI (e_lotO rfl (L.val _ m1) (e_var rfl)) (e_lotO rfl (L.val _ m2) (e_var rfl)))) (fun z => ?_) (fun z => ?_)
    · have z : ¬ s0.2 y.2.1 = s0.2 y.2.2 := fun y => by rw [decide_eq_true (eq.mpr y)] at z; cases z
      refine s_appM (xs := T) (a := y.2) (enc := dE) rfl (e_tup (m_cons (e_var rfl) (m_cons (e_var rfl) m_nil))) (by omega) ?_
      refine s_drop 3 ?_
      refine s_drop 4 ?_
      refine s_drop 5 ?_
      refine s_drop 6 ?_
      rw [show krS s0 y.2 = (s0.1 ++ [y.2], uni s0.2 y.2.1 y.2.2) from if_neg z] at nx
      refine s_of ⟨T ++ [y.2], rfl, by rw [nx, hT], ?_⟩
      rw [nx, lotF_app]
      exact al.uni m1 m2
    · have z : s0.2 y.2.1 = s0.2 y.2.2 := eq.mp (by simpa using z)
      refine s_pass ?_
      refine s_drop 3 ?_
      refine s_drop 4 ?_
      refine s_drop 5 ?_
      refine s_drop 6 ?_
      rw [show krS s0 y.2 = s0 from if_pos z] at nx
      exact s_of ⟨T, rfl, by rw [nx, hT], by rw [nx]; exact al⟩
  · rintro γ ⟨T, rfl, hT, al⟩
    have e : (SL x ms).take (SW x ms).length = SL x ms := List.take_of_length_le (by unfold SL; rw [List.length_map]; exact Nat.le_refl _)
    rw [e] at hT
    subst hT
    try dsimp only
    exact s_retNew (n_sortO ordE (i_own rfl)) q
end
section
open GxR NdefX PySem.Spec PyProof.Rows
variable {P : Program} {w : World} {K : PySem.W.Frag} {mg : Str → Option Value} {base : Heap} {b : Bool} {c : Ct} {x : HX} {p q : Pl}
theorem mks_law {st en : Pl} {qs : List Pl} : mksP st en (sortP qs) = marksP ([st, en] ++ qs) := marksP_of marksP_nd (fun p => mem_mks.trans (by rw [List.mem_append, List.mem_append, sortP_mem])) (sortP_pw _)
theorem lsE_iff {e f : Pl × Pl} : lsE e f = true ↔ lsP e.1 f.1 = true ∨ (e.1 = f.1 ∧ lsP e.2 f.2 = true) := by
  show (if e.1 = f.1 then lsP e.2 f.2 else lsP e.1 f.1) = true ↔ _
  by_cases z : e.1 = f.1
  · rw [if_pos z]
    constructor
    · exact fun h => .inr ⟨z, h⟩
    · rintro (h | h)
      · rw [ls_iff, z] at h
        omega
      · exact h.2
  · rw [if_neg z]
    constructor
    · exact .inl
    · rintro (h | h)
      · exact h
      · exact absurd h.1 z
theorem lsE_iff2 {e f : Pl × Pl} : lsE e f = true ↔ (e.1.1 < f.1.1 ∨ (e.1.1 = f.1.1 ∧ e.1.2 < f.1.2)) ∨ ((e.1.1 = f.1.1 ∧ e.1.2 = f.1.2) ∧ (e.2.1 < f.2.1 ∨ (e.2.1 = f.2.1 ∧ e.2.2 < f.2.2))) := by
  rw [lsE_iff, ls_iff, ls_iff, Prod.ext_iff]
theorem leE_trans (a b c : Pl × Pl) (h1 : (!lsE b a) = true) (h2 : (!lsE c b) = true) : (!lsE c a) = true := by
  rw [Bool.not_eq_true', Bool.eq_false_iff, ne_eq, lsE_iff2] at *
  omega
theorem leE_total (a b : Pl × Pl) : ((!lsE b a) || (!lsE a b)) = true := by
  rw [Bool.or_eq_true, Bool.not_eq_true', Bool.not_eq_true', Bool.eq_false_iff, Bool.eq_false_iff, ne_eq, ne_eq, lsE_iff2, lsE_iff2]
  omega
theorem sortE_pw (T : List (Pl × Pl)) : (sortO lsE T).Pairwise fun a b => (!lsE b a) = true := List.pairwise_mergeSort leE_trans leE_total T
theorem sortE_of {T : List (Pl × Pl)} (h : T.Pairwise fun a b => (!lsE b a) = true) : sortO lsE T = T := List.mergeSort_of_pairwise h
theorem sortE_id (T : List (Pl × Pl)) : sortO lsE (sortO lsE T) = sortO lsE T := sortE_of (sortE_pw T)
theorem joins_of {ms : List Pl} : ∀ {T : List (Pl × Pl)} {g : Pl → Pl}, (∀ e ∈ T, e.1 ∈ ms ∧ e.2 ∈ ms ∧ lsP e.1 e.2 = true) → allJoin g T = true → joinsB ms g T = true
  | [], _, _, _ => rfl
  | e :: T, g, h, a => by
    have a : (decide (g e.1 ≠ g e.2) && allJoin (uni g e.1 e.2) T) = true := a
    rw [Bool.and_eq_true] at a
    obtain ⟨h1, h2, h3⟩ := h e (.head _)
    have n : lsP e.2 e.1 = false := by
      rw [Bool.eq_false_iff, ne_eq, ls_iff]
      rw [ls_iff] at h3
      omega
    show ((decide (e.1 ∈ ms) && decide (e.2 ∈ ms)) && ((!lsP e.2 e.1 && !decide (g e.1 = g e.2)) && joinsB ms (uni g e.1 e.2) T)) = true
    rw [decide_eq_true h1, decide_eq_true h2, n, decide_eq_false (of_decide_eq_true a.1), joins_of (fun e he => h e (.tail _ he)) a.2]
    rfl
theorem SL_all {ms : List Pl} : ∀ m ∈ ms, ∀ n ∈ ms, (kr (fun m => m) (SL x ms)).2 m = (kr (fun m => m) (SL x ms)).2 n := all_one fun m hm n hn => by
  by_cases z : m = n
  · exact .inl z
  · by_cases l : lsP m n = true
    · exact .inr (.inl (mem_SL.mpr ⟨hm, hn, l⟩))
    · refine .inr (.inr (mem_SL.mpr ⟨hn, hm, ?_⟩))
      rw [ls_iff] at l ⊢
      have : ¬ (m.1 = n.1 ∧ m.2 = n.2) := fun y => z (Prod.ext y.1 y.2)
      show n.1 < m.1 ∨ (n.1 = m.1 ∧ n.2 < m.2)
      omega
theorem SL_in {ms : List Pl} : ∀ e ∈ SL x ms, e.1 ∈ ms ∧ e.2 ∈ ms := fun e he => ⟨(mem_SL.mp he).1, (mem_SL.mp he).2.1⟩
theorem treeL_perm {ms : List Pl} : (treeL x ms).Perm (kr (fun m => m) (SL x ms)).1 := by
  unfold treeL sortO
  rw [krA_eq]
  exact List.mergeSort_perm _ _
theorem treeL_lt {ms : List Pl} : ∀ e ∈ treeL x ms, lsP e.1 e.2 = true := fun e he => (mem_SL.mp (kr_sub.subset (treeL_perm.mem_iff.mp he))).2.2
theorem treeL_tree {ms : List Pl} (nd : ms.Nodup) (ne : ms ≠ []) : isTreeB ms (treeL x ms) = true := by
  have l := tree_len nd ne SL_in (SL_all (x := x))
  have l2 := (treeL_perm (x := x) (ms := ms)).length_eq
  unfold isTreeB
  rw [decide_eq_true (by omega), decide_eq_true (show treeL x ms = sortO lsE (treeL x ms) from (sortE_id _).symm), joins_of (fun e he => ⟨(treeL_in e he).1, (treeL_in e he).2, treeL_lt e he⟩) (perm_join nd ne SL_in SL_all treeL_perm)]
  rfl
theorem treeL_least {ms : List Pl} (nd : ms.Nodup) (ne : ms ≠ []) : isLeastB x ms (treeL x ms) = true := by
  unfold isLeastB
  rw [treeL_tree nd ne, decide_eq_true rfl]
  rfl
theorem mks_ne {st en : Pl} {ps : List Pl} : mksP st en ps ≠ [] := fun e => by
  have : st ∈ mksP st en ps := mem_mks.mpr (.head _)
  rw [e] at this
  cases this
theorem pss_never {X : Cx} {ss : List Stmt} : PSs X ss (fun _ _ _ => False) := ⟨fun _ _ _ _ _ _ h => h.elim⟩
section
variable {C CT CU : Addr} {h : HD} {t : TD} {r : Pl}
def Gn (sp : Sp) (CU : Addr) (Rs : List Rel) (r : Pl) : Prop := ∀ H om vs, Hd H om → Rok Rs (less H om) vs → ∀ (Q : VK) (E : XK), (∀ H' d v, Kp H H' → H' d = some (.xd [("place", v)]) → (RD (dP r)).p (less H' om) v → E (.ref CU) (some d) H') → sp vs H Q E
abbrev spBg (C CT CU : Addr) : Sp := fun vs H Q E => ∃ (a : HD × TD) (om : Addr → Prop) (r : Pl), Hd H om ∧ Rok (RsNr C CT a) (less H om) vs ∧ PNr a ∧ cutO a.1.x a.2.st a.2.en a.2.ps = some r ∧ ∀ H' d v, Kp H H' → H' d = some (.xd [("place", v)]) → (RD (dP r)).p (less H' om) v → E (.ref CU) (some d) H'
theorem ok_boundsgone {f fL : Addr} {fd fdL : FuncData} (F : Fun K "tree_bounds" "tree_bounds" s_tree_bounds f fd)
    (GL : FnOk P w K mg base (L2.CX P w) 8 fL fdL ["house", "task"] (spLm C CT CU)) (bL : Binds K fdL ["house", "task"] []) (gL : mg "_levels_of_marks" = some (.ref fL)) (kL : PySem.W.keepIn K (.ref fL) = true) :
    FnOk P w K mg base (L2.CX P w) 9 f fd ["house", "task"] (spBg C CT CU) := by
  refine F.okX sc_tree_bounds (fun vs H Q E h => ?_) (fun cdv A outer s H vs Q E hr h => ?_)
  · obtain ⟨a, om, r, ho, hr, _⟩ := h
    exact hr.len
  · obtain ⟨⟨h, t⟩, om, r, ho, hR, hP, hc, q2⟩ := h
    have nd := sc_tree_bounds.nd
    refine ⟨_, (pss_cons (ps_set (i := 2) nd rfl (.inl rfl) (pe_call GL (by exact hr.mono (by decide)) (by rfl) gL kL bL .nil (passes_call (takes_of rfl rfl rfl rfl) fun _ _ _ _ h => h) (pa_cons (pv 0) (pa_cons (pv 1) pa_nil)))) pss_never), ?_⟩
    have st := sta_start (N := ["house", "task", "numbers", "tree"]) ho hR
    refine (?_ : WC ⟨H, less H om, om, [.fz (RHouse C h), .fz (RTask CT t), .any, .any]⟩ _) _ _ st
    refine s_seq ?_
    exact fun σ H1 s => ev_lm (h := h) (t := t) hP hc (a_cons (e_var rfl) (a_cons (e_var rfl) a_nil)) q2 σ H1 s _
theorem gn_bg (hP : PNr (h, t)) (hc : cutO h.x t.st t.en t.ps = some r) : Gn (spBg C CT CU) CU [RHouse C h, RTask CT t] r := fun H om vs ho hR Q E k => ⟨(h, t), om, r, ho, hR, hP, hc, k⟩
theorem gn_lt (hP : PNr (h, t)) (hc : cutO h.x t.st t.en t.ps = some r) : Gn (spLt C CT CU) CU [RHouse C h, RTask CT t] r := fun H om vs ho hR Q E k => ⟨(h, t), om, ho, hR, hP, fun z => (by rw [show cutO h.x t.st t.en t.ps = none from z] at hc; cases hc), fun r' z => by
  rw [show cutO h.x t.st t.en t.ps = some r' from z] at hc
  cases hc
  exact k⟩
theorem gn_tl {Pr : HD × TD × List (Pl × Pl) → Prop} {R : HD × TD × List (Pl × Pl) → Rel} {T : List (Pl × Pl)} (hP : PNr (h, t)) (hc : cutO h.x t.st t.en t.ps = some r) (tl : T.length ≤ 1000) (pr : Pr (h, t, T)) : Gn (spTl C CT CU Pr R) CU [RHouse C h, RTask CT t, RD (.list (T.map dE))] r := fun H om vs ho hR Q E k => ⟨(h, t, T), om, ho, hR, hP, tl, pr, fun z => (by rw [show cutO h.x t.st t.en t.ps = none from z] at hc; cases hc), fun r' z => by
  rw [show cutO h.x t.st t.en t.ps = some r' from z] at hc
  cases hc
  exact k⟩
theorem s_callSg {ta : TA} {sp : Sp} {Ex : L2.St → XK} {Rs : List Rel} {D : Ends} (hsp : Gn sp CU Rs r) (ha : EA true c ta Rs)
    (k : ∀ σ H' d v, σ.length = c.g.length → Kp c.hs H' → H' d = some (.xd [("place", v)]) → (RD (dP r)).p (less H' c.om) v → Ex σ (.ref CU) (some d) H') : WC c (tDrop (tCallS sp Ex ta) D) := fun σ H s => ha σ H s _ fun H1 vs k1 r1 =>
  hsp H1 (msk true c σ) vs (s.kp k1).hd r1 _ _ fun H' d v k2 e2 rv => k σ H' d v s.len (s.ks.trans (k1.trans k2)) e2 ((RD (dP r)).mn (less_mono fun _ z => ⟨rfl, .inr z⟩) rv)
abbrev RsTo (C CT : Addr) : Int × HD × TD × Pl → List Rel := fun a => [RD (.int a.1), RHouse C a.2.1, RTask CT a.2.2.1]
abbrev PTo : Int × HD × TD × Pl → Hp → Prop := fun a _ => PNr (a.2.1, a.2.2.1) ∧ cutO a.2.1.x a.2.2.1.st a.2.2.1.en a.2.2.1.ps = some a.2.2.2
abbrev spTo (C CT : Addr) : Sp := Sps (RsTo C CT) PTo fun a => RD (dP a.2.2.2)
theorem ok_told {f fL fI fB CE : Addr} {fd fdL fdI fdB : FuncData} (F : Fun K "_law_told" "_law_told" s__law_told f fd) (gU : mg "Unreachable" = some (.ref CU)) (gE : mg "PickError" = some (.ref CE)) (eU : PySem.W.exmOne K (.ref CU) (.ref CU) = some true) (xU : XfC K CU) (nU : PySem.W.findIn K (.ref CU) "place" = some none)
    (GL : FnOk P w K mg base (L2.CX P w) 9 fL fdL ["house", "task"] (spLt C CT CU)) (bL : Binds K fdL ["house", "task"] []) (gL : mg "least_tree" = some (.ref fL)) (kL : PySem.W.keepIn K (.ref fL) = true)
    (GI : FnOk P w K mg base (L2.CX P w) 9 fI fdI ["house", "task", "tree"] (spTl C CT CU (fun _ => True) fun a => RD (.bool (isLeastB a.1.x (mks a.2.1) a.2.2)))) (bI : Binds K fdI ["house", "task", "tree"] []) (gI : mg "is_least_tree" = some (.ref fI)) (kI : PySem.W.keepIn K (.ref fI) = true)
    (GB : FnOk P w K mg base (L2.CX P w) 9 fB fdB ["house", "task"] (spBg C CT CU)) (bB : Binds K fdB ["house", "task"] []) (gB : mg "tree_bounds" = some (.ref fB)) (kB : PySem.W.keepIn K (.ref fB) = true) :
    FnOk P w K mg base CX0 10 f fd ["which", "house", "task"] (spTo C CT) := by
  refine F.ok sc__law_told (fun vs H Q E h => ?_) (fun cdv A outer s H vs Q E hr h => ?_)
  · obtain ⟨a, om, ho, hr, _⟩ := h
    exact hr.len
  · obtain ⟨⟨n, h, t, r⟩, om, ho, hR, ⟨hP, hc⟩, qq⟩ := h
    have nd := sc__law_told.nd
    refine ⟨_, (pss_cons (ps_try_next (l := [(.ref CU, some 3, _), (.ref CE, none, _)]) rfl rfl takes0 (fun W pn xe tk _ =>
        (pss_one (ps_if (pt_cmpR (r := rEq) op_eq (pv 0) pe_int (nomark _)) (pss_one (ps_expr (pe_callS GL (by exact hr.mono (by decide)) (by rfl) gL kL bL (fun τ => passAt tk τ) (pa_cons (pv 1) (pa_cons (pv 2) pa_nil)))))
          (pss_one (ps_if (pt_cmpR (r := rEq) op_eq (pv 0) pe_int (nomark _)) (pss_one (ps_expr (pe_callS GI (by exact hr.mono (by decide)) (by rfl) gI kI bI (fun τ => passAt tk τ) (pa_cons (pv 1) (pa_cons (pv 2) (pa_cons (pe_lst pa_nil) pa_nil))))))
            (pss_one (ps_expr (pe_callS GB (by exact hr.mono (by decide)) (by rfl) gB kB bB (fun τ => passAt tk τ) (pa_cons (pv 1) (pa_cons (pv 2) pa_nil))))))))))
        (Clauses.named nd rfl rfl ⟨rfl, by decide, .inl gU⟩ (fun a oe cls d pn hz hf => (pss_one (ps_ret (pe_xf xU nU hz hf (pv 3))))) (Clauses.plain ⟨rfl, by decide, .inl gE⟩ (fun a oe cls d pn _ _ => (pss_one (ps_ret (pe_tup (pa_cons pe_str pa_nil))))) .nil)))
      (pss_one (ps_ret (pe_tup (pa_cons pe_str pa_nil))))), ?_⟩
    have st := sta_start (N := ["which", "house", "task", "e"]) ho hR
    refine (?_ : WC ⟨H, less H om, om, [.fz (RD (.int n)), .fz (RHouse C h), .fz (RTask CT t), .any]⟩ _) _ _ st
    replace hP : PNr (h, t) := hP
    replace hc : cutO h.x t.st t.en t.ps = some r := hc
    replace qq : ∀ H' v, Kp H H' → (RD (dP r)).p (less H' om) v → Q v H' := qq
    have A2 : EA true ⟨H, less H om, om, [.fz (RD (.int n)), .fz (RHouse C h), .fz (RTask CT t), .any]⟩ (tCons (tVar 1) (tCons (tVar 2) tNil)) [RHouse C h, RTask CT t] := a_cons (e_var rfl) (a_cons (e_var rfl) a_nil)
    refine s_seq ?_
    show WC ⟨H, less H om, om, [.fz (RD (.int n)), .fz (RHouse C h), .fz (RTask CT t), .any]⟩ (tIfS _ _ _ _)
    refine s_if (t_T (e_op o_eqI (e_var rfl) e_int)) (fun _ => ?_) (fun _ => ?_)
    · refine s_callSg (r := r) (gn_lt hP hc) A2 fun σ H' d v hl k e rv => ?_
      refine ⟨true, eU, fun _ y ny => ?_, fun z => nomatch z⟩
      have h3 : (σ.set 3 (some (V.ref y)))[3]? = some (some (V.ref y)) := setget (by rw [hl]; show 3 < 4; decide)
      exact ⟨_, h3, rfl, rfl, d, _, v, rfl, e, rfl, qq _ _ k rv⟩
    · refine s_if (t_T (e_op o_eqI (e_var rfl) e_int)) (fun _ => ?_) (fun _ => ?_)
      · refine s_callSg (r := r) (gn_tl (T := []) hP hc (by decide) trivial) (a_cons (e_var rfl) (a_cons (e_var rfl) (a_cons (n_e (n_lst m_nil)) a_nil))) fun σ H' d v hl k e rv => ?_
        refine ⟨true, eU, fun _ y ny => ?_, fun z => nomatch z⟩
        have h3 : (σ.set 3 (some (V.ref y)))[3]? = some (some (V.ref y)) := setget (by rw [hl]; show 3 < 4; decide)
        exact ⟨_, h3, rfl, rfl, d, _, v, rfl, e, rfl, qq _ _ k rv⟩
      · refine s_callSg (r := r) (gn_bg hP hc) A2 fun σ H' d v hl k e rv => ?_
        refine ⟨true, eU, fun _ y ny => ?_, fun z => nomatch z⟩
        have h3 : (σ.set 3 (some (V.ref y)))[3]? = some (some (V.ref y)) := setget (by rw [hl]; show 3 < 4; decide)
        exact ⟨_, h3, rfl, rfl, d, _, v, rfl, e, rfl, qq _ _ k rv⟩
end
end
section
open GxR NdefX PySem.Spec PyProof.Rows
variable {P : Program} {w : World} {K : PySem.W.Frag} {mg : Str → Option Value} {base : Heap}
theorem skn_lt {C CT CU : Addr} {h : HD} {t : TD} {ms : List Pl} (hc : cutO h.x t.st t.en t.ps = none) (e : mks t = ms) : Skn (spLt C CT CU) [RHouse C h, RTask CT t] (fun _ => PNr (h, t)) (OL ((treeL h.x ms).map dE)) := fun H om vs ho hR hp Q E k => ⟨(h, t), om, ho, hR, hp, fun _ => by rw [← e] at k; exact k, fun r z => by
  rw [show cutO h.x t.st t.en t.ps = some r from z] at hc
  cases hc⟩
theorem sok_it {CT : Addr} {t : TD} {T : List (Pl × Pl)} {ms : List Pl} (e : mks t = ms) : Sok (spIt CT) [RTask CT t, RD (.list (T.map dE))] (fun _ => t.ps.length ≤ 7) (RD (.bool (isTreeB ms T))) := by
  rw [← e]
  exact sok_sps (Rs := RsIt CT) (P := PIt) (R := fun a => RD (.bool (isTreeB (mks a.1) a.2))) (t, T)
theorem sok_il {C CT CU : Addr} {h : HD} {t : TD} {T : List (Pl × Pl)} {ms : List Pl} (hc : cutO h.x t.st t.en t.ps = none) (e : mks t = ms) : Sok (spTl C CT CU (fun _ => True) fun a => RD (.bool (isLeastB a.1.x (mks a.2.1) a.2.2))) [RHouse C h, RTask CT t, RD (.list (T.map dE))] (fun _ => PNr (h, t) ∧ T.length ≤ 1000) (RD (.bool (isLeastB h.x ms T))) := fun H om vs ho hR hp Q E k => ⟨(h, t, T), om, ho, hR, hp.1, hp.2, trivial, fun _ => by rw [← e] at k; exact k, fun r z => by
  rw [show cutO h.x t.st t.en t.ps = some r from z] at hc
  cases hc⟩
theorem sok_tl {C CT CU : Addr} {h : HD} {t : TD} {T : List (Pl × Pl)} {ms : List Pl} (hc : cutO h.x t.st t.en t.ps = none) (e : mks t = ms) : Sok (spTl C CT CU inMs fun a => RD (.int (lenT a.1.x a.2.2))) [RHouse C h, RTask CT t, RD (.list (T.map dE))] (fun _ => PNr (h, t) ∧ T.length ≤ 1000 ∧ ∀ y ∈ T, y.1 ∈ ms ∧ y.2 ∈ ms) (RD (.int (lenT h.x T))) := fun H om vs ho hR hp Q E k => ⟨(h, t, T), om, ho, hR, hp.1, hp.2.1, by rw [← e] at hp; exact hp.2.2, fun _ => k, fun r z => by
  rw [show cutO h.x t.st t.en t.ps = some r from z] at hc
  cases hc⟩
theorem wrong_none0 {ls gs : List Int} {st en : Pl} {ps : List Pl} (h1 : isCr ls gs st = true) (h2 : isCr ls gs en = true) (po : ∀ y ∈ ps, isPl ls gs y = true) : wrongP ls gs st en ps = none := by
  unfold wrongP
  have e1 : ([st, en].find? fun p => !isCr ls gs p) = none := by simp [h1, h2]
  rw [e1, Option.none_or, List.find?_eq_none]
  intro x hx
  rw [po x hx]
  simp
theorem ok_law (C CT CP CU CIT TL TI fT : Addr) (fdT : FuncData) {f : Addr} {fd : FuncData} (F : Fun K "law" "law" s_law f fd) (t__law_numbers : TopD P w K mg base 2 "_law_numbers" ["script", "many"] (spNumbers K)) (t__law_parts : TopD P w K mg base 2 "_law_parts" ["numbers", "at"] (spParts K)) (t__law_house : TopD P w K mg base 7 "_law_house" ["parts"] (spMkH C TL TI)) (t__law_beside : TopD P w K mg base 2 "_law_beside" ["parts"] (spBes K)) (t__law_task : TopD P w K mg base 3 "_law_task" ["numbers", "at", "parts", "many"] (SpX0 (Rs__law_task ) (P__law_task ) (R__law_task ) (G__law_task ))) (t__law_made : TopD P w K mg base 4 "_law_made" ["task"] (Sps (Rs__law_made CT CIT fT fdT) (P__law_made CT CIT fT fdT) (R__law_made CT CIT fT fdT))) (t__law_first_gone : TopD P w K mg base 2 "_law_first_gone" ["beside", "task"] (Sps (Rs__law_first_gone ) (P__law_first_gone ) (R__law_first_gone ))) (z_range : mg "range" = none) (t__law_told : TopD P w K mg base 10 "_law_told" ["which", "house", "task"] (spTo C CT)) (z_all : mg "all" = none) (t__law_pairs : TopD P w K mg base 2 "_law_pairs" ["beside", "task"] (SpN (Rs__law_pairs P w) (P__law_pairs P w) (R__law_pairs P w))) (t__law_marks : TopD P w K mg base 1 "_law_marks" ["task"] (SpN (Rs__law_marks ) (P__law_marks ) (R__law_marks ))) (t__law_least_tree : TopD P w K mg base 2 "_law_least_tree" ["marks", "pairs"] (spLl P w)) (t_least_tree : TopN P w K mg base (L2.CX P w) 9 "least_tree" ["house", "task"] (spLt C CT CU)) (z_isinstance : mg "isinstance" = none) (z_list : mg "list" = none) (t_is_tree : TopD P w K mg base 3 "is_tree" ["task", "tree"] (spIt CT)) (t_is_least_tree : TopN P w K mg base (L2.CX P w) 9 "is_least_tree" ["house", "task", "tree"] (spTl C CT CU (fun _ => True) fun a => RD (.bool (isLeastB a.1.x (mks a.2.1) a.2.2)))) (t_tree_length : TopN P w K mg base (L2.CX P w) 9 "tree_length" ["house", "task", "tree"] (spTl C CT CU inMs fun a => RD (.int (lenT a.1.x a.2.2)))) (z_sum : mg "sum" = none) : FnOk P w K mg base CX0 11 f fd ["script"] (spLawT K [TL, TI]) := by
  refine fn_okL F sc_law fun cdv A outer s H E0 hr => ?_
  have nd := sc_law.nd
  refine ⟨_, (pss_cons (ps_set (i := 1) nd rfl (.inl rfl) (pe_call t__law_numbers.G (by exact hr.mono (by decide)) (by rfl) t__law_numbers.g t__law_numbers.kp t__law_numbers.b .nil pass0 (pa_cons (pv 0) (pa_cons pe_int pa_nil))))
      (pss_cons (ps_set (i := 2) nd rfl (.inl rfl) (pe_call t__law_parts.G (by exact hr.mono (by decide)) (by rfl) t__law_parts.g t__law_parts.kp t__law_parts.b .nil pass0 (pa_cons (pv 1) (pa_cons pe_int pa_nil))))
      (pss_cons (ps_set (i := 3) nd rfl (.inr rfl) (pe_call t__law_house.G (by exact hr.mono (by decide)) (by rfl) t__law_house.g t__law_house.kp t__law_house.b .nil pass0 (pa_cons (pv 2) pa_nil)))
      (pss_cons (ps_set (i := 4) nd rfl (.inl rfl) (pe_call t__law_beside.G (by exact hr.mono (by decide)) (by rfl) t__law_beside.g t__law_beside.kp t__law_beside.b .nil pass0 (pa_cons (pv 2) pa_nil)))
      (pss_cons (ps_set (i := 5) nd rfl (.inl rfl) (pe_call t__law_task.G (by exact hr.mono (by decide)) (by rfl) t__law_task.g t__law_task.kp t__law_task.b .nil pass0 (pa_cons (pv 1) (pa_cons pe_int (pa_cons (pv 2) (pa_cons pe_int pa_nil))))))
      (pss_cons (ps_set (i := 6) nd rfl (.inr rfl) (pe_call t__law_made.G (by exact hr.mono (by decide)) (by rfl) t__law_made.g t__law_made.kp t__law_made.b .nil pass0 (pa_cons (pv 5) pa_nil)))
      (pss_cons (ps_set (i := 7) nd rfl (.inr rfl) (pe_call t__law_first_gone.G (by exact hr.mono (by decide)) (by rfl) t__law_first_gone.g t__law_first_gone.kp t__law_first_gone.b .nil pass0 (pa_cons (pv 4) (pa_cons (pv 5) pa_nil))))
      (pss_cons (ps_if (pt_cmpR op_notN (pv 7) pe_non (nomark _)) (pss_one (ps_ret (pe_callB (cr_all rfl) (by rfl) z_all (by decide +kernel) (pa_cons (pe_lc (own := [("which", 12)]) (g := (gName 12)) (tt := tYes) rfl nd (pi_range1 rfl z_range (pa_cons pe_int pa_nil)) (blkOk_by (N := ["script", "numbers", "parts", "house", "beside", "task", "made", "gone", "pairs", "due", "turn", "told", "which", "pair"]) (sc := defScope s_law) (by decide +kernel)) (fun _ _ _ _ _ => (pg_name (i := 12) nd rfl (.inl rfl))) (fun _ _ _ _ _ => pts_nil) (fun _ _ _ _ _ => (pe_cmpR (r := rEqD K) (op_eqD hr.units) (pe_call t__law_told.G (by exact hr.mono (by decide)) (by rfl) t__law_told.g t__law_told.kp t__law_told.b .nil pass0 (pa_cons (pv 12) (pa_cons (pv 3) (pa_cons (pv 6) pa_nil)))) (pv 7) (nomark _)))) pa_nil)))) pss_nil)
      (pss_cons (ps_set (i := 8) nd rfl (.inr rfl) (pe_call t__law_pairs.G (by exact hr.mono (by decide)) (by rfl) t__law_pairs.g t__law_pairs.kp t__law_pairs.b .nil pass0 (pa_cons (pv 4) (pa_cons (pv 5) pa_nil))))
      (pss_cons (ps_set (i := 9) nd rfl (.inl rfl) (pe_call t__law_least_tree.G (by exact hr.mono (by decide)) (by rfl) t__law_least_tree.g t__law_least_tree.kp t__law_least_tree.b .nil pass0 (pa_cons (pe_call t__law_marks.G (by exact hr.mono (by decide)) (by rfl) t__law_marks.g t__law_marks.kp t__law_marks.b .nil pass0 (pa_cons (pv 5) pa_nil)) (pa_cons (pv 8) pa_nil))))
      (pss_cons (ps_for PassesOwn.never rfl (pi_range1 rfl z_range (pa_cons pe_int pa_nil)) (pg_name (i := 10) nd rfl (.inl rfl)) (pss_cons (ps_set (i := 11) nd rfl (.inl rfl) (pe_call t_least_tree.G (by exact hr.mono (by decide)) (by rfl) t_least_tree.g t_least_tree.kp t_least_tree.b .nil (passes_call takes0 fun _ _ _ _ h => h) (pa_cons (pv 3) (pa_cons (pv 6) pa_nil))))
      (pss_cons (ps_if (PW.pt (pw_or (pt_not (pt_val (pe_callB (show CallR _ (.builtin "isinstance") (rIsi K) from call_isi) (by rfl) z_isinstance (by decide +kernel) (pa_cons (pv 11) (pa_cons (pe_bltn (v := .ty "list") (by rfl) z_list (by decide +kernel) rfl) pa_nil))))) (pw_or (pt_cmpR (r := rNeD K) (op_neD hr.units) (pv 11) (pv 9) (nomark _)) (pw_or1 (pt_cmpR (r := rNotB) op_notBl (pe_call t_is_tree.G (by exact hr.mono (by decide)) (by rfl) t_is_tree.g t_is_tree.kp t_is_tree.b .nil pass0 (pa_cons (pv 6) (pa_cons (pv 11) pa_nil))) pe_bl (by rfl)))))) (pss_one (ps_ret pe_bl)) pss_nil)
      (pss_cons (ps_if (PW.pt (pw_or (pt_cmpR (r := rNotB) op_notBl (pe_call t_is_least_tree.G (by exact hr.mono (by decide)) (by rfl) t_is_least_tree.g t_is_least_tree.kp t_is_least_tree.b .nil (passes_call takes0 fun _ _ _ _ h => h) (pa_cons (pv 3) (pa_cons (pv 6) (pa_cons (pv 11) pa_nil)))) pe_bl (by rfl)) (pw_or1 (pt_cmpR (r := rNe) op_ne (pe_call t_tree_length.G (by exact hr.mono (by decide)) (by rfl) t_tree_length.g t_tree_length.kp t_tree_length.b .nil (passes_call takes0 fun _ _ _ _ h => h) (pa_cons (pv 3) (pa_cons (pv 6) (pa_cons (pv 11) pa_nil)))) (pe_callB (cr_sum rfl) (by rfl) z_sum (by decide +kernel) (pa_cons (pe_lc (own := [("pair", 13)]) (g := (gName 13)) (tt := tYes) rfl nd (pi_list (pv 9)) (blkOk_by (N := ["script", "numbers", "parts", "house", "beside", "task", "made", "gone", "pairs", "due", "turn", "told", "which", "pair"]) (sc := defScope s_law) (by decide +kernel)) (fun _ _ _ _ _ => (pg_name (i := 13) nd rfl (.inl rfl))) (fun _ _ _ _ _ => pts_nil) (fun _ _ _ _ _ => (show PE _ _ (tPGet P w (tVar 8) (tVar 13)) from (pe_pget (by exact hr.units) (pv 8) (pv 13) (fun _ _ => rfl))))) pa_nil)) (nomark _))))) (pss_one (ps_ret pe_bl)) pss_nil)
      (pss_one (ps_expr (pe_bm PySem.F.plainAttrs_list PySem.F.slot_list_append PySem.F.type_list_append mt_append (pv 11) (pa_cons (pe_tup (pa_cons (pe_tup (pa_cons pe_int (pa_cons pe_int pa_nil))) (pa_cons (pe_tup (pa_cons pe_int (pa_cons pe_int pa_nil))) pa_nil))) pa_nil))))))))
      (pss_one (ps_ret pe_bl))))))))))))), ?_⟩
  intro ns hs Q hns hT q
  show WC ⟨hs, hs, fun _ => False, [.fz (RScr K ns), .any, .any, .any, .any, .any, .any, .any, .any, .any, .any, .any, .any, .any]⟩ _
  have tL := hT TL (by simp)
  have tI := hT TI (by simp)
  refine s_seq ?_
  refine s_setX (x_call0 (skx_numbers (m := 40)) (a_cons (e_var rfl) (a_cons e_int a_nil)) (fun H kp => ⟨hns, by decide⟩)) ?_
  rintro ns1 ⟨n60, sm⟩
  show WC ⟨hs, hs, (fun _ => False), [.fz (RScr K ns), .fz (RD (.list (ns1.map PyData.int))), .any, .any, .any, .any, .any, .any, .any, .any, .any, .any, .any, .any]⟩ _
  refine s_seq ?_
  refine s_setX (x_call0 (skx_parts (a := 0)) (a_cons (e_var rfl) (a_cons e_int a_nil)) (fun H kp => ⟨sm, by omega⟩)) ?_
  rintro ⟨ls, gs, cs⟩ hd
  show WC ⟨hs, hs, (fun _ => False), [.fz (RScr K ns), .fz (RD (.list (ns1.map PyData.int))), .fz (RD ((eT3 (eL PyData.int) (eL PyData.int) (eL dLk)) (ls, gs, cs))), .any, .any, .any, .any, .any, .any, .any, .any, .any, .any, .any]⟩ _
  refine s_seq ?_
  refine s_setX (x_call0 (skx_mkh) (a_cons (e_var rfl) a_nil) (fun H kp => ⟨hd.v, kp.tab _ tL, kp.tab _ tI⟩)) ?_
  rintro _ _
  show WC ⟨hs, hs, (fun _ => False), [.fz (RScr K ns), .fz (RD (.list (ns1.map PyData.int))), .fz (RD ((eT3 (eL PyData.int) (eL PyData.int) (eL dLk)) (ls, gs, cs))), .fz (RHouse C (⟨ls, gs, cs⟩ : HD)), .any, .any, .any, .any, .any, .any, .any, .any, .any, .any]⟩ _
  refine s_seq ?_
  refine s_setX (x_call0 (skx_bes) (a_cons (e_var rfl) a_nil) (fun H kp => ⟨hd.v, hd.s9⟩)) ?_
  rintro _ _
  show WC ⟨hs, hs, (fun _ => False), [.fz (RScr K ns), .fz (RD (.list (ns1.map PyData.int))), .fz (RD ((eT3 (eL PyData.int) (eL PyData.int) (eL dLk)) (ls, gs, cs))), .fz (RHouse C (⟨ls, gs, cs⟩ : HD)), .fz (RBes (ls, gs, cs)), .any, .any, .any, .any, .any, .any, .any, .any, .any]⟩ _
  refine s_seq ?_
  refine s_setX (x_call0 (skx0_spx (Rs := Rs__law_task ) (P := P__law_task ) (R := R__law_task ) (G := G__law_task ) (ns1, 20, ls, gs, cs, 7)) (a_cons (e_var rfl) (a_cons e_int (a_cons (e_var rfl) (a_cons e_int a_nil)))) (fun H kp => by show Drawn (ls, gs, cs) ∧ 20 + 4 + 7 ≤ ns1.length ∧ 7 ≤ 20; exact ⟨hd, by omega, by omega⟩)) ?_
  rintro ⟨st, en, qs⟩ ⟨hst, hen, qnd, qpl, q7⟩
  show WC ⟨hs, hs, (fun _ => False), [.fz (RScr K ns), .fz (RD (.list (ns1.map PyData.int))), .fz (RD ((eT3 (eL PyData.int) (eL PyData.int) (eL dLk)) (ls, gs, cs))), .fz (RHouse C (⟨ls, gs, cs⟩ : HD)), .fz (RBes (ls, gs, cs)), .fz (RD ((eT3 dP dP (eL dP)) (st, en, qs))), .any, .any, .any, .any, .any, .any, .any, .any]⟩ _
  replace q7 : qs.length ≤ 7 := q7
  replace hst : isCr ls gs st = true := hst
  replace hen : isCr ls gs en = true := hen
  replace qnd : qs.Nodup := qnd
  replace qpl : ∀ p ∈ qs, isPl ls gs p = true := qpl
  have hw : wrongP ls gs st en (sortP qs) = none := wrong_none0 hst hen fun y hy => qpl y (sortP_mem.mp hy)
  have hP : PNr ((⟨ls, gs, cs⟩ : HD), (⟨st, en, sortP qs⟩ : TD)) := ⟨hd, hw, by show (sortP qs).length ≤ 7; rw [sortP_len]; omega⟩
  refine s_seq ?_
  refine s_set (show E _ _ _ (RTask CT (⟨st, en, sortP qs⟩ : TD)) from c_call (sok_sps (Rs := Rs__law_made CT CIT fT fdT) (P := P__law_made CT CIT fT fdT) (R := R__law_made CT CIT fT fdT) (st, en, qs)) (a_cons (e_var rfl) a_nil) (fun H kp => by show qs.Nodup ∧ qs.length ≤ 60; exact ⟨qnd, by omega⟩)) ?_
  show WC ⟨hs, hs, (fun _ => False), [.fz (RScr K ns), .fz (RD (.list (ns1.map PyData.int))), .fz (RD ((eT3 (eL PyData.int) (eL PyData.int) (eL dLk)) (ls, gs, cs))), .fz (RHouse C (⟨ls, gs, cs⟩ : HD)), .fz (RBes (ls, gs, cs)), .fz (RD ((eT3 dP dP (eL dP)) (st, en, qs))), .fz (RTask CT (⟨st, en, sortP qs⟩ : TD)), .any, .any, .any, .any, .any, .any, .any]⟩ _
  refine s_seq ?_
  refine s_set (show E _ _ _ (RD ((eO dP) (cutO (ls, gs, cs) st en (sortP qs)))) from c_call (sok_sps (Rs := Rs__law_first_gone ) (P := P__law_first_gone ) (R := R__law_first_gone ) ((ls, gs, cs), st, en, qs)) (a_cons (e_var rfl) (a_cons (e_var rfl) a_nil)) (fun H kp => by show Drawn (ls, gs, cs) ∧ isPl (ls, gs, cs).1 (ls, gs, cs).2.1 st = true ∧ qs.length ≤ 7; exact ⟨hd, isCr_pl hst, q7⟩)) ?_
  show WC ⟨hs, hs, (fun _ => False), [.fz (RScr K ns), .fz (RD (.list (ns1.map PyData.int))), .fz (RD ((eT3 (eL PyData.int) (eL PyData.int) (eL dLk)) (ls, gs, cs))), .fz (RHouse C (⟨ls, gs, cs⟩ : HD)), .fz (RBes (ls, gs, cs)), .fz (RD ((eT3 dP dP (eL dP)) (st, en, qs))), .fz (RTask CT (⟨st, en, sortP qs⟩ : TD)), .fz (RD ((eO dP) (cutO (ls, gs, cs) st en (sortP qs)))), .any, .any, .any, .any, .any, .any]⟩ _
  cases hc : cutO (ls, gs, cs) st en (sortP qs) with
  | none =>
    show WC ⟨hs, hs, (fun _ => False), [.fz (RScr K ns), .fz (RD (.list (ns1.map PyData.int))), .fz (RD ((eT3 (eL PyData.int) (eL PyData.int) (eL dLk)) (ls, gs, cs))), .fz (RHouse C (⟨ls, gs, cs⟩ : HD)), .fz (RBes (ls, gs, cs)), .fz (RD ((eT3 dP dP (eL dP)) (st, en, qs))), .fz (RTask CT (⟨st, en, sortP qs⟩ : TD)), .fz (RD .none), .any, .any, .any, .any, .any, .any]⟩ _
    refine s_seq ?_
    refine s_if (t_T (e_op o_notN (e_var rfl) e_non)) (fun h1 => absurd h1 ?_) (fun h1 => ?_)
    · simp [isN]
    refine s_pass ?_
    refine s_seq ?_
    have rea := rea_all hP hc
    rw [show mks (⟨st, en, sortP qs⟩ : TD) = (marksP ([st, en] ++ qs)) from mks_law] at rea
    have mpl := mks_pl (h := (⟨ls, gs, cs⟩ : HD)) (t := (⟨st, en, sortP qs⟩ : TD)) hw
    rw [show mks (⟨st, en, sortP qs⟩ : TD) = (marksP ([st, en] ++ qs)) from mks_law] at mpl
    have ml : (marksP ([st, en] ++ qs)).length ≤ 9 := by have := marks_le st en qs; omega
    have mne : (marksP ([st, en] ++ qs)) ≠ [] := by rw [← mks_law]; exact mks_ne
    have eT := treeL_tree (x := (ls, gs, cs)) (ms := (marksP ([st, en] ++ qs))) marksP_nd mne
    have eLe := treeL_least (x := (ls, gs, cs)) (ms := (marksP ([st, en] ++ qs))) marksP_nd mne
    have tl := treeL_len (x := (ls, gs, cs)) ml
    have tin := treeL_in (x := (ls, gs, cs)) (ms := (marksP ([st, en] ++ qs)))
    have eS : lenT (ls, gs, cs) (treeL (ls, gs, cs) (marksP ([st, en] ++ qs))) = ((treeL (ls, gs, cs) (marksP ([st, en] ++ qs))).map fun v => dist (nbs (ls, gs, cs)) v.1 v.2).sum := rfl
    refine s_set (n_ePD (show EN _ _ (OPD P w ((pairsL (ls, gs, cs) (marksP ([st, en] ++ qs)) (marksP ([st, en] ++ qs))))) from n_call (skn_spn (Rs := Rs__law_pairs P w) (P := P__law_pairs P w) (C := R__law_pairs P w) ((ls, gs, cs), st, en, qs)) (a_cons (e_var rfl) (a_cons (e_var rfl) a_nil)) (fun H kp => by show Drawn (ls, gs, cs) ∧ qs.length ≤ 7 ∧ (∀ m ∈ marksP ([st, en] ++ qs), isPl (ls, gs, cs).1 (ls, gs, cs).2.1 m = true) ∧ ∀ m ∈ marksP ([st, en] ++ qs), ∀ o ∈ marksP ([st, en] ++ qs), Rea (ls, gs, cs) m o; exact ⟨hd, q7, mpl, rea⟩))) ?_
    show WC ⟨hs, hs, (fun _ => False), [.fz (RScr K ns), .fz (RD (.list (ns1.map PyData.int))), .fz (RD ((eT3 (eL PyData.int) (eL PyData.int) (eL dLk)) (ls, gs, cs))), .fz (RHouse C (⟨ls, gs, cs⟩ : HD)), .fz (RBes (ls, gs, cs)), .fz (RD ((eT3 dP dP (eL dP)) (st, en, qs))), .fz (RTask CT (⟨st, en, sortP qs⟩ : TD)), .fz (RD .none), .fz (RPD P w (pairsL (ls, gs, cs) (marksP ([st, en] ++ qs)) (marksP ([st, en] ++ qs)))), .any, .any, .any, .any, .any]⟩ _
    refine s_seq ?_
    refine s_set (n_e (n_call (skn_spn (Rs := RsLl P w) (P := PLl) (C := fun a => OL ((treeL a.1 a.2).map dE)) ((ls, gs, cs), (marksP ([st, en] ++ qs)))) (a_cons (n_e (show EN _ _ (OL ((marksP ([st, en] ++ qs)).map dP)) from n_call (skn_spn (Rs := Rs__law_marks ) (P := P__law_marks ) (C := R__law_marks ) (st, en, qs)) (a_cons (e_var rfl) a_nil) (fun H kp => by show qs.length ≤ 60; exact (by show qs.length ≤ 60; omega)))) (a_cons (e_var rfl) a_nil)) (fun _ _ => ⟨marksP_nd, ml⟩))) ?_
    show WC ⟨hs, hs, (fun _ => False), [.fz (RScr K ns), .fz (RD (.list (ns1.map PyData.int))), .fz (RD ((eT3 (eL PyData.int) (eL PyData.int) (eL dLk)) (ls, gs, cs))), .fz (RHouse C (⟨ls, gs, cs⟩ : HD)), .fz (RBes (ls, gs, cs)), .fz (RD ((eT3 dP dP (eL dP)) (st, en, qs))), .fz (RTask CT (⟨st, en, sortP qs⟩ : TD)), .fz (RD .none), .fz (RPD P w (pairsL (ls, gs, cs) (marksP ([st, en] ++ qs)) (marksP ([st, en] ++ qs)))), .fz (RD (.list ((treeL (ls, gs, cs) (marksP ([st, en] ++ qs))).map (eT2 dP dP)))), .any, .any, .any, .any]⟩ _
    refine s_seq ?_
    refine s_rng (lo := 0) (n := (2 : Int).toNat) (fun (i : Nat) γ => γ = [.fz (RScr K ns), .fz (RD (.list (ns1.map PyData.int))), .fz (RD ((eT3 (eL PyData.int) (eL PyData.int) (eL dLk)) (ls, gs, cs))), .fz (RHouse C (⟨ls, gs, cs⟩ : HD)), .fz (RBes (ls, gs, cs)), .fz (RD ((eT3 dP dP (eL dP)) (st, en, qs))), .fz (RTask CT (⟨st, en, sortP qs⟩ : TD)), .fz (RD .none), .fz (RPD P w (pairsL (ls, gs, cs) (marksP ([st, en] ++ qs)) (marksP ([st, en] ++ qs)))), .fz (RD (.list ((treeL (ls, gs, cs) (marksP ([st, en] ++ qs))).map (eT2 dP dP)))), .any, .any, .any, .any] ∧ (True)) (w_rng1 (j := 2) e_int (by omega)) ⟨rfl, by trivial⟩ ?_ ?_
    · rintro i γ hx ⟨rfl, _⟩
      refine ⟨_, _, g_name, ?_⟩
      show WC ⟨hs, hs, (fun _ => False), [.fz (RScr K ns), .fz (RD (.list (ns1.map PyData.int))), .fz (RD ((eT3 (eL PyData.int) (eL PyData.int) (eL dLk)) (ls, gs, cs))), .fz (RHouse C (⟨ls, gs, cs⟩ : HD)), .fz (RBes (ls, gs, cs)), .fz (RD ((eT3 dP dP (eL dP)) (st, en, qs))), .fz (RTask CT (⟨st, en, sortP qs⟩ : TD)), .fz (RD .none), .fz (RPD P w (pairsL (ls, gs, cs) (marksP ([st, en] ++ qs)) (marksP ([st, en] ++ qs)))), .fz (RD (.list ((treeL (ls, gs, cs) (marksP ([st, en] ++ qs))).map (eT2 dP dP)))), .fz (RD (.int (0 + (i : Int)))), .any, .any, .any]⟩ _
      refine s_seq ?_
      refine s_new (n_call (skn_lt (h := (⟨ls, gs, cs⟩ : HD)) (t := (⟨st, en, sortP qs⟩ : TD)) hc mks_law) (a_cons (e_var rfl) (a_cons (e_var rfl) a_nil)) (fun _ _ => hP)) ?_
      show WC ⟨hs, hs, (fun _ => False), [.fz (RScr K ns), .fz (RD (.list (ns1.map PyData.int))), .fz (RD ((eT3 (eL PyData.int) (eL PyData.int) (eL dLk)) (ls, gs, cs))), .fz (RHouse C (⟨ls, gs, cs⟩ : HD)), .fz (RBes (ls, gs, cs)), .fz (RD ((eT3 dP dP (eL dP)) (st, en, qs))), .fz (RTask CT (⟨st, en, sortP qs⟩ : TD)), .fz (RD .none), .fz (RPD P w (pairsL (ls, gs, cs) (marksP ([st, en] ++ qs)) (marksP ([st, en] ++ qs)))), .fz (RD (.list ((treeL (ls, gs, cs) (marksP ([st, en] ++ qs))).map (eT2 dP dP)))), .fz (RD (.int (0 + (i : Int)))), .own (OL ((treeL (ls, gs, cs) (marksP ([st, en] ++ qs))).map (eT2 dP dP))), .any, .any]⟩ _
      refine s_seq ?_
      refine s_if (t_or (t_not (t_B (e_isiL (i_own rfl)))) (fun hbo => (t_or (t_T (e_op (o_neE (f := (fun xs : List (((Int) × (Int)) × ((Int) × (Int))) => .list (xs.map (eT2 dP dP)))) (a := (treeL (ls, gs, cs) (marksP ([st, en] ++ qs)))) (b := (treeL (ls, gs, cs) (marksP ([st, en] ++ qs)))) (hd := inferInstance) (by exact (enc_list (enc_T2 enc_P enc_P))) (by decide) (by exact (fun _ _ => ⟨⟨trivial, trivial⟩, ⟨trivial, trivial⟩⟩)) (by exact (fun _ _ => ⟨⟨trivial, trivial⟩, ⟨trivial, trivial⟩⟩))) (e_own rfl) (e_var rfl))) (fun hbo => (t_T (e_op o_notB (c_call (sok_it (t := (⟨st, en, sortP qs⟩ : TD)) (T := (treeL (ls, gs, cs) (marksP ([st, en] ++ qs)))) mks_law) (a_cons (e_var rfl) (a_cons (e_own rfl) a_nil)) (fun _ _ => hP.2.2)) e_bl)))))) (fun h2 => absurd h2 ?_) (fun h2 => ?_)
      · simpa using eT
      refine s_pass ?_
      refine s_seq ?_
      refine s_if (t_or (t_T (e_op o_notB (c_call (sok_il (h := (⟨ls, gs, cs⟩ : HD)) (t := (⟨st, en, sortP qs⟩ : TD)) (T := (treeL (ls, gs, cs) (marksP ([st, en] ++ qs)))) hc mks_law) (a_cons (e_var rfl) (a_cons (e_var rfl) (a_cons (e_own rfl) a_nil))) (fun _ _ => ⟨hP, (by omega)⟩)) e_bl)) (fun hbo => (t_T (e_op o_neI (c_call (sok_tl (h := (⟨ls, gs, cs⟩ : HD)) (t := (⟨st, en, sortP qs⟩ : TD)) (T := (treeL (ls, gs, cs) (marksP ([st, en] ++ qs)))) hc mks_law) (a_cons (e_var rfl) (a_cons (e_var rfl) (a_cons (e_own rfl) a_nil))) (fun _ _ => ⟨hP, (by omega), tin⟩)) (e_cb o_sum (a_cons (n_e (n_lcM1 (xs := (treeL (ls, gs, cs) (marksP ([st, en] ++ qs)))) (enc := (eT2 dP dP)) (h := fun v => (dist (nbs (ls, gs, cs)) v.1 v.2)) (encB := PyData.int) (i_of (e_var rfl)) rfl (by decide) (fun _ v hxv => g_name) (fun _ v hxv hyv => by exact (e_pget (n := (dist (nbs (ls, gs, cs)) v.1 v.2)) (pairsL_of (tin _ hxv).1 (tin _ hxv).2 (treeL_lt _ hxv)) (e_var rfl) (e_var rfl))) (by omega))) a_nil)))))) (fun h4 => absurd h4 ?_) (fun h4 => ?_)
      · simpa [lenT] using eLe
      refine s_pass ?_
      refine s_appM (xs := (treeL (ls, gs, cs) (marksP ([st, en] ++ qs)))) (a := ((0, 0), (0, 1))) rfl (e_tup (m_cons (e_tup (m_cons e_int (m_cons e_int m_nil))) (m_cons (e_tup (m_cons e_int (m_cons e_int m_nil))) m_nil))) (by omega) ?_
      show WC ⟨hs, hs, (fun _ => False), [.fz (RScr K ns), .fz (RD (.list (ns1.map PyData.int))), .fz (RD ((eT3 (eL PyData.int) (eL PyData.int) (eL dLk)) (ls, gs, cs))), .fz (RHouse C (⟨ls, gs, cs⟩ : HD)), .fz (RBes (ls, gs, cs)), .fz (RD ((eT3 dP dP (eL dP)) (st, en, qs))), .fz (RTask CT (⟨st, en, sortP qs⟩ : TD)), .fz (RD .none), .fz (RPD P w (pairsL (ls, gs, cs) (marksP ([st, en] ++ qs)) (marksP ([st, en] ++ qs)))), .fz (RD (.list ((treeL (ls, gs, cs) (marksP ([st, en] ++ qs))).map (eT2 dP dP)))), .fz (RD (.int (0 + (i : Int)))), .own (OL (((treeL (ls, gs, cs) (marksP ([st, en] ++ qs))) ++ [((0, 0), (0, 1))]).map (eT2 dP dP))), .any, .any]⟩ _
      refine s_drop 10 ?_
      refine s_drop 11 ?_
      show WC ⟨hs, hs, (fun _ => False), [.fz (RScr K ns), .fz (RD (.list (ns1.map PyData.int))), .fz (RD ((eT3 (eL PyData.int) (eL PyData.int) (eL dLk)) (ls, gs, cs))), .fz (RHouse C (⟨ls, gs, cs⟩ : HD)), .fz (RBes (ls, gs, cs)), .fz (RD ((eT3 dP dP (eL dP)) (st, en, qs))), .fz (RTask CT (⟨st, en, sortP qs⟩ : TD)), .fz (RD .none), .fz (RPD P w (pairsL (ls, gs, cs) (marksP ([st, en] ++ qs)) (marksP ([st, en] ++ qs)))), .fz (RD (.list ((treeL (ls, gs, cs) (marksP ([st, en] ++ qs))).map (eT2 dP dP)))), .any, .any, .any, .any]⟩ _
      exact s_of ⟨rfl, by trivial⟩
    · rintro γ ⟨rfl, _⟩
      show WC ⟨hs, hs, (fun _ => False), [.fz (RScr K ns), .fz (RD (.list (ns1.map PyData.int))), .fz (RD ((eT3 (eL PyData.int) (eL PyData.int) (eL dLk)) (ls, gs, cs))), .fz (RHouse C (⟨ls, gs, cs⟩ : HD)), .fz (RBes (ls, gs, cs)), .fz (RD ((eT3 dP dP (eL dP)) (st, en, qs))), .fz (RTask CT (⟨st, en, sortP qs⟩ : TD)), .fz (RD .none), .fz (RPD P w (pairsL (ls, gs, cs) (marksP ([st, en] ++ qs)) (marksP ([st, en] ++ qs)))), .fz (RD (.list ((treeL (ls, gs, cs) (marksP ([st, en] ++ qs))).map (eT2 dP dP)))), .any, .any, .any, .any]⟩ _
      refine s_retU (te := tC (.bl true)) (R := RD (.bool true)) e_bl ?_
      intro H' v k r
      cases r
      exact q H'
  | some r =>
    show WC ⟨hs, hs, (fun _ => False), [.fz (RScr K ns), .fz (RD (.list (ns1.map PyData.int))), .fz (RD ((eT3 (eL PyData.int) (eL PyData.int) (eL dLk)) (ls, gs, cs))), .fz (RHouse C (⟨ls, gs, cs⟩ : HD)), .fz (RBes (ls, gs, cs)), .fz (RD ((eT3 dP dP (eL dP)) (st, en, qs))), .fz (RTask CT (⟨st, en, sortP qs⟩ : TD)), .fz (RD (dP r)), .any, .any, .any, .any, .any, .any]⟩ _
    refine s_seq ?_
    refine s_if (t_T (e_op o_notN (e_var rfl) e_non)) (fun h5 => ?_) (fun h5 => absurd h5 ?_)
    rotate_left
    · exact fun z => nomatch (show true = false from z)
    refine s_ret (E.eq (e_cb o_all (a_cons (n_e (n_lcRM1 (lo := 0) (n := (3 : Int).toNat) (h := fun v => (decide (r = r))) (encB := PyData.bool) (w_rng1 (j := 3) e_int (by omega)) rfl (by decide) (fun _ v hxv => g_name) (fun _ v hxv hyv => by exact (e_op (o_eqE (f := dP) (a := r) (b := r) (hd := inferInstance) (by exact enc_P) (by decide) (by exact ⟨trivial, trivial⟩) (by exact ⟨trivial, trivial⟩)) (show E _ _ _ (RD (dP r)) from c_call (sok_sps (Rs := RsTo C CT) (P := PTo) (R := fun a => RD (dP a.2.2.2)) (v, (⟨ls, gs, cs⟩ : HD), (⟨st, en, sortP qs⟩ : TD), r)) (a_cons (e_var rfl) (a_cons (e_var rfl) (a_cons (e_var rfl) a_nil))) (fun _ _ => ⟨hP, hc⟩)) (e_var rfl))) (by omega))) a_nil)) (e := .bool true) (congrArg PyData.bool ?_)) fun H' v k r => by cases r; exact q H'
    simp
end
section
open GxR NdefX PySem.Spec PyProof.Rows
theorem all_mk {l : PySem.W.OpenLaw} {w : World} {K : PySem.W.Frag} {h : Heap} {mg : Str → Option Value} {fa : Addr} {TI TL : Addr} (X : K.In h) (G : h.Ns mainGlobals mg) (hfa : mg "law" = some (.ref fa))
    {C : Addr}
    {CI : Addr}
    {tk_LONGEST : Tok}
    {tk_MOST_STRETCHES : Tok}
    {tk_MOST_GAPS : Tok}
    {tk_MOST_CLOSED : Tok}
    {f_House___init__ : Addr}
    {c8_House___init__ : Addr}
    {od_House___init__ an_House___init__ : Option Addr} {sl_House___init__ : Array (Option Value)} {oc_House___init__ kV_House___init__ dc_House___init__ pm_House___init__ ct_House___init__ : Value}
    {f__are_long : Addr}
    {c8__are_long : Addr}
    {od__are_long an__are_long : Option Addr} {sl__are_long : Array (Option Value)} {oc__are_long kV__are_long dc__are_long pm__are_long ct__are_long : Value}
    {f__cross_heights : Addr}
    {od__cross_heights an__cross_heights : Option Addr} {sl__cross_heights : Array (Option Value)} {oc__cross_heights kV__cross_heights dc__cross_heights pm__cross_heights cd__cross_heights ct__cross_heights : Value}
    {f_House_is_link : Addr}
    {od_House_is_link an_House_is_link : Option Addr} {sl_House_is_link : Array (Option Value)} {oc_House_is_link kV_House_is_link dc_House_is_link pm_House_is_link cd_House_is_link ct_House_is_link : Value}
    {f_House_is_place : Addr}
    {od_House_is_place an_House_is_place : Option Addr} {sl_House_is_place : Array (Option Value)} {oc_House_is_place kV_House_is_place dc_House_is_place pm_House_is_place cd_House_is_place ct_House_is_place : Value}
    {f_House_is_cross : Addr}
    {od_House_is_cross an_House_is_cross : Option Addr} {sl_House_is_cross : Array (Option Value)} {oc_House_is_cross kV_House_is_cross dc_House_is_cross pm_House_is_cross cd_House_is_cross ct_House_is_cross : Value}
    {f_House_is_closed : Addr}
    {od_House_is_closed an_House_is_closed : Option Addr} {sl_House_is_closed : Array (Option Value)} {oc_House_is_closed kV_House_is_closed dc_House_is_closed pm_House_is_closed cd_House_is_closed ct_House_is_closed : Value}
    {CT : Addr}
    {CIT : Addr}
    {tk_MOST_PICKS : Tok}
    {f_Task___init__ : Addr}
    {od_Task___init__ an_Task___init__ : Option Addr} {sl_Task___init__ : Array (Option Value)} {oc_Task___init__ kV_Task___init__ dc_Task___init__ pm_Task___init__ cd_Task___init__ ct_Task___init__ : Value}
    {p_Task_picks : Addr}
    {r_Task_picks : List Value}
    {f_Task_picks : Addr}
    {od_Task_picks an_Task_picks : Option Addr} {sl_Task_picks : Array (Option Value)} {oc_Task_picks kV_Task_picks dc_Task_picks pm_Task_picks cd_Task_picks ct_Task_picks : Value}
    {CP : Addr}
    {Pe : Addr}
    {nm0 qn0 : Str} {N0 : Addr} {bs0 : List Value} {sn0 : List Str} {sb0 : List Value} {ab0 : Bool} {co0 : Option Bool} {dd0 : Option Addr} {ma0 mb0 mc0 md0 me0 : Option Value}
    {f_iCP : Addr}
    {od_iCP an_iCP : Option Addr} {sl_iCP : Array (Option Value)} {oc_iCP kV_iCP dc_iCP pm_iCP cd_iCP ct_iCP : Value}
    {f_check_task : Addr}
    {od_check_task an_check_task : Option Addr} {sl_check_task : Array (Option Value)} {oc_check_task kV_check_task dc_check_task pm_check_task cd_check_task ct_check_task : Value}
    {f__law_row : Addr}
    {od__law_row an__law_row : Option Addr} {sl__law_row : Array (Option Value)} {oc__law_row kV__law_row dc__law_row pm__law_row cd__law_row ct__law_row : Value}
    {f__law_numbers : Addr}
    {od__law_numbers an__law_numbers : Option Addr} {sl__law_numbers : Array (Option Value)} {oc__law_numbers kV__law_numbers dc__law_numbers pm__law_numbers cd__law_numbers ct__law_numbers : Value}
    {f_House_length_of : Addr}
    {od_House_length_of an_House_length_of : Option Addr} {sl_House_length_of : Array (Option Value)} {oc_House_length_of kV_House_length_of dc_House_length_of pm_House_length_of cd_House_length_of ct_House_length_of : Value}
    {CL : Addr}
    {f_House_link_between : Addr}
    {od_House_link_between an_House_link_between : Option Addr} {sl_House_link_between : Array (Option Value)} {oc_House_link_between kV_House_link_between dc_House_link_between pm_House_link_between cd_House_link_between ct_House_link_between : Value}
    {f_House_beside : Addr}
    {od_House_beside an_House_beside : Option Addr} {sl_House_beside : Array (Option Value)} {oc_House_beside kV_House_beside dc_House_beside pm_House_beside cd_House_beside ct_House_beside : Value}
    {f__law_all_links : Addr}
    {od__law_all_links an__law_all_links : Option Addr} {sl__law_all_links : Array (Option Value)} {oc__law_all_links kV__law_all_links dc__law_all_links pm__law_all_links cd__law_all_links ct__law_all_links : Value}
    {f__law_parts : Addr}
    {od__law_parts an__law_parts : Option Addr} {sl__law_parts : Array (Option Value)} {oc__law_parts kV__law_parts dc__law_parts pm__law_parts cd__law_parts ct__law_parts : Value}
    {f__law_house : Addr}
    {od__law_house an__law_house : Option Addr} {sl__law_house : Array (Option Value)} {oc__law_house kV__law_house dc__law_house pm__law_house cd__law_house ct__law_house : Value}
    {f__law_beside : Addr}
    {od__law_beside an__law_beside : Option Addr} {sl__law_beside : Array (Option Value)} {oc__law_beside kV__law_beside dc__law_beside pm__law_beside cd__law_beside ct__law_beside : Value}
    {f_levels : Addr}
    {od_levels an_levels : Option Addr} {sl_levels : Array (Option Value)} {oc_levels kV_levels dc_levels pm_levels cd_levels ct_levels : Value}
    {CU : Addr}
    {nm1 qn1 : Str} {N1 : Addr} {bs1 : List Value} {sn1 : List Str} {sb1 : List Value} {ab1 : Bool} {co1 : Option Bool} {dd1 : Option Addr} {ma1 mb1 mc1 md1 me1 : Option Value}
    {f_iCU : Addr}
    {od_iCU an_iCU : Option Addr} {sl_iCU : Array (Option Value)} {oc_iCU kV_iCU dc_iCU pm_iCU cd_iCU ct_iCU : Value}
    {f__law_far : Addr}
    {od__law_far an__law_far : Option Addr} {sl__law_far : Array (Option Value)} {oc__law_far kV__law_far dc__law_far pm__law_far cd__law_far ct__law_far : Value}
    {f__law_lots : Addr}
    {od__law_lots an__law_lots : Option Addr} {sl__law_lots : Array (Option Value)} {oc__law_lots kV__law_lots dc__law_lots pm__law_lots cd__law_lots ct__law_lots : Value}
    {f__law_crosses : Addr}
    {od__law_crosses an__law_crosses : Option Addr} {sl__law_crosses : Array (Option Value)} {oc__law_crosses kV__law_crosses dc__law_crosses pm__law_crosses cd__law_crosses ct__law_crosses : Value}
    {f__law_task : Addr}
    {od__law_task an__law_task : Option Addr} {sl__law_task : Array (Option Value)} {oc__law_task kV__law_task dc__law_task pm__law_task cd__law_task ct__law_task : Value}
    {f__law_made : Addr}
    {od__law_made an__law_made : Option Addr} {sl__law_made : Array (Option Value)} {oc__law_made kV__law_made dc__law_made pm__law_made cd__law_made ct__law_made : Value}
    {f__law_marks : Addr}
    {od__law_marks an__law_marks : Option Addr} {sl__law_marks : Array (Option Value)} {oc__law_marks kV__law_marks dc__law_marks pm__law_marks cd__law_marks ct__law_marks : Value}
    {f__law_first_gone : Addr}
    {od__law_first_gone an__law_first_gone : Option Addr} {sl__law_first_gone : Array (Option Value)} {oc__law_first_gone kV__law_first_gone dc__law_first_gone pm__law_first_gone cd__law_first_gone ct__law_first_gone : Value}
    {f__law_pairs : Addr}
    {od__law_pairs an__law_pairs : Option Addr} {sl__law_pairs : Array (Option Value)} {oc__law_pairs kV__law_pairs dc__law_pairs pm__law_pairs cd__law_pairs ct__law_pairs : Value}
    {f__law_least_tree : Addr}
    {od__law_least_tree an__law_least_tree : Option Addr} {sl__law_least_tree : Array (Option Value)} {oc__law_least_tree kV__law_least_tree dc__law_least_tree pm__law_least_tree cd__law_least_tree ct__law_least_tree : Value}
    {f_cut_off : Addr}
    {od_cut_off an_cut_off : Option Addr} {sl_cut_off : Array (Option Value)} {oc_cut_off kV_cut_off dc_cut_off pm_cut_off cd_cut_off ct_cut_off : Value}
    {f_check_round : Addr}
    {od_check_round an_check_round : Option Addr} {sl_check_round : Array (Option Value)} {oc_check_round kV_check_round dc_check_round pm_check_round cd_check_round ct_check_round : Value}
    {f_Task_marks : Addr}
    {od_Task_marks an_Task_marks : Option Addr} {sl_Task_marks : Array (Option Value)} {oc_Task_marks kV_Task_marks dc_Task_marks pm_Task_marks cd_Task_marks ct_Task_marks : Value}
    {f__levels_of_marks : Addr}
    {od__levels_of_marks an__levels_of_marks : Option Addr} {sl__levels_of_marks : Array (Option Value)} {oc__levels_of_marks kV__levels_of_marks dc__levels_of_marks pm__levels_of_marks cd__levels_of_marks ct__levels_of_marks : Value}
    {f__with_joined : Addr}
    {od__with_joined an__with_joined : Option Addr} {sl__with_joined : Array (Option Value)} {oc__with_joined kV__with_joined dc__with_joined pm__with_joined cd__with_joined ct__with_joined : Value}
    {f__least_pairs : Addr}
    {od__least_pairs an__least_pairs : Option Addr} {sl__least_pairs : Array (Option Value)} {oc__least_pairs kV__least_pairs dc__least_pairs pm__least_pairs cd__least_pairs ct__least_pairs : Value}
    {f__length_of : Addr}
    {od__length_of an__length_of : Option Addr} {sl__length_of : Array (Option Value)} {oc__length_of kV__length_of dc__length_of pm__length_of cd__length_of ct__length_of : Value}
    {f_is_tree : Addr}
    {od_is_tree an_is_tree : Option Addr} {sl_is_tree : Array (Option Value)} {oc_is_tree kV_is_tree dc_is_tree pm_is_tree cd_is_tree ct_is_tree : Value}
    {f_least_tree : Addr}
    {od_least_tree an_least_tree : Option Addr} {sl_least_tree : Array (Option Value)} {oc_least_tree kV_least_tree dc_least_tree pm_least_tree cd_least_tree ct_least_tree : Value}
    {f_tree_length : Addr}
    {od_tree_length an_tree_length : Option Addr} {sl_tree_length : Array (Option Value)} {oc_tree_length kV_tree_length dc_tree_length pm_tree_length cd_tree_length ct_tree_length : Value}
    {f_is_least_tree : Addr}
    {od_is_least_tree an_is_least_tree : Option Addr} {sl_is_least_tree : Array (Option Value)} {oc_is_least_tree kV_is_least_tree dc_is_least_tree pm_is_least_tree cd_is_least_tree ct_is_least_tree : Value}
    {f_tree_bounds : Addr}
    {od_tree_bounds an_tree_bounds : Option Addr} {sl_tree_bounds : Array (Option Value)} {oc_tree_bounds kV_tree_bounds dc_tree_bounds pm_tree_bounds cd_tree_bounds ct_tree_bounds : Value}
    {f__law_told : Addr}
    {od__law_told an__law_told : Option Addr} {sl__law_told : Array (Option Value)} {oc__law_told kV__law_told dc__law_told pm__law_told cd__law_told ct__law_told : Value}
    {f_law : Addr}
    {od_law an_law : Option Addr} {sl_law : Array (Option Value)} {oc_law kV_law dc_law pm_law cd_law ct_law : Value}
    (a_C : PySem.W.nsIn K mainGlobals "House" = some (some (.ref C)))
    (pg_C : PySem.W.plainGet K C Str.empty = true)
    (hd_C : PySem.W.hasDictIn K C = true)
    (po_C : PySem.W.plainOver K C = true)
    (sa_C : PySem.W.findIn K (.ref C) "__setattr__" = some (some (.builtin "object.__setattr__")))
    (mk_C : PySem.W.makesIn K C = true)
    (kc_C : PySem.W.keepIn K (.ref C) = true)
    (nplengths : PySem.W.findIn K (.ref C) "_lengths" = some none)
    (npgaps : PySem.W.findIn K (.ref C) "_gaps" = some none)
    (npcrosses : PySem.W.findIn K (.ref C) "_crosses" = some none)
    (nptop : PySem.W.findIn K (.ref C) "_top" = some none)
    (npclosed : PySem.W.findIn K (.ref C) "_closed" = some none)
    (a_CI : PySem.W.nsIn K mainGlobals "InvalidHouse" = some (some (.ref CI)))
    (kpCI : PySem.W.keepIn K (.ref CI) = true)
    (sbCI : PySem.W.subIn K (.ref CI) (.type "BaseException") = some true)
    (tyCI : PySem.W.typeIn K (.ref CI) = some (.type "type"))
    (exCI : PySem.W.excIn K CI [.type "ValueError", .type "Exception", .type "BaseException", .type "object"] "ValueError.__new__" = true)
    (c_LONGEST : PySem.W.nsIn K mainGlobals "LONGEST" = some (some (.int 40 tk_LONGEST)))
    (c_MOST_STRETCHES : PySem.W.nsIn K mainGlobals "MOST_STRETCHES" = some (some (.int 2 tk_MOST_STRETCHES)))
    (c_MOST_GAPS : PySem.W.nsIn K mainGlobals "MOST_GAPS" = some (some (.int 11 tk_MOST_GAPS)))
    (c_MOST_CLOSED : PySem.W.nsIn K mainGlobals "MOST_CLOSED" = some (some (.int 200 tk_MOST_CLOSED)))
    (z_abs : PySem.W.nsIn K mainGlobals "abs" = some none)
    (z_all : PySem.W.nsIn K mainGlobals "all" = some none)
    (z_int : PySem.W.nsIn K mainGlobals "int" = some none)
    (z_len : PySem.W.nsIn K mainGlobals "len" = some none)
    (z_list : PySem.W.nsIn K mainGlobals "list" = some none)
    (z_max : PySem.W.nsIn K mainGlobals "max" = some none)
    (z_range : PySem.W.nsIn K mainGlobals "range" = some none)
    (z_sorted : PySem.W.nsIn K mainGlobals "sorted" = some none)
    (z_sum : PySem.W.nsIn K mainGlobals "sum" = some none)
    (a_House___init__ : PySem.W.findIn K (.ref C) "__init__" = some (some (.ref f_House___init__)))
    (i_House___init__ : PySem.W.isFn K (.ref f_House___init__) = true)
    (l_House___init__ : K.lookup f_House___init__ = some ⟨oc_House___init__, od_House___init__, .func (PySem.W.fnOf "__init__" "House.__init__" (defArgs s_House___init__) (defBody s_House___init__) (defScope s_House___init__) .none kV_House___init__ dc_House___init__ pm_House___init__ an_House___init__ (.ref c8_House___init__) ct_House___init__), sl_House___init__⟩)
    (c_House___init__ : PySem.W.codeIn K (.ref c8_House___init__) "House.__init__" = true)
    (k_House___init__ : PySem.W.keepIn K (.ref f_House___init__) = true)
    (a__are_long : PySem.W.nsIn K mainGlobals "_are_long" = some (some (.ref f__are_long)))
    (l__are_long : K.lookup f__are_long = some ⟨oc__are_long, od__are_long, .func (PySem.W.fnOf "_are_long" "_are_long" (defArgs s__are_long) (defBody s__are_long) (defScope s__are_long) .none kV__are_long dc__are_long pm__are_long an__are_long (.ref c8__are_long) ct__are_long), sl__are_long⟩)
    (c__are_long : PySem.W.codeIn K (.ref c8__are_long) "_are_long" = true)
    (k__are_long : PySem.W.keepIn K (.ref f__are_long) = true)
    (a__cross_heights : PySem.W.nsIn K mainGlobals "_cross_heights" = some (some (.ref f__cross_heights)))
    (l__cross_heights : K.lookup f__cross_heights = some ⟨oc__cross_heights, od__cross_heights, .func (PySem.W.fnOf "_cross_heights" "_cross_heights" (defArgs s__cross_heights) (defBody s__cross_heights) (defScope s__cross_heights) .none kV__cross_heights dc__cross_heights pm__cross_heights an__cross_heights cd__cross_heights ct__cross_heights), sl__cross_heights⟩)
    (c__cross_heights : PySem.W.codeIn K cd__cross_heights "_cross_heights" = true)
    (k__cross_heights : PySem.W.keepIn K (.ref f__cross_heights) = true)
    (a_House_is_link : PySem.W.findIn K (.ref C) "is_link" = some (some (.ref f_House_is_link)))
    (i_House_is_link : PySem.W.isFn K (.ref f_House_is_link) = true)
    (l_House_is_link : K.lookup f_House_is_link = some ⟨oc_House_is_link, od_House_is_link, .func (PySem.W.fnOf "is_link" "House.is_link" (defArgs s_House_is_link) (defBody s_House_is_link) (defScope s_House_is_link) .none kV_House_is_link dc_House_is_link pm_House_is_link an_House_is_link cd_House_is_link ct_House_is_link), sl_House_is_link⟩)
    (c_House_is_link : PySem.W.codeIn K cd_House_is_link "House.is_link" = true)
    (k_House_is_link : PySem.W.keepIn K (.ref f_House_is_link) = true)
    (a_House_is_place : PySem.W.findIn K (.ref C) "is_place" = some (some (.ref f_House_is_place)))
    (i_House_is_place : PySem.W.isFn K (.ref f_House_is_place) = true)
    (l_House_is_place : K.lookup f_House_is_place = some ⟨oc_House_is_place, od_House_is_place, .func (PySem.W.fnOf "is_place" "House.is_place" (defArgs s_House_is_place) (defBody s_House_is_place) (defScope s_House_is_place) .none kV_House_is_place dc_House_is_place pm_House_is_place an_House_is_place cd_House_is_place ct_House_is_place), sl_House_is_place⟩)
    (c_House_is_place : PySem.W.codeIn K cd_House_is_place "House.is_place" = true)
    (k_House_is_place : PySem.W.keepIn K (.ref f_House_is_place) = true)
    (a_House_is_cross : PySem.W.findIn K (.ref C) "is_cross" = some (some (.ref f_House_is_cross)))
    (i_House_is_cross : PySem.W.isFn K (.ref f_House_is_cross) = true)
    (l_House_is_cross : K.lookup f_House_is_cross = some ⟨oc_House_is_cross, od_House_is_cross, .func (PySem.W.fnOf "is_cross" "House.is_cross" (defArgs s_House_is_cross) (defBody s_House_is_cross) (defScope s_House_is_cross) .none kV_House_is_cross dc_House_is_cross pm_House_is_cross an_House_is_cross cd_House_is_cross ct_House_is_cross), sl_House_is_cross⟩)
    (c_House_is_cross : PySem.W.codeIn K cd_House_is_cross "House.is_cross" = true)
    (k_House_is_cross : PySem.W.keepIn K (.ref f_House_is_cross) = true)
    (a_House_is_closed : PySem.W.findIn K (.ref C) "is_closed" = some (some (.ref f_House_is_closed)))
    (i_House_is_closed : PySem.W.isFn K (.ref f_House_is_closed) = true)
    (l_House_is_closed : K.lookup f_House_is_closed = some ⟨oc_House_is_closed, od_House_is_closed, .func (PySem.W.fnOf "is_closed" "House.is_closed" (defArgs s_House_is_closed) (defBody s_House_is_closed) (defScope s_House_is_closed) .none kV_House_is_closed dc_House_is_closed pm_House_is_closed an_House_is_closed cd_House_is_closed ct_House_is_closed), sl_House_is_closed⟩)
    (c_House_is_closed : PySem.W.codeIn K cd_House_is_closed "House.is_closed" = true)
    (k_House_is_closed : PySem.W.keepIn K (.ref f_House_is_closed) = true)
    (a_CT : PySem.W.nsIn K mainGlobals "Task" = some (some (.ref CT)))
    (pg_CT : PySem.W.plainGet K CT Str.empty = true)
    (hd_CT : PySem.W.hasDictIn K CT = true)
    (po_CT : PySem.W.plainOver K CT = true)
    (sa_CT : PySem.W.findIn K (.ref CT) "__setattr__" = some (some (.builtin "object.__setattr__")))
    (mk_CT : PySem.W.makesIn K CT = true)
    (kc_CT : PySem.W.keepIn K (.ref CT) = true)
    (a_CIT : PySem.W.nsIn K mainGlobals "InvalidTask" = some (some (.ref CIT)))
    (kpCIT : PySem.W.keepIn K (.ref CIT) = true)
    (sbCIT : PySem.W.subIn K (.ref CIT) (.type "BaseException") = some true)
    (tyCIT : PySem.W.typeIn K (.ref CIT) = some (.type "type"))
    (exCIT : PySem.W.excIn K CIT [.type "ValueError", .type "Exception", .type "BaseException", .type "object"] "ValueError.__new__" = true)
    (tstart : PySem.W.findIn K (.ref CT) "start" = some none)
    (tend : PySem.W.findIn K (.ref CT) "end" = some none)
    (tppicks : PySem.W.findIn K (.ref CT) "_picks" = some none)
    (c_MOST_PICKS : PySem.W.nsIn K mainGlobals "MOST_PICKS" = some (some (.int 60 tk_MOST_PICKS)))
    (z_set : PySem.W.nsIn K mainGlobals "set" = some none)
    (a_Task___init__ : PySem.W.findIn K (.ref CT) "__init__" = some (some (.ref f_Task___init__)))
    (i_Task___init__ : PySem.W.isFn K (.ref f_Task___init__) = true)
    (l_Task___init__ : K.lookup f_Task___init__ = some ⟨oc_Task___init__, od_Task___init__, .func (PySem.W.fnOf "__init__" "Task.__init__" (defArgs s_Task___init__) (defBody s_Task___init__) (defScope s_Task___init__) .none kV_Task___init__ dc_Task___init__ pm_Task___init__ an_Task___init__ cd_Task___init__ ct_Task___init__), sl_Task___init__⟩)
    (c_Task___init__ : PySem.W.codeIn K cd_Task___init__ "Task.__init__" = true)
    (k_Task___init__ : PySem.W.keepIn K (.ref f_Task___init__) = true)
    (pa_Task_picks : PySem.W.findIn K (.ref CT) "picks" = some (some (.ref p_Task_picks)))
    (pg_Task_picks : PySem.W.specialIn K (.ref p_Task_picks) "__get__" = some (some (.builtin "property.__get__")))
    (pt_Task_picks : PySem.W.takesIn K (.ref p_Task_picks) = some true)
    (pr_Task_picks : PySem.W.recIn K p_Task_picks "property" = some (.ref f_Task_picks :: r_Task_picks))
    (l_Task_picks : K.lookup f_Task_picks = some ⟨oc_Task_picks, od_Task_picks, .func (PySem.W.fnOf "picks" "Task.picks" (defArgs s_Task_picks) (defBody s_Task_picks) (defScope s_Task_picks) .none kV_Task_picks dc_Task_picks pm_Task_picks an_Task_picks cd_Task_picks ct_Task_picks), sl_Task_picks⟩)
    (c_Task_picks : PySem.W.codeIn K cd_Task_picks "Task.picks" = true)
    (k_Task_picks : PySem.W.keepIn K (.ref f_Task_picks) = true)
    (a_CP : PySem.W.nsIn K mainGlobals "InvalidPlace" = some (some (.ref CP)))
    (kpCP : PySem.W.keepIn K (.ref CP) = true)
    (sbCP : PySem.W.subIn K (.ref CP) (.type "BaseException") = some true)
    (tyCP : PySem.W.typeIn K (.ref CP) = some (.type "type"))
    (a_Pe : PySem.W.nsIn K mainGlobals "PickError" = some (some (.ref Pe)))
    (dcCP : PySem.W.hasDictIn K CP = true)
    (ssCP : PySem.W.subIn K (.ref CP) (.ref CP) = some true)
    (xlCP : K.lookup CP = some (excClassObj nm0 qn0 CP N0 bs0 [.ref Pe, .type "ValueError", .type "Exception", .type "BaseException", .type "object"] true sn0 sb0 ab0 co0 dd0 ma0 mb0 mc0 md0 me0 "ValueError.__new__"))
    (saCP : PySem.W.findIn K (.ref CP) "__setattr__" = some (some (.builtin "object.__setattr__")))
    (noCP : PySem.W.findIn K (.ref CP) "place" = some none)
    (gaCP : PySem.W.findIn K (.ref CP) "__getattribute__" = some (some (.builtin "BaseException.__getattribute__")))
    (ggCP : PySem.W.findIn K (.ref CP) "__getattr__" = some none)
    (a_iCP : PySem.W.findIn K (.ref CP) "__init__" = some (some (.ref f_iCP)))
    (tiCP : PySem.W.typeIn K (.ref f_iCP) = some (.type "function"))
    (l_iCP : K.lookup f_iCP = some ⟨oc_iCP, od_iCP, .func (PySem.W.fnOf "__init__" "InvalidPlace.__init__" (defArgs s_InvalidPlace___init__) (defBody s_InvalidPlace___init__) (defScope s_InvalidPlace___init__) .none kV_iCP dc_iCP pm_iCP an_iCP cd_iCP ct_iCP), sl_iCP⟩)
    (c_iCP : PySem.W.codeIn K cd_iCP "InvalidPlace.__init__" = true)
    (k_iCP : PySem.W.keepIn K (.ref f_iCP) = true)
    (a_check_task : PySem.W.nsIn K mainGlobals "check_task" = some (some (.ref f_check_task)))
    (l_check_task : K.lookup f_check_task = some ⟨oc_check_task, od_check_task, .func (PySem.W.fnOf "check_task" "check_task" (defArgs s_check_task) (defBody s_check_task) (defScope s_check_task) .none kV_check_task dc_check_task pm_check_task an_check_task cd_check_task ct_check_task), sl_check_task⟩)
    (c_check_task : PySem.W.codeIn K cd_check_task "check_task" = true)
    (k_check_task : PySem.W.keepIn K (.ref f_check_task) = true)
    (a__law_row : PySem.W.nsIn K mainGlobals "_law_row" = some (some (.ref f__law_row)))
    (l__law_row : K.lookup f__law_row = some ⟨oc__law_row, od__law_row, .func (PySem.W.fnOf "_law_row" "_law_row" (defArgs s__law_row) (defBody s__law_row) (defScope s__law_row) .none kV__law_row dc__law_row pm__law_row an__law_row cd__law_row ct__law_row), sl__law_row⟩)
    (c__law_row : PySem.W.codeIn K cd__law_row "_law_row" = true)
    (k__law_row : PySem.W.keepIn K (.ref f__law_row) = true)
    (a__law_numbers : PySem.W.nsIn K mainGlobals "_law_numbers" = some (some (.ref f__law_numbers)))
    (l__law_numbers : K.lookup f__law_numbers = some ⟨oc__law_numbers, od__law_numbers, .func (PySem.W.fnOf "_law_numbers" "_law_numbers" (defArgs s__law_numbers) (defBody s__law_numbers) (defScope s__law_numbers) .none kV__law_numbers dc__law_numbers pm__law_numbers an__law_numbers cd__law_numbers ct__law_numbers), sl__law_numbers⟩)
    (c__law_numbers : PySem.W.codeIn K cd__law_numbers "_law_numbers" = true)
    (k__law_numbers : PySem.W.keepIn K (.ref f__law_numbers) = true)
    (a_House_length_of : PySem.W.findIn K (.ref C) "length_of" = some (some (.ref f_House_length_of)))
    (i_House_length_of : PySem.W.isFn K (.ref f_House_length_of) = true)
    (l_House_length_of : K.lookup f_House_length_of = some ⟨oc_House_length_of, od_House_length_of, .func (PySem.W.fnOf "length_of" "House.length_of" (defArgs s_House_length_of) (defBody s_House_length_of) (defScope s_House_length_of) .none kV_House_length_of dc_House_length_of pm_House_length_of an_House_length_of cd_House_length_of ct_House_length_of), sl_House_length_of⟩)
    (c_House_length_of : PySem.W.codeIn K cd_House_length_of "House.length_of" = true)
    (k_House_length_of : PySem.W.keepIn K (.ref f_House_length_of) = true)
    (a_CL : PySem.W.nsIn K mainGlobals "InvalidLink" = some (some (.ref CL)))
    (kpCL : PySem.W.keepIn K (.ref CL) = true)
    (sbCL : PySem.W.subIn K (.ref CL) (.type "BaseException") = some true)
    (tyCL : PySem.W.typeIn K (.ref CL) = some (.type "type"))
    (exCL : PySem.W.excIn K CL [.type "ValueError", .type "Exception", .type "BaseException", .type "object"] "ValueError.__new__" = true)
    (a_House_link_between : PySem.W.findIn K (.ref C) "link_between" = some (some (.ref f_House_link_between)))
    (i_House_link_between : PySem.W.isFn K (.ref f_House_link_between) = true)
    (l_House_link_between : K.lookup f_House_link_between = some ⟨oc_House_link_between, od_House_link_between, .func (PySem.W.fnOf "link_between" "House.link_between" (defArgs s_House_link_between) (defBody s_House_link_between) (defScope s_House_link_between) .none kV_House_link_between dc_House_link_between pm_House_link_between an_House_link_between cd_House_link_between ct_House_link_between), sl_House_link_between⟩)
    (c_House_link_between : PySem.W.codeIn K cd_House_link_between "House.link_between" = true)
    (k_House_link_between : PySem.W.keepIn K (.ref f_House_link_between) = true)
    (z_min : PySem.W.nsIn K mainGlobals "min" = some none)
    (a_House_beside : PySem.W.findIn K (.ref C) "beside" = some (some (.ref f_House_beside)))
    (i_House_beside : PySem.W.isFn K (.ref f_House_beside) = true)
    (l_House_beside : K.lookup f_House_beside = some ⟨oc_House_beside, od_House_beside, .func (PySem.W.fnOf "beside" "House.beside" (defArgs s_House_beside) (defBody s_House_beside) (defScope s_House_beside) .none kV_House_beside dc_House_beside pm_House_beside an_House_beside cd_House_beside ct_House_beside), sl_House_beside⟩)
    (c_House_beside : PySem.W.codeIn K cd_House_beside "House.beside" = true)
    (k_House_beside : PySem.W.keepIn K (.ref f_House_beside) = true)
    (z_bool : PySem.W.nsIn K mainGlobals "bool" = some none)
    (z_zip : PySem.W.nsIn K mainGlobals "zip" = some none)
    (a__law_all_links : PySem.W.nsIn K mainGlobals "_law_all_links" = some (some (.ref f__law_all_links)))
    (l__law_all_links : K.lookup f__law_all_links = some ⟨oc__law_all_links, od__law_all_links, .func (PySem.W.fnOf "_law_all_links" "_law_all_links" (defArgs s__law_all_links) (defBody s__law_all_links) (defScope s__law_all_links) .none kV__law_all_links dc__law_all_links pm__law_all_links an__law_all_links cd__law_all_links ct__law_all_links), sl__law_all_links⟩)
    (c__law_all_links : PySem.W.codeIn K cd__law_all_links "_law_all_links" = true)
    (k__law_all_links : PySem.W.keepIn K (.ref f__law_all_links) = true)
    (a__law_parts : PySem.W.nsIn K mainGlobals "_law_parts" = some (some (.ref f__law_parts)))
    (l__law_parts : K.lookup f__law_parts = some ⟨oc__law_parts, od__law_parts, .func (PySem.W.fnOf "_law_parts" "_law_parts" (defArgs s__law_parts) (defBody s__law_parts) (defScope s__law_parts) .none kV__law_parts dc__law_parts pm__law_parts an__law_parts cd__law_parts ct__law_parts), sl__law_parts⟩)
    (c__law_parts : PySem.W.codeIn K cd__law_parts "_law_parts" = true)
    (k__law_parts : PySem.W.keepIn K (.ref f__law_parts) = true)
    (a__law_house : PySem.W.nsIn K mainGlobals "_law_house" = some (some (.ref f__law_house)))
    (l__law_house : K.lookup f__law_house = some ⟨oc__law_house, od__law_house, .func (PySem.W.fnOf "_law_house" "_law_house" (defArgs s__law_house) (defBody s__law_house) (defScope s__law_house) .none kV__law_house dc__law_house pm__law_house an__law_house cd__law_house ct__law_house), sl__law_house⟩)
    (c__law_house : PySem.W.codeIn K cd__law_house "_law_house" = true)
    (k__law_house : PySem.W.keepIn K (.ref f__law_house) = true)
    (a__law_beside : PySem.W.nsIn K mainGlobals "_law_beside" = some (some (.ref f__law_beside)))
    (l__law_beside : K.lookup f__law_beside = some ⟨oc__law_beside, od__law_beside, .func (PySem.W.fnOf "_law_beside" "_law_beside" (defArgs s__law_beside) (defBody s__law_beside) (defScope s__law_beside) .none kV__law_beside dc__law_beside pm__law_beside an__law_beside cd__law_beside ct__law_beside), sl__law_beside⟩)
    (c__law_beside : PySem.W.codeIn K cd__law_beside "_law_beside" = true)
    (k__law_beside : PySem.W.keepIn K (.ref f__law_beside) = true)
    (a_heappush : PySem.W.nsIn K mainGlobals "heappush" = some (some (.builtin "_heapq.heappush")))
    (a_heappop : PySem.W.nsIn K mainGlobals "heappop" = some (some (.builtin "_heapq.heappop")))
    (a_levels : PySem.W.nsIn K mainGlobals "levels" = some (some (.ref f_levels)))
    (l_levels : K.lookup f_levels = some ⟨oc_levels, od_levels, .func (PySem.W.fnOf "levels" "levels" (defArgs s_levels) (defBody s_levels) (defScope s_levels) .none kV_levels dc_levels pm_levels an_levels cd_levels ct_levels), sl_levels⟩)
    (c_levels : PySem.W.codeIn K cd_levels "levels" = true)
    (k_levels : PySem.W.keepIn K (.ref f_levels) = true)
    (a_CU : PySem.W.nsIn K mainGlobals "Unreachable" = some (some (.ref CU)))
    (kpCU : PySem.W.keepIn K (.ref CU) = true)
    (sbCU : PySem.W.subIn K (.ref CU) (.type "BaseException") = some true)
    (tyCU : PySem.W.typeIn K (.ref CU) = some (.type "type"))
    (dcCU : PySem.W.hasDictIn K CU = true)
    (ssCU : PySem.W.subIn K (.ref CU) (.ref CU) = some true)
    (xlCU : K.lookup CU = some (excClassObj nm1 qn1 CU N1 bs1 [.ref Pe, .type "ValueError", .type "Exception", .type "BaseException", .type "object"] true sn1 sb1 ab1 co1 dd1 ma1 mb1 mc1 md1 me1 "ValueError.__new__"))
    (saCU : PySem.W.findIn K (.ref CU) "__setattr__" = some (some (.builtin "object.__setattr__")))
    (noCU : PySem.W.findIn K (.ref CU) "place" = some none)
    (gaCU : PySem.W.findIn K (.ref CU) "__getattribute__" = some (some (.builtin "BaseException.__getattribute__")))
    (ggCU : PySem.W.findIn K (.ref CU) "__getattr__" = some none)
    (a_iCU : PySem.W.findIn K (.ref CU) "__init__" = some (some (.ref f_iCU)))
    (tiCU : PySem.W.typeIn K (.ref f_iCU) = some (.type "function"))
    (l_iCU : K.lookup f_iCU = some ⟨oc_iCU, od_iCU, .func (PySem.W.fnOf "__init__" "Unreachable.__init__" (defArgs s_Unreachable___init__) (defBody s_Unreachable___init__) (defScope s_Unreachable___init__) .none kV_iCU dc_iCU pm_iCU an_iCU cd_iCU ct_iCU), sl_iCU⟩)
    (c_iCU : PySem.W.codeIn K cd_iCU "Unreachable.__init__" = true)
    (k_iCU : PySem.W.keepIn K (.ref f_iCU) = true)
    (z_isinstance : PySem.W.nsIn K mainGlobals "isinstance" = some none)
    (a__law_far : PySem.W.nsIn K mainGlobals "_law_far" = some (some (.ref f__law_far)))
    (l__law_far : K.lookup f__law_far = some ⟨oc__law_far, od__law_far, .func (PySem.W.fnOf "_law_far" "_law_far" (defArgs s__law_far) (defBody s__law_far) (defScope s__law_far) .none kV__law_far dc__law_far pm__law_far an__law_far cd__law_far ct__law_far), sl__law_far⟩)
    (c__law_far : PySem.W.codeIn K cd__law_far "_law_far" = true)
    (k__law_far : PySem.W.keepIn K (.ref f__law_far) = true)
    (a__law_lots : PySem.W.nsIn K mainGlobals "_law_lots" = some (some (.ref f__law_lots)))
    (l__law_lots : K.lookup f__law_lots = some ⟨oc__law_lots, od__law_lots, .func (PySem.W.fnOf "_law_lots" "_law_lots" (defArgs s__law_lots) (defBody s__law_lots) (defScope s__law_lots) .none kV__law_lots dc__law_lots pm__law_lots an__law_lots cd__law_lots ct__law_lots), sl__law_lots⟩)
    (c__law_lots : PySem.W.codeIn K cd__law_lots "_law_lots" = true)
    (k__law_lots : PySem.W.keepIn K (.ref f__law_lots) = true)
    (a__law_crosses : PySem.W.nsIn K mainGlobals "_law_crosses" = some (some (.ref f__law_crosses)))
    (l__law_crosses : K.lookup f__law_crosses = some ⟨oc__law_crosses, od__law_crosses, .func (PySem.W.fnOf "_law_crosses" "_law_crosses" (defArgs s__law_crosses) (defBody s__law_crosses) (defScope s__law_crosses) .none kV__law_crosses dc__law_crosses pm__law_crosses an__law_crosses cd__law_crosses ct__law_crosses), sl__law_crosses⟩)
    (c__law_crosses : PySem.W.codeIn K cd__law_crosses "_law_crosses" = true)
    (k__law_crosses : PySem.W.keepIn K (.ref f__law_crosses) = true)
    (a__law_task : PySem.W.nsIn K mainGlobals "_law_task" = some (some (.ref f__law_task)))
    (l__law_task : K.lookup f__law_task = some ⟨oc__law_task, od__law_task, .func (PySem.W.fnOf "_law_task" "_law_task" (defArgs s__law_task) (defBody s__law_task) (defScope s__law_task) .none kV__law_task dc__law_task pm__law_task an__law_task cd__law_task ct__law_task), sl__law_task⟩)
    (c__law_task : PySem.W.codeIn K cd__law_task "_law_task" = true)
    (k__law_task : PySem.W.keepIn K (.ref f__law_task) = true)
    (a__law_made : PySem.W.nsIn K mainGlobals "_law_made" = some (some (.ref f__law_made)))
    (l__law_made : K.lookup f__law_made = some ⟨oc__law_made, od__law_made, .func (PySem.W.fnOf "_law_made" "_law_made" (defArgs s__law_made) (defBody s__law_made) (defScope s__law_made) .none kV__law_made dc__law_made pm__law_made an__law_made cd__law_made ct__law_made), sl__law_made⟩)
    (c__law_made : PySem.W.codeIn K cd__law_made "_law_made" = true)
    (k__law_made : PySem.W.keepIn K (.ref f__law_made) = true)
    (a__law_marks : PySem.W.nsIn K mainGlobals "_law_marks" = some (some (.ref f__law_marks)))
    (l__law_marks : K.lookup f__law_marks = some ⟨oc__law_marks, od__law_marks, .func (PySem.W.fnOf "_law_marks" "_law_marks" (defArgs s__law_marks) (defBody s__law_marks) (defScope s__law_marks) .none kV__law_marks dc__law_marks pm__law_marks an__law_marks cd__law_marks ct__law_marks), sl__law_marks⟩)
    (c__law_marks : PySem.W.codeIn K cd__law_marks "_law_marks" = true)
    (k__law_marks : PySem.W.keepIn K (.ref f__law_marks) = true)
    (a__law_first_gone : PySem.W.nsIn K mainGlobals "_law_first_gone" = some (some (.ref f__law_first_gone)))
    (l__law_first_gone : K.lookup f__law_first_gone = some ⟨oc__law_first_gone, od__law_first_gone, .func (PySem.W.fnOf "_law_first_gone" "_law_first_gone" (defArgs s__law_first_gone) (defBody s__law_first_gone) (defScope s__law_first_gone) .none kV__law_first_gone dc__law_first_gone pm__law_first_gone an__law_first_gone cd__law_first_gone ct__law_first_gone), sl__law_first_gone⟩)
    (c__law_first_gone : PySem.W.codeIn K cd__law_first_gone "_law_first_gone" = true)
    (k__law_first_gone : PySem.W.keepIn K (.ref f__law_first_gone) = true)
    (a__law_pairs : PySem.W.nsIn K mainGlobals "_law_pairs" = some (some (.ref f__law_pairs)))
    (l__law_pairs : K.lookup f__law_pairs = some ⟨oc__law_pairs, od__law_pairs, .func (PySem.W.fnOf "_law_pairs" "_law_pairs" (defArgs s__law_pairs) (defBody s__law_pairs) (defScope s__law_pairs) .none kV__law_pairs dc__law_pairs pm__law_pairs an__law_pairs cd__law_pairs ct__law_pairs), sl__law_pairs⟩)
    (c__law_pairs : PySem.W.codeIn K cd__law_pairs "_law_pairs" = true)
    (k__law_pairs : PySem.W.keepIn K (.ref f__law_pairs) = true)
    (a__law_least_tree : PySem.W.nsIn K mainGlobals "_law_least_tree" = some (some (.ref f__law_least_tree)))
    (l__law_least_tree : K.lookup f__law_least_tree = some ⟨oc__law_least_tree, od__law_least_tree, .func (PySem.W.fnOf "_law_least_tree" "_law_least_tree" (defArgs s__law_least_tree) (defBody s__law_least_tree) (defScope s__law_least_tree) .none kV__law_least_tree dc__law_least_tree pm__law_least_tree an__law_least_tree cd__law_least_tree ct__law_least_tree), sl__law_least_tree⟩)
    (c__law_least_tree : PySem.W.codeIn K cd__law_least_tree "_law_least_tree" = true)
    (k__law_least_tree : PySem.W.keepIn K (.ref f__law_least_tree) = true)
    (a_cut_off : PySem.W.nsIn K mainGlobals "cut_off" = some (some (.ref f_cut_off)))
    (l_cut_off : K.lookup f_cut_off = some ⟨oc_cut_off, od_cut_off, .func (PySem.W.fnOf "cut_off" "cut_off" (defArgs s_cut_off) (defBody s_cut_off) (defScope s_cut_off) .none kV_cut_off dc_cut_off pm_cut_off an_cut_off cd_cut_off ct_cut_off), sl_cut_off⟩)
    (c_cut_off : PySem.W.codeIn K cd_cut_off "cut_off" = true)
    (k_cut_off : PySem.W.keepIn K (.ref f_cut_off) = true)
    (a_check_round : PySem.W.nsIn K mainGlobals "check_round" = some (some (.ref f_check_round)))
    (l_check_round : K.lookup f_check_round = some ⟨oc_check_round, od_check_round, .func (PySem.W.fnOf "check_round" "check_round" (defArgs s_check_round) (defBody s_check_round) (defScope s_check_round) .none kV_check_round dc_check_round pm_check_round an_check_round cd_check_round ct_check_round), sl_check_round⟩)
    (c_check_round : PySem.W.codeIn K cd_check_round "check_round" = true)
    (k_check_round : PySem.W.keepIn K (.ref f_check_round) = true)
    (a_Task_marks : PySem.W.findIn K (.ref CT) "marks" = some (some (.ref f_Task_marks)))
    (i_Task_marks : PySem.W.isFn K (.ref f_Task_marks) = true)
    (l_Task_marks : K.lookup f_Task_marks = some ⟨oc_Task_marks, od_Task_marks, .func (PySem.W.fnOf "marks" "Task.marks" (defArgs s_Task_marks) (defBody s_Task_marks) (defScope s_Task_marks) .none kV_Task_marks dc_Task_marks pm_Task_marks an_Task_marks cd_Task_marks ct_Task_marks), sl_Task_marks⟩)
    (c_Task_marks : PySem.W.codeIn K cd_Task_marks "Task.marks" = true)
    (k_Task_marks : PySem.W.keepIn K (.ref f_Task_marks) = true)
    (a__levels_of_marks : PySem.W.nsIn K mainGlobals "_levels_of_marks" = some (some (.ref f__levels_of_marks)))
    (l__levels_of_marks : K.lookup f__levels_of_marks = some ⟨oc__levels_of_marks, od__levels_of_marks, .func (PySem.W.fnOf "_levels_of_marks" "_levels_of_marks" (defArgs s__levels_of_marks) (defBody s__levels_of_marks) (defScope s__levels_of_marks) .none kV__levels_of_marks dc__levels_of_marks pm__levels_of_marks an__levels_of_marks cd__levels_of_marks ct__levels_of_marks), sl__levels_of_marks⟩)
    (c__levels_of_marks : PySem.W.codeIn K cd__levels_of_marks "_levels_of_marks" = true)
    (k__levels_of_marks : PySem.W.keepIn K (.ref f__levels_of_marks) = true)
    (a__with_joined : PySem.W.nsIn K mainGlobals "_with_joined" = some (some (.ref f__with_joined)))
    (l__with_joined : K.lookup f__with_joined = some ⟨oc__with_joined, od__with_joined, .func (PySem.W.fnOf "_with_joined" "_with_joined" (defArgs s__with_joined) (defBody s__with_joined) (defScope s__with_joined) .none kV__with_joined dc__with_joined pm__with_joined an__with_joined cd__with_joined ct__with_joined), sl__with_joined⟩)
    (c__with_joined : PySem.W.codeIn K cd__with_joined "_with_joined" = true)
    (k__with_joined : PySem.W.keepIn K (.ref f__with_joined) = true)
    (a__least_pairs : PySem.W.nsIn K mainGlobals "_least_pairs" = some (some (.ref f__least_pairs)))
    (l__least_pairs : K.lookup f__least_pairs = some ⟨oc__least_pairs, od__least_pairs, .func (PySem.W.fnOf "_least_pairs" "_least_pairs" (defArgs s__least_pairs) (defBody s__least_pairs) (defScope s__least_pairs) .none kV__least_pairs dc__least_pairs pm__least_pairs an__least_pairs cd__least_pairs ct__least_pairs), sl__least_pairs⟩)
    (c__least_pairs : PySem.W.codeIn K cd__least_pairs "_least_pairs" = true)
    (k__least_pairs : PySem.W.keepIn K (.ref f__least_pairs) = true)
    (a__length_of : PySem.W.nsIn K mainGlobals "_length_of" = some (some (.ref f__length_of)))
    (l__length_of : K.lookup f__length_of = some ⟨oc__length_of, od__length_of, .func (PySem.W.fnOf "_length_of" "_length_of" (defArgs s__length_of) (defBody s__length_of) (defScope s__length_of) .none kV__length_of dc__length_of pm__length_of an__length_of cd__length_of ct__length_of), sl__length_of⟩)
    (c__length_of : PySem.W.codeIn K cd__length_of "_length_of" = true)
    (k__length_of : PySem.W.keepIn K (.ref f__length_of) = true)
    (a_is_tree : PySem.W.nsIn K mainGlobals "is_tree" = some (some (.ref f_is_tree)))
    (l_is_tree : K.lookup f_is_tree = some ⟨oc_is_tree, od_is_tree, .func (PySem.W.fnOf "is_tree" "is_tree" (defArgs s_is_tree) (defBody s_is_tree) (defScope s_is_tree) .none kV_is_tree dc_is_tree pm_is_tree an_is_tree cd_is_tree ct_is_tree), sl_is_tree⟩)
    (c_is_tree : PySem.W.codeIn K cd_is_tree "is_tree" = true)
    (k_is_tree : PySem.W.keepIn K (.ref f_is_tree) = true)
    (a_least_tree : PySem.W.nsIn K mainGlobals "least_tree" = some (some (.ref f_least_tree)))
    (l_least_tree : K.lookup f_least_tree = some ⟨oc_least_tree, od_least_tree, .func (PySem.W.fnOf "least_tree" "least_tree" (defArgs s_least_tree) (defBody s_least_tree) (defScope s_least_tree) .none kV_least_tree dc_least_tree pm_least_tree an_least_tree cd_least_tree ct_least_tree), sl_least_tree⟩)
    (c_least_tree : PySem.W.codeIn K cd_least_tree "least_tree" = true)
    (k_least_tree : PySem.W.keepIn K (.ref f_least_tree) = true)
    (a_tree_length : PySem.W.nsIn K mainGlobals "tree_length" = some (some (.ref f_tree_length)))
    (l_tree_length : K.lookup f_tree_length = some ⟨oc_tree_length, od_tree_length, .func (PySem.W.fnOf "tree_length" "tree_length" (defArgs s_tree_length) (defBody s_tree_length) (defScope s_tree_length) .none kV_tree_length dc_tree_length pm_tree_length an_tree_length cd_tree_length ct_tree_length), sl_tree_length⟩)
    (c_tree_length : PySem.W.codeIn K cd_tree_length "tree_length" = true)
    (k_tree_length : PySem.W.keepIn K (.ref f_tree_length) = true)
    (a_is_least_tree : PySem.W.nsIn K mainGlobals "is_least_tree" = some (some (.ref f_is_least_tree)))
    (l_is_least_tree : K.lookup f_is_least_tree = some ⟨oc_is_least_tree, od_is_least_tree, .func (PySem.W.fnOf "is_least_tree" "is_least_tree" (defArgs s_is_least_tree) (defBody s_is_least_tree) (defScope s_is_least_tree) .none kV_is_least_tree dc_is_least_tree pm_is_least_tree an_is_least_tree cd_is_least_tree ct_is_least_tree), sl_is_least_tree⟩)
    (c_is_least_tree : PySem.W.codeIn K cd_is_least_tree "is_least_tree" = true)
    (k_is_least_tree : PySem.W.keepIn K (.ref f_is_least_tree) = true)
    (a_tree_bounds : PySem.W.nsIn K mainGlobals "tree_bounds" = some (some (.ref f_tree_bounds)))
    (l_tree_bounds : K.lookup f_tree_bounds = some ⟨oc_tree_bounds, od_tree_bounds, .func (PySem.W.fnOf "tree_bounds" "tree_bounds" (defArgs s_tree_bounds) (defBody s_tree_bounds) (defScope s_tree_bounds) .none kV_tree_bounds dc_tree_bounds pm_tree_bounds an_tree_bounds cd_tree_bounds ct_tree_bounds), sl_tree_bounds⟩)
    (c_tree_bounds : PySem.W.codeIn K cd_tree_bounds "tree_bounds" = true)
    (k_tree_bounds : PySem.W.keepIn K (.ref f_tree_bounds) = true)
    (a__law_told : PySem.W.nsIn K mainGlobals "_law_told" = some (some (.ref f__law_told)))
    (l__law_told : K.lookup f__law_told = some ⟨oc__law_told, od__law_told, .func (PySem.W.fnOf "_law_told" "_law_told" (defArgs s__law_told) (defBody s__law_told) (defScope s__law_told) .none kV__law_told dc__law_told pm__law_told an__law_told cd__law_told ct__law_told), sl__law_told⟩)
    (c__law_told : PySem.W.codeIn K cd__law_told "_law_told" = true)
    (k__law_told : PySem.W.keepIn K (.ref f__law_told) = true)
    (a_law : PySem.W.nsIn K mainGlobals "law" = some (some (.ref f_law)))
    (l_law : K.lookup f_law = some ⟨oc_law, od_law, .func (PySem.W.fnOf "law" "law" (defArgs s_law) (defBody s_law) (defScope s_law) .none kV_law dc_law pm_law an_law cd_law ct_law), sl_law⟩)
    (c_law : PySem.W.codeIn K cd_law "law" = true)
    (k_law : PySem.W.keepIn K (.ref f_law) = true)
    : ∃ fd : FuncData, (∀ (s : Shared) (v : Value), BindsTo s fd ⟨[v], []⟩ [("script", v)]) ∧
      ∀ base : Heap, K.In base → base.Ns mainGlobals mg → TabB base mg c8_House___init__ TI → TabB base mg c8__are_long TL → FnOk l.prog w (K) mg base CX0 11 fa fd ["script"] (spLawT (K) [TL, TI]) := by
  have e := hfa.symm.trans (PySem.W.mg_of X G a_law)
  cases e
  have g_LONGEST : ∃ t : Tok, mg "LONGEST" = some (.int 40 t) := ⟨tk_LONGEST, PySem.W.mg_of X G c_LONGEST⟩
  have g_MOST_STRETCHES : ∃ t : Tok, mg "MOST_STRETCHES" = some (.int 2 t) := ⟨tk_MOST_STRETCHES, PySem.W.mg_of X G c_MOST_STRETCHES⟩
  have g_MOST_GAPS : ∃ t : Tok, mg "MOST_GAPS" = some (.int 11 t) := ⟨tk_MOST_GAPS, PySem.W.mg_of X G c_MOST_GAPS⟩
  have g_MOST_CLOSED : ∃ t : Tok, mg "MOST_CLOSED" = some (.int 200 t) := ⟨tk_MOST_CLOSED, PySem.W.mg_of X G c_MOST_CLOSED⟩
  have z_abs := PySem.W.mg_none_of X G z_abs
  have z_all := PySem.W.mg_none_of X G z_all
  have z_int := PySem.W.mg_none_of X G z_int
  have z_len := PySem.W.mg_none_of X G z_len
  have z_list := PySem.W.mg_none_of X G z_list
  have z_max := PySem.W.mg_none_of X G z_max
  have z_range := PySem.W.mg_none_of X G z_range
  have z_sorted := PySem.W.mg_none_of X G z_sorted
  have z_sum := PySem.W.mg_none_of X G z_sum
  have g_MOST_PICKS : ∃ t : Tok, mg "MOST_PICKS" = some (.int 60 t) := ⟨tk_MOST_PICKS, PySem.W.mg_of X G c_MOST_PICKS⟩
  have z_set := PySem.W.mg_none_of X G z_set
  have z_min := PySem.W.mg_none_of X G z_min
  have z_bool := PySem.W.mg_none_of X G z_bool
  have z_zip := PySem.W.mg_none_of X G z_zip
  have z_isinstance := PySem.W.mg_none_of X G z_isinstance
  have F_law := fun_mk (st := s_law) l_law c_law k_law
  refine ⟨PySem.W.fnOf "law" "law" (defArgs s_law) (defBody s_law) (defScope s_law) .none kV_law dc_law pm_law an_law cd_law ct_law, fun s v => .of_eq rfl, fun base _ _ TBTI TBTL => ?_⟩
  have UCI : ErrTxt K mg CI "InvalidHouse" := { gI := PySem.W.mg_of X G a_CI, kI := kpCI, xI := exCI, bI := sbCI, tI := tyCI }
  have F_House___init__ : FunC K "__init__" "House.__init__" s_House___init__ f_House___init__ c8_House___init__ _ := ⟨⟨_, _, _, _, _, _, _, _, rfl, l_House___init__, c_House___init__⟩, k_House___init__⟩
  have b_House___init__ : Binds K _ ["self", "lengths", "gaps", "closed"] [] := (fun_mk (st := s_House___init__) l_House___init__ c_House___init__ k_House___init__).binds (ps := ["self", "lengths", "gaps", "closed"]) fun _ _ _ _ _ _ us hl => match us, hl with | [_, _, _, _], _ => rfl
  have M_House___init__ : Meth K C "__init__" f_House___init__ := ⟨a_House___init__, i_House___init__, k_House___init__⟩
  have F__are_long : FunC K "_are_long" "_are_long" s__are_long f__are_long c8__are_long _ := ⟨⟨_, _, _, _, _, _, _, _, rfl, l__are_long, c__are_long⟩, k__are_long⟩
  have b__are_long : Binds K _ ["numbers"] [] := (fun_mk (st := s__are_long) l__are_long c__are_long k__are_long).binds (ps := ["numbers"]) fun _ _ _ _ _ _ us hl => match us, hl with | [_], _ => rfl
  have F__cross_heights := fun_mk (st := s__cross_heights) l__cross_heights c__cross_heights k__cross_heights
  have b__cross_heights := F__cross_heights.binds (ps := ["lengths"]) fun _ _ _ _ _ _ us hl => match us, hl with | [_], _ => rfl
  have F_House_is_link := fun_mk (st := s_House_is_link) l_House_is_link c_House_is_link k_House_is_link
  have b_House_is_link := F_House_is_link.binds (ps := ["self", "link"]) fun _ _ _ _ _ _ us hl => match us, hl with | [_, _], _ => rfl
  have M_House_is_link : Meth K C "is_link" f_House_is_link := ⟨a_House_is_link, i_House_is_link, k_House_is_link⟩
  have Y : HouseTop mg := { all := z_all, len := z_len, sum := z_sum, list := z_list, sorted := z_sorted, range := z_range, longest := g_LONGEST, stretches := g_MOST_STRETCHES, mostGaps := g_MOST_GAPS, mostClosed := g_MOST_CLOSED }
  have T : HouseTxt K mg C := { cl := ⟨pg_C, hd_C, po_C, sa_C⟩, nL := nplengths, nG := npgaps, nX := npcrosses, nT := nptop, nC := npclosed }
  have F_House_is_place := fun_mk (st := s_House_is_place) l_House_is_place c_House_is_place k_House_is_place
  have b_House_is_place := F_House_is_place.binds (ps := ["self", "place"]) fun _ _ _ _ _ _ us hl => match us, hl with | [_, _], _ => rfl
  have M_House_is_place : Meth K C "is_place" f_House_is_place := ⟨a_House_is_place, i_House_is_place, k_House_is_place⟩
  have m_is_place : MethD l.prog w K mg base C 1 "is_place" ["self", "place"] (spPl C isPl) := ⟨f_House_is_place, _, M_House_is_place, ok_is_place (P := l.prog) (w := w) (mg := mg) (base := base) F_House_is_place Y T, b_House_is_place⟩
  have F_House_is_cross := fun_mk (st := s_House_is_cross) l_House_is_cross c_House_is_cross k_House_is_cross
  have b_House_is_cross := F_House_is_cross.binds (ps := ["self", "place"]) fun _ _ _ _ _ _ us hl => match us, hl with | [_, _], _ => rfl
  have M_House_is_cross : Meth K C "is_cross" f_House_is_cross := ⟨a_House_is_cross, i_House_is_cross, k_House_is_cross⟩
  have m_is_cross : MethD l.prog w K mg base C 2 "is_cross" ["self", "place"] (spPl C isCr) := ⟨f_House_is_cross, _, M_House_is_cross, ok_is_cross (P := l.prog) (w := w) (mg := mg) (base := base) F_House_is_cross T m_is_place.G m_is_place.b m_is_place.m, b_House_is_cross⟩
  have F_House_is_closed := fun_mk (st := s_House_is_closed) l_House_is_closed c_House_is_closed k_House_is_closed
  have b_House_is_closed := F_House_is_closed.binds (ps := ["self", "link"]) fun _ _ _ _ _ _ us hl => match us, hl with | [_, _], _ => rfl
  have M_House_is_closed : Meth K C "is_closed" f_House_is_closed := ⟨a_House_is_closed, i_House_is_closed, k_House_is_closed⟩
  have m_is_closed : MethD l.prog w K mg base C 1 "is_closed" ["self", "link"] (spClosedQ C) := ⟨f_House_is_closed, _, M_House_is_closed, ok_is_closed (P := l.prog) (w := w) (mg := mg) (base := base) F_House_is_closed T, b_House_is_closed⟩
  have UCIT : ErrTxt K mg CIT "InvalidTask" := { gI := PySem.W.mg_of X G a_CIT, kI := kpCIT, xI := exCIT, bI := sbCIT, tI := tyCIT }
  have F_Task___init__ := fun_mk (st := s_Task___init__) l_Task___init__ c_Task___init__ k_Task___init__
  have b_Task___init__ := F_Task___init__.binds (ps := ["self", "start", "end", "picks"]) fun _ _ _ _ _ _ us hl => match us, hl with | [_, _, _, _], _ => rfl
  have M_Task___init__ : Meth K CT "__init__" f_Task___init__ := ⟨a_Task___init__, i_Task___init__, k_Task___init__⟩
  have TT : TaskTxt K mg CT CIT := { cl := ⟨pg_CT, hd_CT, po_CT, sa_CT⟩, nS := tstart, nE := tend, nP := tppicks, mgC := PySem.W.mg_of X G a_CT, len := z_len, set := z_set, sorted := z_sorted, list := z_list, most := g_MOST_PICKS, gI := PySem.W.mg_of X G a_CIT, kI := kpCIT, xI := exCIT, bI := sbCIT, tI := tyCIT }
  have MT : Mk K CT f_Task___init__ := ⟨mk_CT, a_Task___init__, i_Task___init__, kc_CT⟩
  have gTk := ok_task (P := l.prog) (w := w) (mg := mg) (base := base) F_Task___init__ TT
  have F_Task_picks := fun_mk (st := s_Task_picks) l_Task_picks c_Task_picks k_Task_picks
  have b_Task_picks := F_Task_picks.binds (ps := ["self"]) fun _ _ _ _ _ _ us hl => match us, hl with | [_], _ => rfl
  have hp_Task_picks : PropOf K CT "picks" p_Task_picks f_Task_picks := ⟨pa_Task_picks, pg_Task_picks, pt_Task_picks, r_Task_picks, pr_Task_picks⟩
  have p_picks : PropD l.prog w K mg base CT 1 "picks" (spPicks CT) := ⟨f_Task_picks, p_Task_picks, _, hp_Task_picks, ok_picks (P := l.prog) (w := w) (mg := mg) (base := base) F_Task_picks TT, b_Task_picks⟩
  have F_iCP := fun_mk (st := s_InvalidPlace___init__) l_iCP c_iCP k_iCP
  have b_iCP := F_iCP.binds (ps := ["self", "place"]) fun _ _ _ _ _ _ us hl => match us, hl with | [_, _], _ => rfl
  have o_CP : OexC K CP := ⟨⟨nm0, qn0, N0, bs0, _, sn0, sb0, ab0, co0, dd0, ma0, mb0, mc0, md0, me0, xlCP, rfl⟩, saCP, sbCP, tyCP, kpCP⟩
  have UCP : PlcTxt K mg CP f_iCP := { g := PySem.W.mg_of X G a_CP, o := o_CP, n := noCP, i := a_iCP, y := tiCP }
  have F_check_task := fun_mk (st := s_check_task) l_check_task c_check_task k_check_task
  have b_check_task := F_check_task.binds (ps := ["house", "task"]) fun _ _ _ _ _ _ us hl => match us, hl with | [_, _], _ => rfl
  have t_check_task : TopN l.prog w K mg base (L2.CX l.prog w) 4 "check_task" ["house", "task"] (spCheck CT C CP) := ⟨f_check_task, _, ok_check (P := l.prog) (w := w) (mg := mg) (base := base) F_check_task T TT UCP (ok_plcinit F_iCP) b_iCP m_is_place.G m_is_place.b m_is_place.m m_is_cross.G m_is_cross.b m_is_cross.m p_picks.G p_picks.b p_picks.h, b_check_task, PySem.W.mg_of X G a_check_task, k_check_task⟩
  have F__law_row := fun_mk (st := s__law_row) l__law_row c__law_row k__law_row
  have b__law_row := F__law_row.binds (ps := ["cell", "many"]) fun _ _ _ _ _ _ us hl => match us, hl with | [_, _], _ => rfl
  have F__law_numbers := fun_mk (st := s__law_numbers) l__law_numbers c__law_numbers k__law_numbers
  have b__law_numbers := F__law_numbers.binds (ps := ["script", "many"]) fun _ _ _ _ _ _ us hl => match us, hl with | [_, _], _ => rfl
  have D : DrawTxt mg f__law_row := ⟨z_abs, z_int, z_range, z_len, z_max, PySem.W.mg_of X G a__law_row⟩
  have t__law_numbers : TopD l.prog w K mg base 2 "_law_numbers" ["script", "many"] (spNumbers K) := ⟨f__law_numbers, _, ok_numbers F__law_numbers D F__law_row b__law_row, b__law_numbers, PySem.W.mg_of X G a__law_numbers, k__law_numbers⟩
  have F_House_length_of := fun_mk (st := s_House_length_of) l_House_length_of c_House_length_of k_House_length_of
  have b_House_length_of := F_House_length_of.binds (ps := ["self", "link"]) fun _ _ _ _ _ _ us hl => match us, hl with | [_, _], _ => rfl
  have M_House_length_of : Meth K C "length_of" f_House_length_of := ⟨a_House_length_of, i_House_length_of, k_House_length_of⟩
  have UCL : ErrTxt K mg CL "InvalidLink" := { gI := PySem.W.mg_of X G a_CL, kI := kpCL, xI := exCL, bI := sbCL, tI := tyCL }
  have g_length_of := ok_length_of (P := l.prog) (w := w) (mg := mg) (base := base) F_House_length_of Y T UCL (ok_link (P := l.prog) (w := w) (mg := mg) (base := base) F_House_is_link Y T) b_House_is_link M_House_is_link
  have F_House_link_between := fun_mk (st := s_House_link_between) l_House_link_between c_House_link_between k_House_link_between
  have b_House_link_between := F_House_link_between.binds (ps := ["self", "one", "other"]) fun _ _ _ _ _ _ us hl => match us, hl with | [_, _, _], _ => rfl
  have M_House_link_between : Meth K C "link_between" f_House_link_between := ⟨a_House_link_between, i_House_link_between, k_House_link_between⟩
  have g_link_between := ok_between (P := l.prog) (w := w) (mg := mg) (base := base) F_House_link_between z_min z_max T (ok_link (P := l.prog) (w := w) (mg := mg) (base := base) F_House_is_link Y T) b_House_is_link M_House_is_link m_is_closed.G m_is_closed.b m_is_closed.m
  have F_House_beside := fun_mk (st := s_House_beside) l_House_beside c_House_beside k_House_beside
  have b_House_beside := F_House_beside.binds (ps := ["self", "place"]) fun _ _ _ _ _ _ us hl => match us, hl with | [_, _], _ => rfl
  have M_House_beside : Meth K C "beside" f_House_beside := ⟨a_House_beside, i_House_beside, k_House_beside⟩
  have g_beside := ok_beside (P := l.prog) (w := w) (mg := mg) (base := base) F_House_beside T UCP (ok_plcinit F_iCP) b_iCP m_is_place.G m_is_place.b m_is_place.m g_link_between b_House_link_between M_House_link_between g_length_of b_House_length_of M_House_length_of
  have LT : LawTop mg := { int := z_int, len := z_len, sum := z_sum, max := z_max, range := z_range }
  have F__law_all_links := fun_mk (st := s__law_all_links) l__law_all_links c__law_all_links k__law_all_links
  have b__law_all_links := F__law_all_links.binds (ps := ["lengths", "gaps"]) fun _ _ _ _ _ _ us hl => match us, hl with | [_, _], _ => rfl
  have gAl := ok_alle (P := l.prog) (w := w) (mg := mg) (base := base) F__law_all_links z_sum z_len z_range z_sorted z_set
  have F__law_parts := fun_mk (st := s__law_parts) l__law_parts c__law_parts k__law_parts
  have b__law_parts := F__law_parts.binds (ps := ["numbers", "at"]) fun _ _ _ _ _ _ us hl => match us, hl with | [_, _], _ => rfl
  have t__law_parts : TopD l.prog w K mg base 2 "_law_parts" ["numbers", "at"] (spParts K) := ⟨f__law_parts, _, ok_parts (P := l.prog) (w := w) (mg := mg) (base := base) F__law_parts LT k__law_all_links gAl b__law_all_links (PySem.W.mg_of X G a__law_all_links), b__law_parts, PySem.W.mg_of X G a__law_parts, k__law_parts⟩
  let ZM : HouseM l.prog w K mg base := { C := C, CI := CI, TL := TL, TI := TI, fI := f_House___init__, fdI := _, M := ⟨mk_C, a_House___init__, i_House___init__, kc_C⟩, GI := ok_house F_House___init__ TBTI Y T UCI F_House_is_link b_House_is_link M_House_is_link F__are_long TBTL b__are_long (PySem.W.mg_of X G a__are_long) F__cross_heights b__cross_heights (PySem.W.mg_of X G a__cross_heights), bI := b_House___init__, mgC := PySem.W.mg_of X G a_C, cl := T.cl }
  have F__law_house := fun_mk (st := s__law_house) l__law_house c__law_house k__law_house
  have b__law_house := F__law_house.binds (ps := ["parts"]) fun _ _ _ _ _ _ us hl => match us, hl with | [_], _ => rfl
  have t__law_house : TopD l.prog w K mg base 7 "_law_house" ["parts"] (spMkH C TL TI) := ⟨f__law_house, _, ok_mkh (P := l.prog) (w := w) (mg := mg) (base := base) F__law_house ZM z_list, b__law_house, PySem.W.mg_of X G a__law_house, k__law_house⟩
  have F__law_beside := fun_mk (st := s__law_beside) l__law_beside c__law_beside k__law_beside
  have b__law_beside := F__law_beside.binds (ps := ["parts"]) fun _ _ _ _ _ _ us hl => match us, hl with | [_], _ => rfl
  have t__law_beside : TopD l.prog w K mg base 2 "_law_beside" ["parts"] (spBes K) := ⟨f__law_beside, _, ok_bes (P := l.prog) (w := w) (mg := mg) (base := base) F__law_beside z_sum z_len z_range z_sorted z_list k__law_all_links gAl b__law_all_links (PySem.W.mg_of X G a__law_all_links), b__law_beside, PySem.W.mg_of X G a__law_beside, k__law_beside⟩
  have F_levels := fun_mk (st := s_levels) l_levels c_levels k_levels
  have b_levels := F_levels.binds (ps := ["house", "place"]) fun _ _ _ _ _ _ us hl => match us, hl with | [_, _], _ => rfl
  have g_levels := ok_levels (P := l.prog) (w := w) (mg := mg) (base := base) F_levels (PySem.W.mg_of X G a_heappush) (PySem.W.mg_of X G a_heappop) T UCP (ok_plcinit F_iCP) b_iCP m_is_place.G m_is_place.b m_is_place.m g_beside b_House_beside M_House_beside
  have F_iCU := fun_mk (st := s_Unreachable___init__) l_iCU c_iCU k_iCU
  have b_iCU := F_iCU.binds (ps := ["self", "place"]) fun _ _ _ _ _ _ us hl => match us, hl with | [_, _], _ => rfl
  have o_CU : OexC K CU := ⟨⟨nm1, qn1, N1, bs1, _, sn1, sb1, ab1, co1, dd1, ma1, mb1, mc1, md1, me1, xlCU, rfl⟩, saCU, sbCU, tyCU, kpCU⟩
  have UCU : FarTxt K mg CU f_iCU := { g := PySem.W.mg_of X G a_CU, o := o_CU, n := noCU, i := a_iCU, y := tiCU }
  have F__law_far := fun_mk (st := s__law_far) l__law_far c__law_far k__law_far
  have b__law_far := F__law_far.binds (ps := ["beside", "place"]) fun _ _ _ _ _ _ us hl => match us, hl with | [_, _], _ => rfl
  have t__law_far : TopD l.prog w K mg base 1 "_law_far" ["beside", "place"] (spFar) := ⟨f__law_far, _, ok_far (P := l.prog) (w := w) (mg := mg) (base := base) F__law_far z_len z_range z_sorted, b__law_far, PySem.W.mg_of X G a__law_far, k__law_far⟩
  have F__law_lots := fun_mk (st := s__law_lots) l__law_lots c__law_lots k__law_lots
  have b__law_lots := F__law_lots.binds (ps := ["marks", "pairs"]) fun _ _ _ _ _ _ us hl => match us, hl with | [_, _], _ => rfl
  have t__law_lots : TopD l.prog w K mg base 1 "_law_lots" ["marks", "pairs"] (SpN RsLo PLo fun a => OLots a.1 a.2) := ⟨f__law_lots, _, ok_lots (P := l.prog) (w := w) (mg := mg) (base := base) F__law_lots z_len, b__law_lots, PySem.W.mg_of X G a__law_lots, k__law_lots⟩
  have F__law_crosses := fun_mk (st := s__law_crosses) l__law_crosses c__law_crosses k__law_crosses
  have b__law_crosses := F__law_crosses.binds (ps := ["parts"]) fun _ _ _ _ _ _ us hl => match us, hl with | [_], _ => rfl
  have t__law_crosses : TopD l.prog w K mg base 1 "_law_crosses" ["parts"] (SpX (Rs__law_crosses ) (P__law_crosses ) (R__law_crosses ) (G__law_crosses )) := ⟨f__law_crosses, _, ok__law_crosses (P := l.prog) (w := w) (mg := mg) (base := base) F__law_crosses z_range z_len z_sum z_sorted z_set, b__law_crosses, PySem.W.mg_of X G a__law_crosses, k__law_crosses⟩
  have F__law_task := fun_mk (st := s__law_task) l__law_task c__law_task k__law_task
  have b__law_task := F__law_task.binds (ps := ["numbers", "at", "parts", "many"]) fun _ _ _ _ _ _ us hl => match us, hl with | [_, _, _, _], _ => rfl
  have t__law_task : TopD l.prog w K mg base 3 "_law_task" ["numbers", "at", "parts", "many"] (SpX0 (Rs__law_task ) (P__law_task ) (R__law_task ) (G__law_task )) := ⟨f__law_task, _, ok__law_task (P := l.prog) (w := w) (mg := mg) (base := base) F__law_task t__law_crosses z_int z_len t__law_beside z_sorted z_range, b__law_task, PySem.W.mg_of X G a__law_task, k__law_task⟩
  have F__law_made := fun_mk (st := s__law_made) l__law_made c__law_made k__law_made
  have b__law_made := F__law_made.binds (ps := ["task"]) fun _ _ _ _ _ _ us hl => match us, hl with | [_], _ => rfl
  have t__law_made : TopD l.prog w K mg base 4 "_law_made" ["task"] (Sps (Rs__law_made CT CIT f_Task___init__ _) (P__law_made CT CIT f_Task___init__ _) (R__law_made CT CIT f_Task___init__ _)) := ⟨f__law_made, _, ok__law_made CT CIT f_Task___init__ _ (P := l.prog) (w := w) (mg := mg) (base := base) F__law_made z_list MT gTk b_Task___init__ (PySem.W.mg_of X G a_CT), b__law_made, PySem.W.mg_of X G a__law_made, k__law_made⟩
  have F__law_marks := fun_mk (st := s__law_marks) l__law_marks c__law_marks k__law_marks
  have b__law_marks := F__law_marks.binds (ps := ["task"]) fun _ _ _ _ _ _ us hl => match us, hl with | [_], _ => rfl
  have t__law_marks : TopD l.prog w K mg base 1 "_law_marks" ["task"] (SpN (Rs__law_marks ) (P__law_marks ) (R__law_marks )) := ⟨f__law_marks, _, ok__law_marks (P := l.prog) (w := w) (mg := mg) (base := base) F__law_marks z_set z_sorted, b__law_marks, PySem.W.mg_of X G a__law_marks, k__law_marks⟩
  have F__law_first_gone := fun_mk (st := s__law_first_gone) l__law_first_gone c__law_first_gone k__law_first_gone
  have b__law_first_gone := F__law_first_gone.binds (ps := ["beside", "task"]) fun _ _ _ _ _ _ us hl => match us, hl with | [_, _], _ => rfl
  have t__law_first_gone : TopD l.prog w K mg base 2 "_law_first_gone" ["beside", "task"] (Sps (Rs__law_first_gone ) (P__law_first_gone ) (R__law_first_gone )) := ⟨f__law_first_gone, _, ok__law_first_gone (P := l.prog) (w := w) (mg := mg) (base := base) F__law_first_gone t__law_far z_sorted, b__law_first_gone, PySem.W.mg_of X G a__law_first_gone, k__law_first_gone⟩
  have F__law_pairs := fun_mk (st := s__law_pairs) l__law_pairs c__law_pairs k__law_pairs
  have b__law_pairs := F__law_pairs.binds (ps := ["beside", "task"]) fun _ _ _ _ _ _ us hl => match us, hl with | [_, _], _ => rfl
  have t__law_pairs : TopD l.prog w K mg base 2 "_law_pairs" ["beside", "task"] (SpN (Rs__law_pairs l.prog w) (P__law_pairs l.prog w) (R__law_pairs l.prog w)) := ⟨f__law_pairs, _, ok__law_pairs (P := l.prog) (w := w) (mg := mg) (base := base) F__law_pairs t__law_marks t__law_far, b__law_pairs, PySem.W.mg_of X G a__law_pairs, k__law_pairs⟩
  have F__law_least_tree := fun_mk (st := s__law_least_tree) l__law_least_tree c__law_least_tree k__law_least_tree
  have b__law_least_tree := F__law_least_tree.binds (ps := ["marks", "pairs"]) fun _ _ _ _ _ _ us hl => match us, hl with | [_, _], _ => rfl
  have t__law_least_tree : TopD l.prog w K mg base 2 "_law_least_tree" ["marks", "pairs"] (spLl l.prog w) := ⟨f__law_least_tree, _, ok_lleast (P := l.prog) (w := w) (mg := mg) (base := base) F__law_least_tree z_sorted t__law_lots.G t__law_lots.b t__law_lots.g t__law_lots.kp, b__law_least_tree, PySem.W.mg_of X G a__law_least_tree, k__law_least_tree⟩
  have F_cut_off := fun_mk (st := s_cut_off) l_cut_off c_cut_off k_cut_off
  have b_cut_off := F_cut_off.binds (ps := ["house", "task"]) fun _ _ _ _ _ _ us hl => match us, hl with | [_, _], _ => rfl
  have g_cut_off := ok_cutoff (P := l.prog) (w := w) (mg := mg) (base := base) F_cut_off TT t_check_task.G t_check_task.b t_check_task.g t_check_task.kp g_levels b_levels (PySem.W.mg_of X G a_levels) k_levels p_picks.G p_picks.b p_picks.h
  have F_check_round := fun_mk (st := s_check_round) l_check_round c_check_round k_check_round
  have b_check_round := F_check_round.binds (ps := ["house", "task"]) fun _ _ _ _ _ _ us hl => match us, hl with | [_, _], _ => rfl
  have g_check_round := ok_checkround (P := l.prog) (w := w) (mg := mg) (base := base) F_check_round UCU (ok_farinit F_iCU) b_iCU g_cut_off b_cut_off (PySem.W.mg_of X G a_cut_off) k_cut_off
  have F_Task_marks := fun_mk (st := s_Task_marks) l_Task_marks c_Task_marks k_Task_marks
  have b_Task_marks := F_Task_marks.binds (ps := ["self"]) fun _ _ _ _ _ _ us hl => match us, hl with | [_], _ => rfl
  have M_Task_marks : Meth K CT "marks" f_Task_marks := ⟨a_Task_marks, i_Task_marks, k_Task_marks⟩
  have g_marks := ok_tmarks (P := l.prog) (w := w) (mg := mg) (base := base) F_Task_marks TT
  have F__levels_of_marks := fun_mk (st := s__levels_of_marks) l__levels_of_marks c__levels_of_marks k__levels_of_marks
  have b__levels_of_marks := F__levels_of_marks.binds (ps := ["house", "task"]) fun _ _ _ _ _ _ us hl => match us, hl with | [_, _], _ => rfl
  have g_lm := ok_lom (P := l.prog) (w := w) (mg := mg) (base := base) F__levels_of_marks TT g_check_round b_check_round (PySem.W.mg_of X G a_check_round) k_check_round g_marks b_Task_marks M_Task_marks g_levels b_levels (PySem.W.mg_of X G a_levels) k_levels
  have F__with_joined := fun_mk (st := s__with_joined) l__with_joined c__with_joined k__with_joined
  have b__with_joined := F__with_joined.binds (ps := ["groups", "one", "other"]) fun _ _ _ _ _ _ us hl => match us, hl with | [_, _, _], _ => rfl
  have g_wj := ok_withjoined (P := l.prog) (w := w) (mg := mg) (base := base) F__with_joined
  have F__least_pairs := fun_mk (st := s__least_pairs) l__least_pairs c__least_pairs k__least_pairs
  have b__least_pairs := F__least_pairs.binds (ps := ["numbers"]) fun _ _ _ _ _ _ us hl => match us, hl with | [_], _ => rfl
  have g_lp := ok_leastpairs (P := l.prog) (w := w) (mg := mg) (base := base) F__least_pairs z_sorted g_wj b__with_joined (PySem.W.mg_of X G a__with_joined) k__with_joined
  have F__length_of := fun_mk (st := s__length_of) l__length_of c__length_of k__length_of
  have b__length_of := F__length_of.binds (ps := ["numbers", "tree"]) fun _ _ _ _ _ _ us hl => match us, hl with | [_, _], _ => rfl
  have g_ln := ok_lengthof (P := l.prog) (w := w) (mg := mg) (base := base) F__length_of z_sum
  have F_is_tree := fun_mk (st := s_is_tree) l_is_tree c_is_tree k_is_tree
  have b_is_tree := F_is_tree.binds (ps := ["task", "tree"]) fun _ _ _ _ _ _ us hl => match us, hl with | [_, _], _ => rfl
  have t_is_tree : TopD l.prog w K mg base 3 "is_tree" ["task", "tree"] (spIt CT) := ⟨f_is_tree, _, ok_istree (P := l.prog) (w := w) (mg := mg) (base := base) F_is_tree TT z_len z_sorted g_marks b_Task_marks M_Task_marks g_wj b__with_joined (PySem.W.mg_of X G a__with_joined) k__with_joined, b_is_tree, PySem.W.mg_of X G a_is_tree, k_is_tree⟩
  have F_least_tree := fun_mk (st := s_least_tree) l_least_tree c_least_tree k_least_tree
  have b_least_tree := F_least_tree.binds (ps := ["house", "task"]) fun _ _ _ _ _ _ us hl => match us, hl with | [_, _], _ => rfl
  have t_least_tree : TopN l.prog w K mg base (L2.CX l.prog w) 9 "least_tree" ["house", "task"] (spLt C CT CU) := ⟨f_least_tree, _, ok_leasttree (P := l.prog) (w := w) (mg := mg) (base := base) F_least_tree g_lm b__levels_of_marks (PySem.W.mg_of X G a__levels_of_marks) k__levels_of_marks g_lp b__least_pairs (PySem.W.mg_of X G a__least_pairs) k__least_pairs, b_least_tree, PySem.W.mg_of X G a_least_tree, k_least_tree⟩
  have F_tree_length := fun_mk (st := s_tree_length) l_tree_length c_tree_length k_tree_length
  have b_tree_length := F_tree_length.binds (ps := ["house", "task", "tree"]) fun _ _ _ _ _ _ us hl => match us, hl with | [_, _, _], _ => rfl
  have t_tree_length : TopN l.prog w K mg base (L2.CX l.prog w) 9 "tree_length" ["house", "task", "tree"] (spTl C CT CU inMs fun a => RD (.int (lenT a.1.x a.2.2))) := ⟨f_tree_length, _, ok_treelength (P := l.prog) (w := w) (mg := mg) (base := base) F_tree_length g_lm b__levels_of_marks (PySem.W.mg_of X G a__levels_of_marks) k__levels_of_marks g_ln b__length_of (PySem.W.mg_of X G a__length_of) k__length_of, b_tree_length, PySem.W.mg_of X G a_tree_length, k_tree_length⟩
  have F_is_least_tree := fun_mk (st := s_is_least_tree) l_is_least_tree c_is_least_tree k_is_least_tree
  have b_is_least_tree := F_is_least_tree.binds (ps := ["house", "task", "tree"]) fun _ _ _ _ _ _ us hl => match us, hl with | [_, _, _], _ => rfl
  have t_is_least_tree : TopN l.prog w K mg base (L2.CX l.prog w) 9 "is_least_tree" ["house", "task", "tree"] (spTl C CT CU (fun _ => True) fun a => RD (.bool (isLeastB a.1.x (mks a.2.1) a.2.2))) := ⟨f_is_least_tree, _, ok_isleast (P := l.prog) (w := w) (mg := mg) (base := base) F_is_least_tree g_lm b__levels_of_marks (PySem.W.mg_of X G a__levels_of_marks) k__levels_of_marks t_is_tree.G t_is_tree.b t_is_tree.g t_is_tree.kp g_ln b__length_of (PySem.W.mg_of X G a__length_of) k__length_of g_lp b__least_pairs (PySem.W.mg_of X G a__least_pairs) k__least_pairs, b_is_least_tree, PySem.W.mg_of X G a_is_least_tree, k_is_least_tree⟩
  have F_tree_bounds := fun_mk (st := s_tree_bounds) l_tree_bounds c_tree_bounds k_tree_bounds
  have b_tree_bounds := F_tree_bounds.binds (ps := ["house", "task"]) fun _ _ _ _ _ _ us hl => match us, hl with | [_, _], _ => rfl
  have g_bg := ok_boundsgone (P := l.prog) (w := w) (mg := mg) (base := base) F_tree_bounds g_lm b__levels_of_marks (PySem.W.mg_of X G a__levels_of_marks) k__levels_of_marks
  have F__law_told := fun_mk (st := s__law_told) l__law_told c__law_told k__law_told
  have b__law_told := F__law_told.binds (ps := ["which", "house", "task"]) fun _ _ _ _ _ _ us hl => match us, hl with | [_, _, _], _ => rfl
  have t__law_told : TopD l.prog w K mg base 10 "_law_told" ["which", "house", "task"] (spTo C CT) := ⟨f__law_told, _, ok_told (P := l.prog) (w := w) (mg := mg) (base := base) F__law_told (PySem.W.mg_of X G a_CU) (PySem.W.mg_of X G a_Pe) (PySem.W.exm_ref sbCU dcCU tyCU ssCU) ⟨gaCU, ggCU, sbCU, dcCU⟩ noCU t_least_tree.G t_least_tree.b t_least_tree.g t_least_tree.kp t_is_least_tree.G t_is_least_tree.b t_is_least_tree.g t_is_least_tree.kp g_bg b_tree_bounds (PySem.W.mg_of X G a_tree_bounds) k_tree_bounds, b__law_told, PySem.W.mg_of X G a__law_told, k__law_told⟩
  exact ok_law C CT CP CU CIT TL TI f_Task___init__ _ (P := l.prog) (w := w) (mg := mg) (base := base) F_law t__law_numbers t__law_parts t__law_house t__law_beside t__law_task t__law_made t__law_first_gone z_range t__law_told z_all t__law_pairs t__law_marks t__law_least_tree t_least_tree z_isinstance z_list t_is_tree t_is_least_tree t_tree_length z_sum
theorem tabB0 {base : Heap} {mg : Str → Option Value} {c P : Addr} (h : LamX.TabB base mg c P) : TabB base mg c P := ⟨h.code, h.bm, h.gP⟩
theorem tabG0 {H : Hp} {P : Addr} (h : H P = some (.tbl #[])) : TabG H P := ⟨#[], h, trivial⟩
theorem walk {l : PySem.W.OpenLaw} {q : Program} {loose : List Str} {XP : (Str → Option Value) → Heap → Prop} {YP : World → Heap → Prop} {d : DefRec} {K : Params → PySem.W.Frag} {c0 c1 TI TL : Addr}
    (hn : l.most = some 63) (hdf : d.params.defaults = []) (hY : ∀ (w : World) (h : Heap), YP w h → (K w.params).In h) (hT : ∀ (w : World) (h : Heap), YP w h → ∀ P ∈ [TI, TL], h.get? P = some (PySem.W.tabObj #[]))
    (n0 : ∀ w : World, (K w.params).lookup TI = none) (e0 : ∀ w : World, PySem.W.codeHdIn (K w.params) c0 TI = true)
    (n1 : ∀ w : World, (K w.params).lookup TL = none) (e1 : ∀ w : World, PySem.W.codeHdIn (K w.params) c1 TL = true)
    (F : ∀ (w : World) (mg : Str → Option Value) (fa : Addr) (h : Heap), (K w.params).In h → h.Ns mainGlobals mg → mg d.name = some (.ref fa) →
      ∃ fd : FuncData, (∀ (s : Shared) (u : Value), BindsTo s fd ⟨[u], []⟩ [("script", u)]) ∧
        ∀ base : Heap, (K w.params).In base → base.Ns mainGlobals mg → TabB base mg c0 TI → TabB base mg c1 TL → FnOk l.prog w (K w.params) mg base CX0 11 fa fd ["script"] (spLawT (K w.params) [TL, TI])) :
    PySem.W.WalkO q loose XP YP l.row.toRowW d [] (fun f vs => PySem.call f vs) := by
  refine LamX.walk_ofTs (n := 63) (k := 11) (x := "script") (CX := fun _ => CX0) hn (by decide) hdf ⟨rfl, by decide, by decide⟩ hY (fun w mg fa h Y KX G hmg => ?_) (fun _ _ _ _ _ z => z)
  obtain ⟨fd, hb, hF⟩ := F w mg fa h KX G hmg
  refine ⟨fd, [(c0, TI), (c1, TL)], spLawT (K w.params) [TL, TI], fun p hp => ?_, fun p hp => ?_, fun p hp => ?_, hb, fun H a ns hl _ hS hq => ⟨a, ns, rfl, hq, hl, fun T hT => ?_, fun _ => rfl⟩, fun base b1 b2 T => hF base b1 b2 (tabB0 (T (c0, TI) (by simp))) (tabB0 (T (c1, TL) (by simp)))⟩
  all_goals simp only [List.mem_cons, List.mem_nil_iff, or_false] at *
  · rcases hp with rfl | rfl
    · exact hT w h Y _ (by simp)
    · exact hT w h Y _ (by simp)
  · rcases hp with rfl | rfl
    · exact n0 w
    · exact n1 w
  · rcases hp with rfl | rfl
    · exact PySem.W.codeHd_of_K KX (e0 w)
    · exact PySem.W.codeHd_of_K KX (e1 w)
  · rcases hT with hT | hT
    · rw [hT]; exact tabG0 (hS (c1, TL) (by simp))
    · rw [hT]; exact tabG0 (hS (c0, TI) (by simp))
end
end Pk
open PySem PySem.W PyProof.Rows
local macro_rules | `(tactic| o_head ($_ $k $a $e)) => `(tactic| o_head (kmHook $k $a $e [383, 531]))
set_option maxRecDepth 100000 in
set_option maxHeartbeats 0 in
theorem PySem.Challenge.cw_pickaisle_k19_least_trees_holds : PySem.Challenge.rw_pickaisle_k19_least_trees.Holds := by
  w_on; o_law; k_head; (case hw => w_witness2)
  k_fill
  refine Pk.walk (l := PySem.Challenge.rw_pickaisle_k19_least_trees) (c0 := 385) (c1 := 535) (TI := 383) (TL := 531) rfl rfl (fun w h Y => km_in_of Y) (fun w h Y P hP => km_tabs_of Y P (by simp only [List.mem_cons, List.not_mem_nil, or_false] at hP ⊢; omega)) (fun w => by kernel_rfl) (fun w => by kernel_rfl) (fun w => by kernel_rfl) (fun w => by kernel_rfl) ?F
  case F =>
    intro w mg fa h KX G hmg
    refine' Pk.all_mk KX G hmg ?a_C ?pg_C ?hd_C ?po_C ?sa_C ?mk_C ?kc_C ?nplengths ?npgaps ?npcrosses ?nptop ?npclosed ?a_CI ?kpCI ?sbCI ?tyCI ?exCI ?c_LONGEST ?c_MOST_STRETCHES ?c_MOST_GAPS ?c_MOST_CLOSED ?z_abs ?z_all ?z_int ?z_len ?z_list ?z_max ?z_range ?z_sorted ?z_sum ?a_House___init__ ?i_House___init__ ?l_House___init__ ?c_House___init__ ?k_House___init__ ?a__are_long ?l__are_long ?c__are_long ?k__are_long ?a__cross_heights ?l__cross_heights ?c__cross_heights ?k__cross_heights ?a_House_is_link ?i_House_is_link ?l_House_is_link ?c_House_is_link ?k_House_is_link ?a_House_is_place ?i_House_is_place ?l_House_is_place ?c_House_is_place ?k_House_is_place ?a_House_is_cross ?i_House_is_cross ?l_House_is_cross ?c_House_is_cross ?k_House_is_cross ?a_House_is_closed ?i_House_is_closed ?l_House_is_closed ?c_House_is_closed ?k_House_is_closed ?a_CT ?pg_CT ?hd_CT ?po_CT ?sa_CT ?mk_CT ?kc_CT ?a_CIT ?kpCIT ?sbCIT ?tyCIT ?exCIT ?tstart ?tend ?tppicks ?c_MOST_PICKS ?z_set ?a_Task___init__ ?i_Task___init__ ?l_Task___init__ ?c_Task___init__ ?k_Task___init__ ?pa_Task_picks ?pg_Task_picks ?pt_Task_picks ?pr_Task_picks ?l_Task_picks ?c_Task_picks ?k_Task_picks ?a_CP ?kpCP ?sbCP ?tyCP ?a_Pe ?dcCP ?ssCP ?xlCP ?saCP ?noCP ?gaCP ?ggCP ?a_iCP ?tiCP ?l_iCP ?c_iCP ?k_iCP ?a_check_task ?l_check_task ?c_check_task ?k_check_task ?a__law_row ?l__law_row ?c__law_row ?k__law_row ?a__law_numbers ?l__law_numbers ?c__law_numbers ?k__law_numbers ?a_House_length_of ?i_House_length_of ?l_House_length_of ?c_House_length_of ?k_House_length_of ?a_CL ?kpCL ?sbCL ?tyCL ?exCL ?a_House_link_between ?i_House_link_between ?l_House_link_between ?c_House_link_between ?k_House_link_between ?z_min ?a_House_beside ?i_House_beside ?l_House_beside ?c_House_beside ?k_House_beside ?z_bool ?z_zip ?a__law_all_links ?l__law_all_links ?c__law_all_links ?k__law_all_links ?a__law_parts ?l__law_parts ?c__law_parts ?k__law_parts ?a__law_house ?l__law_house ?c__law_house ?k__law_house ?a__law_beside ?l__law_beside ?c__law_beside ?k__law_beside ?a_heappush ?a_heappop ?a_levels ?l_levels ?c_levels ?k_levels ?a_CU ?kpCU ?sbCU ?tyCU ?dcCU ?ssCU ?xlCU ?saCU ?noCU ?gaCU ?ggCU ?a_iCU ?tiCU ?l_iCU ?c_iCU ?k_iCU ?z_isinstance ?a__law_far ?l__law_far ?c__law_far ?k__law_far ?a__law_lots ?l__law_lots ?c__law_lots ?k__law_lots ?a__law_crosses ?l__law_crosses ?c__law_crosses ?k__law_crosses ?a__law_task ?l__law_task ?c__law_task ?k__law_task ?a__law_made ?l__law_made ?c__law_made ?k__law_made ?a__law_marks ?l__law_marks ?c__law_marks ?k__law_marks ?a__law_first_gone ?l__law_first_gone ?c__law_first_gone ?k__law_first_gone ?a__law_pairs ?l__law_pairs ?c__law_pairs ?k__law_pairs ?a__law_least_tree ?l__law_least_tree ?c__law_least_tree ?k__law_least_tree ?a_cut_off ?l_cut_off ?c_cut_off ?k_cut_off ?a_check_round ?l_check_round ?c_check_round ?k_check_round ?a_Task_marks ?i_Task_marks ?l_Task_marks ?c_Task_marks ?k_Task_marks ?a__levels_of_marks ?l__levels_of_marks ?c__levels_of_marks ?k__levels_of_marks ?a__with_joined ?l__with_joined ?c__with_joined ?k__with_joined ?a__least_pairs ?l__least_pairs ?c__least_pairs ?k__least_pairs ?a__length_of ?l__length_of ?c__length_of ?k__length_of ?a_is_tree ?l_is_tree ?c_is_tree ?k_is_tree ?a_least_tree ?l_least_tree ?c_least_tree ?k_least_tree ?a_tree_length ?l_tree_length ?c_tree_length ?k_tree_length ?a_is_least_tree ?l_is_least_tree ?c_is_least_tree ?k_is_least_tree ?a_tree_bounds ?l_tree_bounds ?c_tree_bounds ?k_tree_bounds ?a__law_told ?l__law_told ?c__law_told ?k__law_told ?a_law ?l_law ?c_law ?k_law
    (case a_C => k_is)
    (case pg_C => k_is)
    (case hd_C => k_is)
    (case po_C => k_is)
    (case sa_C => k_is)
    (case mk_C => k_is)
    (case kc_C => k_is)
    (case nplengths => k_is)
    (case npgaps => k_is)
    (case npcrosses => k_is)
    (case nptop => k_is)
    (case npclosed => k_is)
    (case a_CI => k_is)
    (case kpCI => k_is)
    (case sbCI => k_is)
    (case tyCI => k_is)
    (case exCI => k_exc)
    (case c_LONGEST => k_is)
    (case c_MOST_STRETCHES => k_is)
    (case c_MOST_GAPS => k_is)
    (case c_MOST_CLOSED => k_is)
    (case z_abs => k_is)
    (case z_all => k_is)
    (case z_int => k_is)
    (case z_len => k_is)
    (case z_list => k_is)
    (case z_max => k_is)
    (case z_range => k_is)
    (case z_sorted => k_is)
    (case z_sum => k_is)
    (case a_House___init__ => k_is)
    (case i_House___init__ => k_is)
    (case l_House___init__ => k_is)
    (case c_House___init__ => k_is)
    (case k_House___init__ => k_is)
    (case a__are_long => k_is)
    (case l__are_long => k_is)
    (case c__are_long => k_is)
    (case k__are_long => k_is)
    (case a__cross_heights => k_is)
    (case l__cross_heights => k_is)
    (case c__cross_heights => k_is)
    (case k__cross_heights => k_is)
    (case a_House_is_link => k_is)
    (case i_House_is_link => k_is)
    (case l_House_is_link => k_is)
    (case c_House_is_link => k_is)
    (case k_House_is_link => k_is)
    (case a_House_is_place => k_is)
    (case i_House_is_place => k_is)
    (case l_House_is_place => k_is)
    (case c_House_is_place => k_is)
    (case k_House_is_place => k_is)
    (case a_House_is_cross => k_is)
    (case i_House_is_cross => k_is)
    (case l_House_is_cross => k_is)
    (case c_House_is_cross => k_is)
    (case k_House_is_cross => k_is)
    (case a_House_is_closed => k_is)
    (case i_House_is_closed => k_is)
    (case l_House_is_closed => k_is)
    (case c_House_is_closed => k_is)
    (case k_House_is_closed => k_is)
    (case a_CT => k_is)
    (case pg_CT => k_is)
    (case hd_CT => k_is)
    (case po_CT => k_is)
    (case sa_CT => k_is)
    (case mk_CT => k_is)
    (case kc_CT => k_is)
    (case a_CIT => k_is)
    (case kpCIT => k_is)
    (case sbCIT => k_is)
    (case tyCIT => k_is)
    (case exCIT => k_exc)
    (case tstart => k_is)
    (case tend => k_is)
    (case tppicks => k_is)
    (case c_MOST_PICKS => k_is)
    (case z_set => k_is)
    (case a_Task___init__ => k_is)
    (case i_Task___init__ => k_is)
    (case l_Task___init__ => k_is)
    (case c_Task___init__ => k_is)
    (case k_Task___init__ => k_is)
    (case pa_Task_picks => k_is)
    (case pg_Task_picks => k_is)
    (case pt_Task_picks => k_is)
    (case pr_Task_picks => k_is)
    (case l_Task_picks => k_is)
    (case c_Task_picks => k_is)
    (case k_Task_picks => k_is)
    (case a_CP => k_is)
    (case kpCP => k_is)
    (case sbCP => k_is)
    (case tyCP => k_is)
    (case a_Pe => k_is)
    (case dcCP => k_is)
    (case ssCP => first | k_is | rfl)
    (case xlCP => k_is)
    (case saCP => k_is)
    (case noCP => k_is)
    (case gaCP => k_is)
    (case ggCP => k_is)
    (case a_iCP => k_is)
    (case tiCP => k_is)
    (case l_iCP => k_is)
    (case c_iCP => k_is)
    (case k_iCP => k_is)
    (case a_check_task => k_is)
    (case l_check_task => k_is)
    (case c_check_task => k_is)
    (case k_check_task => k_is)
    (case a__law_row => k_is)
    (case l__law_row => k_is)
    (case c__law_row => k_is)
    (case k__law_row => k_is)
    (case a__law_numbers => k_is)
    (case l__law_numbers => k_is)
    (case c__law_numbers => k_is)
    (case k__law_numbers => k_is)
    (case a_House_length_of => k_is)
    (case i_House_length_of => k_is)
    (case l_House_length_of => k_is)
    (case c_House_length_of => k_is)
    (case k_House_length_of => k_is)
    (case a_CL => k_is)
    (case kpCL => k_is)
    (case sbCL => k_is)
    (case tyCL => k_is)
    (case exCL => k_exc)
    (case a_House_link_between => k_is)
    (case i_House_link_between => k_is)
    (case l_House_link_between => k_is)
    (case c_House_link_between => k_is)
    (case k_House_link_between => k_is)
    (case z_min => k_is)
    (case a_House_beside => k_is)
    (case i_House_beside => k_is)
    (case l_House_beside => k_is)
    (case c_House_beside => k_is)
    (case k_House_beside => k_is)
    (case z_bool => k_is)
    (case z_zip => k_is)
    (case a__law_all_links => k_is)
    (case l__law_all_links => k_is)
    (case c__law_all_links => k_is)
    (case k__law_all_links => k_is)
    (case a__law_parts => k_is)
    (case l__law_parts => k_is)
    (case c__law_parts => k_is)
    (case k__law_parts => k_is)
    (case a__law_house => k_is)
    (case l__law_house => k_is)
    (case c__law_house => k_is)
    (case k__law_house => k_is)
    (case a__law_beside => k_is)
    (case l__law_beside => k_is)
    (case c__law_beside => k_is)
    (case k__law_beside => k_is)
    (case a_heappush => k_is)
    (case a_heappop => k_is)
    (case a_levels => k_is)
    (case l_levels => k_is)
    (case c_levels => k_is)
    (case k_levels => k_is)
    (case a_CU => k_is)
    (case kpCU => k_is)
    (case sbCU => k_is)
    (case tyCU => k_is)
    (case dcCU => k_is)
    (case ssCU => first | k_is | rfl)
    (case xlCU => k_is)
    (case saCU => k_is)
    (case noCU => k_is)
    (case gaCU => k_is)
    (case ggCU => k_is)
    (case a_iCU => k_is)
    (case tiCU => k_is)
    (case l_iCU => k_is)
    (case c_iCU => k_is)
    (case k_iCU => k_is)
    (case z_isinstance => k_is)
    (case a__law_far => k_is)
    (case l__law_far => k_is)
    (case c__law_far => k_is)
    (case k__law_far => k_is)
    (case a__law_lots => k_is)
    (case l__law_lots => k_is)
    (case c__law_lots => k_is)
    (case k__law_lots => k_is)
    (case a__law_crosses => k_is)
    (case l__law_crosses => k_is)
    (case c__law_crosses => k_is)
    (case k__law_crosses => k_is)
    (case a__law_task => k_is)
    (case l__law_task => k_is)
    (case c__law_task => k_is)
    (case k__law_task => k_is)
    (case a__law_made => k_is)
    (case l__law_made => k_is)
    (case c__law_made => k_is)
    (case k__law_made => k_is)
    (case a__law_marks => k_is)
    (case l__law_marks => k_is)
    (case c__law_marks => k_is)
    (case k__law_marks => k_is)
    (case a__law_first_gone => k_is)
    (case l__law_first_gone => k_is)
    (case c__law_first_gone => k_is)
    (case k__law_first_gone => k_is)
    (case a__law_pairs => k_is)
    (case l__law_pairs => k_is)
    (case c__law_pairs => k_is)
    (case k__law_pairs => k_is)
    (case a__law_least_tree => k_is)
    (case l__law_least_tree => k_is)
    (case c__law_least_tree => k_is)
    (case k__law_least_tree => k_is)
    (case a_cut_off => k_is)
    (case l_cut_off => k_is)
    (case c_cut_off => k_is)
    (case k_cut_off => k_is)
    (case a_check_round => k_is)
    (case l_check_round => k_is)
    (case c_check_round => k_is)
    (case k_check_round => k_is)
    (case a_Task_marks => k_is)
    (case i_Task_marks => k_is)
    (case l_Task_marks => k_is)
    (case c_Task_marks => k_is)
    (case k_Task_marks => k_is)
    (case a__levels_of_marks => k_is)
    (case l__levels_of_marks => k_is)
    (case c__levels_of_marks => k_is)
    (case k__levels_of_marks => k_is)
    (case a__with_joined => k_is)
    (case l__with_joined => k_is)
    (case c__with_joined => k_is)
    (case k__with_joined => k_is)
    (case a__least_pairs => k_is)
    (case l__least_pairs => k_is)
    (case c__least_pairs => k_is)
    (case k__least_pairs => k_is)
    (case a__length_of => k_is)
    (case l__length_of => k_is)
    (case c__length_of => k_is)
    (case k__length_of => k_is)
    (case a_is_tree => k_is)
    (case l_is_tree => k_is)
    (case c_is_tree => k_is)
    (case k_is_tree => k_is)
    (case a_least_tree => k_is)
    (case l_least_tree => k_is)
    (case c_least_tree => k_is)
    (case k_least_tree => k_is)
    (case a_tree_length => k_is)
    (case l_tree_length => k_is)
    (case c_tree_length => k_is)
    (case k_tree_length => k_is)
    (case a_is_least_tree => k_is)
    (case l_is_least_tree => k_is)
    (case c_is_least_tree => k_is)
    (case k_is_least_tree => k_is)
    (case a_tree_bounds => k_is)
    (case l_tree_bounds => k_is)
    (case c_tree_bounds => k_is)
    (case k_tree_bounds => k_is)
    (case a__law_told => k_is)
    (case l__law_told => k_is)
    (case c__law_told => k_is)
    (case k__law_told => k_is)
    (case a_law => k_is)
    (case l_law => k_is)
    (case c_law => k_is)
    (case k_law => k_is)

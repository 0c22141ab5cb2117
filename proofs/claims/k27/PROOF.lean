import PyProof.Rows.All
import Wide.All
import OpenK.AllK
import Wide.FinOn
import KE.KExcIs
import KE.SortData
import KE.KNestM
import PyProof.StrBlock2
import HandS.ForMost
import HandS.Deep
import HandS.TupSets
import HandS.SortRule
import HandS.ForExc
import HandS.ExcInit
import HandS.ExcIs
import HandS.ExcField
import HandS.ExcValue
import HandS.ExcOwn
import HandS.Property
import HandS.CallSlots
import HandS.Style
import HandS.IsInst
import HandS.Codes
import HandS.TupLen
import HandS.Small
import HandS.EndTab
import KE.DataMinMax
import HandS.Dict
import HandS.DictComp
import HandS.Comp
import HandS.Conv
import HandS.Exc
import HandS.GenList
import HandS.Nested
import HandS.AnyAll
import HandS.TryOnly
import HandS.Words
import HandS.WordsExc
import HandS.SetFor
import HandS.Strs
import KE.KDictDisplayH
import HandS.Evl
import HandS.Iter
import KE.KItemsList
import HandS.ListItems
import PyProof.ReprBulk
import PyProof.ReprText
import PyProof.SetRoads
import HandS.Flow
import HandS.WrittenGet
import KE.DataCmp
import HandS.Gcd
import KE.LtData
import KE.KTupSum
import KE.DatumOrd
import HandS.SortKw
import HandS.TupAny
import KE.KEqDict
import HandS.DictEq
import HandS.DictTup
import KE.KDictWalk
import PyProof.Rows.TupTab
import PySem.Challenge.RW_pickaisle_k27_odd_places_and_errors
set_option Elab.async false
set_option linter.all false
set_option maxRecDepth 100000
set_option maxHeartbeats 8000000
namespace Pk
open PySem L2
/-- at a: an error of the class at D that is held; fs: its own attributes -/
def XvAt (H : Hp) (a D : Addr) (fs : List (Str × V)) : Prop :=
  (H a = some (ExO (.ref D) a) ∧ fs = []) ∨ ∃ d, H a = some (exo a D (some d)) ∧ H d = some (exd d fs)
theorem XvAt.same {H H' : Hp} {a D : Addr} {fs : List (Str × V)} (h : XvAt H a D fs) (k : Same H H') : XvAt H' a D fs := by
  rcases h with ⟨h, e⟩ | ⟨d, h, e⟩
  · exact .inl ⟨k _ _ h, e⟩
  · exact .inr ⟨d, k _ _ h, k _ _ e⟩
/-- __init__(self, v): self.f = v, of an own class of errors -/
def spXI (K : PySem.W.Frag) (C : Addr) (f : Str) : Sp := fun vs H Q _ => ∃ (a : Addr) (v : V), vs = [.ref a, v] ∧ OexC K C ∧ PySem.W.findIn K (.ref C) f = some none ∧ H a = some (exo a C none) ∧
  ∀ dx, H dx = none → dx ≠ a → Q .non (upd (upd H dx (exd dx [(f, v)])) a (exo a C (some dx)))
end Pk
namespace Pk
open PySem L2 PySem.Spec PyProof.Rows GenW GxR NdefX
/-- the generator's own frame -/
abbrev envG (X : Cx) (sc : Scope) (C : Addr) (cd : Value) : Env := genEnv sc (cloFrom X.env.cells sc.names []) C cd builtinsNs X.env
/-- and its surroundings; s0, H0: ahead of its frame; fp: the iterator's objects -/
abbrev cxG (X : Cx) (N : List Str) (sc : Scope) (B : Around) (s0 : Shared) (H0 : Hp) (cd : Value) (fp : List Addr) : Cx :=
  { X with
    A := B
    N := N
    s_0 := s0
    H_0 := H0
    env := envG X sc s0.heap.objs.size cd
    outer := X.stack
    stack := envG X sc s0.heap.objs.size cd :: X.stack
    ex := fp
    fn := fun _ => false
    calm := true
    pn := []
    xe := fun _ _ => False }
/-- what its scope must keep -/
structure GSc (env : Env) (sc : Scope) : Prop where
  kind : sc.kind = .function
  co : sc.isCoroutine = false
  cell : ∀ y ∈ sc.names, y.2 ≠ .cell
  dot : sc.names.lookup (".0" : Str) = some NameKind.local
  free : ∀ y ∈ sc.names, y.2 = .free → ∃ c, env.cells.lookup y.1 = some c
/-- the free names' slots: fr tells for each name its slot outside, none for an own one -/
def slotsG (fr : List (Option Nat)) (σ : L2.St) : L2.St := fr.map fun o => match o with
  | none => none
  | some j => (σ[j]?).join
structure GFr (X : Cx) (sc : Scope) (N : List Str) (fr : List (Option Nat)) : Prop where
  len : fr.length = N.length
  at_ : ∀ (i : Nat) (y : Str) (j : Nat), N[i]? = some y → fr[i]? = some (some j) → sc.names.lookup y = some .free ∧ X.N[j]? = some y ∧ (X.env.scope.names.lookup y = some .cell ∨ X.env.scope.names.lookup y = some .free)
theorem slotsG_some {fr : List (Option Nat)} {σ : L2.St} {i : Nat} {v : V} (h : (slotsG fr σ)[i]? = some (some v)) : ∃ j, fr[i]? = some (some j) ∧ σ[j]? = some (some v) := by
  unfold slotsG at h
  rw [List.getElem?_map] at h
  cases e : fr[i]? with
  | none => rw [e] at h; cases h
  | some o =>
    rw [e] at h
    cases o with
    | none => simp at h
    | some j =>
      refine ⟨j, rfl, ?_⟩
      have h2 : (σ[j]?).join = some v := by simpa using h
      cases q : σ[j]? with
      | none => rw [q] at h2; cases h2
      | some w => rw [q] at h2; cases w with
        | none => cases h2
        | some v' => cases h2; rfl
section
variable {X : Cx} {pins : List (Addr × Obj)} {σ : L2.St} {H : Hp} {s0 s5 : Shared}
/-- all stands that stood -/
theorem Inv.stood (I : Inv X pins σ H s0) (os : s5.os = s0.os) (k : ∀ b o, s0.heap.get? b = some o → s5.heap.get? b = some o) (hb : AllBare s5.gens) : Inv X pins σ H s5 :=
  I.call' (ch := []) os (Un.kept k) (I.hok.kept k) hb fun b z => absurd z (by simp)
theorem start_gen {N : List Str} {sc : Scope} {B : Around} {cd : Value} {fp : List Addr} {a : Addr} {o : Obj} {m : Str → Option Value}
    {fr : List (Option Nat)} (I : Inv X pins σ H s0) (S : GSc X.env sc) (FR : GFr X sc N fr) (hf : ∀ b ∈ fp, FpOk X pins H b ∧ b < s0.heap.objs.size) (hB : B.handled = none)
    (hfr : B.frames = some (envG X sc s0.heap.objs.size cd :: X.stack)) (os : s5.os = s0.os) (hb : AllBare s5.gens)
    (k : ∀ b u, s0.heap.get? b = some u → s5.heap.get? b = some u) (hn : s5.heap.Ns s0.heap.objs.size m)
    (ha : s0.heap.objs.size < a) (hao : s5.heap.get? a = some o) (hod : ∀ v, o.data ≠ .cell v) :
    Inv (cxG X N sc B s0 H cd fp) [(a, o)] (slotsG fr σ) H s5 := by
  have cm : ∀ {y c}, (cloFrom X.env.cells sc.names []).lookup y = some c → X.env.cells.lookup y = some c := fun {y c} e => clo_cm S.free e
  have nofs : ∀ b ∈ frs X.stack, b < s0.heap.objs.size := fun b hb => by
    rcases List.mem_cons.mp (I.stkSub b hb) with z | z
    · rw [z]; exact I.lt
    · obtain ⟨_, u, hu, _⟩ := I.funs.mem z
      exact Heap.lt_size hu
  refine ⟨⟨I.ok.mod, S.kind, I.ok.glob, rfl, Nat.le_refl _, fun y z c e1 e2 => I.ok.inj y z c (cm e1) (cm e2), fun y hy => ?_, fun y c z => ?_, fun _ => hB, hfr, .inr ⟨rfl, rfl⟩,
      fun b hb => ⟨Nat.ne_of_lt (hf b hb).2, fun y c e z => (hf b hb).1.2.2.2.2.1 y c (cm e) z⟩, I.bs, Nat.le_trans I.ok.bsz I.sz, fun b u e hb => ?_, fun b hb z => ?_, I.stack, I.stkFree⟩,
    os, hb, Un.kept k, ⟨m, hn, fun i y v h1 h2 => ?_⟩, fun y c e => ?_, I.hok.fresh (Nat.le_refl _), fun y c e => I.freeC y c (cm e), fun p hp => ?_, I.hok.kept k, ?_⟩
  · have hy : sc.names.lookup y = some .cell ∨ sc.names.lookup y = some .free := hy
    rcases hy with hy | hy
    · exact absurd rfl (S.cell _ (PySem.mem_of_lookup hy))
    · have hm := PySem.mem_of_lookup hy
      obtain ⟨c, hc⟩ := S.free _ hm rfl
      exact ⟨c, clo_has S.free hm hc⟩
  · exact absurd (show (false : Bool) = true from z) (by decide)
  · rcases (hf b hb).1.2.2.2.1 with z | z
    · exact I.ok.noex b u e z
    · exact absurd (Nat.lt_of_lt_of_le (Heap.lt_size e) (Nat.le_trans I.ok.bsz z)) (Nat.lt_irrefl _)
  · rcases List.mem_cons.mp (I.stkSub b z) with z | z
    · exact (hf b hb).1.2.1 z
    · exact (hf b hb).1.2.2.1 z
  · obtain ⟨j, e1, e2⟩ := slotsG_some h2
    obtain ⟨f1, f2, f3⟩ := FR.at_ i y j h1 e1
    obtain ⟨m0, _, hl⟩ := I.loc
    obtain ⟨u, r, lk⟩ := hl j y v f2 e2 (f3.elim (fun z => .inr (.inl z)) fun z => .inr (.inr z))
    refine fun _ => ⟨u, r, .inr ⟨.inr f1, ?_⟩⟩
    rcases lk with ⟨z, _⟩ | ⟨_, c, hc, hv⟩
    · have z : X.env.scope.names.lookup y = some .local := z
      rcases f3 with q | q <;> rw [q] at z <;> cases z
    · exact ⟨c, clo_has S.free (PySem.mem_of_lookup f1) hc, hv.keeps k⟩
  · obtain ⟨v, hv⟩ := I.cell y c (cm e)
    exact ⟨v, hv.keeps k⟩
  · have hp : p ∈ [(a, o)] := hp
    obtain rfl : p = (a, o) := by simpa using hp
    exact ⟨hao, I.hok.fresh (Nat.le_of_lt ha), Nat.ne_of_gt ha, fun z => absurd (Nat.lt_trans ha (nofs _ z)) (Nat.lt_irrefl _), hod⟩
  · show (slotsG fr σ).length = N.length
    unfold slotsG
    rw [List.length_map]
    exact FR.len
end
end Pk
namespace Pk
open PySem L2 PySem.Spec PyProof.Rows GenW GxR
/-- what it hands out; st: the answer at which the asker stops -/
def YG (Y : Cx) (pins : List (Addr × Obj)) (st : Bool) (Q : VK) : Protocol := fun _ _ v s kap =>
  ∃ σ' H' c, v = .bool c ∧ Inv Y pins σ' H' s ∧ (c = st → Q (.bl st) H') ∧
    (c ≠ st → ∀ s2 : Shared, s2.heap = s.heap → s2.os = s.os → AllBare s2.gens → kap (.send .none) s2)
def RG (Y : Cx) (pins : List (Addr × Obj)) (st : Bool) (Q : VK) : GenEnd := fun n s₀ r s₁ =>
  ((r = .ok (.ret .none) ∨ r = .ok .next) ∧ (fun (_ : Nat) (_ t : Shared) => ∃ σ' H', Inv Y pins σ' H' t ∧ Q (.bl (!st)) H') n s₀ s₁) ∨ ∃ e, r = .error e ∧ (fun (_ : Value) (_ : Shared) => False) e s₁
/-- the loop of the promise -/
def Turns (J : It) (g : TG) (te : TE) (st : Bool) (Q : VK) (W : Nat → Nat → L2.St → Hp → Prop) : Prop := ∀ i m σ H, W i m σ H →
  (J.stop i H ∧ Q (.bl (!st)) H) ∨ (J.go i H ∧ ∃ N : L2.St → Hp → Prop, (∀ σ' H', N σ' H' → ∃ m', m' < m ∧ W (i + 1) m' σ' H') ∧
    ∀ x H', J.yld i H x H' → g x σ H' fun σ2 H2 => te σ2 H2 fun y H3 => ∃ c, y = .bl c ∧ if c = st then Q (.bl st) H3 else N σ2 H3)
section
variable {Y : Cx} {A : Around} {tg elt iter : Expr} {sc : Scope} {pos : Pos} {it : Addr} {fp : List Addr} {tn : Nat → Heap → Prop} {J : It} {g : TG} {te : TE} {st : Bool} {Q : VK}
  {W : Nat → Nat → L2.St → Hp → Prop} {pins : List (Addr × Obj)}
theorem seg_turns (hc : Y.calm = true) (hco : Y.env.scope.isCoroutine = false)
    (hA : A.over (.compLoop (.GeneratorExp elt [⟨tg, iter, [], 0⟩] sc pos) 0 (.ref it) .none Y.env) [] = Y.A)
    (T : Turn Y.prog Y.w Y.K tg J fp it tn) (hg : PG Y tg g) (he : PE Y elt te) (hx : ∀ e s, Y.xe e s → False)
    (ff : ∀ b ∈ fp, ∀ H : Hp, H b = none → FpOk Y pins H b) (turn : Turns J g te st Q W) :
    ∀ (m n i : Nat) (σ : L2.St) (H : Hp) (s₀ s : Shared), m < n → Inv Y pins σ H s → tn i s.heap → (∀ b ∈ fp, H b = none) → W i m σ H →
      Seg (model Y.prog Y.w) A (RG Y pins st Q) (YG Y pins st Q) n s₀ (.compLoop (.GeneratorExp elt [⟨tg, iter, [], 0⟩] sc pos) 0 (.ref it) .none Y.env)
        ((model Y.prog Y.w).den (.compLoop (.GeneratorExp elt [⟨tg, iter, [], 0⟩] sc pos) 0 (.ref it) .none Y.env)) [] s := by
  intro m
  induction m using Nat.strongRecOn with
  | _ m ih =>
    intro n i σ H s₀ s hmn I ht hf hw
    have fpo : ∀ {H' : Hp}, (∀ b ∈ fp, H' b = none) → ∀ b ∈ fp, FpOk Y pins H' b := fun q b hb => ff b hb _ (q b hb)
    show Seg _ A _ _ n s₀ _ ((compTurn (.GeneratorExp elt [⟨tg, iter, [], 0⟩] sc pos) 0 (.ref it) .none Y.env).onRaise (leaving Y.env)) [] s
    rw [compTurn_gen, Sem.onRaise_eq_wrap]
    refine seg_bind_wrap (wpAny_standAt ?_)
    rcases turn i m σ H hw with ⟨hstop, q⟩ | ⟨go, N, hN, step⟩
    · refine seg_bind_wrap ?_
      rw [hA]
      refine wpAny_mono (T.done Y rfl rfl rfl hc i pins s σ H (fun _ _ => False) I (fpo hf) ht hstop) (fun r s4 h4 => ?_) fun _ _ e => e.elim
      obtain ⟨rfl, I4⟩ := h4
      exact seg_end (.ok .next) (.inl ⟨.inr rfl, σ, H, I4, q⟩)
    · refine seg_bind_wrap ?_
      rw [hA]
      refine wpAny_mono (T.item Y rfl rfl rfl hc i pins s σ H (fun _ _ => False) I (fpo hf) ht go) (fun r s4 h4 => ?_) fun _ _ e => e.elim
      obtain ⟨u, rfl, h4⟩ := h4
      refine seg_bind_wrap ?_
      rw [hA]
      refine wpAny_mono h4 (fun _ s5 h5 => ?_) fun _ _ e => e.elim
      obtain ⟨x, H5, I5, r5, y5, t5, f5⟩ := h5
      have I5' := I5.pinned (fpo f5) (T.obj _ _ t5)
      refine seg_bind_wrap ?_
      rw [hA]
      refine wpAny_mono (hg.run _ s5 σ H5 x u _ I5' r5 (step x H5 y5)) (fun _ s6 h6 => ?_) fun _ _ e => (hx _ _ e).elim
      obtain ⟨σ6, H6, I6, q6⟩ := h6
      simp only [List.forIn_nil]
      refine seg_bind_wrap (wpAny_pure ?_)
      simp only [if_true]
      have hy : ∀ v, yieldOut Y.env v = yieldValue v := fun v => by simp only [yieldOut, hco, Bool.false_eq_true, if_false]
      simp only [hy]
      rw [Sem.bind_eq_wrap', Sem.bind_eq_wrap', Sem.wrap_wrap, Sem.wrap_wrap]
      refine seg_wrap ?_
      rw [hA]
      refine wpAny_mono (he.run _ s6 σ6 H6 _ I6 q6) (fun y s7 h7 => ?_) fun _ _ e => (hx _ _ e).elim
      obtain ⟨v7, H7, I7, r7, c, rfl, q7⟩ := h7
      obtain rfl : y = .bool c := r7
      have J7 : Inv Y pins σ6 H7 s7 := I7.unpinned
      have t7 : tn (i + 1) s7.heap := T.keep _ _ _ t5 fun b hb o e => (I7.pin (b, o) (List.mem_append_right _ (List.mem_append_right _ (mem_pinsAt hb e)))).1
      have f7 : ∀ b ∈ fp, H7 b = none := fun b hb => by
        obtain ⟨o, e, _⟩ := T.obj _ _ t5 b hb
        exact (I7.pin (b, o) (List.mem_append_right _ (List.mem_append_right _ (mem_pinsAt hb e)))).2.1
      obtain ⟨k, rfl⟩ : ∃ k, n = k + 1 := ⟨n - 1, by omega⟩
      refine seg_at (seg_yield rfl rfl rfl ⟨σ6, H7, c, rfl, J7, fun e => ?_, fun e s2 eh eo eb => ?_⟩)
      · rw [if_pos e] at q7
        exact q7
      · rw [if_neg e] at q7
        obtain ⟨m', hm, w7⟩ := hN σ6 H7 q7
        exact seg_again rfl (ih m' hm k (i + 1) σ6 H7 s2 s2 (by omega) (Inv.stood J7 eo (fun b o z => by rw [eh]; exact z) eb) (by rw [eh]; exact t7) f7 w7)
/-- from its beginning -/
theorem seg_begins (hc : Y.calm = true) (hco : Y.env.scope.isCoroutine = false)
    (hA : A.over (.compLoop (.GeneratorExp elt [⟨tg, iter, [], 0⟩] sc pos) 0 (.ref it) .none Y.env) [] = Y.A)
    (T : Turn Y.prog Y.w Y.K tg J fp it tn) (hg : PG Y tg g) (he : PE Y elt te) (hx : ∀ e s, Y.xe e s → False)
    (ff : ∀ b ∈ fp, ∀ H : Hp, H b = none → FpOk Y pins H b) (turn : Turns J g te st Q W)
    (m n : Nat) (σ : L2.St) (H : Hp) (s₀ s : Shared) (hmn : m < n) (I : Inv Y pins σ H s) (ht : tn 0 s.heap) (hf : ∀ b ∈ fp, H b = none) (hw : W 0 m σ H) :
      Seg (model Y.prog Y.w) A (RG Y pins st Q) (YG Y pins st Q) n s₀ (.compStart (.GeneratorExp elt [⟨tg, iter, [], 0⟩] sc pos) 0 (.ref it) .none Y.env)
        ((model Y.prog Y.w).den (.compStart (.GeneratorExp elt [⟨tg, iter, [], 0⟩] sc pos) 0 (.ref it) .none Y.env)) [] s := by
  have rest := seg_turns hc hco hA T hg he hx ff turn m n 0 σ H s₀ s hmn I ht hf hw
  show Seg _ A _ _ n s₀ _ ((compStart (.GeneratorExp elt [⟨tg, iter, [], 0⟩] sc pos) 0 (.ref it) .none Y.env).onRaise (leaving Y.env)) [] s
  unfold compStart
  rw [Sem.onRaise_eq_wrap]
  show Seg _ A _ _ n s₀ _ ((ask >>= _).wrap _ _ _ _) [] s
  refine seg_bind_wrap (wpAny_askSetting ?_)
  split
  · exact seg_again rfl rest
  · refine seg_bind_wrap (wpAny_rule ?_)
    first
      | exact seg_bind_wrap (wpAny_standAt (seg_bind_wrap (T.self _ 0 s _ _ ht (seg_again rfl rest))))
      | (show Seg _ A _ _ n s₀ _ ((standAt iter.pos >>= _).wrap _ _ _ _) [] s
         exact seg_bind_wrap (wpAny_standAt (seg_bind_wrap (T.self _ 0 s _ _ ht (seg_again rfl rest)))))
end
end Pk
namespace Pk
open PySem L2 PySem.Spec PyProof.Rows GenW GxR
section
variable {Y : Cx} {A : Around} {st : Bool} {Q : VK} {pins : List (Addr × Obj)} {R : Result → Shared → Prop} {a : Addr} {g : Nat}
theorem all_asks (hh : A.handled = none) (hd : A.depth < recursionLimit) (hp : ∀ σ' H' t, Inv Y pins σ' H' t → t.heap.IsGen a g)
    (hend : ∀ σ' H' b t, Inv Y pins σ' H' t → Q (.bl b) H' → R (.ok (.ret (.bool b))) t) :
    ∀ (n : Nat) (s : Shared), s.heap.IsGen a g → s.heap.NoLimit →
      (∃ gs, s.gens[g]? = some gs ∧ gs.Goes (model Y.prog Y.w) A.in1.in1 (RG Y pins false Q) (YG Y pins false Q) n (.send .none) (s.setGen g .running)) →
      codeAny (model Y.prog Y.w) A (.builtin "all.loop" ⟨[.ref a], []⟩) R s := by
  intro n
  induction n with
  | zero =>
    intro s hg hl ⟨gs, hgs, hgo⟩
    refine codeAny_builtin F.entry_all_loop ?_
    rw [Around.under_plainId F.plain_all_loop _]
    show wpAny _ A.in1 (pyNext (.ref a) >>= _) _ _ s
    refine wpAny_bind (next_genG (A := A.in1) hh hl hd hg hgs hgo (fun v s₁ gs' hbare hv => ?_) (fun s₁ hf h' hk => ?_) fun e s₁ he => he.elim)
    · obtain ⟨σ', H', c, rfl, J, h1, h2⟩ := hv
      refine wpAny_bind (wpAny_holding (wpAny_truthy_bool ?_))
      refine wpAny_bind (wpAny_letGo ?_)
      cases c with
      | true => exact (h2 (by decide) _ rfl rfl J.bare).elim
      | false =>
        simp only [Bool.false_eq_true, if_false]
        refine wpAny_bind (wpAny_rule (wpAny_pure ?_))
        exact hend σ' H' false _ (Inv.stood (s5 := s₁.setGen g gs') J rfl (fun _ _ z => z) (allBare_setGen J.bare hbare)) (h1 rfl)
    · obtain ⟨σ', H', J, q⟩ := hf
      refine wpAny_bind (wpAny_rule (wpAny_pure ?_))
      exact hend σ' H' true _ (Inv.stood (s5 := { s₁.setGen g .finished with heap := h' }) J rfl hk (allBare_setGen J.bare rfl)) q
  | succ n ih =>
    intro s hg hl ⟨gs, hgs, hgo⟩
    have hgl : g < s.gens.size := (Array.getElem?_eq_some_iff.mp hgs).1
    refine codeAny_builtin F.entry_all_loop ?_
    rw [Around.under_plainId F.plain_all_loop _]
    show wpAny _ A.in1 (pyNext (.ref a) >>= _) _ _ s
    refine wpAny_bind (wpAny_gsz (n := g + 1) hgl (next_genG (A := A.in1) hh hl hd hg hgs hgo (fun v s₁ gs' hbare hv => ?_) (fun s₁ hf h' hk => ?_) fun e s₁ he => he.elim))
    · intro hsz
      obtain ⟨σ', H', c, rfl, J, h1, h2⟩ := hv
      have J2 : Inv Y pins σ' H' (s₁.setGen g gs') := Inv.stood J rfl (fun _ _ z => z) (allBare_setGen J.bare hbare)
      have hs1 : g < s₁.gens.size := by
        have q : (s₁.setGen g gs').gens.size = s₁.gens.size := setGen_size _ _ _
        have q2 : g + 1 ≤ (s₁.setGen g gs').gens.size := hsz
        omega
      refine wpAny_bind (wpAny_holding (wpAny_truthy_bool ?_))
      refine wpAny_bind (wpAny_letGo ?_)
      cases c with
      | true =>
        simp only [if_true]
        exact wpAny_pure ⟨plainId_quiet F.plain_all_loop _, ih _ (hp _ _ _ J2) J2.nolimit ⟨gs', setGen_at hs1, h2 (by decide) _ rfl rfl (allBare_setGen J2.bare rfl)⟩⟩
      | false =>
        simp only [Bool.false_eq_true, if_false]
        refine wpAny_bind (wpAny_rule (wpAny_pure ?_))
        exact hend σ' H' false _ J2 (h1 rfl)
    · intro hsz
      obtain ⟨σ', H', J, q⟩ := hf
      refine wpAny_bind (wpAny_rule (wpAny_pure ?_))
      exact hend σ' H' true _ (Inv.stood (s5 := { s₁.setGen g .finished with heap := h' }) J rfl hk (allBare_setGen J.bare rfl)) q
theorem any_asks (hh : A.handled = none) (hd : A.depth < recursionLimit) (hp : ∀ σ' H' t, Inv Y pins σ' H' t → t.heap.IsGen a g)
    (hend : ∀ σ' H' b t, Inv Y pins σ' H' t → Q (.bl b) H' → R (.ok (.ret (.bool b))) t) :
    ∀ (n : Nat) (s : Shared), s.heap.IsGen a g → s.heap.NoLimit →
      (∃ gs, s.gens[g]? = some gs ∧ gs.Goes (model Y.prog Y.w) A.in1.in1 (RG Y pins true Q) (YG Y pins true Q) n (.send .none) (s.setGen g .running)) →
      codeAny (model Y.prog Y.w) A (.builtin "any.loop" ⟨[.ref a], []⟩) R s := by
  intro n
  induction n with
  | zero =>
    intro s hg hl ⟨gs, hgs, hgo⟩
    refine codeAny_builtin F.entry_any_loop ?_
    rw [Around.under_plainId F.plain_any_loop _]
    show wpAny _ A.in1 (pyNext (.ref a) >>= _) _ _ s
    refine wpAny_bind (next_genG (A := A.in1) hh hl hd hg hgs hgo (fun v s₁ gs' hbare hv => ?_) (fun s₁ hf h' hk => ?_) fun e s₁ he => he.elim)
    · obtain ⟨σ', H', c, rfl, J, h1, h2⟩ := hv
      refine wpAny_bind (wpAny_holding (wpAny_truthy_bool ?_))
      refine wpAny_bind (wpAny_letGo ?_)
      cases c with
      | false => exact (h2 (by decide) _ rfl rfl J.bare).elim
      | true =>
        simp only [if_true]
        refine wpAny_bind (wpAny_rule (wpAny_pure ?_))
        exact hend σ' H' true _ (Inv.stood (s5 := s₁.setGen g gs') J rfl (fun _ _ z => z) (allBare_setGen J.bare hbare)) (h1 rfl)
    · obtain ⟨σ', H', J, q⟩ := hf
      refine wpAny_bind (wpAny_rule (wpAny_pure ?_))
      exact hend σ' H' false _ (Inv.stood (s5 := { s₁.setGen g .finished with heap := h' }) J rfl hk (allBare_setGen J.bare rfl)) q
  | succ n ih =>
    intro s hg hl ⟨gs, hgs, hgo⟩
    have hgl : g < s.gens.size := (Array.getElem?_eq_some_iff.mp hgs).1
    refine codeAny_builtin F.entry_any_loop ?_
    rw [Around.under_plainId F.plain_any_loop _]
    show wpAny _ A.in1 (pyNext (.ref a) >>= _) _ _ s
    refine wpAny_bind (wpAny_gsz (n := g + 1) hgl (next_genG (A := A.in1) hh hl hd hg hgs hgo (fun v s₁ gs' hbare hv => ?_) (fun s₁ hf h' hk => ?_) fun e s₁ he => he.elim))
    · intro hsz
      obtain ⟨σ', H', c, rfl, J, h1, h2⟩ := hv
      have J2 : Inv Y pins σ' H' (s₁.setGen g gs') := Inv.stood J rfl (fun _ _ z => z) (allBare_setGen J.bare hbare)
      have hs1 : g < s₁.gens.size := by
        have q : (s₁.setGen g gs').gens.size = s₁.gens.size := setGen_size _ _ _
        have q2 : g + 1 ≤ (s₁.setGen g gs').gens.size := hsz
        omega
      refine wpAny_bind (wpAny_holding (wpAny_truthy_bool ?_))
      refine wpAny_bind (wpAny_letGo ?_)
      cases c with
      | false =>
        simp only [Bool.false_eq_true, if_false]
        exact wpAny_pure ⟨plainId_quiet F.plain_any_loop _, ih _ (hp _ _ _ J2) J2.nolimit ⟨gs', setGen_at hs1, h2 (by decide) _ rfl rfl (allBare_setGen J2.bare rfl)⟩⟩
      | true =>
        simp only [if_true]
        refine wpAny_bind (wpAny_rule (wpAny_pure ?_))
        exact hend σ' H' true _ J2 (h1 rfl)
    · intro hsz
      obtain ⟨σ', H', J, q⟩ := hf
      refine wpAny_bind (wpAny_rule (wpAny_pure ?_))
      exact hend σ' H' false _ (Inv.stood (s5 := { s₁.setGen g .finished with heap := h' }) J rfl hk (allBare_setGen J.bare rfl)) q
end
end Pk
namespace Pk
open PySem L2 PySem.Spec PyProof.Rows GenW GxR NdefX
/-- where the generator's code runs, asked from A -/
abbrev arG (A : Around) (tg elt iter : Expr) (sc : Scope) (pos : Pos) (it : Addr) (env : Env) : Around :=
  A.in1.in1.over (.compLoop (.GeneratorExp elt [⟨tg, iter, [], 0⟩] sc pos) 0 (.ref it) .none env) []
theorem arG_frames {A : Around} {tg elt iter : Expr} {sc : Scope} {pos : Pos} {it : Addr} {env : Env} {l : List Env} (h : A.frames = some l) : (arG A tg elt iter sc pos it env).frames = some (env :: l) := by
  obtain ⟨hd, d, f, gs, u⟩ := A
  obtain rfl : f = some l := h
  rfl
theorem arG_room {k : Nat} {A : Around} {tg elt iter : Expr} {sc : Scope} {pos : Pos} {it : Addr} {env : Env} (r : Room (k + 1) A) : Room k (arG A tg elt iter sc pos it env) :=
  ⟨r.hd, by have := r.dp; show A.depth + 0 + 1 + 3 * k + 5 < _; omega, by have := r.un; show A.units + 1 + 1 + 0 + 3 + 16 * k + 200 < _; omega⟩
/-- a generator stands at a and has handed out nothing -/
def GReady (X : Cx) (pins : List (Addr × Obj)) (σ : L2.St) (N : List Str) (sc : Scope) (st : Bool) (Q : VK) (a : Addr) (s5 : Shared) : Prop :=
  ∃ (g : Nat) (B : Around) (s0 : Shared) (H0 : Hp) (cd : Value) (fp : List Addr) (ps : List (Addr × Obj)) (n : Nat),
    s5.heap.IsGen a g ∧ s5.heap.NoLimit ∧ (∀ σ' H' t, Inv (cxG X N sc B s0 H0 cd fp) ps σ' H' t → t.heap.IsGen a g) ∧
    (∀ σ' H' t, Inv (cxG X N sc B s0 H0 cd fp) ps σ' H' t → Inv X pins σ H' t) ∧
    ∃ gs, s5.gens[g]? = some gs ∧ gs.Goes (model X.prog X.w) X.A.in1.in1 (RG (cxG X N sc B s0 H0 cd fp) ps st Q) (YG (cxG X N sc B s0 H0 cd fp) ps st Q) n (.send .none) (s5.setGen g .running)
/-- the answer: the element's readings, one after another -/
def tAns (st : Bool) (te : TE) : TS := fun D σ H => te σ H fun y H3 => ∃ c, y = .bl c ∧ if c = st then D.rt (.bl st) H3 else D.nx σ H3
def tGen (P : Addr) (fr : List (Option Nat)) (wi : TI) (g : TG) (te : TE) (st : Bool) : TE := fun σ H Q => wi σ H fun J H1 => TabG H1 P ∧ ∀ H2, Tabbed P H1 H2 →
  ∃ W : Nat → Nat → L2.St → Hp → Prop, (∃ m, W 0 m (slotsG fr σ) H2) ∧ ∀ i m σ H, W i m σ H →
    (J.stop i H ∧ (Ends.mk (fun _ H' => Q (.bl (!st)) H') Q (fun _ _ => False) (fun _ _ => False)).nx σ H) ∨ (J.go i H ∧ ∃ N : L2.St → Hp → Prop, (∀ σ' H', N σ' H' → ∃ m', m' < m ∧ W (i + 1) m' σ' H') ∧
      ∀ x H', J.yld i H x H' → g x σ H' fun σ2 H2 => tAns st te { (Ends.mk (fun _ H' => Q (.bl (!st)) H') Q (fun _ _ => False) (fun _ _ => False)) with nx := N, ct := N, bk := fun _ H' => Q (.bl (!st)) H' } σ2 H2)
section
variable {X : Cx} {pins : List (Addr × Obj)} {σ : L2.St} {H : Hp} {s : Shared}
theorem make_gen {c P : Addr} {tg elt iter : Expr} {gpos : Pos} {sc : Scope} {N : List Str} {fr : List (Option Nat)} {wi : TI} {g : TG} {te : TE} {k : Nat} {st : Bool} {Q : VK} {Q' : Value → Shared → Prop}
    (hr : Room (k + 1) X.A) (TB : TabB X.base X.mg c P) (hcode : X.env.code = .ref c) (S : GSc X.env sc) (FR : GFr X sc N fr) (hi : PI X tg iter wi)
    (hb : ∀ (B : Around) (s0 : Shared) (H0 : Hp) (cd : Value) (fp : List Addr), Room k B → PG (cxG X N sc B s0 H0 cd fp) tg g ∧ PE (cxG X N sc B s0 H0 cd fp) elt te)
    (hs : ∀ v, genFold iter X.env v = pure v) (I : Inv X pins σ H s) (h : tGen P fr wi g te st σ H Q)
    (hQ : ∀ a s5, GReady X pins σ N sc st Q a s5 → Q' (.ref a) s5) :
    wpAny (model X.prog X.w) X.A (eval (.GeneratorExp elt [⟨tg, iter, [], 0⟩] sc gpos) X.env) Q' X.xe s := by
  refine wpAny_GeneratorExp_make S.co (closure_ok S.free) S.cell S.dot S.kind (by have := hr.dp; omega) ?_ hs
  refine thn (hi.run pins s σ H _ I h) fun xv s1 h1 => thn h1 fun itv s2 h2 => ?_
  obtain ⟨it, fp, tn, J, H2, rfl, I2, T, t2, f2, ⟨ps, hP, htr⟩, hW⟩ := h2
  have hPs : s2.heap.get? P = some { cls := .none, data := .fields ps } := I2.hok P _ hP
  have cd : PySem.W.CodeHd s2.heap c P := TB.code.keeps fun b u e => I2.bk b u e
  refine ⟨I2.nolimit, ?_⟩
  have cont : ∀ (code : Value) (h3 : Heap) (tk : Nat) (ps' : Array Value), Heap.ExtBut P s2.heap h3 → s2.heap.objs.size ≤ h3.objs.size → h3.get? P = some { cls := .none, data := .fields ps' } → (∃ more, ps' = ps ++ more) → TriplesOk ps'.toList →
      wpAny (model X.prog X.w) X.A (builtinsFor X.env.globals X.env.builtins) (fun bi s₄ => ∀ h', h'.Ns s₄.heap.objs.size (fun y => if y = ".0" then some (Value.ref it) else none) →
        Heap.SameBut s₄.heap.objs.size (s₄.heap.push { cls := .type "frame", data := .dict #[] }) h' →
          Q' (.ref h'.objs.size) { s₄ with
            gens := s₄.gens.push (.fresh (.compStart (.GeneratorExp elt [⟨tg, iter, [], 0⟩] sc gpos) 0 (.ref it) .none (genEnv sc (cloFrom X.env.cells sc.names []) s₄.heap.objs.size code bi X.env))),
            toks := s₄.toks + 1 + 1 + 1,
            heap := h'.push { cls := .type "generator", data := .fields #[.int s₄.gens.size 0, .str "<genexpr>" (s₄.toks + 1), .str (X.env.qual ++ "<genexpr>") (s₄.toks + 1 + 1)] } }) X.xe { s2 with heap := h3, toks := tk } := by
    intro code h3 tk ps' hx3 hsz hP3 hmore ht3
    obtain ⟨more, rfl⟩ := hmore
    obtain ⟨bm, ob, e1, e2, e3, e4, e5, e6, e7, e8⟩ := TB.bm
    have keep3 : ∀ b u, b ≠ P → s2.heap.get? b = some u → h3.get? b = some u := fun b u z e => hx3 b u z e
    have I3 : Inv X pins σ (upd H2 P (.tbl (ps ++ more))) { s2 with heap := h3, toks := tk } := inv_tab (g' := s2.gens) (d' := s2.drawn) I2 hP keep3 hP3 I2.bare
    have TT : Tabbed P H2 (upd H2 P (.tbl (ps ++ more))) := ⟨⟨ps ++ more, upd_same, ht3⟩, fun b z => upd_ne z⟩
    refine wpAny_builtinsFor (m := X.mg) (by rw [I3.ok.glob]; exact I3.mod.glob.keeps I3.bk) e1 e2 (I3.bk _ _ e5) e6 e7 e8 ?_
    intro h' hn' hs'
    -- the new frame at C, the generator behind it
    have sz' : h'.objs.size = h3.objs.size + 1 := by rw [hs'.1, Heap.size_push]
    have keep' : ∀ b u, h3.get? b = some u → h'.get? b = some u := fun b u e => hs'.extBut b u (Nat.ne_of_lt (Heap.lt_size e)) (Heap.get?_push_of_some _ e)
    obtain ⟨W, ⟨m0, w0⟩, turn⟩ := hW _ TT
    have neP : ∀ b ∈ fp, b ≠ P := fun b hb z => by
      have q := (f2 b hb).1
      rw [z, hP] at q
      cases q
    have ltC : ∀ b ∈ fp, b < h3.objs.size := fun b hb => by
      obtain ⟨u, hu, _⟩ := T.obj _ _ t2 b hb
      exact Nat.lt_of_lt_of_le (Heap.lt_size hu) hsz
    have f3 : ∀ b ∈ fp, FpOk X pins (upd H2 P (.tbl (ps ++ more))) b := fun b hb => ⟨by rw [upd_ne (neP b hb)]; exact (f2 b hb).1, (f2 b hb).2⟩
    have aC : h3.objs.size < h'.objs.size := by rw [sz']; exact Nat.lt_succ_self _
    generalize hgo : ({ cls := .type "generator", data := .fields #[.int s2.gens.size 0, .str "<genexpr>" (tk + 1), .str (X.env.qual ++ "<genexpr>") (tk + 1 + 1)] } : Obj) = genO
    have isg : ∀ {h : Heap}, h.get? h'.objs.size = some genO → h.IsGen h'.objs.size s2.gens.size := fun {h} e => by
      subst hgo
      exact ⟨_, _, _, e, rfl, rfl, rfl⟩
    have atA : (h'.push genO).get? h'.objs.size = some genO := Heap.get?_push_size _ (by subst hgo; rfl)
    have keep5 : ∀ b u, h3.get? b = some u → (h'.push genO).get? b = some u := fun b u e => Heap.get?_push_of_some _ (keep' b u e)
    let B : Around := arG X.A tg elt iter sc gpos it (envG X sc h3.objs.size code)
    have rB : Room k B := arG_room hr
    have nofs : ∀ b ∈ fp, b ∉ frs X.stack := fun b hb z => by
      rcases List.mem_cons.mp (I3.stkSub b z) with q | q
      · exact (f2 b hb).2.1 q
      · exact (f2 b hb).2.2.1 q
    refine hQ _ _ ⟨s2.gens.size, B, { s2 with heap := h3, toks := tk }, upd H2 P (.tbl (ps ++ more)), code, fp, [(h'.objs.size, genO)], m0 + 1, isg atA, I3.nolimit.keeps keep5,
      fun σ' H' t J => isg (J.pin (h'.objs.size, genO) (by simp)).1, fun σ' H' t J => ?_, _, Array.getElem?_push_size .., rfl, ?_⟩
    · exact I3.call' (ch := fp) J.os J.base J.hok J.bare fun b hb => ⟨(f2 b hb).2.2.2.1, (f2 b hb).2.1, (f2 b hb).2.2.2.2.1, (f2 b hb).2.2.2.2.2⟩
    · have I5 := start_gen (N := N) (B := B) (cd := code) (fp := fp) (a := h'.objs.size) (o := genO) I3 S FR (fun b hb => ⟨f3 b hb, ltC b hb⟩) rB.hd (arG_frames I3.ok.frames)
        (s5 := { s2 with gens := s2.gens.push (.fresh (.compStart (.GeneratorExp elt [⟨tg, iter, [], 0⟩] sc gpos) 0 (.ref it) .none (envG X sc h3.objs.size code))), toks := tk + 1 + 1 + 1, heap := h'.push genO })
        rfl (I3.bare.push rfl) keep5 (hn'.push _) aC atA (by subst hgo; intro v z; cases z)
      have I6 := Inv.stood (s5 := Shared.setGen { s2 with gens := s2.gens.push (.fresh (.compStart (.GeneratorExp elt [⟨tg, iter, [], 0⟩] sc gpos) 0 (.ref it) .none (envG X sc h3.objs.size code))), toks := tk + 1 + 1 + 1, heap := h'.push genO } s2.gens.size .running) I5 rfl (fun _ _ e => e) (allBare_setGen I5.bare rfl)
      have hb' := hb B { s2 with heap := h3, toks := tk } (upd H2 P (.tbl (ps ++ more))) code fp rB
      refine seg_begins (Y := cxG X N sc B { s2 with heap := h3, toks := tk } (upd H2 P (.tbl (ps ++ more))) code fp) (A := X.A.in1.in1) (tn := tn) (J := J) rfl S.co rfl T hb'.1 hb'.2 (fun _ _ e => e)
        (fun b hb H' hn => ⟨hn, Nat.ne_of_lt (ltC b hb), nofs b hb, .inl hb, fun y e he => (f2 b hb).2.2.2.2.1 y e (clo_cm S.free he), fun p hp => ?_⟩) turn m0 (m0 + 1) _ _ _ _ (Nat.lt_succ_self _) I6
        (T.keep 0 _ _ t2 fun b hb o e => keep5 b o (keep3 b o (neP b hb) e)) (fun b hb => (f3 b hb).1) w0
      have hp : p ∈ [(h'.objs.size, genO)] := hp
      obtain rfl : p = (h'.objs.size, genO) := by simpa using hp
      exact Nat.ne_of_gt (Nat.lt_trans (ltC b hb) aC)
  cases hf : codeAmong gpos ps.toList with
  | none =>
    refine wpAny_genexprCodeX hcode (cd.code hPs htr) (cd.tab hPs) hf fun c' h' tk hx hge hlt hco' _ htab' _ => ?_
    obtain ⟨o1, vs, f1, tf, fl, tg', inF, tx, tt, op, _, _, _, _, _, _, _, _, _, htr', _⟩ := hco'
    exact cont _ h' tk _ hx (Nat.le_trans hge (Nat.le_of_lt hlt)) htab'.2 ⟨_, rfl⟩ htr'
  | some cv =>
    refine wpAny_genexprCode_hit hcode (cd.code hPs htr) hf ?_
    exact cont cv s2.heap s2.toks ps (Heap.ExtBut.refl _ _) (Nat.le_refl _) hPs ⟨#[], by simp⟩ htr
theorem pe_allG {c P : Addr} {tg elt iter : Expr} {p pos gpos : Pos} {sc : Scope} {N : List Str} {fr : List (Option Nat)} {wi : TI} {g : TG} {te : TE} {k : Nat}
    (hr : Room (k + 1) X.A) (hg : Gl X "all") (hm : X.mg "all" = none) (hbt : bootBuiltins "all" = some (.builtin "all")) (TB : TabB X.base X.mg c P) (hcode : X.env.code = .ref c) (S : GSc X.env sc) (FR : GFr X sc N fr) (hi : PI X tg iter wi)
    (hb : ∀ (B : Around) (s0 : Shared) (H0 : Hp) (cd : Value) (fp : List Addr), Room k B → PG (cxG X N sc B s0 H0 cd fp) tg g ∧ PE (cxG X N sc B s0 H0 cd fp) elt te)
    (hs : ∀ v, genFold iter X.env v = pure v)
    (he : starEach [.GeneratorExp elt [⟨tg, iter, [], 0⟩] sc gpos] X.env = (false, eval (.GeneratorExp elt [⟨tg, iter, [], 0⟩] sc gpos) X.env) :: starEach [] X.env := by rfl) :
    PE X (.Call (.Name "all" p) [.GeneratorExp elt [⟨tg, iter, [], 0⟩] sc gpos] [] pos) (tGen P fr wi g te false) := by
  refine ⟨fun pins s σ H Q I h => ?_⟩
  refine wpAny_Call_Name_kw (ld_blt I hg hm hbt ?_)
  refine PyProof.Rows.callWith_builtin1 ?_ he (by rfl)
  rw [he]
  show wpAny _ X.A (spliced ((false, eval (.GeneratorExp elt [⟨tg, iter, [], 0⟩] sc gpos) X.env) :: backTo pos (starEach [] X.env))) _ _ s
  refine Calls.spliced_cons (make_gen hr TB hcode S FR hi hb hs I h fun a s5 hG => ?_)
  refine Calls.spliced_nil ?_
  obtain ⟨n, B, s0, H0, cd, fp, ps, m, q1, q2, q3, q4, q5⟩ := hG
  refine call_function_tree F.kind_all F.plain_all F.entry_all (F.args_all1 _) ?_
  unfold Builtin.«all»
  refine wpAny_bind (m := oneArg "all" _) (wpAny_pure ?_)
  refine wpAny_bind (wpAny_pyIter_gen q1 ?_)
  refine wpAny_pure ⟨plainId_quiet F.plain_all_loop _, ?_⟩
  exact all_asks (Y := cxG X N sc B s0 H0 cd fp) hr.hd (by have := hr.dp; omega) q3 (fun σ' H' b t J q => ⟨.bl b, H', q4 σ' H' t J, rfl, q⟩) m s5 q1 q2 q5
theorem pe_anyG {c P : Addr} {tg elt iter : Expr} {p pos gpos : Pos} {sc : Scope} {N : List Str} {fr : List (Option Nat)} {wi : TI} {g : TG} {te : TE} {k : Nat}
    (hr : Room (k + 1) X.A) (hg : Gl X "any") (hm : X.mg "any" = none) (hbt : bootBuiltins "any" = some (.builtin "any")) (TB : TabB X.base X.mg c P) (hcode : X.env.code = .ref c) (S : GSc X.env sc) (FR : GFr X sc N fr) (hi : PI X tg iter wi)
    (hb : ∀ (B : Around) (s0 : Shared) (H0 : Hp) (cd : Value) (fp : List Addr), Room k B → PG (cxG X N sc B s0 H0 cd fp) tg g ∧ PE (cxG X N sc B s0 H0 cd fp) elt te)
    (hs : ∀ v, genFold iter X.env v = pure v)
    (he : starEach [.GeneratorExp elt [⟨tg, iter, [], 0⟩] sc gpos] X.env = (false, eval (.GeneratorExp elt [⟨tg, iter, [], 0⟩] sc gpos) X.env) :: starEach [] X.env := by rfl) :
    PE X (.Call (.Name "any" p) [.GeneratorExp elt [⟨tg, iter, [], 0⟩] sc gpos] [] pos) (tGen P fr wi g te true) := by
  refine ⟨fun pins s σ H Q I h => ?_⟩
  refine wpAny_Call_Name_kw (ld_blt I hg hm hbt ?_)
  refine PyProof.Rows.callWith_builtin1 ?_ he (by rfl)
  rw [he]
  show wpAny _ X.A (spliced ((false, eval (.GeneratorExp elt [⟨tg, iter, [], 0⟩] sc gpos) X.env) :: backTo pos (starEach [] X.env))) _ _ s
  refine Calls.spliced_cons (make_gen hr TB hcode S FR hi hb hs I h fun a s5 hG => ?_)
  refine Calls.spliced_nil ?_
  obtain ⟨n, B, s0, H0, cd, fp, ps, m, q1, q2, q3, q4, q5⟩ := hG
  refine call_function_tree F.kind_any F.plain_any F.entry_any (F.args_any1 _) ?_
  unfold Builtin.«any»
  refine wpAny_bind (m := oneArg "any" _) (wpAny_pure ?_)
  refine wpAny_bind (wpAny_pyIter_gen q1 ?_)
  refine wpAny_pure ⟨plainId_quiet F.plain_any_loop _, ?_⟩
  exact any_asks (Y := cxG X N sc B s0 H0 cd fp) hr.hd (by have := hr.dp; omega) q3 (fun σ' H' b t J q => ⟨.bl b, H', q4 σ' H' t J, rfl, q⟩) m s5 q1 q2 q5
end
end Pk
namespace Pk
open PySem L2 PySem.Spec PyProof.Rows
section
variable {X : Cx} {pins : List (Addr × Obj)} {σ : L2.St} {H : Hp} {s : Shared}
/-- an entry is laid under a tuple -/
theorem lay_entry {A : Around} {E : Value → Shared → Prop} {D b : Addr} {kvs : List (List Key × V)} {k : List Key} {v : V} {r : Value} {Q : Unit → Shared → Prop}
    (hu : A.units < cLine) (I : Inv X pins σ H s) (hD : H D = some (.dT kvs)) (hb : H b = some (.tup (k.map kV))) (hl : kvs.length < sizeLine) (rv : RelV v r)
    (h : ∀ s', Inv X pins σ (upd H D (.dT (putK kvs k v))) s' → Q () s') : wpAny (model X.prog X.w) A (dictSet D (.ref b) r) Q E s := by
  obtain ⟨le, nd, xs, rel, dd⟩ := dt_of I.hok hD
  have small : xs.length ≤ sizeLine := by rw [← Paired.length rel]; exact le
  have small2 : (putK kvs k v).length ≤ sizeLine := by
    have q := length_putK kvs k v
    omega
  refine wpAny_dictSet_heap (hsz := small) (show (tupleKind (mixKind X.prog X.w)).room A from hu) (key_of I.hok hb) dd fun h2 dd2 same => h _ ?_
  obtain ⟨o, es, ep, ho, p2, p3, p4, _, p5⟩ := dd2
  refine d_write I (by rw [hD]; exact True.intro) same ⟨o, ho⟩ ⟨small2, nd, _, (rel.put k hb rv).keeps fun c ys ec => ?_, o, es, ep, ho, p2, p3, p4, p5⟩
  have cD : c ≠ D := ne_of ec hD fun z => nomatch z
  rw [upd_ne cD]
  exact ec
/-- D: the new dict -/
def tDcT (wi : TI) (g : TG) (tk tv : TE) (vs : List Nat) : TE := fun σ H Q => wi σ H fun J H1 => ∀ D, H1 D = none → ∃ W : Nat → Nat → Hp → Prop, (∃ m, W 0 m (upd H1 D (.dT []))) ∧ ∀ i m H, W i m H →
  (J.stop i H ∧ Q (.ref D) H) ∨ (J.go i H ∧ ∃ Nx : Hp → Prop, (∀ H', Nx H' → ∃ m', m' < m ∧ W (i + 1) m' H') ∧
    ∀ x H', J.yld i H x H' → g x (wipe σ vs) H' fun σ2 H2 => wipe σ2 vs = wipe σ vs ∧ tk σ2 H2 fun y H4 => tv σ2 H4 fun z H5 =>
      ∃ b kvs k, y = .ref b ∧ H5 b = some (.tup (k.map kV)) ∧ H5 D = some (.dT kvs) ∧ kvs.length < sizeLine ∧ Nx (upd H5 D (.dT (putK kvs k z))))
theorem pe_dcT {kx vx tg iter : Expr} {scope : Scope} {own : List (Str × Nat)} {pos : Pos} {wi : TI} {g : TG} {tk tv : TE} (hc : X.calm = true) (hu : X.A.units < cLine) (hN : X.N.Nodup) (hi : PI X tg iter wi) (ok : BlkOk X.N X.env.scope scope own)
    (hb : ∀ (s : Shared) (H : Hp) (C : Addr) (cl : List (Str × Addr)) (fp : List Addr), PG (X.blk s H scope (compEnvC scope cl C X.env) fp) tg g ∧ PE (X.blk s H scope (compEnvC scope cl C X.env) fp) kx tk ∧ PE (X.blk s H scope (compEnvC scope cl C X.env) fp) vx tv)
    (hs : ∀ x, foldedSetIterable iter X.env x = pure x := by intro _; rfl) :
    PE X (.DictComp kx vx [⟨tg, iter, [], 0⟩] scope pos) (tDcT wi g tk tv (own.map (·.2))) := by
  refine ⟨fun pins s σ H Q I h => ?_⟩
  rw [arm_eval_DictComp]
  have caught : ∀ y ∈ scope.names, y.2 = .free → ∃ c, X.env.cells.lookup y.1 = some c := fun y hy e => by
    have q := ok.free y hy e
    exact I.ok.has _ (q.elim .inl .inr)
  refine wpAny_comprehension_free (use := none) rfl hs (closure_ok caught) ok.kind (fun y hy e => by rw [ok.uniq y hy, e]) ?_
  refine thn (hi.run pins s σ H _ I h) fun xv s1 h1 => thn h1 fun itv s2 h2 => ?_
  obtain ⟨it, fp, tn, J, H2, rfl, I2, T, t2, f2, rest⟩ := h2
  refine wpAny_newObj_type (newEnv_comp ?_)
  generalize eD : s2.heap.objs.size = D
  have nD : H2 D = none := I2.hok.fresh (Nat.le_of_eq eD)
  obtain ⟨W, ⟨m0, w0⟩, turn⟩ := rest D nD
  generalize e3 : ({ s2 with heap := s2.heap.push { cls := .type "dict", data := .dict #[] } } : Shared) = s3
  have heap3 : s3.heap = s2.heap.push { cls := .type "dict", data := .dict #[] } := by rw [← e3]
  have I3 : Inv X pins σ (upd H2 D (.dT [])) s3 := by
    rw [← e3]
    refine I2.laid (t' := s2.toks) (fun b o e => Heap.get?_push_of_some _ e) (Nat.le_of_eq eD) ?_
    rw [← eD]
    exact dt_empty s2.heap I2.big
  have old : ∀ b ∈ fp, b < s2.heap.objs.size := fun b hb => by
    obtain ⟨o, e, _⟩ := T.obj _ _ t2 b hb
    exact Heap.lt_size e
  have f3 : ∀ b ∈ fp, FpOk X pins (upd H2 D (.dT [])) b ∧ b < s3.heap.objs.size := fun b hb => by
    have lt := old b hb
    refine ⟨⟨?_, (f2 b hb).2⟩, by rw [heap3, Heap.size_push]; exact Nat.lt_succ_of_lt lt⟩
    rw [upd_ne (by rw [← eD]; exact Nat.ne_of_lt lt)]
    exact (f2 b hb).1
  have t3 : tn 0 s3.heap := T.keep _ _ _ t2 fun b _ o e => by rw [heap3]; exact Heap.get?_push_of_some _ e
  have I4 := block_start I3 ok hN f3
  obtain ⟨pg, pk, pv⟩ := hb s3 (upd H2 D (.dT [])) s3.heap.objs.size (cellsFrom (s3.heap.objs.size + 1) scope.names (cloFrom X.env.cells scope.names [])) fp
  show codeAny _ _ (.compStart (.DictComp kx vx [⟨tg, iter, [], 0⟩] scope pos) 0 (.ref it) (.ref D) (compEnvC scope (cellsFrom (s3.heap.objs.size + 1) scope.names (cloFrom X.env.cells scope.names [])) s3.heap.objs.size X.env))
    (compPost (model X.prog X.w) X.A X.xe none _ (.ref D) s3.heap.objs.size) { s3 with heap := pushCells (s3.heap.push { cls := .type "dict", data := .dict #[] }) scope.names }
  have none3 : ∀ b ∈ fp, (upd H2 D (.dT [])) b = none := fun b hb => (f3 b hb).1.1
  generalize ece : compEnvC scope (cellsFrom (s3.heap.objs.size + 1) scope.names (cloFrom X.env.cells scope.names [])) s3.heap.objs.size X.env = ce at I4 pg pk pv ⊢
  have ceL : ce.locals = s3.heap.objs.size := by subst ece; rfl
  generalize eH3 : upd H2 D (.dT []) = H3 at I3 I4 pg pk pv w0 none3 f3
  generalize e4 : ({ s3 with heap := pushCells (s3.heap.push { cls := .type "dict", data := .dict #[] }) scope.names } : Shared) = s4 at I4 ⊢
  have t4 : tn 0 s4.heap := T.keep _ _ _ t3 fun b _ o e => by rw [← e4]; exact pushCells_keeps _ _ _ _ (Heap.get?_push_of_some _ e)
  have fpo : ∀ {σ' : L2.St} {H' : Hp} {s' : Shared}, Inv (X.blk s3 H3 scope ce fp) [] σ' H' s' → (∀ b ∈ fp, H' b = none) → ∀ b ∈ fp, FpOk (X.blk s3 H3 scope ce fp) [] H' b := fun {σ' H' s'} I' hn b hb =>
    ⟨hn b hb, (I'.ok.exf b hb).1, I'.ok.exfs b hb, .inl hb, fun x c e => (I'.ok.exf b hb).2 x c e, fun p hp => absurd (show p ∈ ([] : List (Addr × Obj)) ++ [] from hp) (by simp)⟩
  have loop : codeAny (model X.prog X.w) X.A (.compLoop (.DictComp kx vx [⟨tg, iter, [], 0⟩] scope pos) 0 (.ref it) (.ref D) ce) (compPost (model X.prog X.w) X.A X.xe none (EP X pins σ Q) (.ref D) s3.heap.objs.size) s4 := by
    refine compLoop_anyD (fun n s' => ∃ i H', Inv (X.blk s3 H3 scope ce fp) [] (wipe σ (own.map (·.2))) H' s' ∧ tn i s'.heap ∧ (∀ b ∈ fp, H' b = none) ∧ W i n H') ?_ m0 ⟨0, H3, I4, t4, none3, w0⟩
    rintro n s5 ⟨i, H5, I5, t5, n5, w5⟩
    rcases turn i n H5 w5 with ⟨hstop, qq⟩ | ⟨go, Nx, hNx, step⟩
    · refine thnF (T.done (X.blk s3 H3 scope ce fp) rfl rfl rfl hc i [] s5 _ H5 (fun _ _ => False) I5 (fpo I5 n5) t5 hstop) fun r s6 h6 => ?_
      obtain ⟨rfl, I6⟩ := h6
      have I7 : Inv X pins σ H5 s6 := I3.call' (ch := fp) I6.os I6.base I6.hok I6.bare fun b hb =>
        have z := (f3 b hb).1.2
        ⟨z.2.2.1, z.1, z.2.2.2.1, z.2.2.2.2⟩
      have nC : H5 s3.heap.objs.size = none := by
        have z : H5 ce.locals = none := I6.free
        rwa [ceL] at z
      obtain ⟨m, hn, _⟩ := I6.loc
      have hn : s6.heap.Ns ce.locals m := hn
      rw [ceL] at hn
      obtain ⟨_, g1, _, g3, g4, g5⟩ := I3.fpOk (Nat.le_refl _) nC
      exact ⟨m, hn, fun h2 sb => ⟨.ref D, H5, I7.turned (t' := s6.toks) (fun b o ne e => (sb.2 b ne).trans e) nC g1 g3 g4 g5, rfl, qq⟩⟩
    · refine thnF (T.item (X.blk s3 H3 scope ce fp) rfl rfl rfl hc i [] s5 _ H5 (fun _ _ => False) I5 (fpo I5 n5) t5 go) fun r s6 h6 => ?_
      obtain ⟨u, rfl, h6⟩ := h6
      refine thnF h6 fun _ s7 ⟨x, H7, I7, r7, y7, t7, n7⟩ => ?_
      have J7 := I7.pinned (fpo I7 n7) (T.obj _ _ t7)
      refine thnF (pg.run _ s7 _ H7 x u _ J7 r7 (step x H7 y7)) fun _ s8 ⟨σ8, H8, I8, ew, q8⟩ => ?_
      simp only [List.forIn_nil]
      refine wpAny_pure ?_
      simp only [if_true]
      refine thnF (pk.run _ s8 σ8 H8 _ I8 q8) fun u1 s10 ⟨yk, H10, I10, r10, q10⟩ => ?_
      refine thnF (pv.run _ s10 σ8 H10 _ I10 q10) fun u2 s11 ⟨yv, H11, I11, r11, b, kvs, k, ek, hb11, hD11, hl11, nx⟩ => ?_
      subst ek
      obtain rfl : u1 = .ref b := r10
      refine lay_entry (X := X.blk s3 H3 scope ce fp) hu I11 hD11 hb11 hl11 r11 fun s12 I12 => ?_
      obtain ⟨m', lt, w'⟩ := hNx _ nx
      have len8 : (wipe σ (own.map (·.2))).length = σ8.length := by rw [← ew, wipe_length]
      have stay : ∀ c ∈ fp, ∀ o, s7.heap.get? c = some o → s12.heap.get? c = some o ∧ (upd H11 D (.dT (putK kvs k yv))) c = none := fun c hc' o e =>
        have z := I12.pin (c, o) (List.mem_append_right _ (List.mem_append_right _ (mem_pinsAt hc' e)))
        ⟨z.1, z.2.1⟩
      refine ⟨m', lt, i + 1, _, (I12.unpinned (pins := [])).weak len8 (fun j v e => ?_), T.keep _ _ _ t7 fun c hc' o e => (stay c hc' o e).1, fun c hc' => ?_, w'⟩
      · rw [← ew] at e
        exact (wipe_some e).1
      · obtain ⟨o, e, _⟩ := T.obj _ _ t7 c hc'
        exact (stay c hc' o e).2
  exact codeAny_compStart_dict loop (T.self X.A 0 _ _ _ t4 loop)
end
end Pk
namespace Pk
open PySem L2
abbrev Pl := Int × Int
/-- v is a tuple that holds the place p -/
def Pr (H : Hp) (v : V) (p : Pl) : Prop := ∃ t, v = .ref t ∧ H t = some (.tup [.int p.1, .int p.2])
theorem Pr.same {H H' : Hp} {v : V} {p : Pl} (h : Pr H v p) (k : Same H H') : Pr H' v p := by
  obtain ⟨t, rfl, h⟩ := h
  exact ⟨t, rfl, k _ _ h⟩
inductive Prs (H : Hp) : List V → List Pl → Prop
  | nil : Prs H [] []
  | cons {v : V} {p : Pl} {vs : List V} {ps : List Pl} : Pr H v p → Prs H vs ps → Prs H (v :: vs) (p :: ps)
theorem Prs.same {H H' : Hp} {vs : List V} {ps : List Pl} (h : Prs H vs ps) (k : Same H H') : Prs H' vs ps := by
  induction h with
  | nil => exact .nil
  | cons a _ ih => exact .cons (a.same k) ih
theorem Prs.len {H : Hp} {vs : List V} {ps : List Pl} (h : Prs H vs ps) : vs.length = ps.length := by
  induction h with
  | nil => rfl
  | cons a _ ih => exact congrArg (· + 1) ih
theorem Prs.app {H : Hp} {vs us : List V} {ps qs : List Pl} (h : Prs H vs ps) (k : Prs H us qs) : Prs H (vs ++ us) (ps ++ qs) := by
  induction h with
  | nil => exact k
  | cons a _ ih => exact .cons a ih
theorem Prs.snoc {H : Hp} {vs : List V} {v : V} {ps : List Pl} {p : Pl} (h : Prs H vs ps) (k : Pr H v p) : Prs H (vs ++ [v]) (ps ++ [p]) := h.app (.cons k .nil)
theorem Prs.at {H : Hp} {vs : List V} {ps : List Pl} (h : Prs H vs ps) : ∀ {i : Nat} {v : V}, vs[i]? = some v → ∃ p, ps[i]? = some p ∧ Pr H v p := by
  induction h with
  | nil => intro i v e; cases e
  | cons a _ ih =>
    intro i v e
    cases i with
    | zero => cases e; exact ⟨_, rfl, a⟩
    | succ i => exact ih e
theorem Prs.take {H : Hp} {vs : List V} {ps : List Pl} (h : Prs H vs ps) : ∀ n, Prs H (vs.take n) (ps.take n) := by
  induction h with
  | nil => intro n; cases n <;> exact .nil
  | cons a _ ih => intro n; cases n with
    | zero => exact .nil
    | succ n => exact .cons a (ih n)
theorem Prs.drop {H : Hp} {vs : List V} {ps : List Pl} (h : Prs H vs ps) : ∀ n, Prs H (vs.drop n) (ps.drop n) := by
  induction h with
  | nil => intro n; cases n <;> exact .nil
  | cons a r ih => intro n; cases n with
    | zero => exact .cons a r
    | succ n => exact ih n
theorem Prs.mem {H : Hp} {vs : List V} {ps : List Pl} (h : Prs H vs ps) {v : V} (m : v ∈ vs) : ∃ p ∈ ps, Pr H v p := by
  induction h with
  | nil => cases m
  | cons a _ ih =>
    rcases List.mem_cons.mp m with e | m
    · subst e; exact ⟨_, List.mem_cons_self, a⟩
    · obtain ⟨p, hp, k⟩ := ih m
      exact ⟨p, List.mem_cons_of_mem _ hp, k⟩
def dP (p : Pl) : PyData := .tuple [.int p.1, .int p.2]
def dL (ps : List Pl) : PyData := .list (ps.map dP)
theorem Pr.dp {K : PySem.W.Frag} {H : Hp} {v : V} {p : Pl} (h : Pr H v p) : Dp K H v (dP p) := by
  obtain ⟨t, rfl, h⟩ := h
  exact .tup (SqT.of h) (.cons (.int _) (.cons (.int _) .nil))
theorem Prs.dps {K : PySem.W.Frag} {H : Hp} {vs : List V} {ps : List Pl} (h : Prs H vs ps) : DpAll K H vs (ps.map dP) := by
  induction h with
  | nil => exact .nil
  | cons a _ ih => exact .cons a.dp ih
theorem Prs.dl {K : PySem.W.Frag} {H : Hp} {l : Addr} {vs : List V} {ps : List Pl} (h : Prs H vs ps) (e : SqL K H l vs) : Dp K H (.ref l) (dL ps) := .lst e h.dps
theorem eqv_int (a b : Int) : PyData.eqv (.int a) (.int b) = decide (a = b) := by
  rw [PyData.eqv]
  rfl
theorem eqv_dP (p q : Pl) : PyData.eqv (dP p) (dP q) = decide (p = q) := by
  obtain ⟨a, b⟩ := p
  obtain ⟨c, d⟩ := q
  show PyData.eqvAll [.int a, .int b] [.int c, .int d] = _
  simp only [PyData.eqvAll, eqv_int, Prod.ext_iff, Bool.and_true, Bool.decide_and]
theorem lay_dPs : ∀ ps : List Pl, PyData.canLayAll0 (ps.map dP) = true
  | [] => rfl
  | _ :: ps => by
    show (true && PyData.canLayAll0 (ps.map dP)) = true
    rw [lay_dPs ps]
    rfl
theorem depth_dPs : ∀ ps : List Pl, PyData.depthAll (ps.map dP) ≤ 1
  | [] => by show 0 ≤ 1; omega
  | _ :: ps => by
    have ih := depth_dPs ps
    show max 1 (PyData.depthAll (ps.map dP)) ≤ 1
    omega
theorem sh_dP (p : Pl) : SeqAt.shaped (dP p) = true := rfl
theorem sh_dL (ps : List Pl) : SeqAt.shaped (dL ps) = true := by
  have h := depth_dPs ps
  unfold SeqAt.shaped dL
  rw [show PyData.canLay0 (.list (ps.map dP)) = PyData.canLayAll0 (ps.map dP) from rfl, lay_dPs]
  refine decide_eq_true ?_
  show PyData.depthAll (ps.map dP) + 1 ≤ 64
  omega
theorem any_dP (ps : List Pl) (p : Pl) : ((ps.map dP).any fun z => PyData.eqv z (dP p)) = decide (p ∈ ps) := by
  induction ps with
  | nil => simp
  | cons q ps ih =>
    rw [List.map_cons, List.any_cons, ih, eqv_dP]
    by_cases h1 : q = p
    · subst h1; simp
    · have h2 : ¬ p = q := fun z => h1 z.symm
      simp [h1, h2]
end Pk
namespace Pk
open PySem L2
def lp (p q : Pl) : Prop := p.1 < q.1 ∨ (p.1 = q.1 ∧ p.2 ≤ q.2)
instance : DecidableRel lp := fun p q => inferInstanceAs (Decidable (p.1 < q.1 ∨ (p.1 = q.1 ∧ p.2 ≤ q.2)))
theorem lp_trans {p q r : Pl} (h : lp p q) (k : lp q r) : lp p r := by unfold lp at *; omega
theorem lp_total (p q : Pl) : lp p q ∨ lp q p := by unfold lp; omega
theorem lp_anti {p q : Pl} (h : lp p q) (k : lp q p) : p = q := by
  unfold lp at *
  exact Prod.ext (by omega) (by omega)
def insP (p : Pl) : List Pl → List Pl
  | [] => [p]
  | q :: r => if lp p q then p :: q :: r else q :: insP p r
def sortP : List Pl → List Pl
  | [] => []
  | p :: r => insP p (sortP r)
theorem insP_perm (p : Pl) : ∀ r, (insP p r).Perm (p :: r)
  | [] => .refl _
  | q :: r => by
    unfold insP
    split
    · exact .refl _
    · exact ((insP_perm p r).cons q).trans (.swap p q r)
theorem sortP_perm : ∀ r, (sortP r).Perm r
  | [] => .nil
  | p :: r => (insP_perm p (sortP r)).trans ((sortP_perm r).cons p)
theorem insP_pw (p : Pl) : ∀ {r}, List.Pairwise lp r → (insP p r).Pairwise lp
  | [], _ => List.pairwise_singleton _ _
  | q :: r, h => by
    unfold insP
    have hq : ∀ {x}, x ∈ r → lp q x := fun m => List.rel_of_pairwise_cons h m
    split
    · rename_i c
      refine List.pairwise_cons.mpr ⟨fun x hx => ?_, h⟩
      rcases List.mem_cons.mp hx with e | hx
      · rw [e]; exact c
      · exact lp_trans c (hq hx)
    · rename_i c
      refine List.pairwise_cons.mpr ⟨fun x hx => ?_, insP_pw p (List.Pairwise.of_cons h)⟩
      rcases List.mem_cons.mp ((insP_perm p r).mem_iff.mp hx) with e | hx
      · rw [e]; exact (lp_total p q).resolve_left c
      · exact hq hx
theorem sortP_pw : ∀ r, (sortP r).Pairwise lp
  | [] => .nil
  | p :: r => insP_pw p (sortP_pw r)
theorem pw_uniq : ∀ {a b : List Pl}, a.Perm b → a.Pairwise lp → b.Pairwise lp → a = b
  | [], b, h, _, _ => h.nil_eq
  | p :: a, [], h, _, _ => absurd h.length_eq (by simp)
  | p :: a, q :: b, h, ha, hb => by
    have e : p = q := by
      rcases List.mem_cons.mp (h.mem_iff.mp List.mem_cons_self) with e | m
      · exact e
      · rcases List.mem_cons.mp (h.mem_iff.mpr List.mem_cons_self) with e | m'
        · exact e.symm
        · exact lp_anti (List.rel_of_pairwise_cons ha m') (List.rel_of_pairwise_cons hb m)
    subst e
    rw [pw_uniq ((List.perm_cons p).mp h) ha.of_cons hb.of_cons]
theorem sortP_of {a b : List Pl} (h : a.Perm b) (ha : a.Pairwise lp) : a = sortP b := pw_uniq (h.trans (sortP_perm b).symm) ha (sortP_pw b)
theorem sortP_mem {p : Pl} {r : List Pl} : p ∈ sortP r ↔ p ∈ r := (sortP_perm r).mem_iff
theorem sortP_len (r : List Pl) : (sortP r).length = r.length := (sortP_perm r).length_eq
theorem sortP_nd {r : List Pl} : (sortP r).Nodup ↔ r.Nodup := (sortP_perm r).nodup_iff
/-- each place once -/
def nub : List Pl → List Pl
  | [] => []
  | p :: r => if p ∈ r then nub r else p :: nub r
theorem nub_mem {p : Pl} : ∀ {r : List Pl}, p ∈ nub r ↔ p ∈ r
  | [] => Iff.rfl
  | q :: r => by
    unfold nub
    split
    · rename_i h
      rw [nub_mem (r := r), List.mem_cons]
      exact ⟨.inr, fun k => k.elim (fun e => by rw [e]; exact h) id⟩
    · rw [List.mem_cons, List.mem_cons, nub_mem (r := r)]
theorem nub_nd : ∀ r : List Pl, (nub r).Nodup
  | [] => .nil
  | p :: r => by
    unfold nub
    split
    · exact nub_nd r
    · rename_i h
      exact List.nodup_cons.mpr ⟨fun m => h (nub_mem.mp m), nub_nd r⟩
theorem nub_le : ∀ r : List Pl, (nub r).length ≤ r.length
  | [] => Nat.le_refl _
  | p :: r => by
    unfold nub
    have := nub_le r
    split
    · rw [List.length_cons]; omega
    · rw [List.length_cons, List.length_cons]; omega
theorem nub_lt : ∀ r : List Pl, (nub r).length < r.length ↔ ¬ r.Nodup
  | [] => by simp [nub]
  | p :: r => by
    have ih := nub_lt r
    have hl := nub_le r
    unfold nub
    rw [List.nodup_cons]
    split
    · rename_i h
      rw [List.length_cons]
      exact ⟨fun _ k => k.1 h, fun _ => by omega⟩
    · rename_i h
      rw [List.length_cons, List.length_cons, Nat.add_lt_add_iff_right, ih]
      exact ⟨fun k z => k z.2, fun k z => k ⟨h, z⟩⟩
/-- a set of places stands at a -/
def SetOf (P : Program) (w : World) (H : Hp) (a : Addr) (ps : List Pl) : Prop := ∃ L : List (Addr × List Int), H a = some (SetTO P w a L) ∧
  (∀ x ∈ L, ∃ p ∈ ps, x.2 = [p.1, p.2] ∧ H x.1 = some (.tup [.int p.1, .int p.2])) ∧ ∀ p ∈ ps, [p.1, p.2] ∈ L.map (·.2)
section
variable {X : Cx} {pins : List (Addr × Obj)} {σ : St} {H : Hp} {s : Shared}
def toP (x : Addr × List Int) : Pl := (x.2.getD 0 0, x.2.getD 1 0)
theorem setOf_list {P : Program} {w : World} {a : Addr} {ps : List Pl} {L : List (Addr × List Int)}
    (h1 : ∀ x ∈ L, ∃ p ∈ ps, x.2 = [p.1, p.2] ∧ H x.1 = some (.tup [.int p.1, .int p.2])) (h2 : ∀ p ∈ ps, [p.1, p.2] ∈ L.map (·.2)) (nd : (L.map (·.2)).Nodup) :
    (L.map toP).Nodup ∧ ∀ p, p ∈ L.map toP ↔ p ∈ ps := by
  constructor
  · refine List.pairwise_map.mpr (List.Pairwise.imp_of_mem (fun {x y} hx hy ne e => ?_) (List.pairwise_map.mp nd))
    obtain ⟨p, _, ep, _⟩ := h1 x hx
    obtain ⟨q, _, eq, _⟩ := h1 y hy
    unfold toP at e
    rw [ep, eq] at e
    apply ne
    rw [ep, eq]
    have e1 : p.1 = q.1 := (Prod.mk.inj e).1
    have e2 : p.2 = q.2 := (Prod.mk.inj e).2
    rw [e1, e2]
  · intro p
    constructor
    · intro m
      obtain ⟨x, hx, rfl⟩ := List.mem_map.mp m
      obtain ⟨p, hp, ep, _⟩ := h1 x hx
      unfold toP
      rw [ep]
      exact hp
    · intro m
      obtain ⟨x, hx, e⟩ := List.mem_map.mp (h2 p m)
      refine List.mem_map.mpr ⟨x, hx, ?_⟩
      unfold toP
      rw [e]
      rfl
/-- set(xs), xs a list of places -/
def rSetP (K : PySem.W.Frag) (P : Program) (w : World) : List V → Hp → VK → Prop := fun xs H Q => ∃ (l : Addr) (vs : List V) (ps : List Pl), xs = [.ref l] ∧ SqL K H l vs ∧ Prs H vs ps ∧ ps.length < 64 ∧
  ∀ (H' : Hp) (a : Addr), H a = none → Same H H' → SetOf P w H' a ps → Q (.ref a) H'
theorem prs_ks {K : PySem.W.Frag} {vs : List V} {ps : List Pl} (h : Prs H vs ps) : ∃ ks : List (Addr × List Int), vs = ks.map (fun p => V.ref p.1) ∧ (∀ x ∈ ks, ∃ p ∈ ps, x.2 = [p.1, p.2] ∧ H x.1 = some (.tup [.int p.1, .int p.2])) ∧ ks.map (·.2) = ps.map (fun p => [p.1, p.2]) := by
  induction h with
  | nil => exact ⟨[], rfl, fun x hx => (nomatch hx), rfl⟩
  | @cons v p vs ps a _ ih =>
    obtain ⟨t, rfl, ht⟩ := a
    obtain ⟨ks, e, k, m⟩ := ih
    refine ⟨(t, [p.1, p.2]) :: ks, by rw [e]; rfl, fun x hx => ?_, by rw [List.map_cons, m]; rfl⟩
    rcases List.mem_cons.mp hx with z | z
    · subst z
      exact ⟨p, List.mem_cons_self, rfl, ht⟩
    · obtain ⟨q, hq, r⟩ := k x z
      exact ⟨q, List.mem_cons_of_mem _ hq, r⟩
theorem cr_setP (hc : X.calm = true) (hu : X.A.units + 64 < cLine) : CallR X (.type "set") (rSetP X.K X.prog X.w) := by
  intro pins s σ H xs us Q I r h
  obtain ⟨l, vs, ps, rfl, hl, hp, hn, q⟩ := h
  obtain ⟨ks, rfl, hk, hm⟩ := prs_ks (K := X.K) hp
  refine cr_setOfT hc hu pins s σ H [.ref l] us Q I r ⟨l, ks, rfl, hl, fun x hx => ?_, ?_, fun a L ha h1 h2 => ?_⟩
  · obtain ⟨p, _, e, k⟩ := hk x hx
    rw [e]
    exact SqT.of k
  · have e := congrArg List.length hm
    rw [List.length_map, List.length_map] at e
    omega
  · have sm : Same H (upd H a (SetTO X.prog X.w a L)) := fun b o e => by
      rw [upd_ne (ne_of_none e ha)]
      exact e
    refine q _ a ha sm ⟨L, upd_same, fun x hx => ?_, fun p hp => ?_⟩
    · obtain ⟨p, hp, e, k⟩ := hk x (h1 x hx)
      exact ⟨p, hp, e, sm _ _ k⟩
    · have m : [p.1, p.2] ∈ ks.map (·.2) := by
        rw [hm]
        exact List.mem_map.mpr ⟨p, hp, rfl⟩
      obtain ⟨x, hx, e⟩ := List.mem_map.mp m
      rw [← e]
      exact h2 x hx
/-- len(s), s a set of places -/
theorem call_lenP : CallR X (.builtin "len") (fun xs H Q => ∃ (a : Addr) (ps : List Pl), xs = [.ref a] ∧ SetOf X.prog X.w H a ps ∧ Q (.int (nub ps).length) H) := by
  intro pins s σ H xs us Q I r h
  obtain ⟨a, ps, rfl, ⟨L, ha, h1, h2⟩, q⟩ := h
  rw [Vals.ref1 r]
  have R0 : SetT0 X.prog X.w s.heap a L := (I.hok a _ ha).1
  obtain ⟨es, ep, t, R⟩ := R0.full fun x hx => by
    obtain ⟨p, _, e, k⟩ := h1 x hx
    have z : SqT X.K H x.1 (x.2.map V.int) := by rw [e]; exact SqT.of k
    exact I.isT z
  obtain ⟨o, ho, hex, hd⟩ := R.ob
  obtain ⟨n1, n2⟩ := setOf_list (P := X.prog) (w := X.w) (a := a) h1 h2 R0.ex.choose_spec.choose_spec.choose_spec.2.2.2.1
  have hl : L.length = (nub ps).length := by
    have z : (L.map toP).Perm (nub ps) := (List.perm_ext_iff_of_nodup n1 (nub_nd ps)).mpr fun p => (n2 p).trans nub_mem.symm
    have z2 := z.length_eq
    rw [List.length_map] at z2
    exact z2
  have hsz := R.size
  have hfew := R.few
  refine call_len_set ho hex hd R.fits (by omega) ⟨.int (nub ps).length, H, I.tok _, ⟨_, by rw [hsz, hl]⟩, q⟩
end
end Pk
namespace Pk
open PySem L2 PyProof.Rows
/-- what place a value stands for -/
def plAt (H : Hp) (v : V) : Pl := match v with
  | .ref t => (match H t with
    | some (.tup [.int a, .int b]) => (a, b)
    | _ => (0, 0))
  | _ => (0, 0)
theorem plAt_of {H : Hp} {v : V} {p : Pl} (h : Pr H v p) : plAt H v = p := by
  obtain ⟨t, rfl, h⟩ := h
  show (match H t with
    | some (.tup [.int a, .int b]) => (a, b)
    | _ => (0, 0)) = p
  rw [h]
theorem prs_plAt {H : Hp} {vs : List V} {ps : List Pl} (h : Prs H vs ps) : vs.map (plAt H) = ps := by
  induction h with
  | nil => rfl
  | cons a _ ih => rw [List.map_cons, ih, plAt_of a]
theorem prs_of_mem {H : Hp} : ∀ {ys : List V}, (∀ y ∈ ys, ∃ p, Pr H y p) → Prs H ys (ys.map (plAt H))
  | [], _ => .nil
  | y :: ys, h => by
    obtain ⟨p, hp⟩ := h y List.mem_cons_self
    refine .cons ?_ (prs_of_mem fun z hz => h z (List.mem_cons_of_mem _ hz))
    rw [plAt_of hp]
    exact hp
theorem prs_perm {H : Hp} {xs ys : List V} {ps : List Pl} (h : Prs H xs ps) (m : ys.Perm xs) : Prs H ys (ys.map (plAt H)) ∧ (ys.map (plAt H)).Perm ps := by
  refine ⟨prs_of_mem fun y hy => ?_, ?_⟩
  · obtain ⟨p, _, k⟩ := h.mem (m.mem_iff.mp hy)
    exact ⟨p, k⟩
  · have e := m.map (plAt H)
    rw [prs_plAt h] at e
    exact e
def rSortP (K : PySem.W.Frag) : List V → Hp → VK → Prop := fun vs H Q => ∃ (a : Addr) (xs : List V) (ps : List Pl), vs = [.ref a] ∧ SqL K H a xs ∧ Prs H xs ps ∧
  ∀ (p : Addr) (ys : List V), H p = none → Prs H ys (sortP ps) → Q (.ref p) (upd H p (.lst ys))
section
variable {X : Cx}
theorem call_sortP : CallR X (.builtin "sorted") (rSortP X.K) := by
  intro pins s σ H vs us Q I r h
  obtain ⟨a, xs, ps, rfl, hs, hp, q⟩ := h
  refine cr_sortedPO pins s σ H [.ref a] us Q I r ⟨a, xs, plAt H, rfl, hs, fun x hx => ?_, fun ys p h1 h2 hn => ?_⟩
  · obtain ⟨p, _, t, e, k⟩ := hp.mem hx
    refine ⟨t, e, ?_⟩
    have z : plAt H x = p := plAt_of ⟨t, e, k⟩
    rw [z]
    exact k
  · obtain ⟨k1, k2⟩ := prs_perm hp h2.perm
    have e : ys.map (plAt H) = sortP ps := sortP_of k2 (List.pairwise_map.mpr (List.Pairwise.imp (fun {x y} z => by
      have z1 : SrtO.lexB (plAt H y) (plAt H x) = false := z
      have z2 := SrtO.lexB_no.mp z1
      unfold lp
      omega) h1))
    rw [e] at k1
    exact q p ys hn k1
end
end Pk
namespace Pk
open PySem L2 PySem.Spec PyProof.Rows
/-- the ends of a clause whose name stands in slot i: behind it the slot is empty -/
def asEnds (i : Nat) (D : Ends) : Ends := { nx := fun τ G => D.nx (τ.set i none) G, rt := D.rt, bk := fun τ G => D.bk (τ.set i none) G, ct := fun τ G => D.ct (τ.set i none) G }
abbrev Sui := Addr → Value → Option Addr → TS
/-- what the clauses wish of an error of the body -/
def wNext (K : PySem.W.Frag) (Wo : WX) (D : Ends) : List (Value × Option Nat × Sui) → WX
  | [] => Wo
  | (c, none, ts) :: more => fun cls d τ G => ∃ b, PySem.W.exmOne K cls c = some b ∧ (b = true → ∀ x, G x = none → ts x cls d D τ G) ∧ (b = false → wNext K Wo D more cls d τ G)
  | (c, some i, ts) :: more => fun cls d τ G => ∃ b, PySem.W.exmOne K cls c = some b ∧ (b = true → ∀ x, G x = none → ts x cls d (asEnds i D) (τ.set i (some (.ref x))) G) ∧ (b = false → wNext K Wo D more cls d τ G)
/-- try: the body's reading, its errors wished for as the clauses take them -/
def tTry (K : PySem.W.Frag) (Wo : WX) (l : List (Value × Option Nat × Sui)) (tb : WX → TS) : TS := fun D τ G => tb (wNext K Wo D l) D τ G
inductive Clauses (X : Cx) : List ExceptHandler → List (Value × Option Nat × Sui) → Prop
  | nil : Clauses X [] []
  | plain {x : Str} {c : Value} {ts : Sui} {s0 : Stmt} {su : List Stmt} {p1 p2 : Pos} {hs : List ExceptHandler} {l : List (Value × Option Nat × Sui)} (hc : Names X x c)
      (hsu : ∀ (a : Addr) (oe : Obj) (cls : Value) (d : Option Addr) (pn : List (Addr × Obj)), Zc cls d oe → (∃ vs, oe.data = .fields vs) → PSs (X.suite a ((a, oe) :: pn)) (s0 :: su) (ts a cls d)) (more : Clauses X hs l) :
      Clauses X (.ExceptHandler (some (.Name x p1)) none (s0 :: su) p2 :: hs) ((c, none, ts) :: l)
  | named {x n : Str} {i : Nat} {c : Value} {ts : Sui} {s0 : Stmt} {su : List Stmt} {p1 p2 : Pos} {hs : List ExceptHandler} {l : List (Value × Option Nat × Sui)} (hN : X.N.Nodup) (hi : X.N[i]? = some n) (hn : X.env.kindOf n = some .local) (hc : Names X x c)
      (hsu : ∀ (a : Addr) (oe : Obj) (cls : Value) (d : Option Addr) (pn : List (Addr × Obj)), Zc cls d oe → (∃ vs, oe.data = .fields vs) → PSs (X.suite a ((a, oe) :: pn)) (s0 :: su) (ts a cls d)) (more : Clauses X hs l) :
      Clauses X (.ExceptHandler (some (.Name x p1)) (some n) (s0 :: su) p2 :: hs) ((c, some i, ts) :: l)
section
variable {X : Cx} {body : List Stmt} {c0 : ExceptHandler} {cs : List ExceptHandler} {l : List (Value × Option Nat × Sui)} {pos : Pos} {tb : WX → TS} {Wo : WX}
theorem ps_try_next (hst : X.stack = X.env :: X.outer) (hfm : X.env.frame = some X.env.locals) (tk : Takes X Wo)
    (hbody : ∀ (W : WX) (pn : List (Addr × Obj)) (xe : Value → Shared → Prop), Takes (X.tr pn xe) W → PassesOwn (model X.prog X.w) X.A X.env xe → PSs (X.tr pn xe) body (tb W))
    (hcs : Clauses X (c0 :: cs) l) : PS X (.Try body (c0 :: cs) [] [] pos) (tTry X.K Wo l tb) := by
  refine ⟨fun pins s τ G D I hw => ?_⟩
  have kk := I.ok
  have hfrs : X.A.frames = some (X.env :: X.outer) := by rw [kk.frames, hst]
  let M := model X.prog X.w
  refine wpAny_Try_except ?_
  refine wpAny_mono ((hbody (wNext X.K Wo D l) (X.pn ++ pins) (fun e s₁ => wpAny M X.A (noteFrame e X.env) (fun _ s₂ => wpAny M X.A (setFlight e none) (fun _ s₃ => wpAny M X.A (handleBy e X.env (c0 :: cs)) (SP X pins D) X.xe s₃) X.xe s₂) X.xe s₁)
    (fun u s' xx => ?_) PassesOwn.looking).run [] s τ G D (I.toTry _) hw) (fun fl s1 hsp => ?_) (fun e s1 he => he)
  · obtain ⟨a, B, sI, pins', τ', G', cls, d, rfl, J0, nb, up, sky, na, hos, hag, wish⟩ := xx
    have J : Inv X pins τ' G' sI := J0.ofTry kk
    have sk : Sky B (X.env :: X.outer) a (Zc cls d) X.env.locals s'.heap := hst ▸ sky
    show wpAny M X.A (noteFrame (.ref a) X.env) _ _ _
    refine Sky.land Zc.steady hfrs hfm sk fun h3 fl3 up3 => ?_
    have J3 : Inv X pins τ' G' { s' with heap := h3 } := J.landed nb fl3.1 (up.trans up3) hos hag
    obtain ⟨oe3, vs3, he3, hz3, hd3⟩ := fl3.there
    have nfr : a ∉ frs (X.env :: X.outer) := fun hm => by
      obtain ⟨_, o', e', hnf⟩ := fl3.2.2.1.mem hm
      rw [he3] at e'
      cases e'
      exact hnf _ hd3
    have nL : a ≠ X.env.locals := fun z => nfr (List.mem_filterMap.mpr ⟨X.env, List.mem_cons_self, by rw [hfm, z]⟩)
    have nF : a ∉ X.fs := fun hm => by
      obtain ⟨e, he, q⟩ := List.mem_filterMap.mp hm
      exact nfr (List.mem_filterMap.mpr ⟨e, List.mem_cons_of_mem _ he, q⟩)
    have S3 := J3.suite he3 hd3 na nL nF
    have LT : PySem.W.Looks M h3 (typeOf (.ref a)) cls := fun A Q E s k q => wpAny_typeOf_ref (k _ _ he3) (by rw [hz3.1]; exact q)
    have test : ∀ {x : Str} {c : Value} {p1 : Pos} {Q : Value → Shared → Prop} {E : Value → Shared → Prop}, Names X x c → Q c { s' with heap := h3 } → wpAny M (X.A.mark (some (.ref a))) (eval (.Name x p1) X.env) Q E { s' with heap := h3 } :=
      fun {x c p1 Q E} hc q => by
        obtain ⟨hg, hdbg, hm | ⟨hm, hv, hnn⟩⟩ := hc
        · exact ld_glob (X := X.suite a ((a, oe3) :: (X.pn ++ pins))) S3 hg hm q hdbg
        · exact ld_blt (X := X.suite a ((a, oe3) :: (X.pn ++ pins))) S3 hg hm hv q hnn hdbg
    have each : ∀ {hs : List ExceptHandler} {l' : List (Value × Option Nat × Sui)}, Clauses X hs l' → wNext X.K Wo D l' cls d τ' G' → wpAny M X.A (handleBy (.ref a) X.env hs) (SP X pins D) X.xe { s' with heap := h3 } := by
      intro hs l' hk
      induction hk with
      | nil =>
        intro wish
        refine wpAny_handleBy_nil ?_
        obtain ⟨k1, k2, k3, oe, vs, T, oT, ts', he, hz, hd, hf1, hr⟩ := id fl3
        unfold PySem.passOn
        refine wpAny_bind (wpAny_field he hd hf1 ?_)
        rw [if_neg (show ¬ ((Value.ref T == Value.none) = true) from by simp)]
        have out : wpAny M X.A (setFlight (.ref a) X.env.frame) (fun _ s4 => wpAny M X.A (throw (.ref a) : Sem Flow) (SP X pins D) X.xe s4) X.xe { s' with heap := h3 } := by
          rw [hfm]
          refine HandSPX.setFlight_upZ fl3 fun h4 hh4 up4 => wpAny_throw (tk _ _ ?_)
          exact ⟨a, B, sI, pins, τ', G', cls, d, rfl, J, nb, (up.trans up3).trans up4, .inr (.inr (hst ▸ hh4)), na, hos, hag, wish⟩
        first
          | exact wpAny_bind (wpAny_pure (wpAny_bind out))
          | exact wpAny_bind out
      | plain hc hsu more ih =>
        intro wish
        obtain ⟨b, hb1, yes, no⟩ := wish
        refine wpAny_handleBy_cons (codeAny_handlers_test ?_) (by intro q; cases q)
        refine test hc ((PySem.W.exm_one (M := M) J3.kIn LT hb1).here ?_)
        cases b with
        | false => exact ih (no rfl)
        | true =>
          refine codeAny_handlers_suite (HandSPX.lands_againZ fl3 fun h4 fl4 up4 => ?_)
          have J4 : Inv X pins τ' G' { s' with heap := h4 } := J.landed nb fl4.1 ((up.trans up3).trans up4) hos hag
          obtain ⟨oe4, vs4, he4, hz4, hd4⟩ := fl4.there
          refine wpAny_mono ((hsu a oe4 cls d (X.pn ++ pins) hz4 ⟨_, hd4⟩).run [] _ _ G' _ (J4.suite he4 hd4 na nL nF) (yes rfl a na)) (fun f s6 hsp => ?_) (fun _ _ z => z.elim)
          cases f with
          | ret u =>
            obtain ⟨v6, τ6, G6, S6, r6, q6⟩ := hsp
            exact ⟨v6, τ6, G6, S6.unsuite kk, r6, q6⟩
          | next =>
            obtain ⟨τ6, G6, S6, q6⟩ := hsp
            exact ⟨τ6, G6, S6.unsuite kk, q6⟩
          | brk =>
            obtain ⟨τ6, G6, S6, q6⟩ := hsp
            exact ⟨τ6, G6, S6.unsuite kk, q6⟩
          | cont =>
            obtain ⟨τ6, G6, S6, q6⟩ := hsp
            exact ⟨τ6, G6, S6.unsuite kk, q6⟩
      | named hN hi hn hc hsu more ih =>
        intro wish
        obtain ⟨b, hb1, yes, no⟩ := wish
        refine wpAny_handleBy_cons (codeAny_handlers_test ?_) (by intro q; cases q)
        refine test hc ((PySem.W.exm_one (M := M) J3.kIn LT hb1).here ?_)
        cases b with
        | false => exact ih (no rfl)
        | true =>
          refine codeAny_handlers_suite_as (HandSPX.lands_againZ fl3 fun h4 fl4 up4 => ?_)
          have J4 : Inv X pins τ' G' { s' with heap := h4 } := J.landed nb fl4.1 ((up.trans up3).trans up4) hos hag
          obtain ⟨oe4, vs4, he4, hz4, hd4⟩ := fl4.there
          refine store_ok (X := X.suite a ((a, oe4) :: (X.pn ++ pins))) (v := .ref a) (J4.suite he4 hd4 na nL nF) hN hi (.inl hn) rfl (fun s5 S5 => ?_) (.inr hn)
          refine wpAny_mono ((hsu a oe4 cls d (X.pn ++ pins) hz4 ⟨_, hd4⟩).run [] s5 _ G' _ S5 (yes rfl a na)) (fun f s6 hsp => ?_) (fun _ _ z => z.elim)
          cases f with
          | ret u =>
            obtain ⟨v6, τ6, G6, S6, r6, q6⟩ := hsp
            exact gone_ok (S6.unsuite kk) hN hi hn fun s7 J7 => ⟨v6, _, G6, J7, r6, q6⟩
          | next =>
            obtain ⟨τ6, G6, S6, q6⟩ := hsp
            exact gone_ok (S6.unsuite kk) hN hi hn fun s7 J7 => ⟨_, G6, J7, q6⟩
          | brk =>
            obtain ⟨τ6, G6, S6, q6⟩ := hsp
            exact gone_ok (S6.unsuite kk) hN hi hn fun s7 J7 => ⟨_, G6, J7, q6⟩
          | cont =>
            obtain ⟨τ6, G6, S6, q6⟩ := hsp
            exact gone_ok (S6.unsuite kk) hN hi hn fun s7 J7 => ⟨_, G6, J7, q6⟩
    exact each hcs wish
  · cases fl with
    | ret u =>
      obtain ⟨v, τ', G', J', r, q⟩ := hsp
      exact ⟨v, τ', G', J'.ofTry kk, r, q⟩
    | next =>
      obtain ⟨τ', G', J', q⟩ := hsp
      exact wpAny_execs_nil ⟨τ', G', J'.ofTry kk, q⟩
    | brk =>
      obtain ⟨τ', G', J', q⟩ := hsp
      exact ⟨τ', G', J'.ofTry kk, q⟩
    | cont =>
      obtain ⟨τ', G', J', q⟩ := hsp
      exact ⟨τ', G', J'.ofTry kk, q⟩
end
end Pk
namespace Pk
open PySem L2 PySem.Spec PyProof.Rows
theorem Pr.over {H : Hp} {m : Addr} {zs ws : List V} {v : V} {p : Pl} (h : Pr H v p) (hm : H m = some (.lst zs)) : Pr (upd H m (.lst ws)) v p := by
  obtain ⟨t, rfl, h⟩ := h
  exact ⟨t, rfl, by rw [upd_ne (ne_of h hm (by intro z; cases z))]; exact h⟩
theorem Prs.over {H : Hp} {m : Addr} {zs ws vs : List V} {ps : List Pl} (h : Prs H vs ps) (hm : H m = some (.lst zs)) : Prs (upd H m (.lst ws)) vs ps := by
  induction h with
  | nil => exact .nil
  | cons a _ ih => exact .cons (a.over hm) ih
theorem Same.over {H0 H : Hp} {m : Addr} {o : HO} (k : Same H0 H) (n : H0 m = none) : Same H0 (upd H m o) := fun b u e => by
  rw [upd_ne (ne_of_none e n)]
  exact k b u e
end Pk
namespace Pk
open PySem L2 PySem.Spec PyProof.Rows
abbrev Tk := List L2.Key
/-- v is a tuple that holds k -/
def Kr (H : Hp) (v : V) (k : Tk) : Prop := ∃ t, v = .ref t ∧ H t = some (.tup (k.map kV))
theorem Kr.same {H H' : Hp} {v : V} {k : Tk} (h : Kr H v k) (z : Same H H') : Kr H' v k := by
  obtain ⟨t, rfl, h⟩ := h
  exact ⟨t, rfl, z _ _ h⟩
theorem Kr.over {H : Hp} {m : Addr} {zs ws : List V} {v : V} {k : Tk} (h : Kr H v k) (hm : H m = some (.lst zs)) : Kr (upd H m (.lst ws)) v k := by
  obtain ⟨t, rfl, h⟩ := h
  refine ⟨t, rfl, ?_⟩
  rw [upd_ne (ne_of h hm fun z => nomatch z)]
  exact h
inductive Krs (H : Hp) : List V → List Tk → Prop
  | nil : Krs H [] []
  | cons {v : V} {k : Tk} {vs : List V} {ks : List Tk} : Kr H v k → Krs H vs ks → Krs H (v :: vs) (k :: ks)
section
variable {H H' : Hp} {vs us : List V} {ks ls : List Tk}
theorem Krs.same (h : Krs H vs ks) (z : Same H H') : Krs H' vs ks := by
  induction h with
  | nil => exact .nil
  | cons a _ ih => exact .cons (a.same z) ih
theorem Krs.over {m : Addr} {zs ws : List V} (h : Krs H vs ks) (hm : H m = some (.lst zs)) : Krs (upd H m (.lst ws)) vs ks := by
  induction h with
  | nil => exact .nil
  | cons a _ ih => exact .cons (a.over hm) ih
theorem Krs.len (h : Krs H vs ks) : vs.length = ks.length := by
  induction h with
  | nil => rfl
  | cons a _ ih => exact congrArg (· + 1) ih
theorem Krs.app (h : Krs H vs ks) (g : Krs H us ls) : Krs H (vs ++ us) (ks ++ ls) := by
  induction h with
  | nil => exact g
  | cons a _ ih => exact .cons a ih
theorem Krs.snoc {v : V} {k : Tk} (h : Krs H vs ks) (g : Kr H v k) : Krs H (vs ++ [v]) (ks ++ [k]) := h.app (.cons g .nil)
theorem Krs.at (h : Krs H vs ks) : ∀ {i : Nat} {v : V}, vs[i]? = some v → ∃ k, ks[i]? = some k ∧ Kr H v k := by
  induction h with
  | nil => intro i v e; cases e
  | cons a _ ih =>
    intro i v e
    cases i with
    | zero => cases e; exact ⟨_, rfl, a⟩
    | succ i => exact ih e
theorem Krs.mem (h : Krs H vs ks) {v : V} (m : v ∈ vs) : ∃ k ∈ ks, Kr H v k := by
  induction h with
  | nil => cases m
  | cons a _ ih =>
    rcases List.mem_cons.mp m with e | m
    · subst e; exact ⟨_, List.mem_cons_self, a⟩
    · obtain ⟨k, hk, q⟩ := ih m
      exact ⟨k, List.mem_cons_of_mem _ hk, q⟩
end
def kd : L2.Key → PyData
  | .inl i => .int i
  | .inr x => .str x
def dK (k : Tk) : PyData := .tuple (k.map kd)
def dKs (ks : List Tk) : PyData := .list (ks.map dK)
theorem eqv_kd (a b : L2.Key) : PyData.eqv (kd a) (kd b) = decide (a = b) := by
  cases a <;> cases b <;> simp only [kd, PyData.eqv, Sum.inl.injEq, Sum.inr.injEq, reduceCtorEq, decide_false] <;> first | rfl | (simp [PyData.eqv]; done) | skip
theorem eqvAll_kd : ∀ a b : Tk, PyData.eqvAll (a.map kd) (b.map kd) = decide (a = b)
  | [], [] => by simp [PyData.eqvAll]
  | [], _ :: _ => by simp [PyData.eqvAll]
  | _ :: _, [] => by simp [PyData.eqvAll]
  | p :: ps, q :: qs => by
    simp only [List.map_cons, PyData.eqvAll, eqv_kd, eqvAll_kd ps qs, List.cons.injEq]
    by_cases h1 : p = q <;> by_cases h2 : ps = qs <;> simp [h1, h2]
theorem eqv_dK (a b : Tk) : PyData.eqv (dK a) (dK b) = decide (a = b) := by
  unfold dK
  rw [PyData.eqv, eqvAll_kd]
instance (k : Tk) (ks : List Tk) : Decidable (k ∈ ks) := decidable_of_iff (ks.any (fun q => decide (q = k)) = true) (by simp)
theorem any_dK (ks : List Tk) (k : Tk) : ((ks.map dK).any fun z => PyData.eqv z (dK k)) = decide (k ∈ ks) := by
  induction ks with
  | nil => simp
  | cons q ks ih =>
    rw [List.map_cons, List.any_cons, ih, eqv_dK]
    by_cases h1 : q = k
    · subst h1; simp
    · have h2 : ¬ k = q := fun z => h1 z.symm
      simp [h1, h2]
theorem dp_keys {K : PySem.W.Frag} {H : Hp} : ∀ k : Tk, DpAll K H (k.map kV) (k.map kd)
  | [] => .nil
  | .inl i :: k => .cons (.int i) (dp_keys k)
  | .inr x :: k => .cons (.str x) (dp_keys k)
theorem Kr.dp {K : PySem.W.Frag} {H : Hp} {v : V} {k : Tk} (h : Kr H v k) : Dp K H v (dK k) := by
  obtain ⟨t, rfl, h⟩ := h
  exact .tup (SqT.of h) (dp_keys k)
theorem Krs.dps {K : PySem.W.Frag} {H : Hp} {vs : List V} {ks : List Tk} (h : Krs H vs ks) : DpAll K H vs (ks.map dK) := by
  induction h with
  | nil => exact .nil
  | cons a _ ih => exact .cons a.dp ih
theorem Krs.dl {K : PySem.W.Frag} {H : Hp} {l : Addr} {vs : List V} {ks : List Tk} (h : Krs H vs ks) (e : SqL K H l vs) : Dp K H (.ref l) (dKs ks) := .lst e h.dps
theorem depth_kds : ∀ k : Tk, PyData.depthAll (k.map kd) = 0
  | [] => rfl
  | .inl _ :: k => by
    show max 0 (PyData.depthAll (k.map kd)) = 0
    rw [depth_kds k]
    rfl
  | .inr _ :: k => by
    show max 0 (PyData.depthAll (k.map kd)) = 0
    rw [depth_kds k]
    rfl
/-- its texts are texts -/
def okk (k : Tk) : Bool := PyData.canLayAll0 (k.map kd)
theorem lay_dKs : ∀ ks : List Tk, (∀ k ∈ ks, okk k = true) → PyData.canLayAll0 (ks.map dK) = true
  | [], _ => rfl
  | k :: ks, h => by
    show (PyData.canLayAll0 (k.map kd) && PyData.canLayAll0 (ks.map dK)) = true
    rw [lay_dKs ks fun q hq => h q (List.mem_cons_of_mem _ hq), show PyData.canLayAll0 (k.map kd) = true from h k List.mem_cons_self]
    rfl
theorem depth_dKs : ∀ ks : List Tk, PyData.depthAll (ks.map dK) ≤ 1
  | [] => by show 0 ≤ 1; omega
  | k :: ks => by
    have ih := depth_dKs ks
    show max (PyData.depthAll (k.map kd) + 1) (PyData.depthAll (ks.map dK)) ≤ 1
    rw [depth_kds]
    omega
theorem sh_dK {k : Tk} (h : okk k = true) : SeqAt.shaped (dK k) = true := by
  unfold SeqAt.shaped dK
  rw [show PyData.canLay0 (.tuple (k.map kd)) = PyData.canLayAll0 (k.map kd) from rfl, show PyData.canLayAll0 (k.map kd) = true from h]
  refine decide_eq_true ?_
  show PyData.depthAll (k.map kd) + 1 ≤ 64
  rw [depth_kds]
  omega
theorem sh_dKs {ks : List Tk} (hk : ∀ k ∈ ks, okk k = true) : SeqAt.shaped (dKs ks) = true := by
  unfold SeqAt.shaped dKs
  rw [show PyData.canLay0 (.list (ks.map dK)) = PyData.canLayAll0 (ks.map dK) from rfl, lay_dKs ks hk]
  have h := depth_dKs ks
  refine decide_eq_true ?_
  show PyData.depthAll (ks.map dK) + 1 ≤ 64
  omega
end Pk
namespace Pk
open PySem L2 PySem.Spec PyProof.Rows
/-- where the texts stand -/
def shp (k : Tk) : List Bool := k.map fun x => match x with
  | .inl _ => false
  | .inr _ => true
theorem alike_kd : ∀ a b : Tk, shp a = shp b → PySem.W.alikeAll (a.map kd) (b.map kd) = true
  | [], [], _ => by simp [PySem.W.alikeAll]
  | [], _ :: _, h => by simp [shp] at h
  | _ :: _, [], h => by simp [shp] at h
  | x :: a, y :: b, h => by
    have h2 : shp a = shp b := by
      unfold shp at h ⊢
      simp only [List.map_cons, List.cons.injEq] at h
      exact h.2
    rw [List.map_cons, List.map_cons, PySem.W.alikeAll, alike_kd a b h2]
    unfold shp at h
    simp only [List.map_cons, List.cons.injEq] at h
    cases x <;> cases y <;> simp at h <;> simp [kd, PySem.W.alike]
theorem alike_dK {a b : Tk} (h : shp a = shp b) : PySem.W.alike (dK a) (dK b) = true := by
  unfold dK
  rw [PySem.W.alike]
  exact alike_kd a b h
/-- the order sorts: all alike, none empty -/
def Fit (ks : List Tk) : Prop := ∃ sh : List Bool, sh ≠ [] ∧ ∀ k ∈ ks, shp k = sh
theorem Fit.alike {L : List (Addr × Tk)} (h : Fit (L.map (·.2))) : PySem.W.AllAlike (L.map fun b => dK b.2) := by
  obtain ⟨sh, _, q⟩ := h
  intro d hd d' hd'
  obtain ⟨b, hb, rfl⟩ := List.mem_map.mp hd
  obtain ⟨c, hc, rfl⟩ := List.mem_map.mp hd'
  exact alike_dK ((q _ (List.mem_map_of_mem hb)).trans (q _ (List.mem_map_of_mem hc)).symm)
end Pk
namespace Pk
open PySem L2 PySem.Spec PyProof.Rows GxR NdefX
structure Kp (H H' : Hp) : Prop where
  at_ : ∀ b o, H b = some o → (∀ ps, o ≠ .tbl ps) → H' b = some o
  tab : ∀ P, TabG H P → TabG H' P
theorem kpS {H H' : Hp} (h : Same H H') : Kp H H' := ⟨fun b o e _ => h b o e, fun P ⟨ps, e, t⟩ => ⟨ps, h _ _ e, t⟩⟩
theorem Kp.refl (H : Hp) : Kp H H := kpS (Same.refl H)
theorem Kp.trans {H H1 H2 : Hp} (a : Kp H H1) (b : Kp H1 H2) : Kp H H2 := ⟨fun c o e n => b.at_ c o (a.at_ c o e n) n, fun P h => b.tab P (a.tab P h)⟩
theorem Tabbed.kp {P : Addr} {H H' : Hp} (h : Tabbed P H H') (t : TabG H P) : Kp H H' := by
  obtain ⟨ps, e0, t0⟩ := t
  refine ⟨fun b o e n => ?_, fun P' ⟨qs, e, t'⟩ => ?_⟩
  · rw [h.2 b fun z => by rw [z, e0] at e; exact n ps (Option.some.inj e).symm]
    exact e
  · by_cases z : P' = P
    · rw [z]
      exact h.1
    · exact ⟨qs, by rw [h.2 _ z]; exact e, t'⟩
section
variable {H H' : Hp}
theorem Kp.ins (k : Kp H H') {b C dx : Addr} {fs : List (Str × V)} (e : H b = some (.ins C dx fs)) : H' b = some (.ins C dx fs) := k.at_ _ _ e fun _ z => nomatch z
theorem Kp.lst (k : Kp H H') {b : Addr} {xs : List V} (e : H b = some (.lst xs)) : H' b = some (.lst xs) := k.at_ _ _ e fun _ z => nomatch z
theorem Kp.tup (k : Kp H H') {b : Addr} {xs : List V} (e : H b = some (.tup xs)) : H' b = some (.tup xs) := k.at_ _ _ e fun _ z => nomatch z
theorem Kp.dT (k : Kp H H') {b : Addr} {kvs : List (Tk × V)} (e : H b = some (.dT kvs)) : H' b = some (.dT kvs) := k.at_ _ _ e fun _ z => nomatch z
theorem Kp.frz (k : Kp H H') {b : Addr} {o : Obj} {u : HO} (e : H b = some (.frz o u)) : H' b = some (.frz o u) := k.at_ _ _ e fun _ z => nomatch z
theorem Kp.seq {K : PySem.W.Frag} (k : Kp H H') {a : Addr} {xs : List V} (h : SqL K H a xs) : SqL K H' a xs := by
  rcases h with (h | ⟨o, h⟩) | h
  · exact .inl (.inl (k.lst h))
  · exact .inl (.inr ⟨o, k.frz h⟩)
  · exact .inr h
theorem Kp.free (k : Kp H H') {l : Addr} (h : H' l = none) : H l = none ∨ ∃ ps, H l = some (.tbl ps) := by
  cases q : H l with
  | none => exact .inl rfl
  | some o =>
    by_cases t : ∃ ps, o = .tbl ps
    · obtain ⟨ps, rfl⟩ := t
      exact .inr ⟨ps, rfl⟩
    · rw [k.at_ _ _ q fun ps z => t ⟨ps, z⟩] at h
      cases h
theorem Kr.kp {v : V} {x : Tk} (h : Kr H v x) (k : Kp H H') : Kr H' v x := by
  obtain ⟨t, rfl, h⟩ := h
  exact ⟨t, rfl, k.tup h⟩
theorem Krs.kp {vs : List V} {ks : List Tk} (h : Krs H vs ks) (k : Kp H H') : Krs H' vs ks := by
  induction h with
  | nil => exact .nil
  | cons a _ ih => exact .cons (a.kp k) ih
theorem Pr.kp {v : V} {p : Pl} (h : Pr H v p) (k : Kp H H') : Pr H' v p := by
  obtain ⟨t, rfl, h⟩ := h
  exact ⟨t, rfl, k.tup h⟩
theorem Prs.kp {vs : List V} {ps : List Pl} (h : Prs H vs ps) (k : Kp H H') : Prs H' vs ps := by
  induction h with
  | nil => exact .nil
  | cons a _ ih => exact .cons (a.kp k) ih
end
structure FunC (K : PySem.W.Frag) (x qual : Str) (st : Stmt) (f c : Addr) (fd : FuncData) : Prop where
  ex : ∃ (oc : Value) (od : Option Addr) (kV doc pm : Value) (an : Option Addr) (ct : Value) (osl : Array (Option Value)),
    fd = PySem.W.fnOf x qual (defArgs st) (defBody st) (defScope st) .none kV doc pm an (.ref c) ct ∧ K.lookup f = some ⟨oc, od, .func fd, osl⟩ ∧ PySem.W.codeIn K (.ref c) qual = true
  kp : PySem.W.keepIn K (.ref f) = true
section
variable {P : Program} {w : World} {K : PySem.W.Frag} {mg : Str → Option Value} {base : Heap}
theorem FunC.ok {x qual : Str} {st : Stmt} {f c : Addr} {fd : FuncData} {N ps : List Str} {k : Nat} {sp : Sp} (F : FunC K x qual st f c fd) (S : FnScope N ps (defScope st)) (len : ∀ vs H Q E, sp vs H Q E → vs.length = ps.length)
    (hbody : ∀ (A : Around) (outer : List Env) (s : Shared) (H : Hp) (vs : List V) (Q : VK) (E : XK), Room k (A.deeper (envOfC qual (defScope st) s.heap.objs.size f (.ref c))) → sp vs H Q E →
      ∃ t, PSs (cxOf CX0 P w K mg base N qual (defScope st) f (.ref c) A outer s H E).nox (defBody st) t ∧ t { nx := fun _ H' => Q .non H', rt := Q } (start N vs) H) : FnOk P w K mg base CX0 (k + 1) f fd ps sp := by
  obtain ⟨oc, od, kV, doc, pm, an, ct, osl, rfl, lk, hcd⟩ := F.ex
  refine fn_of lk hcd S len fun A outer s H vs Q E hr h => ?_
  obtain ⟨t, z, q⟩ := hbody A outer s H vs Q E hr h
  exact ⟨t, z.nox, q⟩
theorem FunC.okX {x qual : Str} {st : Stmt} {f c : Addr} {fd : FuncData} {N ps : List Str} {k : Nat} {sp : Sp} (F : FunC K x qual st f c fd) (S : FnScope N ps (defScope st)) (len : ∀ vs H Q E, sp vs H Q E → vs.length = ps.length)
    (hbody : ∀ (A : Around) (outer : List Env) (s : Shared) (H : Hp) (vs : List V) (Q : VK) (E : XK), Room k (A.deeper (envOfC qual (defScope st) s.heap.objs.size f (.ref c))) → sp vs H Q E →
      ∃ t, PSs (cxOf (L2.CX P w) P w K mg base N qual (defScope st) f (.ref c) A outer s H E) (defBody st) t ∧ t { nx := fun _ H' => Q .non H', rt := Q } (start N vs) H) : FnOk P w K mg base (L2.CX P w) (k + 1) f fd ps sp := by
  obtain ⟨oc, od, kV, doc, pm, an, ct, osl, rfl, lk, hcd⟩ := F.ex
  exact fn_of lk hcd S len fun A outer s H vs Q E hr h => hbody A outer s H vs Q E hr h
end
def gscC (outer sc : Scope) : Bool := (match sc.kind with | .function => true | _ => false) && !sc.isCoroutine && (match sc.names.lookup (".0" : Str) with | some .local => true | _ => false) &&
  (sc.names.all fun y => match y.2 with
    | .cell => false
    | .free => (match outer.names.lookup y.1 with | some .cell => true | _ => false)
    | _ => true)
theorem gsc_by {env : Env} {outer sc : Scope} (ho : env.scope = outer) (hc : env.cells = cellsFrom (env.locals + 1) env.scope.names []) (h : gscC outer sc = true) : GSc env sc := by
  subst ho
  unfold gscC at h
  simp only [Bool.and_eq_true, List.all_eq_true] at h
  obtain ⟨⟨⟨h1, h2⟩, h3⟩, h4⟩ := h
  refine ⟨?_, by simpa using h2, fun y hy e => ?_, ?_, fun y hy e => ?_⟩
  · split at h1
    · assumption
    · cases h1
  · have q := h4 y hy
    rw [e] at q
    cases q
  · split at h3
    · assumption
    · cases h3
  · have q := h4 y hy
    rw [e] at q
    have q2 : (match env.scope.names.lookup y.1 with | some .cell => true | _ => false) = true := q
    split at q2
    · rename_i z
      rw [hc]
      exact cell_has z
    · cases q2
def gfrC (XN : List Str) (outer sc : Scope) (N : List Str) (fr : List (Option Nat)) : Bool := decide (fr.length = N.length) && ((N.zip fr).all fun p => match p.2 with
  | none => true
  | some j => (match sc.names.lookup p.1 with | some .free => true | _ => false) && decide (XN[j]? = some p.1) && (match outer.names.lookup p.1 with | some .cell => true | _ => false))
theorem gfr_by {X : Cx} {outer sc : Scope} {XN N : List Str} {fr : List (Option Nat)} (ho : X.env.scope = outer) (hn : X.N = XN) (h : gfrC XN outer sc N fr = true) : GFr X sc N fr := by
  subst ho hn
  unfold gfrC at h
  simp only [Bool.and_eq_true, List.all_eq_true, decide_eq_true_eq] at h
  obtain ⟨h1, h2⟩ := h
  refine ⟨h1, fun i y j e1 e2 => ?_⟩
  have m : (y, some j) ∈ N.zip fr := by
    refine List.mem_of_getElem? (i := i) ?_
    rw [List.getElem?_zip_eq_some]
    exact ⟨e1, e2⟩
  have q := h2 _ m
  simp only [Bool.and_eq_true, decide_eq_true_eq] at q
  obtain ⟨⟨q1, q2⟩, q3⟩ := q
  refine ⟨?_, q2, .inl ?_⟩
  · split at q1
    · assumption
    · cases q1
  · split at q3
    · assumption
    · cases q3
end Pk
namespace Pk
open PySem L2 PySem.Spec PyProof.Rows
theorem dcT_list {K : PySem.W.Frag} {a : Addr} {xs : List V} {g : TG} {tk tv : TE} {vs : List Nat} {σ : L2.St} {H1 : Hp} {D : Addr} {Qd : Hp → Prop} (Pv : Nat → Hp → Prop) (h0 : Pv 0 (upd H1 D (.dT []))) (hl : ∀ i H, i ≤ xs.length → Pv i H → SqL K H a xs)
    (hs : ∀ i x H, xs[i]? = some x → Pv i H → g x (wipe σ vs) H fun σ2 H2 => wipe σ2 vs = wipe σ vs ∧ tk σ2 H2 fun y H4 => tv σ2 H4 fun z H5 =>
      ∃ b kvs k, y = .ref b ∧ H5 b = some (.tup (k.map kV)) ∧ H5 D = some (.dT kvs) ∧ kvs.length < sizeLine ∧ Pv (i + 1) (upd H5 D (.dT (putK kvs k z)))) (hd : ∀ H, Pv xs.length H → Qd H) :
    ∃ W : Nat → Nat → Hp → Prop, (∃ m, W 0 m (upd H1 D (.dT []))) ∧ ∀ i m H, W i m H →
      ((Itl K a).stop i H ∧ Qd H) ∨ ((Itl K a).go i H ∧ ∃ Nx : Hp → Prop, (∀ H', Nx H' → ∃ m', m' < m ∧ W (i + 1) m' H') ∧
        ∀ x H', (Itl K a).yld i H x H' → g x (wipe σ vs) H' fun σ2 H2 => wipe σ2 vs = wipe σ vs ∧ tk σ2 H2 fun y H4 => tv σ2 H4 fun z H5 =>
          ∃ b kvs k, y = .ref b ∧ H5 b = some (.tup (k.map kV)) ∧ H5 D = some (.dT kvs) ∧ kvs.length < sizeLine ∧ Nx (upd H5 D (.dT (putK kvs k z)))) := by
  refine ⟨fun i m H => m = xs.length - i ∧ i ≤ xs.length ∧ Pv i H, ⟨xs.length, by simp, Nat.zero_le _, h0⟩, fun i m H w => ?_⟩
  obtain ⟨rfl, le, p⟩ := w
  have q := hl i H le p
  by_cases lt : i < xs.length
  · refine .inr ⟨⟨xs, xs[i], q, List.getElem?_eq_getElem lt⟩, Pv (i + 1), fun H' p' => ⟨xs.length - (i + 1), by omega, rfl, lt, p'⟩, fun x H' y => ?_⟩
    obtain ⟨rfl, y⟩ := y
    exact hs i x _ (y xs q) p
  · obtain rfl : i = xs.length := by omega
    exact .inl ⟨⟨xs, q, Nat.le_refl _⟩, hd H p⟩
theorem snoc_ind {α : Type} {P : List α → Prop} (h0 : P []) (h1 : ∀ l x, P l → P (l ++ [x])) (l : List α) : P l := by
  rw [← List.reverse_reverse l]
  induction l.reverse with
  | nil => exact h0
  | cons x r ih =>
    rw [List.reverse_cons]
    exact h1 _ _ ih
/-- laid one after another -/
def ded (ks : List Tk) : List (Tk × V) := ks.foldl (fun kvs k => putK kvs k (.bl true)) []
theorem ded_snoc (ks : List Tk) (k : Tk) : ded (ks ++ [k]) = putK (ded ks) k (.bl true) := by
  unfold ded
  rw [List.foldl_append]
  rfl
theorem ded_mem : ∀ (ks : List Tk) (k : Tk), (valV (ded ks) k).isSome = decide (k ∈ ks) := by
  intro ks
  refine snoc_ind (P := fun ks : List Tk => ∀ k : Tk, (valV (ded ks) k).isSome = decide (k ∈ ks)) (fun k => by simp [ded, valV_nil]) (fun ks x ih k => ?_) ks
  rw [ded_snoc, valV_put]
  by_cases h : k = x
  · subst h
    simp
  · rw [if_neg h, ih k]
    simp [h]
theorem ded_le (ks : List Tk) : (ded ks).length ≤ ks.length := by
  refine snoc_ind (P := fun ks : List Tk => (ded ks).length ≤ ks.length) (Nat.le_refl _) (fun ks x ih => ?_) ks
  rw [ded_snoc, List.length_append]
  have q := length_putK (ded ks) x (.bl true)
  show _ ≤ ks.length + 1
  omega
theorem putK_old {kvs : List (Tk × V)} {k : Tk} (v : V) (h : (valV kvs k).isSome = true) : (putK kvs k v).length = kvs.length := by
  unfold putK
  rw [if_pos (by rw [valV_any]; exact h), List.length_map]
theorem ded_eq (ks : List Tk) : (ks.Nodup → ded ks = ks.map fun k => (k, V.bl true)) ∧ (¬ ks.Nodup → (ded ks).length < ks.length) := by
  refine snoc_ind (P := fun ks : List Tk => (ks.Nodup → ded ks = ks.map fun k => (k, V.bl true)) ∧ (¬ ks.Nodup → (ded ks).length < ks.length)) ⟨fun _ => rfl, fun h => (h .nil).elim⟩ (fun ks x ih => ?_) ks
  obtain ⟨ih1, ih2⟩ := ih
  have le := ded_le ks
  by_cases hx : x ∈ ks
  · have hv : (valV (ded ks) x).isSome = true := by rw [ded_mem]; exact decide_eq_true hx
    refine ⟨fun h => ?_, fun _ => ?_⟩
    · have z := (List.nodup_append.mp h).2.2 x hx x (by simp)
      exact (z rfl).elim
    · rw [ded_snoc, putK_old _ hv, List.length_append]
      show _ < ks.length + 1
      omega
  · have hv : valV (ded ks) x = none := by
      have q := ded_mem ks x
      rw [decide_eq_false hx] at q
      cases e : valV (ded ks) x with
      | none => rfl
      | some y => rw [e] at q; cases q
    have step : ded (ks ++ [x]) = ded ks ++ [(x, .bl true)] := by rw [ded_snoc, putK_new _ hv]
    refine ⟨fun h => ?_, fun h => ?_⟩
    · rw [step, ih1 (List.nodup_append.mp h).1, List.map_append]
      rfl
    · have hn : ¬ ks.Nodup := fun z => h (List.nodup_append.mpr ⟨z, by simp, fun y hy y' hy' e => by
        rw [List.mem_singleton.mp hy'] at e
        rw [e] at hy
        exact hx hy⟩)
      have q := ih2 hn
      rw [step, List.length_append, List.length_append]
      show (ded ks).length + 1 < ks.length + 1
      omega
end Pk
namespace Pk
open PySem L2 PySem.Spec PyProof.Rows GxR NdefX
/-- a relation of a value in a heap, kept as heaps grow -/
structure Rel where
  p : Hp → V → Prop
  mn : ∀ {H H' : Hp} {v : V}, Kp H H' → p H v → p H' v
/-- what an object that is being changed is -/
structure Own where
  p : Hp → HO → Prop
  mn : ∀ {H H' : Hp} {o : HO}, Kp H H' → p H o → p H' o
  ok : ∀ {H : Hp} {o : HO}, p H o → Mut (some o)
inductive Slot where
  | any
  | fz (R : Rel)
  | own (C : Own)
/-- where one stands: the heap at the start, facts of the heap, what is hidden, the slots -/
structure Ct where
  hs : Hp
  h0 : Hp
  om : Addr → Prop
  g : List Slot
abbrev Ct.set (c : Ct) (i : Nat) (s : Slot) : Ct := { c with g := c.g.set i s }
abbrev Ct.at (c : Ct) (g : List Slot) : Ct := { c with g := g }
def isOwn (g : List Slot) (σ : L2.St) (a : Addr) : Prop := ∃ (i : Nat) (C : Own), g[i]? = some (.own C) ∧ σ[i]? = some (some (.ref a))
open Classical in
/-- the heap without these -/
noncomputable def less (H : Hp) (M : Addr → Prop) : Hp := fun a => if M a then none else H a
noncomputable abbrev bas (c : Ct) (σ : L2.St) (H : Hp) : Hp := less H fun a => isOwn c.g σ a ∨ c.om a
theorem less_in {H : Hp} {M : Addr → Prop} {a : Addr} (h : M a) : less H M a = none := if_pos h
theorem less_out {H : Hp} {M : Addr → Prop} {a : Addr} (h : ¬ M a) : less H M a = H a := if_neg h
theorem less_some {H : Hp} {M : Addr → Prop} {a : Addr} {o : HO} (e : less H M a = some o) : ¬ M a ∧ H a = some o := by
  by_cases h : M a
  · rw [less_in h] at e
    cases e
  · rw [less_out h] at e
    exact ⟨h, e⟩
theorem bas_in {c : Ct} {σ : L2.St} {H : Hp} {a : Addr} (h : isOwn c.g σ a ∨ c.om a) : bas c σ H a = none := if_pos h
theorem bas_out {c : Ct} {σ : L2.St} {H : Hp} {a : Addr} (h : ¬ (isOwn c.g σ a ∨ c.om a)) : bas c σ H a = H a := if_neg h
theorem kp_of {H H' : Hp} (h : ∀ b o, H b = some o → H' b = some o) : Kp H H' := kpS h
theorem kp_less {H : Hp} {M : Addr → Prop} : Kp (less H M) H := kp_of fun b o e => (less_some e).2
theorem less_kp {H H' : Hp} {M : Addr → Prop} (k : Kp H H') : Kp (less H M) (less H' M) := by
  refine ⟨fun b o e n => ?_, fun P ⟨ps, e, t⟩ => ?_⟩
  · obtain ⟨h, e⟩ := less_some e
    rw [less_out h]
    exact k.at_ b o e n
  · obtain ⟨h, e⟩ := less_some e
    obtain ⟨qs, e', t'⟩ := k.tab P ⟨ps, e, t⟩
    exact ⟨qs, by rw [less_out h]; exact e', t'⟩
/-- less is hidden: more stands -/
theorem less_mono {H : Hp} {M M' : Addr → Prop} (h : ∀ a, M' a → M a) : Kp (less H M) (less H M') := kp_of fun b o e => by
  obtain ⟨n, e⟩ := less_some e
  rw [less_out fun z => n (h b z)]
  exact e
theorem kp_new {H : Hp} {p : Addr} {o : HO} (n : H p = none) : Kp H (upd H p o) := kp_of fun b u e => by
  rw [upd_ne (ne_of_none e n)]
  exact e
/-- new behind the heap at the start -/
def Fre (hs : Hp) (p : Addr) : Prop := (∀ o, hs p = some o → ∃ ps, o = .tbl ps) ∧ ¬ TabG hs p
theorem Fre.of {hs H : Hp} {p : Addr} (k : Kp hs H) (n : H p = none) : Fre hs p := by
  refine ⟨fun o e => ?_, fun t => ?_⟩
  · by_cases z : ∃ ps, o = .tbl ps
    · exact z
    · have := k.at_ p o e fun ps q => z ⟨ps, q⟩
      rw [n] at this
      cases this
  · obtain ⟨ps, e, _⟩ := k.tab p t
    rw [n] at e
    cases e
theorem Fre.upd {hs H : Hp} {p : Addr} {o : HO} (f : Fre hs p) (k : Kp hs H) : Kp hs (upd H p o) := by
  refine ⟨fun b u e n => ?_, fun P t => ?_⟩
  · have hb : b ≠ p := fun z => by
      subst z
      obtain ⟨ps, z⟩ := f.1 u e
      exact n ps z
    rw [upd_ne hb]
    exact k.at_ b u e n
  · have hb : P ≠ p := fun z => by
      subst z
      exact f.2 t
    obtain ⟨qs, e, t'⟩ := k.tab P t
    exact ⟨qs, by rw [upd_ne hb]; exact e, t'⟩
/-- the slots hold what they should -/
structure Sta (c : Ct) (σ : L2.St) (H : Hp) : Prop where
  len : σ.length = c.g.length
  fz : ∀ (i : Nat) (R : Rel), c.g[i]? = some (.fz R) → ∃ v, σ[i]? = some (some v) ∧ R.p (bas c σ H) v
  own : ∀ (i : Nat) (C : Own), c.g[i]? = some (.own C) → ∃ p o, σ[i]? = some (some (.ref p)) ∧ H p = some o ∧ C.p (bas c σ H) o ∧ Fre c.hs p ∧ ¬ c.om p
  ne : ∀ (i j : Nat) (C C' : Own) (p : Addr), c.g[i]? = some (.own C) → c.g[j]? = some (.own C') → σ[i]? = some (some (.ref p)) → σ[j]? = some (some (.ref p)) → i = j
  k0 : Kp c.h0 (bas c σ H)
  ks : Kp c.hs H
  hid : ∀ a, c.om a → ∃ o, H a = some o ∧ Mut (some o)
theorem notTbl {o : HO} (h : Mut (some o)) : ∀ ps, o ≠ .tbl ps := fun ps e => by
  subst e
  exact h
/-- a heap that grows -/
theorem Sta.kp {c : Ct} {σ : L2.St} {H H' : Hp} (h : Sta c σ H) (k : Kp H H') : Sta c σ H' := by
  have kb : Kp (bas c σ H) (bas c σ H') := less_kp k
  refine ⟨h.len, fun i R e => ?_, fun i C e => ?_, h.ne, h.k0.trans kb, h.ks.trans k, fun a z => ?_⟩
  · obtain ⟨v, e1, e2⟩ := h.fz i R e
    exact ⟨v, e1, R.mn kb e2⟩
  · obtain ⟨p, o, e1, e2, e3, e4, e5⟩ := h.own i C e
    exact ⟨p, o, e1, k.at_ p o e2 (notTbl (C.ok e3)), C.mn kb e3, e4, e5⟩
  · obtain ⟨o, e, m⟩ := h.hid a z
    exact ⟨o, k.at_ a o e (notTbl m), m⟩
theorem Sta.kb {c : Ct} {σ : L2.St} {H H' : Hp} (h : Sta c σ H) (k : Kp H H') : Kp (bas c σ H) (bas c σ H') := less_kp k
/-- what is new is not hidden -/
theorem Sta.free {c : Ct} {σ : L2.St} {H : Hp} (h : Sta c σ H) {p : Addr} (n : H p = none) : ¬ (isOwn c.g σ p ∨ c.om p) := by
  rintro (⟨i, C, e1, e2⟩ | z)
  · obtain ⟨q, o, e3, e4, _⟩ := h.own i C e1
    rw [e2] at e3
    cases e3
    rw [n] at e4
    cases e4
  · obtain ⟨o, e, _⟩ := h.hid p z
    rw [n] at e
    cases e
theorem getset {α : Type} {l : List α} {i j : Nat} {a b : α} (h : (l.set i a)[j]? = some b) : (j = i ∧ b = a) ∨ (j ≠ i ∧ l[j]? = some b) := by
  by_cases e : i = j
  · subst e
    left
    rw [List.getElem?_set] at h
    simp only [if_pos rfl, ite_true] at h
    split at h
    · cases h
      exact ⟨rfl, rfl⟩
    · cases h
  · right
    rw [List.getElem?_set_ne e] at h
    exact ⟨fun z => e z.symm, h⟩
theorem setget {α : Type} {l : List α} {i : Nat} {a : α} (h : i < l.length) : (l.set i a)[i]? = some a := by
  rw [List.getElem?_set]
  simp [h]
/-- a name holds a value that stays -/
theorem Sta.set {c : Ct} {σ : L2.St} {H : Hp} (h : Sta c σ H) {i : Nat} {R : Rel} {v : V} (hi : i < c.g.length) (hv : R.p (bas c σ H) v) :
    Sta (c.set i (.fz R)) (σ.set i (some v)) H ∧ Kp (bas c σ H) (bas (c.set i (.fz R)) (σ.set i (some v)) H) := by
  have back : ∀ {j : Nat} {C : Own}, (c.g.set i (.fz R))[j]? = some (.own C) → j ≠ i ∧ c.g[j]? = some (.own C) := fun {j C} e => by
    rcases getset e with ⟨_, z⟩ | z
    · cases z
    · exact z
  have kb : Kp (bas c σ H) (bas (c.set i (.fz R)) (σ.set i (some v)) H) := less_mono fun a => by
    rintro (⟨j, C, e1, e2⟩ | z)
    · obtain ⟨n, e1⟩ := back e1
      rw [List.getElem?_set_ne fun z => n z.symm] at e2
      exact .inl ⟨j, C, e1, e2⟩
    · exact .inr z
  refine ⟨⟨by rw [List.length_set, List.length_set]; exact h.len, fun j S e => ?_, fun j C e => ?_, fun j k C C' p e1 e2 e3 e4 => ?_, h.k0.trans kb, h.ks, h.hid⟩, kb⟩
  · rcases getset e with ⟨rfl, z⟩ | ⟨n, z⟩
    · cases z
      exact ⟨v, setget (by rw [h.len]; exact hi), R.mn kb hv⟩
    · obtain ⟨u, e1, e2⟩ := h.fz j S z
      exact ⟨u, by rw [List.getElem?_set_ne fun z => n z.symm]; exact e1, S.mn kb e2⟩
  · obtain ⟨n, z⟩ := back e
    obtain ⟨p, o, e1, e2, e3, e4, e5⟩ := h.own j C z
    exact ⟨p, o, by rw [List.getElem?_set_ne fun z => n z.symm]; exact e1, e2, C.mn kb e3, e4, e5⟩
  · obtain ⟨n1, e1⟩ := back e1
    obtain ⟨n2, e2⟩ := back e2
    rw [List.getElem?_set_ne fun z => n1 z.symm] at e3
    rw [List.getElem?_set_ne fun z => n2 z.symm] at e4
    exact h.ne j k C C' p e1 e2 e3 e4
/-- a slot of which nothing more is said -/
theorem Sta.drop {c : Ct} {σ : L2.St} {H : Hp} (h : Sta c σ H) (i : Nat) (o : Option V) : Sta (c.set i .any) (σ.set i o) H ∧ Kp (bas c σ H) (bas (c.set i .any) (σ.set i o) H) := by
  have back : ∀ {j : Nat} {s : Slot}, s ≠ .any → (c.g.set i .any)[j]? = some s → j ≠ i ∧ c.g[j]? = some s := fun {j s} ns e => by
    rcases getset e with ⟨_, z⟩ | z
    · exact absurd z ns
    · exact z
  have kb : Kp (bas c σ H) (bas (c.set i .any) (σ.set i o) H) := less_mono fun a => by
    rintro (⟨j, C, e1, e2⟩ | z)
    · obtain ⟨n, e1⟩ := back (by intro z; cases z) e1
      rw [List.getElem?_set_ne fun z => n z.symm] at e2
      exact .inl ⟨j, C, e1, e2⟩
    · exact .inr z
  refine ⟨⟨by rw [List.length_set, List.length_set]; exact h.len, fun j S e => ?_, fun j C e => ?_, fun j k C C' p e1 e2 e3 e4 => ?_, h.k0.trans kb, h.ks, h.hid⟩, kb⟩
  · obtain ⟨n, z⟩ := back (by intro z; cases z) e
    obtain ⟨u, e1, e2⟩ := h.fz j S z
    exact ⟨u, by rw [List.getElem?_set_ne fun z => n z.symm]; exact e1, S.mn kb e2⟩
  · obtain ⟨n, z⟩ := back (by intro z; cases z) e
    obtain ⟨p, u, e1, e2, e3, e4, e5⟩ := h.own j C z
    exact ⟨p, u, by rw [List.getElem?_set_ne fun z => n z.symm]; exact e1, e2, C.mn kb e3, e4, e5⟩
  · obtain ⟨n1, e1⟩ := back (by intro z; cases z) e1
    obtain ⟨n2, e2⟩ := back (by intro z; cases z) e2
    rw [List.getElem?_set_ne fun z => n1 z.symm] at e3
    rw [List.getElem?_set_ne fun z => n2 z.symm] at e4
    exact h.ne j k C C' p e1 e2 e3 e4
theorem setsame {α : Type} {l : List α} {i : Nat} {a : α} (h : l[i]? = some a) : l.set i a = l := by
  refine List.ext_getElem? fun j => ?_
  by_cases e : i = j
  · subst e
    obtain ⟨hi, _⟩ := List.getElem?_eq_some_iff.mp h
    rw [setget hi, h]
  · rw [List.getElem?_set_ne e]
/-- the slot of a name, weakened -/
theorem Sta.weak {c : Ct} {σ : L2.St} {H : Hp} (h : Sta c σ H) {i : Nat} {R S : Rel} (e : c.g[i]? = some (.fz R)) (k : ∀ H v, R.p H v → S.p H v) : Sta (c.set i (.fz S)) σ H := by
  obtain ⟨v, e1, e2⟩ := h.fz i R e
  have hi : i < c.g.length := (List.getElem?_eq_some_iff.mp e).1
  have := (h.set (R := S) hi (k _ _ e2)).1
  rw [setsame e1] at this
  exact this
/-- a name holds a new object that is going to be changed -/
theorem Sta.new {c : Ct} {σ : L2.St} {H : Hp} (h : Sta c σ H) {i : Nat} {C : Own} {p : Addr} {o : HO} (hi : i < c.g.length) (n : H p = none) (hv : C.p (bas c σ H) o) :
    Sta (c.set i (.own C)) (σ.set i (some (.ref p))) (upd H p o) ∧ Kp (bas c σ H) (bas (c.set i (.own C)) (σ.set i (some (.ref p))) (upd H p o)) := by
  have hf := h.free n
  have kb : Kp (bas c σ H) (bas (c.set i (.own C)) (σ.set i (some (.ref p))) (upd H p o)) := kp_of fun b u e => by
    obtain ⟨nb, e⟩ := less_some e
    have bp : b ≠ p := ne_of_none e n
    rw [bas_out, upd_ne bp]
    · exact e
    · rintro (⟨j, C', e1, e2⟩ | z)
      · by_cases ji : j = i
        · subst ji
          rw [setget (by rw [h.len]; exact hi)] at e2
          cases e2
          exact bp rfl
        · rcases getset e1 with ⟨z, _⟩ | ⟨_, z⟩
          · exact ji z
          · rw [List.getElem?_set_ne fun z => ji z.symm] at e2
            exact nb (.inl ⟨j, C', z, e2⟩)
      · exact nb (.inr z)
  have old : ∀ {j : Nat} {C' : Own} {q : Addr}, c.g[j]? = some (.own C') → σ[j]? = some (some (.ref q)) → q ≠ p := fun {j C' q} e1 e2 z => hf (.inl ⟨j, C', e1, by rw [← z]; exact e2⟩)
  refine ⟨⟨by rw [List.length_set, List.length_set]; exact h.len, fun j S e => ?_, fun j C' e => ?_, fun j k C1 C2 q e1 e2 e3 e4 => ?_, h.k0.trans kb, h.ks.trans (kp_new n), fun a z => ?_⟩, kb⟩
  · rcases getset e with ⟨_, z⟩ | ⟨nj, z⟩
    · cases z
    · obtain ⟨u, e1, e2⟩ := h.fz j S z
      exact ⟨u, by rw [List.getElem?_set_ne fun z => nj z.symm]; exact e1, S.mn kb e2⟩
  · rcases getset e with ⟨rfl, z⟩ | ⟨nj, z⟩
    · cases z
      exact ⟨p, o, setget (by rw [h.len]; exact hi), upd_same, C.mn kb hv, .of h.ks n, fun z => hf (.inr z)⟩
    · obtain ⟨q, u, e1, e2, e3, e4, e5⟩ := h.own j C' z
      exact ⟨q, u, by rw [List.getElem?_set_ne fun z => nj z.symm]; exact e1, by rw [upd_ne (old z e1)]; exact e2, C'.mn kb e3, e4, e5⟩
  · rcases getset e1 with ⟨rfl, z⟩ | ⟨nj, z⟩ <;> rcases getset e2 with ⟨rfl, y⟩ | ⟨nk, y⟩
    · rfl
    · rw [setget (by rw [h.len]; exact hi)] at e3
      cases e3
      rw [List.getElem?_set_ne fun z => nk z.symm] at e4
      exact absurd rfl (old y e4)
    · rw [setget (by rw [h.len]; exact hi)] at e4
      cases e4
      rw [List.getElem?_set_ne fun z => nj z.symm] at e3
      exact absurd rfl (old z e3)
    · rw [List.getElem?_set_ne fun z => nj z.symm] at e3
      rw [List.getElem?_set_ne fun z => nk z.symm] at e4
      exact h.ne j k C1 C2 q z y e3 e4
  · obtain ⟨u, e, m⟩ := h.hid a z
    exact ⟨u, by rw [upd_ne (ne_of_none e n)]; exact e, m⟩
/-- the object at a name is changed -/
theorem Sta.mut {c : Ct} {σ : L2.St} {H : Hp} (h : Sta c σ H) {i : Nat} {C C' : Own} {p : Addr} {o : HO} (e : c.g[i]? = some (.own C)) (es : σ[i]? = some (some (.ref p))) (hv : C'.p (bas c σ H) o) :
    Sta (c.set i (.own C')) σ (upd H p o) ∧ bas (c.set i (.own C')) σ (upd H p o) = bas c σ H := by
  have hi : i < c.g.length := (List.getElem?_eq_some_iff.mp e).1
  obtain ⟨p', o0, e1, e2, e3, e4, e5⟩ := h.own i C e
  rw [es] at e1
  cases e1
  have own' : ∀ a, isOwn (c.g.set i (.own C')) σ a ↔ isOwn c.g σ a := fun a => by
    constructor
    · rintro ⟨j, C1, q1, q2⟩
      rcases getset q1 with ⟨rfl, z⟩ | ⟨_, z⟩
      · exact ⟨j, C, e, q2⟩
      · exact ⟨j, C1, z, q2⟩
    · rintro ⟨j, C1, q1, q2⟩
      by_cases ji : j = i
      · subst ji
        exact ⟨j, C', setget hi, q2⟩
      · exact ⟨j, C1, by rw [List.getElem?_set_ne fun z => ji z.symm]; exact q1, q2⟩
  have hp : isOwn c.g σ p := ⟨i, C, e, es⟩
  have eb : bas (c.set i (.own C')) σ (upd H p o) = bas c σ H := by
    funext a
    by_cases m : isOwn c.g σ a ∨ c.om a
    · rw [bas_in m]
      exact bas_in (c := c.set i (.own C')) (m.elim (fun z => .inl ((own' a).mpr z)) .inr)
    · rw [bas_out m]
      refine (bas_out (c := c.set i (.own C')) fun z => m (z.elim (fun y => .inl ((own' a).mp y)) .inr)).trans (upd_ne ?_)
      intro z
      subst z
      exact m (.inl hp)
  refine ⟨⟨by show _ = (c.g.set i (.own C')).length; rw [List.length_set]; exact h.len, fun j S q => ?_, fun j C1 q => ?_, fun j k C1 C2 q q1 q2 q3 q4 => ?_, by rw [eb]; exact h.k0, e4.upd h.ks, fun a z => ?_⟩, eb⟩
  · rcases getset q with ⟨_, z⟩ | ⟨_, z⟩
    · cases z
    · obtain ⟨u, q1, q2⟩ := h.fz j S z
      exact ⟨u, q1, by rw [eb]; exact q2⟩
  · rcases getset q with ⟨rfl, z⟩ | ⟨nj, z⟩
    · cases z
      exact ⟨p, o, es, upd_same, by rw [eb]; exact hv, e4, e5⟩
    · obtain ⟨q, u, q1, q2, q3, q4, q5⟩ := h.own j C1 z
      refine ⟨q, u, q1, ?_, by rw [eb]; exact q3, q4, q5⟩
      rw [upd_ne fun y => ?_]
      · exact q2
      · subst y
        exact nj (h.ne j i C1 C q z e q1 es)
  · have f : ∀ {j : Nat} {D : Own}, (c.g.set i (.own C'))[j]? = some (.own D) → ∃ D', c.g[j]? = some (.own D') := fun {j D} y => by
      rcases getset y with ⟨rfl, _⟩ | ⟨_, z⟩
      · exact ⟨C, e⟩
      · exact ⟨D, z⟩
    obtain ⟨D1, y1⟩ := f q1
    obtain ⟨D2, y2⟩ := f q2
    exact h.ne j k D1 D2 q y1 y2 q3 q4
  · obtain ⟨u, y, m⟩ := h.hid a z
    refine ⟨u, ?_, m⟩
    rw [upd_ne fun x => ?_]
    · exact y
    · subst x
      exact e5 z
/-- what was changed now stays -/
theorem Sta.fix {c : Ct} {σ : L2.St} {H : Hp} (h : Sta c σ H) {i : Nat} {C : Own} {R : Rel} (e : c.g[i]? = some (.own C)) (k : ∀ B p o, B p = some o → C.p B o → R.p B (.ref p)) :
    Sta (c.set i (.fz R)) σ H ∧ Kp (bas c σ H) (bas (c.set i (.fz R)) σ H) := by
  have hi : i < c.g.length := (List.getElem?_eq_some_iff.mp e).1
  obtain ⟨p, o, e1, e2, e3, e4, e5⟩ := h.own i C e
  have back : ∀ {j : Nat} {C' : Own}, (c.g.set i (.fz R))[j]? = some (.own C') → j ≠ i ∧ c.g[j]? = some (.own C') := fun {j C'} e => by
    rcases getset e with ⟨_, z⟩ | z
    · cases z
    · exact z
  have kb : Kp (bas c σ H) (bas (c.set i (.fz R)) σ H) := less_mono fun a => by
    rintro (⟨j, C', q1, q2⟩ | z)
    · exact .inl ⟨j, C', (back q1).2, q2⟩
    · exact .inr z
  have hb : bas (c.set i (.fz R)) σ H p = some o := by
    rw [bas_out]
    · exact e2
    · rintro (⟨j, C', q1, q2⟩ | z)
      · obtain ⟨n, q1⟩ := back q1
        exact n (h.ne j i C' C p q1 e q2 e1)
      · exact e5 z
  refine ⟨⟨by show _ = (c.g.set i (.fz R)).length; rw [List.length_set]; exact h.len, fun j S q => ?_, fun j C1 q => ?_, fun j k C1 C2 q q1 q2 q3 q4 => h.ne j k C1 C2 q (back q1).2 (back q2).2 q3 q4, h.k0.trans kb, h.ks, h.hid⟩, kb⟩
  · rcases getset q with ⟨rfl, z⟩ | ⟨_, z⟩
    · cases z
      exact ⟨.ref p, e1, k _ _ _ hb (C.mn kb e3)⟩
    · obtain ⟨u, q1, q2⟩ := h.fz j S z
      exact ⟨u, q1, S.mn kb q2⟩
  · obtain ⟨q, u, q1, q2, q3, q4, q5⟩ := h.own j C1 (back q).2
    exact ⟨q, u, q1, q2, C1.mn kb q3, q4, q5⟩
/-- more is known of the heap -/
theorem Sta.h0 {c : Ct} {σ : L2.St} {H : Hp} (h : Sta c σ H) {h1 : Hp} (k : Kp h1 (bas c σ H)) : Sta { c with h0 := h1 } σ H := ⟨h.len, h.fz, h.own, h.ne, k, h.ks, h.hid⟩
end Pk
namespace Pk
open PySem L2 PySem.Spec PyProof.Rows GxR NdefX
mutual
inductive Dt (H : Hp) : V → PyData → Prop
  | non : Dt H .non .none
  | bl (b : Bool) : Dt H (.bl b) (.bool b)
  | int (i : Int) : Dt H (.int i) (.int i)
  | str (x : Str) : Dt H (.str x) (.str x)
  | lst {a : Addr} {xs : List V} {ds : List PyData} : H a = some (.lst xs) → DtAll H xs ds → Dt H (.ref a) (.list ds)
  | tup {a : Addr} {xs : List V} {ds : List PyData} : H a = some (.tup xs) → DtAll H xs ds → Dt H (.ref a) (.tuple ds)
  | dT {a : Addr} {kvs : List (Tk × V)} {ds : List (PyData × PyData)} : H a = some (.dT kvs) → DtKv H dK kvs ds → Dt H (.ref a) (.dict ds)
  | dK {a : Addr} {kvs : List (L2.Key × V)} {ds : List (PyData × PyData)} : H a = some (.dK kvs) → DtKk H kvs ds → Dt H (.ref a) (.dict ds)
inductive DtAll (H : Hp) : List V → List PyData → Prop
  | nil : DtAll H [] []
  | cons {v : V} {vs : List V} {d : PyData} {ds : List PyData} : Dt H v d → DtAll H vs ds → DtAll H (v :: vs) (d :: ds)
inductive DtKv (H : Hp) : (Tk → PyData) → List (Tk × V) → List (PyData × PyData) → Prop
  | nil {f : Tk → PyData} : DtKv H f [] []
  | cons {f : Tk → PyData} {k : Tk} {v : V} {vs : List (Tk × V)} {d : PyData} {ds : List (PyData × PyData)} : Dt H v d → DtKv H f vs ds → DtKv H f ((k, v) :: vs) ((f k, d) :: ds)
inductive DtKk (H : Hp) : List (L2.Key × V) → List (PyData × PyData) → Prop
  | nil : DtKk H [] []
  | cons {k : L2.Key} {v : V} {vs : List (L2.Key × V)} {d : PyData} {ds : List (PyData × PyData)} : Dt H v d → DtKk H vs ds → DtKk H ((k, v) :: vs) ((kd k, d) :: ds)
end
section
variable {H H' : Hp}
mutual
theorem Dt.kp (k : Kp H H') : ∀ {v : V} {d : PyData}, Dt H v d → Dt H' v d
  | _, _, .non => .non
  | _, _, .bl b => .bl b
  | _, _, .int i => .int i
  | _, _, .str x => .str x
  | _, _, .lst e a => .lst (k.lst e) (DtAll.kp k a)
  | _, _, .tup e a => .tup (k.tup e) (DtAll.kp k a)
  | _, _, .dT e a => .dT (k.dT e) (DtKv.kp k a)
  | _, _, .dK e a => .dK (k.at_ _ _ e fun _ z => nomatch z) (DtKk.kp k a)
theorem DtAll.kp (k : Kp H H') : ∀ {vs : List V} {ds : List PyData}, DtAll H vs ds → DtAll H' vs ds
  | _, _, .nil => .nil
  | _, _, .cons a b => .cons (Dt.kp k a) (DtAll.kp k b)
theorem DtKv.kp (k : Kp H H') : ∀ {f : Tk → PyData} {vs : List (Tk × V)} {ds : List (PyData × PyData)}, DtKv H f vs ds → DtKv H' f vs ds
  | _, _, _, .nil => .nil
  | _, _, _, .cons a b => .cons (Dt.kp k a) (DtKv.kp k b)
theorem DtKk.kp (k : Kp H H') : ∀ {vs : List (L2.Key × V)} {ds : List (PyData × PyData)}, DtKk H vs ds → DtKk H' vs ds
  | _, _, .nil => .nil
  | _, _, .cons a b => .cons (Dt.kp k a) (DtKk.kp k b)
end
end
mutual
/-- data without lists and dicts -/
def flat : PyData → Bool
  | .list _ => false
  | .dict _ => false
  | .tuple ds => flats ds
  | _ => true
def flats : List PyData → Bool
  | [] => true
  | d :: ds => flat d && flats ds
end
section
variable {H : Hp} {M : Addr → Prop} (hM : ∀ a, M a → ∃ o, H a = some o ∧ Mut (some o))
include hM
mutual
theorem Dt.less : ∀ {v : V} {d : PyData}, Dt H v d → flat d = true → Dt (less H M) v d
  | _, _, .non, _ => .non
  | _, _, .bl b, _ => .bl b
  | _, _, .int i, _ => .int i
  | _, _, .str x, _ => .str x
  | _, _, .lst _ _, h => by cases h
  | _, _, .dT _ _, h => by cases h
  | _, _, .dK _ _, h => by cases h
  | _, .tuple ds, .tup (a := a) e q, h => by
    refine .tup ?_ (DtAll.less q h)
    rw [less_out]
    · exact e
    · intro z
      obtain ⟨o, e1, e2⟩ := hM a z
      rw [e] at e1
      cases e1
      exact e2
theorem DtAll.less : ∀ {vs : List V} {ds : List PyData}, DtAll H vs ds → flats ds = true → DtAll (less H M) vs ds
  | _, _, .nil, _ => .nil
  | _, d :: ds, .cons a b, h => by
    have h' : (flat d && flats ds) = true := h
    rw [Bool.and_eq_true] at h'
    exact .cons (Dt.less a h'.1) (DtAll.less b h'.2)
end
end
section
variable {H : Hp} {K : PySem.W.Frag}
mutual
/-- no dict within -/
def nod : PyData → Bool
  | .dict _ => false
  | .tuple ds => nods ds
  | .list ds => nods ds
  | _ => true
def nods : List PyData → Bool
  | [] => true
  | d :: ds => nod d && nods ds
end
mutual
theorem Dt.dp : ∀ {v : V} {d : PyData}, Dt H v d → nod d = true → Dp K H v d
  | _, _, .non, _ => .non
  | _, _, .bl b, _ => .bl b
  | _, _, .int i, _ => .int i
  | _, _, .str x, _ => .str x
  | _, .list ds, .lst e q, h => .lst (SqL.of e) (DtAll.dp q h)
  | _, _, .dT _ _, h => by cases h
  | _, _, .dK _ _, h => by cases h
  | _, .tuple ds, .tup (a := a) e q, h => .tup (SqT.of e) (DtAll.dp q h)
theorem DtAll.dp : ∀ {vs : List V} {ds : List PyData}, DtAll H vs ds → nods ds = true → DpAll K H vs ds
  | _, _, .nil, _ => .nil
  | _, d :: ds, .cons a b, h => by
    have h' : (nod d && nods ds) = true := h
    rw [Bool.and_eq_true] at h'
    exact .cons (Dt.dp a h'.1) (DtAll.dp b h'.2)
end
theorem DtAll.len : ∀ {vs : List V} {ds : List PyData}, DtAll H vs ds → vs.length = ds.length
  | _, _, .nil => rfl
  | _, _, .cons _ b => congrArg (· + 1) b.len
theorem DtAll.app : ∀ {vs us : List V} {ds es : List PyData}, DtAll H vs ds → DtAll H us es → DtAll H (vs ++ us) (ds ++ es)
  | _, _, _, _, .nil, h => h
  | _, _, _, _, .cons a b, h => .cons a (b.app h)
theorem DtAll.at {vs : List V} {ds : List PyData} (h : DtAll H vs ds) : ∀ {i : Nat} {d : PyData}, ds[i]? = some d → ∃ v, vs[i]? = some v ∧ Dt H v d := by
  induction vs generalizing ds with
  | nil => cases h; intro i d e; cases e
  | cons v vs ih =>
    cases h with
    | cons a b =>
      intro i d e
      cases i with
      | zero => cases e; exact ⟨_, rfl, a⟩
      | succ i => exact ih b e
theorem DtAll.at' {vs : List V} {ds : List PyData} (h : DtAll H vs ds) : ∀ {i : Nat} {v : V}, vs[i]? = some v → ∃ d, ds[i]? = some d ∧ Dt H v d := by
  induction vs generalizing ds with
  | nil => intro i d e; cases e
  | cons v vs ih =>
    cases h with
    | cons a b =>
      intro i d e
      cases i with
      | zero => cases e; exact ⟨_, rfl, a⟩
      | succ i => exact ih b e
theorem DtAll.atI {vs : List V} {ds : List PyData} (h : DtAll H vs ds) {i : Int} {d : PyData} (e : L2.atI ds i = some d) : ∃ v, L2.atI vs i = some v ∧ Dt H v d := by
  unfold L2.atI at *
  rw [← h.len] at e
  cases q : ixN vs.length i with
  | none => rw [q] at e; cases e
  | some j => rw [q] at e; exact h.at e
theorem DtAll.take {vs : List V} {ds : List PyData} (h : DtAll H vs ds) : ∀ n, DtAll H (vs.take n) (ds.take n) := by
  induction vs generalizing ds with
  | nil => cases h; intro n; simp only [List.take_nil]; exact .nil
  | cons v vs ih =>
    cases h with
    | cons a b =>
      intro n
      cases n with
      | zero => exact .nil
      | succ n => exact .cons a (ih b n)
theorem DtAll.drop {vs : List V} {ds : List PyData} (h : DtAll H vs ds) : ∀ n, DtAll H (vs.drop n) (ds.drop n) := by
  induction vs generalizing ds with
  | nil => cases h; intro n; simp only [List.drop_nil]; exact .nil
  | cons v vs ih =>
    cases h with
    | cons a b =>
      intro n
      cases n with
      | zero => exact .cons a b
      | succ n => exact ih b n
end
/-- the slice of a list -/
def cutD (xs : List PyData) (lo hi : Option Int) : List PyData := (xs.drop (HT.sIx xs.length 0 lo)).take (HT.sIx xs.length xs.length hi - HT.sIx xs.length 0 lo)
theorem DtAll.cut {H : Hp} {vs : List V} {ds : List PyData} (h : DtAll H vs ds) (lo hi : Option Int) : DtAll H (cutV vs lo hi) (cutD ds lo hi) := by
  unfold cutV cutD
  rw [h.len]
  exact (h.drop _).take _
/-- data of a type, by its picture -/
def RD (d : PyData) : Rel := ⟨fun H v => Dt H v d, fun k h => h.kp k⟩
/-- a list that is being changed -/
def OL (ds : List PyData) : Own := ⟨fun H o => ∃ vs, o = .lst vs ∧ DtAll H vs ds, fun k ⟨vs, e, h⟩ => ⟨vs, e, h.kp k⟩, fun ⟨vs, e, _⟩ => by subst e; exact trivial⟩
theorem OL.fix {ds : List PyData} {B : Hp} {p : Addr} {o : HO} (e : B p = some o) (h : (OL ds).p B o) : (RD (.list ds)).p B (.ref p) := by
  obtain ⟨vs, rfl, h⟩ := h
  exact .lst e h
noncomputable def msk (b : Bool) (c : Ct) (σ : L2.St) : Addr → Prop := fun a => b = true ∧ (isOwn c.g σ a ∨ c.om a)
noncomputable abbrev hb (b : Bool) (c : Ct) (σ : L2.St) (H : Hp) : Hp := less H (msk b c σ)
theorem hb_t {c : Ct} {σ : L2.St} {H : Hp} : hb true c σ H = bas c σ H := by
  funext a
  by_cases h : isOwn c.g σ a ∨ c.om a
  · rw [bas_in h]
    exact less_in ⟨rfl, h⟩
  · rw [bas_out h]
    exact less_out fun z => h z.2
theorem hb_f {c : Ct} {σ : L2.St} {H : Hp} : hb false c σ H = H := by
  funext a
  exact less_out fun z => Bool.false_ne_true z.1
theorem hb_kp {b : Bool} {c : Ct} {σ : L2.St} {H H' : Hp} (k : Kp H H') : Kp (hb b c σ H) (hb b c σ H') := less_kp k
theorem bas_hb {b : Bool} {c : Ct} {σ : L2.St} {H : Hp} : Kp (bas c σ H) (hb b c σ H) := less_mono fun _ z => z.2
theorem hb_in {b : Bool} {c : Ct} {σ : L2.St} {H : Hp} : Kp (hb b c σ H) H := kp_less
/-- what is hidden stands, and is of those that may change -/
theorem Sta.hides {c : Ct} {σ : L2.St} {H : Hp} (h : Sta c σ H) {b : Bool} (a : Addr) (m : msk b c σ a) : ∃ o, H a = some o ∧ Mut (some o) := by
  rcases m.2 with ⟨i, C, e1, e2⟩ | z
  · obtain ⟨p, o, e3, e4, e5, _⟩ := h.own i C e1
    rw [e2] at e3
    cases e3
    exact ⟨o, e4, C.ok e5⟩
  · exact h.hid a z
/-- a value's reading: it gives a value as R says, in the heap (false), in the heap without what is being changed (true) -/
def E (b : Bool) (c : Ct) (t : TE) (R : Rel) : Prop := ∀ σ H, Sta c σ H → ∀ Q : VK, (∀ H' v, Kp H H' → R.p (hb b c σ H') v → Q v H') → t σ H Q
def ET (c : Ct) (t : TT) (b : Bool) : Prop := ∀ σ H, Sta c σ H → ∀ Q : Bool → Hp → Prop, (∀ H', Kp H H' → Q b H') → t σ H Q
def Rok : List Rel → Hp → List V → Prop
  | [], _, vs => vs = []
  | R :: Rs, H, vs => ∃ v r, vs = v :: r ∧ R.p H v ∧ Rok Rs H r
theorem Rok.kp {H H' : Hp} (k : Kp H H') : ∀ {Rs : List Rel} {vs : List V}, Rok Rs H vs → Rok Rs H' vs
  | [], _, h => h
  | R :: _, _, ⟨v, r, e, h1, h2⟩ => ⟨v, r, e, R.mn k h1, Rok.kp k h2⟩
def EA (b : Bool) (c : Ct) (t : TA) (Rs : List Rel) : Prop := ∀ σ H, Sta c σ H → ∀ Q : List V → Hp → Prop, (∀ H' vs, Kp H H' → Rok Rs (hb b c σ H') vs → Q vs H') → t σ H Q
/-- a list whose items stay, itself perhaps among what is being changed -/
def EI (c : Ct) (t : TE) (ds : List PyData) : Prop := ∀ σ H, Sta c σ H → ∀ Q : VK, (∀ H' a vs, Kp H H' → H' a = some (.lst vs) → DtAll (bas c σ H') vs ds → Q (.ref a) H') → t σ H Q
section
variable {b : Bool} {c : Ct} {R S : Rel} {t ta tb tc : TE} {d e : PyData}
theorem E.low (h : E true c t R) : E b c t R := fun σ H s Q q => h σ H s Q fun H' v k r => q H' v k (R.mn (by rw [hb_t]; exact bas_hb) r)
theorem E.imp (h : E b c t R) (k : ∀ H v, R.p H v → S.p H v) : E b c t S := fun σ H s Q q => h σ H s Q fun H' v k' r => q H' v k' (k _ _ r)
theorem E.eq (h : E b c t (RD d)) (z : d = e) : E b c t (RD e) := z ▸ h
theorem E.flat (h : E false c t (RD d)) (f : flat d = true) : E b c t (RD d) := fun σ H s Q q => h σ H s Q fun H' v k r => by
  rw [hb_f] at r
  exact q H' v k (Dt.less (fun a m => (s.kp k).hides a m) r f)
theorem ET.eq {t : TT} {a a' : Bool} (h : ET c t a) (z : a = a') : ET c t a' := z ▸ h
theorem e_var {i : Nat} (h : c.g[i]? = some (.fz R)) : E b c (tVar i) R := fun σ H s Q q => by
  obtain ⟨v, e, r⟩ := s.fz i R h
  exact ⟨v, e, q H v (Kp.refl _) (R.mn bas_hb r)⟩
/-- a list that is being changed, read -/
theorem e_own {i : Nat} {ds : List PyData} (h : c.g[i]? = some (.own (OL ds))) : E false c (tVar i) (RD (.list ds)) := fun σ H s Q q => by
  obtain ⟨p, o, e1, e2, ⟨vs, rfl, a⟩, _⟩ := s.own i _ h
  refine ⟨.ref p, e1, q H _ (Kp.refl _) ?_⟩
  rw [hb_f]
  exact .lst e2 (a.kp kp_less)
theorem i_own {i : Nat} {ds : List PyData} (h : c.g[i]? = some (.own (OL ds))) : EI c (tVar i) ds := fun σ H s Q q => by
  obtain ⟨p, o, e1, e2, ⟨vs, rfl, a⟩, _⟩ := s.own i _ h
  exact ⟨.ref p, e1, q H p vs (Kp.refl _) e2 a⟩
theorem i_of {ds : List PyData} (h : E true c t (RD (.list ds))) : EI c t ds := fun σ H s Q q => h σ H s Q fun H' v k r => by
  rw [hb_t] at r
  cases r with
  | lst e a => exact q H' _ _ k (less_some e).2 a
theorem e_int {i : Int} : E b c (tC (.int i)) (RD (.int i)) := fun σ H s Q q => q H _ (Kp.refl _) (.int i)
theorem e_str {x : Str} : E b c (tC (.str x)) (RD (.str x)) := fun σ H s Q q => q H _ (Kp.refl _) (.str x)
theorem e_bl {x : Bool} : E b c (tC (.bl x)) (RD (.bool x)) := fun σ H s Q q => q H _ (Kp.refl _) (.bl x)
theorem e_non : E b c (tC .non) (RD .none) := fun σ H s Q q => q H _ (Kp.refl _) .non
/-- an operation on values: M is hidden from it -/
def Hd (H : Hp) (M : Addr → Prop) : Prop := ∀ a, M a → ∃ o, H a = some o ∧ Mut (some o)
def O2 (r : R2) (R1 R2 R : Rel) : Prop := ∀ H M x y, Hd H M → R1.p (less H M) x → R2.p (less H M) y → ∀ Q : VK, (∀ H' v, Kp H H' → R.p (less H' M) v → Q v H') → r x y H Q
def O1 (r : V → Hp → VK → Prop) (R1 R : Rel) : Prop := ∀ H M x, Hd H M → R1.p (less H M) x → ∀ Q : VK, (∀ H' v, Kp H H' → R.p (less H' M) v → Q v H') → r x H Q
def On (r : List V → Hp → VK → Prop) (Rs : List Rel) (R : Rel) : Prop := ∀ H M vs, Hd H M → Rok Rs (less H M) vs → ∀ Q : VK, (∀ H' v, Kp H H' → R.p (less H' M) v → Q v H') → r vs H Q
theorem e_op {r : R2} {R1 R2 : Rel} (o : O2 r R1 R2 R) (ha : E b c ta R1) (hc : E b c tb R2) : E b c (tOp r ta tb) R := fun σ H s Q q =>
  ha σ H s _ fun H1 x k1 r1 => hc σ H1 (s.kp k1) _ fun H2 y k2 r2 => o H2 (msk b c σ) x y (fun a m => ((s.kp k1).kp k2).hides a m) (R1.mn (hb_kp k2) r1) r2 Q fun H' v k r => q H' v ((k1.trans k2).trans k) r
theorem e_un {r : V → Hp → VK → Prop} {R1 : Rel} (o : O1 r R1 R) (ha : E b c ta R1) : E b c (tUn r ta) R := fun σ H s Q q =>
  ha σ H s _ fun H1 x k1 r1 => o H1 (msk b c σ) x (fun a m => (s.kp k1).hides a m) r1 Q fun H' v k r => q H' v (k1.trans k) r
theorem a_nil : EA b c tNil [] := fun σ H s Q q => q H [] (Kp.refl _) rfl
theorem a_cons {u : TA} {Rs : List Rel} (ha : E b c t R) (hr : EA b c u Rs) : EA b c (tCons t u) (R :: Rs) := fun σ H s Q q =>
  ha σ H s _ fun H1 x k1 r1 => hr σ H1 (s.kp k1) _ fun H2 vs k2 r2 => q H2 _ (k1.trans k2) ⟨x, vs, rfl, R.mn (hb_kp k2) r1, r2⟩
theorem e_cb {r : List V → Hp → VK → Prop} {u : TA} {Rs : List Rel} (o : On r Rs R) (ha : EA b c u Rs) : E b c (tCB r u) R := fun σ H s Q q =>
  ha σ H s _ fun H1 vs k1 r1 => o H1 (msk b c σ) vs (fun a m => (s.kp k1).hides a m) r1 Q fun H' v k r => q H' v (k1.trans k) r
theorem o_I0 {g : Int → Int → Int} {i j : Int} : O2 (rI0 fun i j => .int (g i j)) (RD (.int i)) (RD (.int j)) (RD (.int (g i j))) := fun H M x y _ r1 r2 Q q => by
  cases r1
  cases r2
  exact ⟨i, j, rfl, rfl, q H _ (Kp.refl _) (.int _)⟩
theorem o_I {C : Int → Int → Prop} {g : Int → Int → Int} {i j : Int} (h : C i j) : O2 (rI C fun i j => .int (g i j)) (RD (.int i)) (RD (.int j)) (RD (.int (g i j))) := fun H M x y _ r1 r2 Q q => by
  cases r1
  cases r2
  exact ⟨i, j, rfl, rfl, h, q H _ (Kp.refl _) (.int _)⟩
theorem o_add {i j : Int} : O2 (rI0 fun i j => .int (i + j)) (RD (.int i)) (RD (.int j)) (RD (.int (i + j))) := o_I0
theorem o_sub {i j : Int} : O2 (rI0 fun i j => .int (i - j)) (RD (.int i)) (RD (.int j)) (RD (.int (i - j))) := o_I0
theorem o_cmpI0 {g : Int → Int → Bool} {i j : Int} : O2 (rI0 fun i j => .bl (g i j)) (RD (.int i)) (RD (.int j)) (RD (.bool (g i j))) := fun H M x y _ r1 r2 Q q => by
  cases r1
  cases r2
  exact ⟨i, j, rfl, rfl, q H _ (Kp.refl _) (.bl _)⟩
theorem o_U {g : Int → Int} {i : Int} : O1 (rU fun i => .int (g i)) (RD (.int i)) (RD (.int (g i))) := fun H M x _ r1 Q q => by
  cases r1
  exact ⟨i, rfl, q H _ (Kp.refl _) (.int _)⟩
theorem o_eqI {i j : Int} : O2 rEq (RD (.int i)) (RD (.int j)) (RD (.bool (decide (i = j)))) := fun H M x y _ r1 r2 Q q => by
  cases r1
  cases r2
  refine ⟨rfl, q H _ (Kp.refl _) ?_⟩
  rw [show decide (V.int i = V.int j) = decide (i = j) by simp]
  exact .bl _
theorem o_neI {i j : Int} : O2 rNe (RD (.int i)) (RD (.int j)) (RD (.bool (!decide (i = j)))) := fun H M x y _ r1 r2 Q q => by
  cases r1
  cases r2
  refine ⟨rfl, q H _ (Kp.refl _) ?_⟩
  rw [show decide (V.int i = V.int j) = decide (i = j) by simp]
  exact .bl _
theorem t_B {x : Bool} (h : E false c t (RD (.bool x))) : ET c (tB t) x := fun σ H s Q q => h σ H s _ fun H' v k r => by
  cases r
  exact ⟨x, rfl, q H' k⟩
theorem t_T {x : Bool} (h : E false c t (RD (.bool x))) : ET c (tTest t) x := fun σ H s Q q => h σ H s _ fun H' v k r => by
  cases r
  exact ⟨x, rfl, q H' k⟩
theorem t_and {t u : TT} {x y : Bool} (h : ET c t x) (g : x = true → ET c u y) : ET c (tAnd t u) (x && y) := fun σ H s Q q => h σ H s _ fun H1 k1 => by
  cases x with
  | false => rw [if_neg Bool.false_ne_true]; exact q H1 k1
  | true => rw [if_pos rfl]; exact g rfl σ H1 (s.kp k1) Q fun H2 k2 => q H2 (k1.trans k2)
theorem t_or {t u : TT} {x y : Bool} (h : ET c t x) (g : x = false → ET c u y) : ET c (tOr t u) (x || y) := fun σ H s Q q => h σ H s _ fun H1 k1 => by
  cases x with
  | true => rw [if_pos rfl]; exact q H1 k1
  | false => rw [if_neg Bool.false_ne_true]; exact g rfl σ H1 (s.kp k1) Q fun H2 k2 => q H2 (k1.trans k2)
theorem e_if {tt : TT} {x : Bool} (h : ET c tt x) (ha : x = true → E b c ta R) (hc : x = false → E b c tb R) : E b c (tIf tt ta tb) R := fun σ H s Q q => h σ H s _ fun H1 k1 => by
  cases x with
  | true => rw [if_pos rfl]; exact ha rfl σ H1 (s.kp k1) Q fun H' v k r => q H' v (k1.trans k) r
  | false => rw [if_neg Bool.false_ne_true]; exact hc rfl σ H1 (s.kp k1) Q fun H' v k r => q H' v (k1.trans k) r
theorem e_and {x y : Bool} (h : E false c ta (RD (.bool x))) (g : x = true → E false c tb (RD (.bool y))) : E b c (tAndV ta tb) (RD (.bool (x && y))) := E.flat (fun σ H s Q q => h σ H s _ fun H1 v k1 r => by
  cases r
  refine ⟨x, rfl, ?_⟩
  cases x with
  | false => rw [if_neg Bool.false_ne_true]; exact q H1 _ k1 (.bl _)
  | true => rw [if_pos rfl]; exact g rfl σ H1 (s.kp k1) Q fun H2 v k2 r => q H2 v (k1.trans k2) r) rfl
theorem e_or {x y : Bool} (h : E false c ta (RD (.bool x))) (g : x = false → E false c tb (RD (.bool y))) : E b c (tOrV ta tb) (RD (.bool (x || y))) := E.flat (fun σ H s Q q => h σ H s _ fun H1 v k1 r => by
  cases r
  refine ⟨x, rfl, ?_⟩
  cases x with
  | true => rw [if_pos rfl]; exact q H1 _ k1 (.bl _)
  | false => rw [if_neg Bool.false_ne_true]; exact g rfl σ H1 (s.kp k1) Q fun H2 v k2 r => q H2 v (k1.trans k2) r) rfl
end
end Pk
namespace Pk
open PySem L2 PySem.Spec PyProof.Rows GxR NdefX
/-- the picture of a type's things: told apart by ==, of depth n at most, laid out where P -/
structure Enc {α : Type} [DecidableEq α] (f : α → PyData) (n : Nat) (P : α → Prop) : Prop where
  eqv : ∀ a b, PyData.eqv (f a) (f b) = decide (a = b)
  lay : ∀ a, P a → (f a).canLay0 = true
  dep : ∀ a, (f a).depth ≤ n
  nod : ∀ a, Pk.nod (f a) = true
theorem layAll {α : Type} {f : α → PyData} {P : α → Prop} (h : ∀ a, P a → (f a).canLay0 = true) : ∀ xs : List α, (∀ a ∈ xs, P a) → PyData.canLayAll0 (xs.map f) = true
  | [], _ => rfl
  | x :: xs, k => by
    show (PyData.canLay0 (f x) && PyData.canLayAll0 (xs.map f)) = true
    rw [h x (k x (.head _)), layAll h xs fun a m => k a (.tail _ m)]
    rfl
theorem depAll {α : Type} {f : α → PyData} {n : Nat} (h : ∀ a, (f a).depth ≤ n) : ∀ xs : List α, PyData.depthAll (xs.map f) ≤ n
  | [] => Nat.zero_le _
  | x :: xs => by
    show max (PyData.depth (f x)) (PyData.depthAll (xs.map f)) ≤ n
    exact Nat.max_le.mpr ⟨h x, depAll h xs⟩
theorem nodAll {α : Type} {f : α → PyData} (h : ∀ a, Pk.nod (f a) = true) : ∀ xs : List α, nods (xs.map f) = true
  | [] => rfl
  | x :: xs => by
    show (Pk.nod (f x) && nods (xs.map f)) = true
    rw [h x, nodAll h xs]
    rfl
theorem eqvAllE {α : Type} [DecidableEq α] {f : α → PyData} (h : ∀ a b, PyData.eqv (f a) (f b) = decide (a = b)) : ∀ xs ys : List α, PyData.eqvAll (xs.map f) (ys.map f) = decide (xs = ys)
  | [], [] => rfl
  | [], _ :: _ => rfl
  | _ :: _, [] => rfl
  | x :: xs, y :: ys => by
    show (PyData.eqv (f x) (f y) && PyData.eqvAll (xs.map f) (ys.map f)) = decide (x :: xs = y :: ys)
    rw [h x y, eqvAllE h xs ys]
    by_cases e : x = y <;> by_cases k : xs = ys <;> simp [e, k]
theorem enc_int : Enc PyData.int 0 (fun _ => True) := ⟨eqv_int, fun _ _ => rfl, fun _ => Nat.zero_le _, fun _ => rfl⟩
theorem enc_str : Enc PyData.str 0 (fun x => PyData.strOk x = true) := ⟨fun a b => by
  show (a == b) = decide (a = b)
  exact Bool.eq_iff_iff.mpr (by simp), fun _ h => h, fun _ => Nat.zero_le _, fun _ => rfl⟩
theorem enc_bool : Enc PyData.bool 0 (fun _ => True) := ⟨fun a b => by
  show (a == b) = decide (a = b)
  cases a <;> cases b <;> rfl, fun _ _ => rfl, fun _ => Nat.zero_le _, fun _ => rfl⟩
section
variable {α β γ : Type} [DecidableEq α] [DecidableEq β] [DecidableEq γ] {f : α → PyData} {g : β → PyData} {k : γ → PyData} {n m l : Nat} {P : α → Prop} {S : β → Prop} {T : γ → Prop}
theorem Enc.up (h : Enc f n P) (e : n ≤ m) : Enc f m P := ⟨h.eqv, h.lay, fun a => Nat.le_trans (h.dep a) e, h.nod⟩
theorem Enc.imp {P' : α → Prop} (h : Enc f n P) (e : ∀ a, P' a → P a) : Enc f n P' := ⟨h.eqv, fun a k => h.lay a (e a k), h.dep, h.nod⟩
theorem enc_list (h : Enc f n P) : Enc (fun xs : List α => .list (xs.map f)) (n + 1) (fun xs => ∀ a ∈ xs, P a) :=
  ⟨fun a b => eqvAllE h.eqv a b, fun xs q => layAll h.lay xs q, fun xs => Nat.succ_le_succ (depAll h.dep xs), fun xs => nodAll h.nod xs⟩
theorem enc_tupl (h : Enc f n P) : Enc (fun xs : List α => .tuple (xs.map f)) (n + 1) (fun xs => ∀ a ∈ xs, P a) :=
  ⟨fun a b => eqvAllE h.eqv a b, fun xs q => layAll h.lay xs q, fun xs => Nat.succ_le_succ (depAll h.dep xs), fun xs => nodAll h.nod xs⟩
theorem enc_pair (h : Enc f n P) (q : Enc g n S) : Enc (fun p : α × β => .tuple [f p.1, g p.2]) (n + 1) (fun p => P p.1 ∧ S p.2) := by
  refine ⟨fun a b => ?_, fun a z => ?_, fun a => ?_, fun a => ?_⟩
  · show (PyData.eqv (f a.1) (f b.1) && (PyData.eqv (g a.2) (g b.2) && true)) = _
    rw [h.eqv, q.eqv, Bool.and_true, Bool.eq_iff_iff]
    simp [Prod.ext_iff]
  · show (PyData.canLay0 (f a.1) && (PyData.canLay0 (g a.2) && true)) = true
    rw [h.lay _ z.1, q.lay _ z.2]
    rfl
  · show max (PyData.depth (f a.1)) (max (PyData.depth (g a.2)) 0) + 1 ≤ n + 1
    have := h.dep a.1
    have := q.dep a.2
    omega
  · show (Pk.nod (f a.1) && (Pk.nod (g a.2) && true)) = true
    rw [h.nod, q.nod]
    rfl
/-- None, or a thing -/
def eO (f : α → PyData) : Option α → PyData
  | none => .none
  | some a => f a
theorem Enc.shaped (h : Enc f n P) (hn : n ≤ 64) {a : α} (q : P a) : SeqAt.shaped (f a) = true := by
  unfold SeqAt.shaped
  rw [h.lay a q, Bool.true_and]
  exact decide_eq_true (Nat.le_trans (h.dep a) hn)
theorem dec_bl {p : Prop} (i j : Decidable p) (u : Bool → Bool) {H : Hp} : Dt H (.bl (u (@decide p i))) (.bool (u (@decide p j))) := by
  cases Subsingleton.elim i j
  exact .bl _
theorem o_eqE {K : PySem.W.Frag} (h : Enc f n P) (hn : n ≤ 64) {a b : α} {hd : Decidable (a = b)} (qa : P a) (qb : P b) : O2 (rEqD K) (RD (f a)) (RD (f b)) (RD (.bool (@decide (a = b) hd))) := fun H M x y _ r1 r2 Q q => by
  refine ⟨f a, f b, (Dt.kp kp_less r1).dp (h.nod a), (Dt.kp kp_less r2).dp (h.nod b), h.shaped hn qa, h.shaped hn qb, q H _ (Kp.refl _) ?_⟩
  rw [h.eqv]
  exact dec_bl _ _ id
theorem o_neE {K : PySem.W.Frag} (h : Enc f n P) (hn : n ≤ 64) {a b : α} {hd : Decidable (a = b)} (qa : P a) (qb : P b) : O2 (rNeD K) (RD (f a)) (RD (f b)) (RD (.bool (!@decide (a = b) hd))) := fun H M x y _ r1 r2 Q q => by
  refine ⟨f a, f b, (Dt.kp kp_less r1).dp (h.nod a), (Dt.kp kp_less r2).dp (h.nod b), h.shaped hn qa, h.shaped hn qb, q H _ (Kp.refl _) ?_⟩
  rw [h.eqv]
  exact dec_bl _ _ not
theorem any_enc (h : Enc f n P) (xs : List α) (a : α) : ((xs.map f).any fun z => PyData.eqv z (f a)) = decide (a ∈ xs) := by
  induction xs with
  | nil => rfl
  | cons x xs ih =>
    rw [List.map_cons, List.any_cons, ih, h.eqv]
    by_cases e : x = a
    · subst e
      simp
    · rw [decide_eq_false e, Bool.false_or, Bool.eq_iff_iff, decide_eq_true_iff, decide_eq_true_iff, List.mem_cons]
      exact ⟨.inr, fun z => z.elim (fun y => absurd y.symm e) id⟩
theorem o_niE {K : PySem.W.Frag} (h : Enc f n P) (hn : n ≤ 63) {a : α} {xs : List α} {hd : Decidable (a ∈ xs)} (qa : P a) (qb : ∀ x ∈ xs, P x) : O2 (rNotInD K) (RD (f a)) (RD (.list (xs.map f))) (RD (.bool (!@decide (a ∈ xs) hd))) := fun H M x y _ r1 r2 Q q => by
  have hl := enc_list h
  refine ⟨f a, xs.map f, (Dt.kp kp_less r1).dp (h.nod a), (Dt.kp kp_less r2).dp (hl.nod xs), h.shaped (by omega) qa, hl.shaped (by omega) qb, q H _ (Kp.refl _) ?_⟩
  rw [any_enc h]
  exact dec_bl _ _ not
end
theorem new_at {H : Hp} {M : Addr → Prop} (h : Hd H M) {p : Addr} {o : HO} (n : H p = none) : less (upd H p o) M = upd (less H M) p o := by
  have np : ¬ M p := fun z => by
    obtain ⟨o, e, _⟩ := h p z
    rw [n] at e
    cases e
  funext a
  by_cases e : a = p
  · subst e
    rw [upd_same, less_out np, upd_same]
  · rw [upd_ne e]
    by_cases m : M a
    · rw [less_in m, less_in m]
    · rw [less_out m, less_out m, upd_ne e]
theorem hb_new {b : Bool} {c : Ct} {σ : L2.St} {H : Hp} (s : Sta c σ H) {p : Addr} {o : HO} (n : H p = none) : hb b c σ (upd H p o) = upd (hb b c σ H) p o := new_at (fun a m => s.hides a m) n
theorem less_none {H : Hp} {M : Addr → Prop} {p : Addr} (n : H p = none) : less H M p = none := by
  by_cases m : M p
  · exact less_in m
  · rw [less_out m]
    exact n
section
variable {b : Bool} {c : Ct} {R S : Rel} {t ta tb tc : TE} {d e : PyData}
/-- a reading gives a new object -/
def EN (c : Ct) (t : TE) (C : Own) : Prop := ∀ σ H, Sta c σ H → ∀ Q : VK, (∀ H' p o, Kp H H' → H' p = none → C.p (bas c σ H') o → Q (.ref p) (upd H' p o)) → t σ H Q
theorem n_e {ds : List PyData} (h : EN c t (OL ds)) : E b c t (RD (.list ds)) := fun σ H s Q q => h σ H s Q fun H' p o k n ⟨vs, e, a⟩ => by
  subst e
  refine q _ _ (k.trans (kp_new n)) ?_
  rw [hb_new (s.kp k) n]
  exact .lst upd_same ((a.kp bas_hb).kp (kp_new (less_none n)))
theorem i_n {ds : List PyData} (h : EN c t (OL ds)) : EI c t ds := i_of (n_e h)
/-- the values of arguments that are data -/
def EM (b : Bool) (c : Ct) (t : TA) (ds : List PyData) : Prop := ∀ σ H, Sta c σ H → ∀ Q : List V → Hp → Prop, (∀ H' vs, Kp H H' → DtAll (hb b c σ H') vs ds → Q vs H') → t σ H Q
theorem m_nil : EM b c tNil [] := fun σ H s Q q => q H [] (Kp.refl _) .nil
theorem m_cons {u : TA} {ds : List PyData} (ha : E b c t (RD d)) (hr : EM b c u ds) : EM b c (tCons t u) (d :: ds) := fun σ H s Q q =>
  ha σ H s _ fun H1 x k1 r1 => hr σ H1 (s.kp k1) _ fun H2 vs k2 r2 => q H2 _ (k1.trans k2) (.cons (Dt.kp (hb_kp k2) r1) r2)
theorem e_tup {u : TA} {ds : List PyData} (h : EM b c u ds) (l : Nat.ble ds.length sizeLine = true := by rfl) : E b c (tTup u) (RD (.tuple ds)) := fun σ H s Q q =>
  h σ H s _ fun H1 vs k1 r1 => ⟨by rw [r1.len]; exact Nat.le_of_ble_eq_true l, fun p n => q _ _ (k1.trans (kp_new n)) (by
    rw [hb_new (s.kp k1) n]
    exact .tup upd_same (r1.kp (kp_new (less_none n))))⟩
theorem n_lst {u : TA} {ds : List PyData} (h : EM true c u ds) (l : Nat.ble ds.length sizeLine = true := by rfl) : EN c (tLst u) (OL ds) := fun σ H s Q q =>
  h σ H s _ fun H1 vs k1 r1 => ⟨by rw [r1.len]; exact Nat.le_of_ble_eq_true l, fun p n => q H1 p _ k1 n ⟨vs, rfl, by rw [← hb_t]; exact r1⟩⟩
theorem o_ixL {K : PySem.W.Frag} {ds : List PyData} {i : Int} {d : PyData} (h : atI ds i = some d) : O2 (rIxL K) (RD (.list ds)) (RD (.int i)) (RD d) := fun H M x y _ r1 r2 Q q => by
  cases r2
  cases r1 with
  | lst e a =>
    obtain ⟨v, h1, h2⟩ := a.atI h
    exact ⟨_, _, i, v, rfl, rfl, SqL.of (less_some e).2, h1, q H _ (Kp.refl _) h2⟩
theorem o_ixT {K : PySem.W.Frag} {ds : List PyData} {i : Int} {d : PyData} (h : atI ds i = some d) : O2 (rIxT K) (RD (.tuple ds)) (RD (.int i)) (RD d) := fun H M x y _ r1 r2 Q q => by
  cases r2
  cases r1 with
  | tup e a =>
    obtain ⟨v, h1, h2⟩ := a.atI h
    exact ⟨_, _, i, v, rfl, rfl, SqT.of (less_some e).2, h1, q H _ (Kp.refl _) h2⟩
def EO (c : Ct) (t : TO) (o : Option Int) : Prop := ∀ σ H, Sta c σ H → ∀ Q : Option Int → Hp → Prop, (∀ H', Kp H H' → Q o H') → t σ H Q
theorem p_none : EO c tNoPart none := fun σ H s Q q => q H (Kp.refl _)
theorem p_some {i : Int} (h : E false c t (RD (.int i))) : EO c (tPart t) (some i) := fun σ H s Q q => h σ H s _ fun H1 x k r => by
  cases r
  exact ⟨i, rfl, q H1 k⟩
theorem n_sl {K : PySem.W.Frag} {ds : List PyData} {lo hi : Option Int} {tl th : TO} (h : EI c t ds) (hl : EO c tl lo) (hh : EO c th hi) : EN c (tSl (rSlL K) t tl th) (OL (cutD ds lo hi)) := fun σ H s Q q =>
  h σ H s _ fun H1 a vs k1 e1 r1 => hl σ H1 (s.kp k1) _ fun H2 k2 => hh σ H2 ((s.kp k1).kp k2) _ fun H3 k3 =>
    ⟨a, vs, rfl, SqL.of ((k2.trans k3).lst e1), fun p n => q H3 p _ ((k1.trans k2).trans k3) n ⟨_, rfl, (r1.kp ((s.kp k1).kb (k2.trans k3))).cut lo hi⟩⟩
theorem n_cat {ds es : List PyData} (h : EI c ta ds) (g : EI c tb es) (l : ds.length + es.length ≤ sizeLine) : EN c (tOp rCat ta tb) (OL (ds ++ es)) := fun σ H s Q q =>
  h σ H s _ fun H1 a vs k1 e1 r1 => g σ H1 (s.kp k1) _ fun H2 a2 ws k2 e2 r2 =>
    ⟨a, a2, vs, ws, rfl, rfl, k2.lst e1, e2, by rw [r1.len, r2.len]; exact l, fun p n => q H2 p _ (k1.trans k2) n ⟨_, rfl, (r1.kp ((s.kp k1).kb k2)).app r2⟩⟩
theorem o_lenL {K : PySem.W.Frag} {ds : List PyData} : On (fun xs H Q => ∃ x n, xs = [x] ∧ LenV K x H n ∧ Q (.int n) H) [RD (.list ds)] (RD (.int ds.length)) := fun H M vs _ r Q q => by
  obtain ⟨v, r', rfl, h1, rfl⟩ := r
  cases h1 with
  | lst e a => exact ⟨_, _, rfl, .inl ⟨_, SqL.of (less_some e).2, rfl⟩, by rw [a.len]; exact q H _ (Kp.refl _) (.int _)⟩
theorem o_lenT {K : PySem.W.Frag} {ds : List PyData} : On (fun xs H Q => ∃ x n, xs = [x] ∧ LenV K x H n ∧ Q (.int n) H) [RD (.tuple ds)] (RD (.int ds.length)) := fun H M vs _ r Q q => by
  obtain ⟨v, r', rfl, h1, rfl⟩ := r
  cases h1 with
  | tup e a => exact ⟨_, _, rfl, .inr ⟨_, SqT.of (less_some e).2, rfl⟩, by rw [a.len]; exact q H _ (Kp.refl _) (.int _)⟩
theorem o_int {i : Int} : On (fun xs H Q => (∃ i, xs = [.int i] ∧ Q (.int i) H) ∨ ∃ k, xs = [.bl k] ∧ Q (.int (if k then 1 else 0)) H) [RD (.int i)] (RD (.int i)) := fun H M vs _ r Q q => by
  obtain ⟨v, r', rfl, h1, rfl⟩ := r
  cases h1
  exact .inl ⟨_, rfl, q H _ (Kp.refl _) (.int _)⟩
theorem e_tupleL {K : PySem.W.Frag} {ds : List PyData} (h : EI c t ds) : E b c (tCB (fun xs H Q => ∃ p ys, xs = [.ref p] ∧ ((SqL K H p ys ∧ ∀ l, H l = none → Q (.ref l) (upd H l (.tup ys))) ∨ (SqT K H p ys ∧ Q (.ref p) H))) (tCons t tNil)) (RD (.tuple ds)) := E.low fun σ H s Q q =>
  h σ H s _ fun H1 a vs k1 e1 r1 => ⟨a, vs, rfl, .inl ⟨SqL.of e1, fun l n => q _ _ (k1.trans (kp_new n)) (by
    rw [hb_new (s.kp k1) n]
    exact .tup upd_same ((r1.kp bas_hb).kp (kp_new (less_none n))))⟩⟩
end
end Pk
namespace Pk
open PySem L2 PySem.Spec PyProof.Rows GxR NdefX
def notOwn : Option Slot → Bool
  | some (.own _) => false
  | _ => true
theorem bas_iff {c c' : Ct} {σ σ' : L2.St} {H H' : Hp} (h : ∀ a, (isOwn c.g σ a ∨ c.om a) ↔ (isOwn c'.g σ' a ∨ c'.om a)) (e : ∀ a, ¬ (isOwn c.g σ a ∨ c.om a) → H a = H' a) : bas c σ H = bas c' σ' H' := by
  funext a
  by_cases m : isOwn c.g σ a ∨ c.om a
  · rw [bas_in m, bas_in ((h a).mp m)]
  · rw [bas_out m, bas_out fun z => m ((h a).mpr z)]
    exact e a m
theorem own_set {g : List Slot} {σ : L2.St} {i : Nat} {s : Slot} {o : Option V} (h : notOwn g[i]? = true) (hs : notOwn (some s) = true) (a : Addr) : isOwn (g.set i s) (σ.set i o) a ↔ isOwn g σ a := by
  constructor
  · rintro ⟨j, C, e1, e2⟩
    rcases getset e1 with ⟨_, z⟩ | ⟨n, z⟩
    · rw [← z] at hs
      cases hs
    · rw [List.getElem?_set_ne fun z => n z.symm] at e2
      exact ⟨j, C, z, e2⟩
  · rintro ⟨j, C, e1, e2⟩
    have n : i ≠ j := fun z => by
      subst z
      rw [e1] at h
      cases h
    exact ⟨j, C, by rw [List.getElem?_set_ne n]; exact e1, by rw [List.getElem?_set_ne n]; exact e2⟩
theorem wipe_set {σ : L2.St} {i : Nat} {o : Option V} : ∀ {vs : List Nat}, i ∈ vs → wipe (σ.set i o) vs = wipe σ vs
  | v :: vs, h => by
    show (wipe (σ.set i o) vs).set v none = (wipe σ vs).set v none
    by_cases m : i ∈ vs
    · rw [wipe_set m]
    · have e : i = v := by
        rcases List.mem_cons.mp h with z | z
        · exact z
        · exact absurd z m
      subst e
      have : ∀ (ws : List Nat), i ∉ ws → wipe (σ.set i o) ws = (wipe σ ws).set i o := fun ws => by
        induction ws with
        | nil => intro _; rfl
        | cons w ws ih =>
          intro q
          show (wipe (σ.set i o) ws).set w none = ((wipe σ ws).set w none).set i o
          rw [ih fun z => q (.tail _ z), List.set_comm _ _ (fun z => q (by rw [z]; exact .head _))]
      rw [this vs m, List.set_set]
theorem wipe_wipe {σ : L2.St} : ∀ {vs ws : List Nat}, (∀ i ∈ vs, i ∈ ws) → wipe (wipe σ vs) ws = wipe σ ws
  | [], _, _ => rfl
  | v :: vs, ws, h => by
    show wipe ((wipe σ vs).set v none) ws = wipe σ ws
    rw [wipe_set (h v (.head _)), wipe_wipe fun i m => h i (.tail _ m)]
theorem own_wipe {g : List Slot} {σ : L2.St} : ∀ {vs : List Nat}, (∀ i ∈ vs, g[i]? = some .any) → ∀ a, isOwn g (wipe σ vs) a ↔ isOwn g σ a
  | [], _, _ => Iff.rfl
  | v :: vs, h, a => by
    have e := h v (.head _)
    have := own_set (σ := wipe σ vs) (o := none) (s := .any) (by rw [e]; rfl) rfl a
    rw [setsame e] at this
    exact this.trans (own_wipe (fun i m => h i (.tail _ m)) a)
theorem Sta.wipe {c : Ct} {σ : L2.St} {H : Hp} (s : Sta c σ H) : ∀ {vs : List Nat}, (∀ i ∈ vs, c.g[i]? = some .any) → Sta c (wipe σ vs) H
  | [], _ => s
  | v :: vs, h => by
    have q := ((s.wipe (vs := vs) fun i m => h i (.tail _ m)).drop v none).1
    rw [show c.set v .any = c by unfold Ct.set; rw [setsame (h v (.head _))]] at q
    exact q
/-- a target takes a value: the slots are then g', those at `is` new -/
def EG (c : Ct) (g : TG) (R : Rel) (g' : List Slot) (is : List Nat) : Prop := ∀ σ H v, Sta c σ H → R.p (bas c σ H) v → ∀ Q : L2.St → Hp → Prop,
  (∀ σ', Sta (c.at g') σ' H → (∀ H', bas (c.at g') σ' H' = bas c σ H') → (∀ vs, (∀ i ∈ is, i ∈ vs) → wipe σ' vs = wipe σ vs) → Q σ' H) → g v σ H Q
def EGs (c : Ct) (u : TGs) (ds : List PyData) (g' : List Slot) (is : List Nat) : Prop := ∀ σ H vs, Sta c σ H → DtAll (bas c σ H) vs ds → ∀ Q : L2.St → Hp → Prop,
  (∀ σ', Sta (c.at g') σ' H → (∀ H', bas (c.at g') σ' H' = bas c σ H') → (∀ vs, (∀ i ∈ is, i ∈ vs) → wipe σ' vs = wipe σ vs) → Q σ' H) → u vs σ H Q
section
variable {c : Ct} {R : Rel} {g1 g2 : List Slot} {is js : List Nat} {d : PyData} {ds : List PyData}
theorem g_name {i : Nat} (hi : Nat.blt i c.g.length = true := by rfl) (hn : notOwn c.g[i]? = true := by rfl) : EG c (gName i) R (c.g.set i (.fz R)) [i] := fun σ H v s r Q q => by
  have hi' : i < c.g.length := by simpa using hi
  refine q _ (s.set hi' r).1 (fun H' => ?_) fun vs h => wipe_set (h i (.head _))
  exact bas_iff (fun a => or_congr (own_set hn rfl a) Iff.rfl) fun _ _ => rfl
theorem gs_nil : EGs c gNil [] c.g [] := fun σ H vs s r Q q => by
  cases r
  exact ⟨rfl, q σ s (fun _ => rfl) fun _ _ => rfl⟩
theorem gs_cons {t : TG} {u : TGs} (h : EG c t (RD d) g1 is) (k : EGs (c.at g1) u ds g2 js) : EGs c (gCons t u) (d :: ds) g2 (is ++ js) := fun σ H vs s r Q q => by
  cases r with
  | cons a b =>
    refine ⟨_, _, rfl, h σ H _ s a _ fun σ1 s1 e1 w1 => k σ1 H _ s1 (by rw [e1]; exact b) Q fun σ2 s2 e2 w2 => q σ2 s2 (fun H' => (e2 H').trans (e1 H')) fun vs hv => ?_⟩
    exact (w2 vs fun i m => hv i (List.mem_append_right _ m)).trans (w1 vs fun i m => hv i (List.mem_append_left _ m))
theorem g_tup {K : PySem.W.Frag} {n : Nat} {u : TGs} (h : EGs c u ds g1 is) (e : ds.length = n := by rfl) : EG c (gTup K n u) (RD (.tuple ds)) g1 is := fun σ H v s r Q q => by
  cases r with
  | tup e1 a => exact ⟨_, _, rfl, SqT.of (less_some e1).2, by rw [a.len]; exact e, h σ H _ s a Q q⟩
end
/-- a new object is hidden -/
theorem Sta.hide {c : Ct} {σ : L2.St} {H : Hp} (s : Sta c σ H) {p : Addr} {o : HO} (n : H p = none) (m : Mut (some o)) :
    Sta ⟨c.hs, c.h0, fun a => c.om a ∨ a = p, c.g⟩ σ (upd H p o) ∧ bas ⟨c.hs, c.h0, fun a => c.om a ∨ a = p, c.g⟩ σ (upd H p o) = bas c σ H := by
  have eb : bas ⟨c.hs, c.h0, fun a => c.om a ∨ a = p, c.g⟩ σ (upd H p o) = bas c σ H := by
    funext a
    by_cases e : a = p
    · subst e
      rw [bas_in (c := ⟨c.hs, c.h0, fun b => c.om b ∨ b = a, c.g⟩) (.inr (.inr rfl)), bas_out (s.free n), n]
    · by_cases z : isOwn c.g σ a ∨ c.om a
      · rw [bas_in z]
        exact bas_in (c := ⟨c.hs, c.h0, fun b => c.om b ∨ b = p, c.g⟩) (z.elim .inl fun y => .inr (.inl y))
      · rw [bas_out z]
        refine (bas_out (c := ⟨c.hs, c.h0, fun b => c.om b ∨ b = p, c.g⟩) fun y => z (y.elim .inl fun x => x.elim .inr fun w => absurd w e)).trans (upd_ne e)
  refine ⟨⟨s.len, fun i R e => by rw [eb]; exact s.fz i R e, fun i C e => ?_, s.ne, by rw [eb]; exact s.k0, s.ks.trans (kp_new n), fun a z => ?_⟩, eb⟩
  · obtain ⟨q, u, e1, e2, e3, e4, e5⟩ := s.own i C e
    have qp : q ≠ p := ne_of_none e2 n
    exact ⟨q, u, e1, by rw [upd_ne qp]; exact e2, by rw [eb]; exact e3, e4, fun y => y.elim e5 qp⟩
  · rcases z with z | z
    · obtain ⟨u, e, k⟩ := s.hid a z
      exact ⟨u, by rw [upd_ne (ne_of_none e n)]; exact e, k⟩
    · subst z
      exact ⟨o, upd_same, m⟩
/-- a hidden object is changed -/
theorem Sta.hmut {c : Ct} {σ : L2.St} {H : Hp} (s : Sta c σ H) {p : Addr} {o : HO} (hp : c.om p) (f : Fre c.hs p) (m : Mut (some o)) : Sta c σ (upd H p o) ∧ bas c σ (upd H p o) = bas c σ H := by
  have eb : bas c σ (upd H p o) = bas c σ H := bas_iff (fun _ => Iff.rfl) fun a z => upd_ne fun e => z (.inr (e ▸ hp))
  refine ⟨⟨s.len, fun i R e => by rw [eb]; exact s.fz i R e, fun i C e => ?_, s.ne, by rw [eb]; exact s.k0, f.upd s.ks, fun a z => ?_⟩, eb⟩
  · obtain ⟨q, u, e1, e2, e3, e4, e5⟩ := s.own i C e
    exact ⟨q, u, e1, by rw [upd_ne fun z => e5 (by rw [z]; exact hp)]; exact e2, by rw [eb]; exact e3, e4, e5⟩
  · obtain ⟨u, e, k⟩ := s.hid a z
    by_cases y : a = p
    · subst y
      exact ⟨o, upd_same, m⟩
    · exact ⟨u, by rw [upd_ne y]; exact e, k⟩
noncomputable def wo (H : Hp) (p : Addr) : Hp := less H fun a => a = p
theorem wo_at {H : Hp} {p : Addr} : wo H p p = none := if_pos rfl
theorem wo_ne {H : Hp} {p a : Addr} (h : ¬ a = p) : wo H p a = H a := if_neg h
theorem wo_some {H : Hp} {p a : Addr} {o : HO} (e : wo H p a = some o) : H a = some o := (less_some e).2
theorem wo_kp {H H' : Hp} {p : Addr} (k : Kp H H') : Kp (wo H p) (wo H' p) := less_kp k
theorem upd_less {H : Hp} {p : Addr} {o : HO} (e : H p = some o) : upd (wo H p) p o = H := by
  funext a
  by_cases z : a = p
  · subst z
    rw [upd_same, e]
  · rw [upd_ne z, wo_ne z]
theorem bas_less {c : Ct} {σ : L2.St} {H : Hp} {p : Addr} : bas c σ (wo H p) = bas ⟨c.hs, c.h0, fun a => c.om a ∨ a = p, c.g⟩ σ H := by
  funext a
  by_cases z : isOwn c.g σ a ∨ c.om a
  · rw [bas_in z]
    exact (bas_in (c := ⟨c.hs, c.h0, fun b => c.om b ∨ b = p, c.g⟩) (z.elim .inl fun y => .inr (.inl y))).symm
  · rw [bas_out z]
    by_cases e : a = p
    · subst e
      rw [wo_at]
      exact (bas_in (c := ⟨c.hs, c.h0, fun b => c.om b ∨ b = a, c.g⟩) (.inr (.inr rfl))).symm
    · rw [wo_ne e]
      exact (bas_out (c := ⟨c.hs, c.h0, fun b => c.om b ∨ b = p, c.g⟩) fun y => z (y.elim .inl fun x => x.elim .inr fun w => absurd w e)).symm
theorem less_upd {H : Hp} {p : Addr} {o : HO} : wo (upd H p o) p = wo H p := by
  funext a
  by_cases z : a = p
  · subst z
    rw [wo_at, wo_at]
  · rw [wo_ne z, wo_ne z, upd_ne z]
/-- what a comprehension keeps -/
structure Kc (c : Ct) (σ : L2.St) (H1 : Hp) (D : Addr) (ds : List PyData) (H : Hp) : Prop where
  ex : ∃ acc, H D = some (.lst acc) ∧ DtAll (bas ⟨c.hs, c.h0, fun a => c.om a ∨ a = D, c.g⟩ σ H) acc ds
  st : Sta ⟨c.hs, c.h0, fun a => c.om a ∨ a = D, c.g⟩ σ H
  kp : Kp H1 (wo H D)
theorem Kc.grow {c : Ct} {σ : L2.St} {H1 H H' : Hp} {D : Addr} {ds : List PyData} (h : Kc c σ H1 D ds H) (k : Kp H H') : Kc c σ H1 D ds H' := by
  obtain ⟨acc, e, a⟩ := h.ex
  exact ⟨⟨acc, k.lst e, a.kp (h.st.kb k)⟩, h.st.kp k, h.kp.trans (wo_kp k)⟩
theorem Kc.put {c : Ct} {σ : L2.St} {H1 H : Hp} {D : Addr} {acc : List V} {ds : List PyData} {y : V} {d : PyData} (h : Kc c σ H1 D ds H) (f : Fre c.hs D) (e : H D = some (.lst acc)) (r : Dt (bas ⟨c.hs, c.h0, fun a => c.om a ∨ a = D, c.g⟩ σ H) y d) :
    Kc c σ H1 D (ds ++ [d]) (upd H D (.lst (acc ++ [y]))) := by
  obtain ⟨acc', e', a⟩ := h.ex
  rw [e] at e'
  cases e'
  obtain ⟨s, eb⟩ := h.st.hmut (p := D) (o := .lst (acc ++ [y])) (.inr rfl) f trivial
  exact ⟨⟨_, upd_same, by rw [eb]; exact a.app (.cons r .nil)⟩, s, by rw [less_upd]; exact h.kp⟩
theorem ft_succ {α : Type} {p : α → Bool} {f : α → PyData} {xs : List α} {i : Nat} {x : α} (h : xs[i]? = some x) : ((xs.take (i + 1)).filter p).map f = ((xs.take i).filter p).map f ++ (if p x = true then [f x] else []) := by
  have hi : i < xs.length := (List.getElem?_eq_some_iff.mp h).1
  have e : xs[i] = x := (List.getElem?_eq_some_iff.mp h).2
  rw [List.take_succ_eq_append_getElem hi, e, List.filter_append, List.map_append]
  congr 1
  cases hp : p x <;> simp [hp]
section
variable {c : Ct} {K : PySem.W.Frag} {α : Type} {xs : List α} {enc : α → PyData} {G : α → List Slot} {is vs : List Nat} {p : α → Bool} {f : α → PyData} {tl te : TE} {tt : TT} {g : TG}
theorem lc_len {xs : List α} {p : α → Bool} {f : α → PyData} {i n : Nat} (h : xs.length ≤ n) : (((xs.take i).filter p).map f).length ≤ n := by
  rw [List.length_map]
  refine Nat.le_trans (List.length_filter_le _ _) (Nat.le_trans ?_ h)
  rw [List.length_take]
  omega
/-- [e for x in xs if t] -/
theorem n_lc (hs : EI c tl (xs.map enc)) (hw : ∀ i ∈ vs, c.g[i]? = some .any) (his : ∀ i ∈ is, i ∈ vs)
    (hg : ∀ om, ∀ x ∈ xs, EG ⟨c.hs, c.h0, om, c.g⟩ g (RD (enc x)) (G x) is) (ht : ∀ om, ∀ x ∈ xs, ET ⟨c.hs, c.h0, om, G x⟩ tt (p x))
    (he : ∀ om, ∀ x ∈ xs, p x = true → E true ⟨c.hs, c.h0, om, G x⟩ te (RD (f x))) (hl : xs.length < sizeLine) : EN c (tLc (iList K tl) g tt te vs) (OL ((xs.filter p).map f)) := fun σ H s Q q => by
  refine hs σ H s _ fun H1 a us k1 e1 r1 => ⟨a, rfl, ⟨us, SqL.of e1⟩, fun D nD => ?_⟩
  have s1 := s.kp k1
  have fD : Fre c.hs D := .of s1.ks nD
  have hul : us.length = xs.length := by rw [r1.len, List.length_map]
  have sw := s1.wipe hw
  have ew : ∀ H', bas c (wipe σ vs) H' = bas c σ H' := fun H' => bas_iff (fun a => or_congr (own_wipe hw a) Iff.rfl) fun _ _ => rfl
  refine lc_list (K := K) (a := a) (xs := us) (fun i H' => Kc c (wipe σ vs) H1 D (((xs.take i).filter p).map f) H') ?_ ?_ ?_ ?_
  · obtain ⟨sh, eb⟩ := sw.hide (o := .lst []) nD trivial
    exact ⟨⟨[], upd_same, by simpa using DtAll.nil⟩, sh, by rw [less_upd]; exact kp_of fun b o e => by rw [wo_ne (ne_of_none e nD)]; exact e⟩
  · intro i H' hi h
    exact SqL.of (wo_some (h.kp.lst e1))
  · intro i v H' hx h
    obtain ⟨d0, hd0, hv⟩ := r1.at' hx
    rw [List.getElem?_map] at hd0
    obtain ⟨x, ex, rfl⟩ := Option.map_eq_some_iff.mp hd0
    have hm : x ∈ xs := List.mem_of_getElem? ex
    have hv' : Dt (bas ⟨c.hs, c.h0, fun b => c.om b ∨ b = D, c.g⟩ (wipe σ vs) H') v (enc x) := by
      rw [← bas_less, ew]
      exact hv.kp (s1.kb h.kp)
    refine hg _ x hm _ H' v h.st hv' _ fun σ2 s2 e2 w2 => ⟨(w2 vs his).trans (wipe_wipe fun _ m => m), ht _ x hm σ2 H' s2 _ fun H3 k3 => ?_⟩
    cases hp : p x with
    | false =>
      rw [if_neg Bool.false_ne_true, ft_succ ex, hp, if_neg Bool.false_ne_true, List.append_nil]
      exact h.grow k3
    | true =>
      rw [if_pos rfl]
      refine he _ x hm hp σ2 H3 (s2.kp k3) _ fun H4 y k4 r4 => ?_
      have h4 := (h.grow k3).grow k4
      obtain ⟨acc, ea, aa⟩ := h4.ex
      refine ⟨acc, ea, ?_, ?_⟩
      · have := lc_len (p := p) (f := f) (i := i) (Nat.le_refl xs.length)
        rw [aa.len]
        omega
      · rw [ft_succ ex, hp, if_pos rfl]
        refine h4.put fD ea ?_
        rw [hb_t] at r4
        rw [← e2]
        exact r4
  · intro H' h
    obtain ⟨acc, ea, aa⟩ := h.ex
    rw [← upd_less ea]
    refine q _ D _ (k1.trans h.kp) wo_at ⟨acc, rfl, ?_⟩
    rw [← ew, bas_less]
    rw [hul, List.take_length] at aa
    exact aa
/-- [e for i in range(..) if t] -/
theorem n_lcR {lo : Int} {n : Nat} {G : Int → List Slot} {p : Int → Bool} {f : Int → PyData} {wi : TI} (hs : ∀ σ H, Sta c σ H → ∀ R : It → Hp → Prop, (∀ H', Kp H H' → R (Itr lo n) H') → wi σ H R) (hw : ∀ i ∈ vs, c.g[i]? = some .any) (his : ∀ i ∈ is, i ∈ vs)
    (hg : ∀ om, ∀ k : Nat, k < n → EG ⟨c.hs, c.h0, om, c.g⟩ g (RD (.int (lo + k))) (G (lo + k)) is) (ht : ∀ om, ∀ k : Nat, k < n → ET ⟨c.hs, c.h0, om, G (lo + k)⟩ tt (p (lo + k)))
    (he : ∀ om, ∀ k : Nat, k < n → p (lo + k) = true → E true ⟨c.hs, c.h0, om, G (lo + k)⟩ te (RD (f (lo + k)))) (hl : n < sizeLine) :
    EN c (tLc wi g tt te vs) (OL ((((List.range n).map fun k : Nat => lo + (k : Int)).filter p).map f)) := fun σ H s Q q => by
  refine hs σ H s _ fun H1 k1 D nD => ?_
  have s1 := s.kp k1
  have fD : Fre c.hs D := .of s1.ks nD
  have sw := s1.wipe hw
  have ew : ∀ H', bas c (wipe σ vs) H' = bas c σ H' := fun H' => bas_iff (fun a => or_congr (own_wipe hw a) Iff.rfl) fun _ _ => rfl
  have at_ : ∀ {i : Nat}, i < n → ((List.range n).map fun k : Nat => lo + (k : Int))[i]? = some (lo + (i : Int)) := fun {i} hi => by
    rw [List.getElem?_map, List.getElem?_range hi]
    rfl
  have hln : ((List.range n).map fun k : Nat => lo + (k : Int)).length = n := by rw [List.length_map, List.length_range]
  generalize hX : ((List.range n).map fun k : Nat => lo + (k : Int)) = X at *
  refine lc_range (lo := lo) (n := n) (fun i H' => Kc c (wipe σ vs) H1 D (((X.take i).filter p).map f) H') ?_ ?_ ?_
  · obtain ⟨sh, eb⟩ := sw.hide (o := .lst []) nD trivial
    exact ⟨⟨[], upd_same, by simpa using DtAll.nil⟩, sh, by rw [less_upd]; exact kp_of fun b o e => by rw [wo_ne (ne_of_none e nD)]; exact e⟩
  · intro i H' hi h
    have ex := at_ hi
    refine hg _ i hi _ H' _ h.st (.int _) _ fun σ2 s2 e2 w2 => ⟨(w2 vs his).trans (wipe_wipe fun _ m => m), ht _ i hi σ2 H' s2 _ fun H3 k3 => ?_⟩
    cases hp : p (lo + (i : Int)) with
    | false =>
      rw [if_neg Bool.false_ne_true, ft_succ ex, hp, if_neg Bool.false_ne_true, List.append_nil]
      exact h.grow k3
    | true =>
      rw [if_pos rfl]
      refine he _ i hi hp σ2 H3 (s2.kp k3) _ fun H4 y k4 r4 => ?_
      have h4 := (h.grow k3).grow k4
      obtain ⟨acc, ea, aa⟩ := h4.ex
      refine ⟨acc, ea, ?_, ?_⟩
      · have := lc_len (xs := X) (p := p) (f := f) (i := i) (n := n) (by omega)
        rw [aa.len]
        omega
      · rw [ft_succ ex, hp, if_pos rfl]
        refine h4.put fD ea ?_
        rw [hb_t] at r4
        rw [← e2]
        exact r4
  · intro H' h
    obtain ⟨acc, ea, aa⟩ := h.ex
    rw [← upd_less ea]
    refine q _ D _ (k1.trans h.kp) wo_at ⟨acc, rfl, ?_⟩
    rw [← ew, bas_less]
    rw [← hln, List.take_length] at aa
    exact aa
end
/-- what a range walks -/
def EW (c : Ct) (wi : TI) (lo : Int) (n : Nat) : Prop := ∀ σ H, Sta c σ H → ∀ R : It → Hp → Prop, (∀ H', Kp H H' → R (Itr lo n) H') → wi σ H R
section
variable {c : Ct} {t ta tb : TE}
theorem w_rng1 {j : Int} (h : E false c t (RD (.int j))) (b : -(2 ^ 62) ≤ j ∧ j < 2 ^ 62) : EW c (iRng1 (tCons t tNil)) 0 j.toNat := fun σ H s R q => h σ H s _ fun H1 v k r => by
  cases r
  exact ⟨j, rfl, b.1, b.2, q H1 k⟩
theorem w_rng2 {i j : Int} (h : E false c ta (RD (.int i))) (g : E false c tb (RD (.int j))) (b : -(2 ^ 62) ≤ i ∧ i < 2 ^ 62 ∧ -(2 ^ 62) ≤ j ∧ j < 2 ^ 62) : EW c (iRng2 (tCons ta (tCons tb tNil))) i (j - i).toNat := fun σ H s R q =>
  h σ H s _ fun H1 v k1 r1 => g σ H1 (s.kp k1) _ fun H2 u k2 r2 => by
    cases r1
    cases r2
    exact ⟨i, j, rfl, b, q H2 (k1.trans k2)⟩
end
end Pk
namespace Pk
open PySem L2 PySem.Spec PyProof.Rows GxR NdefX
/-- what is wanted holds wherever the slots hold what they should -/
def WC (c : Ct) (k : L2.St → Hp → Prop) : Prop := ∀ σ H, Sta c σ H → k σ H
/-- one of these holds -/
def Nx (c : Ct) (I : List Slot → Prop) : L2.St → Hp → Prop := fun σ H => ∃ g, I g ∧ Sta (c.at g) σ H
section
variable {c : Ct} {R S : Rel} {C : Own} {t te tl : TE} {tt : TT} {g : TG} {i : Nat} {D : Ends} {k : L2.St → Hp → Prop} {a u : TS} {K : PySem.W.Frag}
theorem s_of {I : List Slot → Prop} {hs h0 : Hp} {om : Addr → Prop} {gs : List Slot} (h : I gs) : WC ⟨hs, h0, om, gs⟩ (Nx ⟨hs, h0, om, []⟩ I) := fun σ H s => ⟨gs, h, s⟩
theorem s_seq (h : WC c (a { D with nx := u D })) : WC c (tSeq a u D) := h
theorem s_pass (h : WC c D.nx) : WC c (tNext D) := h
theorem s_set (h : E true c te R) (q : WC (c.set i (.fz R)) D.nx) (hi : Nat.blt i c.g.length = true := by rfl) : WC c (tAsg te (gName i) D) := fun σ H s => h σ H s _ fun H' v kp r => by
  rw [hb_t] at r
  exact q _ H' ((s.kp kp).set (by simpa using hi) r).1
theorem s_new (h : EN c te C) (q : WC (c.set i (.own C)) D.nx) (hi : Nat.blt i c.g.length = true := by rfl) : WC c (tAsg te (gName i) D) := fun σ H s => h σ H s _ fun H' p o kp n r =>
  q _ _ ((s.kp kp).new (by simpa using hi) n r).1
theorem s_asg {g' : List Slot} {is : List Nat} (h : E true c te R) (hg : EG c g R g' is) (q : WC (c.at g') D.nx) : WC c (tAsg te g D) := fun σ H s => h σ H s _ fun H' v kp r => by
  rw [hb_t] at r
  exact hg σ H' v (s.kp kp) r _ fun σ' s' _ _ => q σ' H' s'
theorem s_expr (h : E false c te R) (q : WC c D.nx) : WC c (tDrop te D) := fun σ H s => h σ H s _ fun H' v kp _ => q σ H' (s.kp kp)
theorem s_if {x : Bool} (h : ET c tt x) (ha : x = true → WC c (a D)) (hb : x = false → WC c (u D)) : WC c (tIfS tt a u D) := fun σ H s => h σ H s _ fun H' kp => by
  cases x with
  | true => rw [if_pos rfl]; exact ha rfl σ H' (s.kp kp)
  | false => rw [if_neg Bool.false_ne_true]; exact hb rfl σ H' (s.kp kp)
theorem s_ret (h : E true c te R) (q : ∀ H' v, Kp c.hs H' → R.p (less H' c.om) v → D.rt v H') : WC c (tRet te D) := fun σ H s => h σ H s _ fun H' v kp r => by
  rw [hb_t] at r
  exact q H' v (s.ks.trans kp) (R.mn (less_mono fun _ z => .inr z) r)
/-- what was changed now stays -/
theorem s_fix (e : c.g[i]? = some (.own C)) (z : ∀ B p o, B p = some o → C.p B o → R.p B (.ref p)) (q : WC (c.set i (.fz R)) k) : WC c k := fun σ H s => q σ H (s.fix e z).1
/-- nothing more is said of a slot -/
theorem s_drop (i : Nat) (q : WC (c.set i .any) k) : WC c k := fun σ H s => by
  cases e : σ[i]? with
  | none =>
    have := (s.drop i none).1
    rw [List.set_eq_of_length_le (List.getElem?_eq_none_iff.mp e)] at this
    exact q σ H this
  | some o =>
    have := (s.drop i o).1
    rw [setsame e] at this
    exact q σ H this
/-- l.append(e), l being changed -/
theorem s_app {d : PyData} {ds : List PyData} (e : c.g[i]? = some (.own (OL ds))) (h : E true c te (RD d)) (l : ds.length < sizeLine) (q : WC (c.set i (.own (OL (ds ++ [d])))) D.nx) :
    WC c (tDrop (tBM K "list" rAppend (tVar i) (tCons te tNil)) D) := fun σ H s => by
  obtain ⟨p, o, e1, e2, ⟨vs, rfl, a⟩, _⟩ := s.own i _ e
  refine ⟨.ref p, e1, .inl ⟨rfl, vs, SqL.of e2⟩, h σ H s _ fun H1 v kp r => ⟨p, vs, v, rfl, rfl, kp.lst e2, by rw [a.len]; exact l, ?_⟩⟩
  rw [hb_t] at r
  exact q σ _ ((s.kp kp).mut (C' := OL (ds ++ [d])) e e1 ⟨_, rfl, (a.kp (s.kb kp)).app (.cons r .nil)⟩).1
end
section
variable {c : Ct} {tl : TE} {wi : TI} {g : TG} {D : Ends} {tb : TS} {K : PySem.W.Frag} {tt : TT}
abbrev inL (hs h1 : Hp) (om : Addr → Prop) (I : List Slot → Prop) (D : Ends) : Ends := { D with nx := Nx ⟨hs, h1, om, []⟩ I, ct := Nx ⟨hs, h1, om, []⟩ I, bk := D.nx }
theorem s_rng {lo : Int} {n : Nat} (I : Nat → List Slot → Prop) (hs : EW c wi lo n) (h0 : I 0 c.g)
    (hb : ∀ i gs, i < n → I i gs → ∃ g' is, EG (c.at gs) g (RD (.int (lo + (i : Int)))) g' is ∧ WC (c.at g') (tb (inL c.hs c.h0 c.om (I (i + 1)) D)))
    (hd : ∀ gs, I n gs → WC (c.at gs) D.nx) : WC c (tFor wi g tb D) := fun σ H s => hs σ H s _ fun H1 k1 => by
  refine for_range (fun i σ' H' => Nx ⟨c.hs, c.h0, c.om, []⟩ (I i) σ' H') ⟨c.g, h0, s.kp k1⟩ ?_ ?_
  · rintro i σ' H' hi ⟨gs, hg, s'⟩
    obtain ⟨g', is, hg', hw⟩ := hb i gs hi hg
    exact hg' σ' H' _ s' (.int _) _ fun σ2 s2 _ _ => hw σ2 H' s2
  · rintro σ' H' ⟨gs, hg, s'⟩
    exact hd gs hg σ' H' s'
end
/-- for arguments that are as Rs says, and P: a value as R says -/
def Sps {α : Type} (Rs : α → List Rel) (P : α → Hp → Prop) (R : α → Rel) : Sp := fun vs H Q _ => ∃ (a : α) (om : Addr → Prop), Hd H om ∧ Rok (Rs a) (less H om) vs ∧ P a (less H om) ∧ ∀ H' v, Kp H H' → (R a).p (less H' om) v → Q v H'
/-- a promise serves such arguments -/
def Sok (sp : Sp) (Rs : List Rel) (P : Hp → Prop) (R : Rel) : Prop := ∀ H om vs, Hd H om → Rok Rs (less H om) vs → P (less H om) → ∀ (Q : VK) (E : XK), (∀ H' v, Kp H H' → R.p (less H' om) v → Q v H') → sp vs H Q E
theorem sok_sps {α : Type} {Rs : α → List Rel} {P : α → Hp → Prop} {R : α → Rel} (a : α) : Sok (Sps Rs P R) (Rs a) (P a) (R a) := fun H om vs ho hr hp Q E q => ⟨a, om, ho, hr, hp, q⟩
section
variable {b : Bool} {c : Ct} {R R0 : Rel} {Rs : List Rel} {P : Hp → Prop} {sp : Sp} {te : TE} {ta : TA} {E' : XK} {C : Addr} {m : Str}
theorem Sta.hd {σ : L2.St} {H : Hp} (s : Sta c σ H) : Hd H (msk b c σ) := fun a m => s.hides a m
theorem c_call (hsp : Sok sp Rs P R) (ha : EA b c ta Rs) (hp : ∀ H, Kp c.h0 H → P H) : E b c (tCall sp [] E' ta) R := fun σ H s Q q => ha σ H s _ fun H1 vs k1 r1 => by
  rw [List.append_nil]
  exact hsp H1 (msk b c σ) vs (s.kp k1).hd r1 (hp _ ((s.kp k1).k0.trans bas_hb)) Q E' fun H' v k r => q H' v (k1.trans k) r
theorem c_meth (hi : ∀ H v, R0.p H v → ∃ a dx fs, v = .ref a ∧ H a = some (.ins C dx fs) ∧ fs.lookup m = none) (hsp : Sok sp (R0 :: Rs) P R) (ho : E b c te R0) (ha : EA b c ta Rs) (hp : ∀ H, Kp c.h0 H → P H) : E b c (tMeth C m sp [] E' te ta) R := fun σ H s Q q =>
  ho σ H s _ fun H1 x k1 r1 => by
    obtain ⟨a, dx, fs, rfl, e, l⟩ := hi _ _ r1
    refine ⟨a, dx, fs, rfl, (less_some e).2, l, ha σ H1 (s.kp k1) _ fun H2 vs k2 r2 => ?_⟩
    rw [List.append_nil]
    have s2 := (s.kp k1).kp k2
    exact hsp H2 (msk b c σ) _ s2.hd ⟨_, _, rfl, R0.mn (hb_kp k2) r1, r2⟩ (hp _ (s2.k0.trans bas_hb)) Q E' fun H' v k r => q H' v ((k1.trans k2).trans k) r
end
/-- the slots at the start of a def -/
def slots0 (Rs : List Rel) (n : Nat) : List Slot := Rs.map .fz ++ List.replicate (n - Rs.length) .any
theorem Rok.len : ∀ {Rs : List Rel} {H : Hp} {vs : List V}, Rok Rs H vs → vs.length = Rs.length
  | [], _, _, h => by rw [show _ = [] from h]; rfl
  | _ :: Rs, _, _, ⟨v, r, e, _, h⟩ => by rw [e]; exact congrArg (· + 1) h.len
theorem Rok.at : ∀ {Rs : List Rel} {H : Hp} {vs : List V}, Rok Rs H vs → ∀ {i : Nat} {R : Rel}, Rs[i]? = some R → ∃ v, vs[i]? = some v ∧ R.p H v
  | [], _, _, _, i, _, e => by simp at e
  | _ :: Rs, _, _, ⟨v, r, rfl, h1, h2⟩, 0, _, e => by cases e; exact ⟨v, rfl, h1⟩
  | _ :: Rs, _, _, ⟨v, r, rfl, h1, h2⟩, i + 1, _, e => h2.at e
theorem no_own {Rs : List Rel} {n : Nat} {i : Nat} {C : Own} : (slots0 Rs n)[i]? ≠ some (.own C) := fun e => by
  unfold slots0 at e
  have m := List.mem_of_getElem? e
  rcases List.mem_append.mp m with z | z
  · obtain ⟨R, _, q⟩ := List.mem_map.mp z
    cases q
  · cases (List.eq_of_mem_replicate z)
theorem sta_start {H : Hp} {om : Addr → Prop} {Rs : List Rel} {N : List Str} {vs : List V} (ho : Hd H om) (h : Rok Rs (less H om) vs) : Sta ⟨H, less H om, om, slots0 Rs N.length⟩ (L2.start N vs) H := by
  have hl := h.len
  have eb : bas ⟨H, less H om, om, slots0 Rs N.length⟩ (L2.start N vs) H = less H om := by
    funext a
    by_cases m : om a
    · rw [less_in m]
      exact bas_in (c := ⟨H, less H om, om, slots0 Rs N.length⟩) (.inr m)
    · rw [less_out m]
      exact bas_out (c := ⟨H, less H om, om, slots0 Rs N.length⟩) fun z => z.elim (fun ⟨i, C, e, _⟩ => no_own e) m
  refine ⟨?_, fun i R e => ?_, fun i C e => absurd e no_own, fun i j C _ _ e => absurd e no_own, by rw [eb]; exact Kp.refl _, Kp.refl _, ho⟩
  · show (vs.map some ++ List.replicate (N.length - vs.length) none).length = (Rs.map Slot.fz ++ List.replicate (N.length - Rs.length) Slot.any).length
    rw [List.length_append, List.length_append, List.length_map, List.length_map, List.length_replicate, List.length_replicate, hl]
  · rw [eb]
    have e : (Rs.map Slot.fz ++ List.replicate (N.length - Rs.length) Slot.any)[i]? = some (.fz R) := e
    by_cases hi : i < Rs.length
    · rw [List.getElem?_append_left (by rw [List.length_map]; exact hi), List.getElem?_map] at e
      obtain ⟨R', e1, e2⟩ := Option.map_eq_some_iff.mp e
      cases e2
      obtain ⟨v, e3, e4⟩ := h.at e1
      refine ⟨v, ?_, e4⟩
      show (vs.map some ++ List.replicate (N.length - vs.length) none)[i]? = _
      rw [List.getElem?_append_left (by rw [List.length_map, hl]; exact hi), List.getElem?_map, e3]
      rfl
    · rw [List.getElem?_append_right (by rw [List.length_map]; omega)] at e
      cases (List.eq_of_mem_replicate (List.mem_of_getElem? e))
section
variable {P : Program} {w : World} {K : PySem.W.Frag} {mg : Str → Option Value} {base : Heap}
/-- a def that keeps such a promise -/
theorem fn_ok {x qual : Str} {st : Stmt} {f : Addr} {fd : FuncData} {N ps : List Str} {k : Nat} {α : Type} {Rs : α → List Rel} {Pr : α → Hp → Prop} {R : α → Rel} (F : Fun K x qual st f fd) (S : FnScope N ps (defScope st)) (hl : ∀ a, (Rs a).length = ps.length)
    (hbody : ∀ (cdv : Value) (A : Around) (outer : List Env) (s : Shared) (H : Hp) (E : XK), Room k (A.deeper (envOfC qual (defScope st) s.heap.objs.size f cdv)) →
      ∃ t, PSs (cxOf CX0 P w K mg base N qual (defScope st) f cdv A outer s H E).nox (defBody st) t ∧ ∀ (a : α) (hs : Hp) (om : Addr → Prop) (Q : VK), Pr a (less hs om) → (∀ H' v, Kp hs H' → (R a).p (less H' om) v → Q v H') → WC ⟨hs, less hs om, om, slots0 (Rs a) N.length⟩ (t { nx := fun _ H' => Q .non H', rt := Q })) :
    FnOk P w K mg base CX0 (k + 1) f fd ps (Sps Rs Pr R) := by
  refine F.ok S (fun vs H Q E h => ?_) (fun cdv A outer s H vs Q E hr h => ?_)
  · obtain ⟨a, om, ho, hr, _⟩ := h
    rw [hr.len, hl]
  · obtain ⟨a, om, ho, hR, hP, q⟩ := h
    obtain ⟨t, ht, hw⟩ := hbody cdv A outer s H E hr
    exact ⟨t, ht, hw a H om Q hP q _ _ (sta_start ho hR)⟩
end
end Pk
namespace Pk
open PySem L2 PySem.Spec PyProof.Rows GxR NdefX
abbrev eL {α : Type} (f : α → PyData) : List α → PyData := fun xs => .list (xs.map f)
abbrev eTL {α : Type} (f : α → PyData) : List α → PyData := fun xs => .tuple (xs.map f)
abbrev eT2 {α β : Type} (f : α → PyData) (g : β → PyData) : α × β → PyData := fun p => .tuple [f p.1, g p.2]
abbrev eT3 {α β γ : Type} (f : α → PyData) (g : β → PyData) (k : γ → PyData) : α × β × γ → PyData := fun p => .tuple [f p.1, g p.2.1, k p.2.2]
abbrev dLk : Str × Int × Int → PyData := fun c => .tuple [.str c.1, .int c.2.1, .int c.2.2]
theorem enc_P : Enc dP 1 (fun p : Pl => True ∧ True) := enc_pair enc_int enc_int
/-- the item at i, counted from the end if i is negative -/
def ix {α : Type} [Inhabited α] (xs : List α) (i : Int) : α := (atI xs i).getD default
theorem atI_in {α : Type} {xs : List α} {i : Int} (h : -(xs.length : Int) ≤ i ∧ i < xs.length) : ∃ a, atI xs i = some a := by
  unfold atI ixN
  by_cases h0 : 0 ≤ i
  · rw [if_pos h0, if_pos h.2]
    show ∃ a, xs[i.toNat]? = some a
    exact ⟨_, List.getElem?_eq_getElem (by omega)⟩
  · rw [if_neg h0, if_pos h.1]
    show ∃ a, xs[(i + xs.length).toNat]? = some a
    exact ⟨_, List.getElem?_eq_getElem (by omega)⟩
theorem atI_map {α β : Type} (f : α → β) (xs : List α) (i : Int) : atI (xs.map f) i = (atI xs i).map f := by
  unfold atI
  rw [List.length_map]
  cases ixN xs.length i with
  | none => rfl
  | some j => exact List.getElem?_map ..
theorem ix_some {α : Type} [Inhabited α] {xs : List α} {i : Int} (h : -(xs.length : Int) ≤ i ∧ i < xs.length) : atI xs i = some (ix xs i) := by
  obtain ⟨a, e⟩ := atI_in h
  unfold ix
  rw [e]
  rfl
theorem ix_at {α : Type} [Inhabited α] {enc : α → PyData} {xs : List α} {i : Int} (h : -(xs.length : Int) ≤ i ∧ i < xs.length) : atI (xs.map enc) i = some (enc (ix xs i)) := by
  rw [atI_map, ix_some h]
  rfl
theorem ix_nat {α : Type} [Inhabited α] {xs : List α} {j : Nat} {a : α} (h : xs[j]? = some a) : ix xs (j : Int) = a := by
  unfold ix
  rw [atI_nat h]
  rfl
def cutL {α : Type} (xs : List α) (lo hi : Option Int) : List α := (xs.drop (HT.sIx xs.length 0 lo)).take (HT.sIx xs.length xs.length hi - HT.sIx xs.length 0 lo)
theorem cutD_map {α : Type} (f : α → PyData) (xs : List α) (lo hi : Option Int) : cutD (xs.map f) lo hi = (cutL xs lo hi).map f := by
  unfold cutD cutL
  rw [List.length_map, List.map_take, List.map_drop]
def rgI (lo : Int) (n : Nat) : List Int := (List.range n).map fun k : Nat => lo + (k : Int)
section
variable {b : Bool} {c : Ct} {α β γ : Type} {t ta tb tc te tl : TE} {K : PySem.W.Frag} {R S : Rel} {d e : PyData}
theorem EN.eqL {ds es : List PyData} (h : EN c t (OL ds)) (e : ds = es) : EN c t (OL es) := e ▸ h
theorem n_catM {xs ys : List α} {enc : α → PyData} (h : EI c ta (xs.map enc)) (g : EI c tb (ys.map enc)) (l : xs.length + ys.length ≤ 16777216) : EN c (tOp rCat ta tb) (OL ((xs ++ ys).map enc)) :=
  (n_cat h g (by rw [List.length_map, List.length_map]; exact l)).eqL (List.map_append ..).symm
theorem n_lstM {xs : List α} {enc : α → PyData} {u : TA} (h : EM true c u (xs.map enc)) (l : Nat.ble (xs.map enc).length sizeLine = true := by rfl) : EN c (tLst u) (OL (xs.map enc)) := n_lst h l
theorem n_slM {xs : List α} {enc : α → PyData} {lo hi : Option Int} {tl th : TO} (h : EI c t (xs.map enc)) (hl : EO c tl lo) (hh : EO c th hi) : EN c (tSl (rSlL K) t tl th) (OL ((cutL xs lo hi).map enc)) :=
  (n_sl h hl hh).eqL (cutD_map _ _ _ _)
theorem o_lenM {xs : List α} {enc : α → PyData} : On (fun xs H Q => ∃ x n, xs = [x] ∧ LenV K x H n ∧ Q (.int n) H) [RD (.list (xs.map enc))] (RD (.int xs.length)) := by
  have := o_lenL (K := K) (ds := xs.map enc)
  rw [List.length_map] at this
  exact this
theorem t_yes : ET c tYes true := fun σ H s Q q => q H (Kp.refl _)
theorem e_ite {tt : TT} {x : Bool} {enc : α → PyData} {u v : α} (h : ET c tt x) (ha : x = true → E b c ta (RD (enc u))) (hc : x = false → E b c tb (RD (enc v))) : E b c (tIf tt ta tb) (RD (enc (if x = true then u else v))) := by
  refine e_if h (fun z => ?_) fun z => ?_
  · rw [if_pos z]; exact ha z
  · rw [if_neg (by rw [z]; exact Bool.false_ne_true)]; exact hc z
theorem o_mod {i j : Int} (h : 0 < j) : O2 (rI (fun _ j => 0 < j) fun i j => .int (i % j)) (RD (.int i)) (RD (.int j)) (RD (.int (i % j))) := o_I (C := fun _ j => 0 < j) h
theorem o_neg {i : Int} : O1 (rU fun i => .int (-i)) (RD (.int i)) (RD (.int (-i))) := o_U
theorem DtAll.bls {H : Hp} : ∀ {vs : List V} {bs : List Bool}, DtAll H vs (bs.map PyData.bool) → vs = bs.map V.bl
  | [], [], _ => rfl
  | [], _ :: _, h => by cases h
  | _ :: _, [], h => by cases h
  | v :: vs, x :: bs, .cons a r => by
    cases a
    rw [r.bls]
    rfl
theorem DtAll.ints {H : Hp} : ∀ {vs : List V} {ns : List Int}, DtAll H vs (ns.map PyData.int) → vs = ns.map V.int
  | [], [], _ => rfl
  | [], _ :: _, h => by cases h
  | _ :: _, [], h => by cases h
  | v :: vs, x :: ns, .cons a r => by
    cases a
    rw [r.ints]
    rfl
theorem DtAll.ofInts {H : Hp} : ∀ ns : List Int, DtAll H (ns.map V.int) (ns.map PyData.int)
  | [] => .nil
  | n :: ns => .cons (.int n) (DtAll.ofInts ns)
theorem o_all {bs : List Bool} : On (rAll K) [RD (.list (bs.map PyData.bool))] (RD (.bool (bs.all id))) := fun H M vs _ r Q q => by
  obtain ⟨v, r', rfl, h1, rfl⟩ := r
  cases h1 with
  | lst e a => exact ⟨_, bs, rfl, by rw [← a.bls]; exact SqL.of (less_some e).2, q H _ (Kp.refl _) (.bl _)⟩
theorem o_sum {ns : List Int} : On (rSum K) [RD (.list (ns.map PyData.int))] (RD (.int ns.sum)) := fun H M vs _ r Q q => by
  obtain ⟨v, r', rfl, h1, rfl⟩ := r
  cases h1 with
  | lst e a => exact ⟨_, ns, rfl, by rw [← a.ints]; exact SqL.of (less_some e).2, q H _ (Kp.refl _) (.int _)⟩
section
variable {xs : List α} {enc : α → PyData} {G : α → List Slot} {is vs : List Nat} {p : α → Bool} {h : α → β} {encB : β → PyData} {tt : TT} {g : TG}
def anyAt (g : List Slot) (vs : List Nat) : Bool := vs.all fun i => match g[i]? with
  | some .any => true
  | _ => false
theorem anyAt_of {g : List Slot} {vs : List Nat} (h : anyAt g vs = true) : ∀ i ∈ vs, g[i]? = some .any := fun i m => by
  have := List.all_eq_true.mp h i m
  cases e : g[i]? with
  | none => rw [e] at this; cases this
  | some s =>
    rw [e] at this
    cases s with
    | any => rfl
    | fz R => cases this
    | own C => cases this
theorem n_lcM (hs : EI c tl (xs.map enc)) (hw : anyAt c.g vs = true) (his : ∀ i ∈ is, i ∈ vs)
    (hg : ∀ om, ∀ x, x ∈ xs → EG ⟨c.hs, c.h0, om, c.g⟩ g (RD (enc x)) (G x) is) (ht : ∀ om, ∀ x, x ∈ xs → ET ⟨c.hs, c.h0, om, G x⟩ tt (p x))
    (he : ∀ om, ∀ x, x ∈ xs → p x = true → E true ⟨c.hs, c.h0, om, G x⟩ te (RD (encB (h x)))) (hl : xs.length < 16777216) : EN c (tLc (iList K tl) g tt te vs) (OL (((xs.filter p).map h).map encB)) :=
  (n_lc (f := fun x => encB (h x)) hs (anyAt_of hw) his (fun om x m => hg om x m) (fun om x m => ht om x m) (fun om x m q => he om x m q) hl).eqL (by rw [List.map_map]; rfl)
end
section
variable {lo : Int} {n : Nat} {G : Int → List Slot} {is vs : List Nat} {p : Int → Bool} {h : Int → β} {encB : β → PyData} {tt : TT} {g : TG} {wi : TI}
theorem n_lcRM (hs : EW c wi lo n) (hw : anyAt c.g vs = true) (his : ∀ i ∈ is, i ∈ vs)
    (hg : ∀ om, ∀ k : Int, (lo ≤ k ∧ k < lo + n) → EG ⟨c.hs, c.h0, om, c.g⟩ g (RD (.int k)) (G k) is) (ht : ∀ om, ∀ k : Int, (lo ≤ k ∧ k < lo + n) → ET ⟨c.hs, c.h0, om, G k⟩ tt (p k))
    (he : ∀ om, ∀ k : Int, (lo ≤ k ∧ k < lo + n) → p k = true → E true ⟨c.hs, c.h0, om, G k⟩ te (RD (encB (h k)))) (hl : n < 16777216) : EN c (tLc wi g tt te vs) (OL ((((rgI lo n).filter p).map h).map encB)) :=
  (n_lcR (f := fun x => encB (h x)) hs (anyAt_of hw) his (fun om k m => hg om _ (by omega)) (fun om k m => ht om _ (by omega)) (fun om k m q => he om _ (by omega) q) hl).eqL (by rw [List.map_map]; rfl)
theorem n_lcRM1 (hs : EW c wi lo n) (hw : anyAt c.g vs = true) (his : ∀ i ∈ is, i ∈ vs)
    (hg : ∀ om, ∀ k : Int, (lo ≤ k ∧ k < lo + n) → EG ⟨c.hs, c.h0, om, c.g⟩ g (RD (.int k)) (G k) is)
    (he : ∀ om, ∀ k : Int, (lo ≤ k ∧ k < lo + n) → True → E true ⟨c.hs, c.h0, om, G k⟩ te (RD (encB (h k)))) (hl : n < 16777216) : EN c (tLc wi g tYes te vs) (OL (((rgI lo n).map h).map encB)) :=
  (n_lcRM (p := fun _ => true) hs hw his hg (fun _ _ _ => t_yes) (fun om x m _ => he om x m trivial) hl).eqL (by rw [List.filter_eq_self.mpr (fun _ _ => rfl)])
end
theorem s_appM {i : Nat} {D : Ends} {xs : List α} {enc : α → PyData} {a : α} (e : c.g[i]? = some (.own (OL (xs.map enc)))) (h : E true c te (RD (enc a))) (l : xs.length < 16777216) (q : WC (c.set i (.own (OL ((xs ++ [a]).map enc)))) D.nx) :
    WC c (tDrop (tBM K "list" rAppend (tVar i) (tCons te tNil)) D) := s_app e h (by rw [List.length_map]; exact l) (by rw [List.map_append] at q; exact q)
end
end Pk
namespace Pk
open PySem PySem.Spec PyProof.Rows L2
abbrev zObj (f0 : Value) (g : Bool) (TI TO : Addr) : Obj := { cls := .type "zip", dict := none, data := .fields #[f0, .bool g, .bool false, .ref TI, .ref TO], slots := #[] }
/-- a zip in the midst of its walk; the tuple that it gave last still stands -/
structure ZS (h : Heap) (z TI TO i1 i2 l1 l2 : Addr) (i : Nat) (xs ys : Array Value) : Prop where
  ob : h.get? z = some (zObj .none false TI TO) ∨ ∃ (T : Addr) (o : Obj) (g : Bool), h.get? z = some (zObj (rawInt T) g TI TO) ∧ h.get? T = some o ∧ T ≠ z ∧ T ≠ TO ∧ T ≠ i1 ∧ T ≠ i2
  ti : IsPair h TI (.ref i1) (.ref i2)
  to_ : ∃ a b, IsPair h TO a b
  it1 : h.IsListIter i1 l1 i
  it2 : h.IsListIter i2 l2 i
  ls1 : h.IsList l1 xs
  ls2 : h.IsList l2 ys
section
variable {P : Program} {w : World} {A : Around} {E : Value → Shared → Prop} {s : Shared} {z TI TO i1 i2 l1 l2 : Addr} {i : Nat} {xs ys : Array Value}
theorem ZS.over {h h' : Heap} {n : Addr} (S : ZS h z TI TO i1 i2 l1 l2 i xs ys) (k : ∀ b u, b ≠ n → h.get? b = some u → h'.get? b = some u) (nz : z ≠ n) (nI : TI ≠ n) (nO : TO ≠ n) (n1 : i1 ≠ n) (n2 : i2 ≠ n) (m1 : l1 ≠ n) (m2 : l2 ≠ n)
    (nT : ∀ (T : Addr) (g : Bool), h.get? z = some (zObj (rawInt T) g TI TO) → T ≠ n) : ZS h' z TI TO i1 i2 l1 l2 i xs ys := by
  refine ⟨?_, k _ _ nI S.ti, ?_, S.it1.at fun o e => k _ o n1 e, S.it2.at fun o e => k _ o n2 e, S.ls1.at fun o e => k _ o m1 e, S.ls2.at fun o e => k _ o m2 e⟩
  · rcases S.ob with e | ⟨T, o, g, e, q, r⟩
    · exact .inl (k _ _ nz e)
    · exact .inr ⟨T, o, g, k _ _ nz e, k _ _ (nT T g e) q, r⟩
  · obtain ⟨a, b, e⟩ := S.to_
    exact ⟨a, b, k _ _ nO e⟩
/-- the pairs that were laid -/
structure Laid (h : Heap) (lo : Addr) (xs ys : Array Value) (as : List Addr) : Prop where
  rise : as.Pairwise (· < ·)
  above : ∀ a ∈ as, lo < a
  prs : ∀ (j : Nat) (a : Addr), as[j]? = some a → ∃ x y, xs[j]? = some x ∧ ys[j]? = some y ∧ IsPair h a x y
theorem Laid.there {h : Heap} {lo : Addr} {as : List Addr} (L : Laid h lo xs ys as) {a : Addr} (ha : a ∈ as) : a < h.objs.size := by
  obtain ⟨j, hj⟩ := List.mem_iff_getElem?.mp ha
  obtain ⟨_, _, _, _, e⟩ := L.prs j a hj
  exact Heap.lt_size e
section
variable {R : Result → Shared → Prop} {S : Addr}
theorem ZS.type {h : Heap} (S : ZS h z TI TO i1 i2 l1 l2 i xs ys) : ∃ o, h.get? z = some o ∧ o.cls = .type "zip" := by
  rcases S.ob with e | ⟨T, o, g, e, _⟩
  · exact ⟨_, e, rfl⟩
  · exact ⟨_, e, rfl⟩
/-- a fresh zip -/
structure Z0 (h : Heap) (z TI TO i1 i2 l1 l2 : Addr) (xs ys : Array Value) : Prop where
  ob : h.get? z = some (zObj .none false TI TO)
  zs : ZS h z TI TO i1 i2 l1 l2 0 xs ys
theorem Z0.over {h h' : Heap} {n : Addr} (S : Z0 h z TI TO i1 i2 l1 l2 xs ys) (k : ∀ b u, b ≠ n → h.get? b = some u → h'.get? b = some u) (nz : z ≠ n) (nI : TI ≠ n) (nO : TO ≠ n) (n1 : i1 ≠ n) (n2 : i2 ≠ n) (m1 : l1 ≠ n) (m2 : l2 ≠ n) : Z0 h' z TI TO i1 i2 l1 l2 xs ys := by
  refine ⟨k _ _ nz S.ob, S.zs.over k nz nI nO n1 n2 m1 m2 fun T g e => ?_⟩
  rw [S.ob] at e
  have q := congrArg Obj.data (Option.some.inj e)
  injection q with q
  have q2 := congrArg (fun v : Array Value => v[0]?) q
  simp [rawInt] at q2
end
end
end Pk
namespace Pk
open PySem PySem.Spec PyProof.Rows L2 GxR NdefX
theorem DtAll.zip {H : Hp} : ∀ {ts : List Addr} {ds es : List PyData}, ts.length = ds.length → es.length = ds.length → (∀ (j : Nat) (t : Addr) (d e : PyData), ts[j]? = some t → ds[j]? = some d → es[j]? = some e → ∃ x y, H t = some (.tup [x, y]) ∧ Dt H x d ∧ Dt H y e) → DtAll H (ts.map V.ref) ((ds.zip es).map fun p => .tuple [p.1, p.2])
  | [], [], [], _, _, _ => .nil
  | [], _ :: _, _, h, _, _ => by cases h
  | _ :: _, [], _, h, _, _ => by cases h
  | _, [], _ :: _, _, h, _ => by cases h
  | _, _ :: _, [], _, h, _ => by cases h
  | t :: ts, d :: ds, e :: es, h1, h2, f => by
    obtain ⟨x, y, q, r1, r2⟩ := f 0 t d e rfl rfl rfl
    exact .cons (.tup q (.cons r1 (.cons r2 .nil))) (DtAll.zip (Nat.succ.inj h1) (Nat.succ.inj h2) fun j t' d' e' a b c => f (j + 1) t' d' e' a b c)
end Pk
namespace Pk
open PySem L2 PySem.Spec PyProof.Rows GxR NdefX
/-- the slots of the generator's frame -/
def gslots (fr : List (Option Nat)) (g : List Slot) : List Slot := fr.map fun o => match o with
  | none => .any
  | some j => match g[j]? with
    | some (.fz R) => .fz R
    | _ => .any
theorem gslots_fz {fr : List (Option Nat)} {g : List Slot} {i : Nat} {R : Rel} (h : (gslots fr g)[i]? = some (.fz R)) : ∃ j, fr[i]? = some (some j) ∧ g[j]? = some (.fz R) := by
  unfold gslots at h
  rw [List.getElem?_map] at h
  obtain ⟨o, e1, e2⟩ := Option.map_eq_some_iff.mp h
  cases o with
  | none => cases e2
  | some j =>
    refine ⟨j, e1, ?_⟩
    dsimp only at e2
    cases q : g[j]? with
    | none => rw [q] at e2; cases e2
    | some s =>
      rw [q] at e2
      cases s with
      | any => cases e2
      | fz S => cases e2; rfl
      | own C => cases e2
theorem gslots_own {fr : List (Option Nat)} {g : List Slot} {i : Nat} {C : Own} : (gslots fr g)[i]? ≠ some (.own C) := fun h => by
  unfold gslots at h
  rw [List.getElem?_map] at h
  obtain ⟨o, e1, e2⟩ := Option.map_eq_some_iff.mp h
  cases o with
  | none => cases e2
  | some j =>
    dsimp only at e2
    cases q : g[j]? with
    | none => rw [q] at e2; cases e2
    | some s =>
      rw [q] at e2
      cases s <;> cases e2
abbrev omG (c : Ct) (σ : L2.St) : Addr → Prop := fun a => isOwn c.g σ a ∨ c.om a
theorem sta_gen {c : Ct} {σ : L2.St} {H : Hp} (s : Sta c σ H) (fr : List (Option Nat)) : Sta ⟨c.hs, c.h0, omG c σ, gslots fr c.g⟩ (slotsG fr σ) H ∧ bas ⟨c.hs, c.h0, omG c σ, gslots fr c.g⟩ (slotsG fr σ) H = bas c σ H := by
  have eb : bas ⟨c.hs, c.h0, omG c σ, gslots fr c.g⟩ (slotsG fr σ) H = bas c σ H :=
    bas_iff (fun a => ⟨fun z => z.elim (fun ⟨i, C, e, _⟩ => absurd e gslots_own) id, fun z => .inr z⟩) fun _ _ => rfl
  refine ⟨⟨by show (fr.map _).length = (fr.map _).length; rw [List.length_map, List.length_map], fun i R e => ?_, fun i C e => absurd e gslots_own, fun i j C _ _ e => absurd e gslots_own, by rw [eb]; exact s.k0, s.ks, fun a z => ?_⟩, eb⟩
  · obtain ⟨j, e1, e2⟩ := gslots_fz e
    obtain ⟨v, e3, e4⟩ := s.fz j R e2
    refine ⟨v, ?_, by rw [eb]; exact e4⟩
    unfold slotsG
    rw [List.getElem?_map, e1]
    show some ((σ[j]?).join) = _
    rw [e3]
    rfl
  · rcases z with ⟨i, C, e1, e2⟩ | z
    · obtain ⟨p, o, e3, e4, e5, _⟩ := s.own i C e1
      rw [e2] at e3
      cases e3
      exact ⟨o, e4, C.ok e5⟩
    · exact s.hid a z
def dropS (g : List Slot) (is : List Nat) : List Slot := is.foldl (fun g i => g.set i .any) g
theorem Sta.dropS {c : Ct} {σ : L2.St} {H : Hp} : ∀ (is : List Nat) (g : List Slot), Sta (c.at g) σ H → Sta (c.at (Pk.dropS g is)) σ H
  | [], g, s => s
  | i :: is, g, s => by
    have : Sta (c.at (g.set i .any)) σ H := by
      cases e : σ[i]? with
      | none =>
        have q := (s.drop i none).1
        rw [List.set_eq_of_length_le (List.getElem?_eq_none_iff.mp e)] at q
        exact q
      | some o =>
        have q := (s.drop i o).1
        rw [setsame e] at q
        exact q
    exact Sta.dropS is (g.set i .any) this
theorem tabbed_kp {P : Addr} {H H' : Hp} (h : Tabbed P H H') (t : TabG H P) : Kp H H' := Tabbed.kp h t
section
variable {b : Bool} {c : Ct} {K : PySem.W.Frag} {tl te : TE} {g : TG} {PT : Addr} {fr : List (Option Nat)} {is : List Nat} {g0 : List Slot}
/-- the answer of a search -/
theorem srch {α : Type} {xs : List α} {p : α → Bool} (st : Bool) : (if st = true then xs.any p else xs.all p) = if (∀ x ∈ xs, p x = !st) then !st else st := by
  cases st with
  | true =>
    rw [if_pos rfl]
    by_cases h : ∀ x ∈ xs, p x = !true
    · rw [if_pos h]
      exact List.any_eq_false.mpr fun x m => by rw [h x m]; decide
    · rw [if_neg h]
      rw [List.any_eq_true]
      refine Classical.byContradiction fun z => h fun x m => ?_
      cases e : p x with
      | false => rfl
      | true => exact absurd ⟨x, m, e⟩ z
  | false =>
    rw [if_neg Bool.false_ne_true]
    by_cases h : ∀ x ∈ xs, p x = !false
    · rw [if_pos h]
      exact List.all_eq_true.mpr h
    · rw [if_neg h]
      cases e : xs.all p with
      | false => rfl
      | true => exact absurd (List.all_eq_true.mp e) h
end
section
variable {P : Program} {w : World} {K : PySem.W.Frag} {mg : Str → Option Value} {base : Heap}
/-- a def with a generator expression that keeps such a promise -/
theorem fn_okC {x qual : Str} {st : Stmt} {f c : Addr} {fd : FuncData} {N ps : List Str} {k : Nat} {α : Type} {Rs : α → List Rel} {Pr : α → Hp → Prop} {R : α → Rel} (F : FunC K x qual st f c fd) (S : FnScope N ps (defScope st)) (hl : ∀ a, (Rs a).length = ps.length)
    (hbody : ∀ (A : Around) (outer : List Env) (s : Shared) (H : Hp) (E : XK), Room k (A.deeper (envOfC qual (defScope st) s.heap.objs.size f (.ref c))) →
      ∃ t, PSs (cxOf CX0 P w K mg base N qual (defScope st) f (.ref c) A outer s H E).nox (defBody st) t ∧ ∀ (a : α) (hs : Hp) (om : Addr → Prop) (Q : VK), Pr a (less hs om) → (∀ H' v, Kp hs H' → (R a).p (less H' om) v → Q v H') → WC ⟨hs, less hs om, om, slots0 (Rs a) N.length⟩ (t { nx := fun _ H' => Q .non H', rt := Q })) :
    FnOk P w K mg base CX0 (k + 1) f fd ps (Sps Rs Pr R) := by
  refine F.ok S (fun vs H Q E h => ?_) (fun A outer s H vs Q E hr h => ?_)
  · obtain ⟨a, om, ho, hr, _⟩ := h
    rw [hr.len, hl]
  · obtain ⟨a, om, ho, hR, hP, q⟩ := h
    obtain ⟨t, ht, hw⟩ := hbody A outer s H E hr
    exact ⟨t, ht, hw a H om Q hP q _ _ (sta_start ho hR)⟩
end
end Pk
namespace Pk
open PySem L2 PySem.Spec PyProof.Rows GxR NdefX
def SpN {α : Type} (Rs : α → List Rel) (P : α → Hp → Prop) (C : α → Own) : Sp := fun vs H Q _ => ∃ (a : α) (om : Addr → Prop), Hd H om ∧ Rok (Rs a) (less H om) vs ∧ P a (less H om) ∧
  ∀ H' p o, Kp H H' → H' p = none → (C a).p (less H' om) o → Q (.ref p) (upd H' p o)
def Skn (sp : Sp) (Rs : List Rel) (P : Hp → Prop) (C : Own) : Prop := ∀ H om vs, Hd H om → Rok Rs (less H om) vs → P (less H om) → ∀ (Q : VK) (E : XK), (∀ H' p o, Kp H H' → H' p = none → C.p (less H' om) o → Q (.ref p) (upd H' p o)) → sp vs H Q E
theorem skn_spn {α : Type} {Rs : α → List Rel} {P : α → Hp → Prop} {C : α → Own} (a : α) : Skn (SpN Rs P C) (Rs a) (P a) (C a) := fun H om vs ho hr hp Q E q => ⟨a, om, ho, hr, hp, q⟩
/-- a reading gives a value of which it is told that it is one of these -/
def EX {β : Type} (c : Ct) (t : TE) (R : β → Rel) (G : β → Prop) : Prop := ∀ σ H, Sta c σ H → ∀ Q : VK, (∀ H' v y, Kp H H' → G y → (R y).p (bas c σ H') v → Q v H') → t σ H Q
section
variable {b : Bool} {c : Ct} {R R0 : Rel} {C : Own} {Rs : List Rel} {P : Hp → Prop} {sp : Sp} {te : TE} {ta : TA} {E' : XK} {Cl : Addr} {m : Str} {D : Ends} {i : Nat}
theorem n_call (hsp : Skn sp Rs P C) (ha : EA true c ta Rs) (hp : ∀ H, Kp c.h0 H → P H) : EN c (tCall sp [] E' ta) C := fun σ H s Q q => ha σ H s _ fun H1 vs k1 r1 => by
  rw [List.append_nil]
  refine hsp H1 (msk true c σ) vs (s.kp k1).hd r1 (hp _ ((s.kp k1).k0.trans bas_hb)) Q E' fun H' p o k n r => q H' p o (k1.trans k) n ?_
  rw [← hb_t]
  exact r
theorem s_setX {β : Type} {R : β → Rel} {G : β → Prop} (h : EX c te R G) (q : ∀ y, G y → WC (c.set i (.fz (R y))) D.nx) (hi : Nat.blt i c.g.length = true := by rfl) : WC c (tAsg te (gName i) D) := fun σ H s => h σ H s _ fun H' v y kp g r => 
  q y g _ H' ((s.kp kp).set (by simpa using hi) r).1
theorem s_asgX {β : Type} {R : β → Rel} {G : β → Prop} {g : TG} {g' : β → List Slot} {is : List Nat} (h : EX c te R G) (hg : ∀ y, G y → EG c g (R y) (g' y) is) (q : ∀ y, G y → WC (c.at (g' y)) D.nx) : WC c (tAsg te g D) := fun σ H s => h σ H s _ fun H' v y kp gd r =>
  hg y gd σ H' v (s.kp kp) r _ fun σ' s' _ _ => q y gd σ' H' s'
/-- a new object is handed back -/
theorem s_retNew (h : EN c te C) (q : ∀ H' p o, Kp c.hs H' → H' p = none → C.p (less H' c.om) o → D.rt (.ref p) (upd H' p o)) : WC c (tRet te D) := fun σ H s => h σ H s _ fun H' p o kp n r => q H' p o (s.ks.trans kp) n (C.mn (less_mono fun _ z => .inr z) r)
end
section
variable {P : Program} {w : World} {K : PySem.W.Frag} {mg : Str → Option Value} {base : Heap} {x qual : Str} {st : Stmt} {f c : Addr} {fd : FuncData} {N ps : List Str} {k : Nat} {α β : Type} {Rs : α → List Rel} {Pr : α → Hp → Prop} {C : α → Own} {R : β → Rel} {G : α → β → Prop}
theorem fn_okN (F : Fun K x qual st f fd) (S : FnScope N ps (defScope st)) (hl : ∀ a, (Rs a).length = ps.length)
    (hbody : ∀ (cdv : Value) (A : Around) (outer : List Env) (s : Shared) (H : Hp) (E : XK), Room k (A.deeper (envOfC qual (defScope st) s.heap.objs.size f cdv)) →
      ∃ t, PSs (cxOf CX0 P w K mg base N qual (defScope st) f cdv A outer s H E).nox (defBody st) t ∧ ∀ (a : α) (hs : Hp) (om : Addr → Prop) (Q : VK), Pr a (less hs om) → (∀ H' p o, Kp hs H' → H' p = none → (C a).p (less H' om) o → Q (.ref p) (upd H' p o)) → WC ⟨hs, less hs om, om, slots0 (Rs a) N.length⟩ (t { nx := fun _ H' => Q .non H', rt := Q })) :
    FnOk P w K mg base CX0 (k + 1) f fd ps (SpN Rs Pr C) := by
  refine F.ok S (fun vs H Q E h => ?_) (fun cdv A outer s H vs Q E hr h => ?_)
  · obtain ⟨a, om, ho, hr, _⟩ := h
    rw [hr.len, hl]
  · obtain ⟨a, om, ho, hR, hP, q⟩ := h
    obtain ⟨t, ht, hw⟩ := hbody cdv A outer s H E hr
    exact ⟨t, ht, hw a H om Q hP q _ _ (sta_start ho hR)⟩
end
/-- a list of the script's numbers, locked -/
def RScr (K : PySem.W.Frag) (ns : List Int) : Rel := ⟨fun H v => ∃ a, v = .ref a ∧ SqL K H a (ns.map V.int), fun k ⟨a, e, h⟩ => ⟨a, e, k.seq h⟩⟩
end Pk
namespace Pk
open PySem L2 PySem.Spec PyProof.Rows GxR NdefX
/-- a tuple of two things -/
def RT2 (R S : Rel) : Rel := ⟨fun H v => ∃ t x y, v = .ref t ∧ H t = some (.tup [x, y]) ∧ R.p H x ∧ S.p H y, fun k ⟨t, x, y, e, h, r, s⟩ => ⟨t, x, y, e, k.tup h, R.mn k r, S.mn k s⟩⟩
theorem g_tup2 {K : PySem.W.Frag} {c : Ct} {R S : Rel} {t1 t2 : TG} {g1 g2 : List Slot} {is js : List Nat} (h1 : EG c t1 R g1 is) (h2 : EG (c.at g1) t2 S g2 js) : EG c (gTup K 2 (gCons t1 (gCons t2 gNil))) (RT2 R S) g2 (is ++ js) := fun σ H v s r Q q => by
  obtain ⟨t, x, y, rfl, e, rx, ry⟩ := r
  refine ⟨t, _, rfl, SqT.of (less_some e).2, rfl, x, _, rfl, h1 σ H x s rx _ fun σ1 s1 e1 w1 => ⟨y, _, rfl, h2 σ1 H y s1 (by rw [e1]; exact ry) _ fun σ2 s2 e2 w2 => ⟨rfl, q σ2 s2 (fun H' => (e2 H').trans (e1 H')) fun vs hv => ?_⟩⟩⟩
  exact (w2 vs fun i m => hv i (List.mem_append_right _ m)).trans (w1 vs fun i m => hv i (List.mem_append_left _ m))
def noOwn (g : List Slot) : Bool := g.all fun s => notOwn (some s)
theorem bas_all {hs h0 : Hp} {g : List Slot} {σ : L2.St} {H : Hp} (h : noOwn g = true) : bas ⟨hs, h0, fun _ => False, g⟩ σ H = H := by
  funext a
  refine bas_out ?_
  rintro (⟨i, C, e, _⟩ | z)
  · have := List.all_eq_true.mp h _ (List.mem_of_getElem? e)
    cases this
  · exact z
theorem less_no {H : Hp} : less H (fun _ => False) = H := by
  funext a
  exact less_out id
/-- promises told of the whole heap -/
def Skx0 {β : Type} (sp : Sp) (Rs : List Rel) (P : Hp → Prop) (R : β → Rel) (G : β → Prop) : Prop := ∀ H vs, Rok Rs H vs → P H → ∀ (Q : VK) (E : XK), (∀ H' v y, Kp H H' → G y → (R y).p H' v → Q v H') → sp vs H Q E
section
variable {hs h0 : Hp} {g : List Slot} {R : Rel} {C : Own} {Rs : List Rel} {P : Hp → Prop} {sp : Sp} {te : TE} {ta : TA} {E' : XK} {Cl : Addr} {m : Str} {D : Ends}
theorem x_call0 {β : Type} {R : β → Rel} {G : β → Prop} (hsp : Skx0 sp Rs P R G) (ha : EA true ⟨hs, h0, fun _ => False, g⟩ ta Rs) (hp : ∀ H, Kp h0 H → P H) (no : noOwn g = true := by rfl) : EX ⟨hs, h0, fun _ => False, g⟩ (tCall sp [] E' ta) R G := fun σ H s Q q => ha σ H s _ fun H1 vs k1 r1 => by
  rw [List.append_nil]
  rw [hb_t, bas_all no] at r1
  have k0 := (s.kp k1).k0
  rw [bas_all no] at k0
  refine hsp H1 vs r1 (hp _ k0) Q E' fun H' v y k gd r => q H' v y (k1.trans k) gd ?_
  rw [bas_all no]
  exact r
end
section
variable {P : Program} {w : World} {K : PySem.W.Frag} {mg : Str → Option Value} {base : Heap} {x qual : Str} {st : Stmt} {f c : Addr} {fd : FuncData} {N ps : List Str} {k : Nat}
/-- a law: for each script, with these tables, True -/
def spLawT (K : PySem.W.Frag) (Ts : List Addr) : Sp := fun vs H Q _ => ∃ (a : Addr) (ns : List Int), vs = [.ref a] ∧ SqL K H a (ns.map V.int) ∧ ns.length ≤ 63 ∧ (∀ T ∈ Ts, TabG H T) ∧ ∀ H', Q (.bl true) H'
theorem fn_okL {Ts : List Addr} (F : Fun K x qual st f fd) (S : FnScope N ["script"] (defScope st))
    (hbody : ∀ (cdv : Value) (A : Around) (outer : List Env) (s : Shared) (H : Hp) (E : XK), Room k (A.deeper (envOfC qual (defScope st) s.heap.objs.size f cdv)) →
      ∃ t, PSs (cxOf CX0 P w K mg base N qual (defScope st) f cdv A outer s H E).nox (defBody st) t ∧ ∀ (ns : List Int) (hs : Hp) (Q : VK), ns.length ≤ 63 → (∀ T ∈ Ts, TabG hs T) → (∀ H', Q (.bl true) H') → WC ⟨hs, hs, fun _ => False, slots0 [RScr K ns] N.length⟩ (t { nx := fun _ H' => Q .non H', rt := Q })) :
    FnOk P w K mg base CX0 (k + 1) f fd ["script"] (spLawT K Ts) := by
  refine F.ok S (fun vs H Q E h => ?_) (fun cdv A outer s H vs Q E hr h => ?_)
  · obtain ⟨a, ns, rfl, _⟩ := h
    rfl
  · obtain ⟨a, ns, rfl, hS, hl, hT, q⟩ := h
    obtain ⟨t, ht, hw⟩ := hbody cdv A outer s H E hr
    have z := sta_start (H := H) (om := fun _ => False) (Rs := [RScr K ns]) (N := N) (vs := [.ref a]) (fun _ z => z.elim) ⟨_, _, rfl, ⟨a, rfl, by rw [less_no]; exact hS⟩, rfl⟩
    rw [less_no] at z
    exact ⟨t, ht, hw ns H Q hl hT q _ _ z⟩
end
end Pk
namespace L2
open PySem PySem.Spec PyProof.Rows
section
variable {P : Program} {w : World} {A : Around} {E : Value → Shared → Prop} {s : Shared} {a x : Addr} {L : List (Addr × List Int)} {es : Array (Int × Value)} {ep : Nat} {t : SetTable} {k : List Int}
/-- what a search needs of the set -/
structure Seek (P : Program) (w : World) (h : Heap) (a : Addr) (L : List (Addr × List Int)) (es : Array (Int × Value)) (ep : Nat) (t : SetTable) : Prop where
  ob : ∃ o, h.get? a = some o ∧ o.ExactSet ∧ o.data = .set es ep t
  row : ∀ {i : Nat} {p : Addr × List Int}, L[i]? = some p → es[i]? = some (thash P w p.2, Value.ref p.1)
  all : es.toList = rowsOf P w L
  tab : TabOk t (L.map fun p => thash P w p.2)
  tup : ∀ p ∈ L, IsT P w h p.2 p.1
  room : L.length * 5 < t.mask * 3
theorem Seek.of (R : SetTR P w s.heap a L es ep t) : Seek P w s.heap a L es ep t := ⟨R.ob, fun h => R.entry h, R.rows, R.tab, R.tup, R.room⟩
variable {K : Nat} {Q : SetFound → Shared → Prop}
end
end L2
namespace Pk
open PySem L2 PySem.Spec PyProof.Rows GxR NdefX
section
variable {P : Program} {w : World} {K : PySem.W.Frag} {c : Ct} {b : Bool} {ta : TE} {ps : List Pl}
theorem SetOf.kp {H H' : Hp} {a : Addr} (h : SetOf P w H a ps) (k : Kp H H') : SetOf P w H' a ps := by
  obtain ⟨L, h1, h2, h3⟩ := h
  refine ⟨L, k.at_ _ _ h1 (fun _ z => nomatch z), fun x hx => ?_, h3⟩
  obtain ⟨p, m, e, z⟩ := h2 x hx
  exact ⟨p, m, e, k.tup z⟩
end
structure ShE (d : PyData) (n m : Nat) : Prop where
  sh : d.showable = true
  no : d.hasDict = false
  dp : d.depth ≤ n
  lv : d.leavesShort 13 = true
  bk : d.bulk ≤ m
theorem ShE.up {d : PyData} {n m n' m' : Nat} (h : ShE d n m) (hn : n ≤ n') (hm : m ≤ m') : ShE d n' m' := ⟨h.sh, h.no, Nat.le_trans h.dp hn, h.lv, Nat.le_trans h.bk hm⟩
end Pk
namespace Pk
open PySem L2 PySem.Spec PyProof.Rows GxR NdefX
structure ItOk {α : Type} (B : Hp) (J : It) (xs : List α) (R : α → Rel) : Prop where
  go : ∀ (i : Nat) (H : Hp) (M : Addr → Prop), Hd H M → Kp B (less H M) → i < xs.length → J.go i H
  stop : ∀ (i : Nat) (H : Hp) (M : Addr → Prop), Hd H M → Kp B (less H M) → xs.length ≤ i → J.stop i H
  yld : ∀ (i : Nat) (H : Hp) (M : Addr → Prop) (v : V) (H' : Hp), Hd H M → Kp B (less H M) → J.yld i H v H' → ∀ a, xs[i]? = some a → Kp H H' ∧ (R a).p (less H' M) v
def EWg {α : Type} (c : Ct) (wi : TI) (xs : List α) (R : α → Rel) : Prop := ∀ σ H, Sta c σ H → ∀ Q : It → Hp → Prop, (∀ H' J, Kp H H' → ItOk (bas c σ H') J xs R → Q J H') → wi σ H Q
theorem less_lst {B H : Hp} {M : Addr → Prop} (k : Kp B (less H M)) {a : Addr} {vs : List V} (e : B a = some (.lst vs)) : H a = some (.lst vs) := (less_some (k.lst e)).2
theorem less_tup {B H : Hp} {M : Addr → Prop} (k : Kp B (less H M)) {a : Addr} {vs : List V} (e : B a = some (.tup vs)) : H a = some (.tup vs) := (less_some (k.tup e)).2
section
variable {c : Ct} {wi : TI} {ta : TA} {tl te ti : TE} {tt : TT} {g : TG} {D : Ends} {tb : TS} {K : PySem.W.Frag} {α β : Type} {xs : List α} {ys : List β} {R : α → Rel} {f : α → PyData} {h : β → PyData}
theorem Sta.hid' {σ : L2.St} {H : Hp} (s : Sta c σ H) : Hd H (fun a => isOwn c.g σ a ∨ c.om a) := fun a m => s.hides (b := true) a ⟨rfl, m⟩
/-- a new tuple of what stands -/
theorem tup_new {H : Hp} {M : Addr → Prop} (hd : Hd H M) {T : Addr} {us : List V} {ds : List PyData} (n : H T = none) (a : DtAll (less H M) us ds) : Kp H (upd H T (.tup us)) ∧ Dt (less (upd H T (.tup us)) M) (.ref T) (.tuple ds) := by
  refine ⟨kp_new n, ?_⟩
  rw [new_at hd n]
  exact .tup upd_same (a.kp (kp_new (less_none n)))
theorem w_list (hl : E true c tl (RD (.list (xs.map f)))) : EWg c (iList K tl) xs (fun a => RD (f a)) := fun σ H s Q q => hl σ H s _ fun H1 v k1 r1 => by
  rw [hb_t] at r1
  cases r1 with
  | @lst a vs _ e r =>
    have n := r.len
    rw [List.length_map] at n
    refine ⟨a, rfl, ⟨vs, SqL.of (less_some e).2⟩, q H1 _ k1 ⟨fun i G M hd k hi => ?_, fun i G M hd k hi => ?_, fun i G M v G' hd k y x hx => ?_⟩⟩
    · exact ⟨vs, vs[i], SqL.of (less_lst k e), List.getElem?_eq_getElem (by omega)⟩
    · exact ⟨vs, SqL.of (less_lst k e), by omega⟩
    · obtain ⟨rfl, y⟩ := y
      obtain ⟨w, e1, e2⟩ := r.at (i := i) (d := f x) (by rw [List.getElem?_map, hx]; rfl)
      have := (y vs (SqL.of (less_lst k e))).symm.trans e1
      cases this
      exact ⟨Kp.refl _, e2.kp k⟩
theorem w_tup (hl : E true c tl (RD (.tuple (xs.map f)))) : EWg c (iTup K tl) xs (fun a => RD (f a)) := fun σ H s Q q => hl σ H s _ fun H1 v k1 r1 => by
  rw [hb_t] at r1
  cases r1 with
  | @tup a vs _ e r =>
    have n := r.len
    rw [List.length_map] at n
    refine ⟨a, rfl, ⟨vs, SqT.of (less_some e).2⟩, q H1 _ k1 ⟨fun i G M hd k hi => ?_, fun i G M hd k hi => ?_, fun i G M v G' hd k y x hx => ?_⟩⟩
    · exact ⟨vs, vs[i], SqT.of (less_tup k e), List.getElem?_eq_getElem (by omega)⟩
    · exact ⟨vs, SqT.of (less_tup k e), by omega⟩
    · obtain ⟨rfl, y⟩ := y
      obtain ⟨w, e1, e2⟩ := r.at (i := i) (d := f x) (by rw [List.getElem?_map, hx]; rfl)
      have := (y vs (SqT.of (less_tup k e))).symm.trans e1
      cases this
      exact ⟨Kp.refl _, e2.kp k⟩
/-- for x in .. -/
theorem s_forG (I : Nat → List Slot → Prop) (hs : EWg c wi xs R) (h0 : I 0 c.g)
    (hb : ∀ h1 i x gs, Kp c.h0 h1 → xs[i]? = some x → I i gs → ∃ g' is, EG ⟨c.hs, h1, c.om, gs⟩ g (R x) g' is ∧ WC ⟨c.hs, h1, c.om, g'⟩ (tb (inL c.hs h1 c.om (I (i + 1)) D)))
    (hd : ∀ gs, I xs.length gs → WC (c.at gs) D.nx) : WC c (tFor wi g tb D) := fun σ H s => hs σ H s _ fun H1 J k1 ok => by
  have s1 := s.kp k1
  refine ⟨fun i m σ' H' => m = xs.length - i ∧ i ≤ xs.length ∧ Nx ⟨c.hs, bas c σ H1, c.om, []⟩ (I i) σ' H', ⟨xs.length, rfl, Nat.zero_le _, c.g, h0, s1.h0 (Kp.refl _)⟩, ?_⟩
  rintro i m σ' H' ⟨rfl, hi, gs, hg, s'⟩
  by_cases hlt : i < xs.length
  · refine .inr ⟨ok.go i H' _ s'.hid' s'.k0 hlt, Nx ⟨c.hs, bas c σ H1, c.om, []⟩ (I (i + 1)), fun σ'' H'' p' => ⟨xs.length - (i + 1), by omega, rfl, hlt, p'⟩, fun x H2 y => ?_⟩
    obtain ⟨k2, r⟩ := ok.yld i H' _ x H2 s'.hid' s'.k0 y _ (List.getElem?_eq_getElem hlt)
    obtain ⟨g', is, hg', hw⟩ := hb (bas c σ H1) i _ gs s1.k0 (List.getElem?_eq_getElem hlt) hg
    exact hg' σ' H2 x (s'.kp k2) r _ fun σ2 s2 _ _ => hw σ2 H2 s2
  · have e : i = xs.length := by omega
    subst e
    exact .inl ⟨ok.stop _ H' _ s'.hid' s'.k0 (Nat.le_refl _), hd gs hg σ' H' (s'.h0 (s1.k0.trans s'.k0))⟩
/-- [e for x in .. if t] -/
theorem n_lcG {G : α → List Slot} {is vs : List Nat} {p : α → Bool} {fe : α → PyData} (hs : EWg c wi xs R) (hw : anyAt c.g vs = true) (his : ∀ i ∈ is, i ∈ vs)
    (hg : ∀ om, ∀ x, x ∈ xs → EG ⟨c.hs, c.h0, om, c.g⟩ g (R x) (G x) is) (ht : ∀ om, ∀ x, x ∈ xs → ET ⟨c.hs, c.h0, om, G x⟩ tt (p x))
    (he : ∀ om, ∀ x, x ∈ xs → p x = true → E true ⟨c.hs, c.h0, om, G x⟩ te (RD (fe x))) (hl : xs.length < 16777216) : EN c (tLc wi g tt te vs) (OL ((xs.filter p).map fe)) := fun σ H s Q q => by
  refine hs σ H s _ fun H1 J k1 ok D nD => ?_
  have s1 := s.kp k1
  have fD : Fre c.hs D := .of s1.ks nD
  have hw := anyAt_of hw
  have sw := s1.wipe hw
  have ew : ∀ H', bas c (wipe σ vs) H' = bas c σ H' := fun H' => bas_iff (fun a => or_congr (own_wipe hw a) Iff.rfl) fun _ _ => rfl
  refine ⟨fun i m H' => m = xs.length - i ∧ i ≤ xs.length ∧ Kc c (wipe σ vs) H1 D (((xs.take i).filter p).map fe) H', ⟨xs.length, rfl, Nat.zero_le _, ?_⟩, ?_⟩
  · obtain ⟨sh, eb⟩ := sw.hide (o := .lst []) nD trivial
    exact ⟨⟨[], upd_same, by simpa using DtAll.nil⟩, sh, by rw [less_upd]; exact kp_of fun b o e => by rw [wo_ne (ne_of_none e nD)]; exact e⟩
  rintro i m H' ⟨rfl, hi, h⟩
  have kB : Kp (bas c σ H1) (bas ⟨c.hs, c.h0, fun a => c.om a ∨ a = D, c.g⟩ (wipe σ vs) H') := by
    rw [← bas_less, ew]
    exact s1.kb h.kp
  by_cases hlt : i < xs.length
  · refine .inr ⟨ok.go i H' _ h.st.hid' kB hlt, Kc c (wipe σ vs) H1 D (((xs.take (i + 1)).filter p).map fe), fun H'' p' => ⟨xs.length - (i + 1), by omega, rfl, hlt, p'⟩, fun v H2 y => ?_⟩
    have ex := List.getElem?_eq_getElem hlt
    obtain ⟨k2, r⟩ := ok.yld i H' _ v H2 h.st.hid' kB y _ ex
    have h2 := h.grow k2
    have hm : xs[i] ∈ xs := List.getElem_mem hlt
    refine hg _ _ hm _ H2 v h2.st r _ fun σ2 s2 e2 w2 => ⟨(w2 vs his).trans (wipe_wipe fun _ m => m), ht _ _ hm σ2 H2 s2 _ fun H3 k3 => ?_⟩
    cases hp : p xs[i] with
    | false =>
      rw [if_neg Bool.false_ne_true, ft_succ ex, hp, if_neg Bool.false_ne_true, List.append_nil]
      exact h2.grow k3
    | true =>
      rw [if_pos rfl]
      refine he _ _ hm hp σ2 H3 (s2.kp k3) _ fun H4 y k4 r4 => ?_
      have h4 := (h2.grow k3).grow k4
      obtain ⟨acc, ea, aa⟩ := h4.ex
      refine ⟨acc, ea, ?_, ?_⟩
      · have := lc_len (p := p) (f := fe) (i := i) (Nat.le_refl xs.length)
        have hs : sizeLine = 16777216 := sizeLine_eq
        rw [aa.len]
        omega
      · rw [ft_succ ex, hp, if_pos rfl]
        refine h4.put fD ea ?_
        rw [hb_t] at r4
        rw [← e2]
        exact r4
  · have e : i = xs.length := by omega
    subst e
    refine .inl ⟨ok.stop _ H' _ h.st.hid' kB (Nat.le_refl _), ?_⟩
    obtain ⟨acc, ea, aa⟩ := h.ex
    rw [← upd_less ea]
    refine q _ D _ (k1.trans h.kp) wo_at ⟨acc, rfl, ?_⟩
    rw [← ew, bas_less]
    rw [List.take_length] at aa
    exact aa
theorem n_lcGM {γ : Type} {G : α → List Slot} {is vs : List Nat} {p : α → Bool} {fe : α → γ} {encB : γ → PyData} (hs : EWg c wi xs R) (hw : anyAt c.g vs = true) (his : ∀ i ∈ is, i ∈ vs)
    (hg : ∀ om, ∀ x, x ∈ xs → EG ⟨c.hs, c.h0, om, c.g⟩ g (R x) (G x) is) (ht : ∀ om, ∀ x, x ∈ xs → ET ⟨c.hs, c.h0, om, G x⟩ tt (p x))
    (he : ∀ om, ∀ x, x ∈ xs → p x = true → E true ⟨c.hs, c.h0, om, G x⟩ te (RD (encB (fe x)))) (hl : xs.length < 16777216) : EN c (tLc wi g tt te vs) (OL (((xs.filter p).map fe).map encB)) :=
  (n_lcG (fe := fun x => encB (fe x)) hs hw his hg ht he hl).eqL (by rw [List.map_map]; rfl)
theorem n_lcGM1 {γ : Type} {G : α → List Slot} {is vs : List Nat} {fe : α → γ} {encB : γ → PyData} (hs : EWg c wi xs R) (hw : anyAt c.g vs = true) (his : ∀ i ∈ is, i ∈ vs)
    (hg : ∀ om, ∀ x, x ∈ xs → EG ⟨c.hs, c.h0, om, c.g⟩ g (R x) (G x) is)
    (he : ∀ om, ∀ x, x ∈ xs → True → E true ⟨c.hs, c.h0, om, G x⟩ te (RD (encB (fe x)))) (hl : xs.length < 16777216) : EN c (tLc wi g tYes te vs) (OL ((xs.map fe).map encB)) :=
  (n_lcGM (p := fun _ => true) hs hw his hg (fun _ _ _ => t_yes) (fun om x m _ => he om x m trivial) hl).eqL (by rw [List.filter_eq_self.mpr (fun _ _ => rfl)])
theorem DtAll.set {H : Hp} {vs : List V} {ds : List PyData} (h : DtAll H vs ds) : ∀ {j : Nat} {v : V} {d : PyData}, Dt H v d → DtAll H (vs.set j v) (ds.set j d) := by
  induction vs generalizing ds with
  | nil => cases h; intro j v d _; exact .nil
  | cons u vs ih =>
    cases h with
    | cons a b =>
      intro j v d r
      cases j with
      | zero => exact .cons r b
      | succ j => exact .cons a (ih b r)
theorem o_intB {x : Bool} : On (fun xs H Q => (∃ i, xs = [.int i] ∧ Q (.int i) H) ∨ ∃ k, xs = [.bl k] ∧ Q (.int (if k then 1 else 0)) H) [RD (.bool x)] (RD (.int (if x = true then 1 else 0))) := fun H M vs _ r Q q => by
  obtain ⟨v, r', rfl, h1, rfl⟩ := r
  cases h1
  refine .inr ⟨_, rfl, ?_⟩
  cases x
  · exact q H _ (Kp.refl _) (.int _)
  · exact q H _ (Kp.refl _) (.int _)
end
abbrev eH3 {α β γ : Type} (f : α → PyData) (g : β → PyData) (k : γ → PyData) : α × β × γ → PyData := fun p => .list [f p.1, g p.2.1, k p.2.2]
/-- a tuple of numbers, written or made -/
def RTI (K : PySem.W.Frag) (ns : List Int) : Rel := ⟨fun H v => ∃ a, v = .ref a ∧ SqT K H a (ns.map V.int), fun k ⟨a, e, h⟩ => ⟨a, e, by
  rcases h with (h | ⟨o, h⟩) | h
  · exact .inl (.inl (k.tup h))
  · exact .inl (.inr ⟨o, k.at_ _ _ h fun _ z => nomatch z⟩)
  · exact .inr h⟩⟩
theorem RTI.dp {K : PySem.W.Frag} {ns : List Int} {H : Hp} {v : V} (h : (RTI K ns).p H v) : Dp K H v (.tuple (ns.map PyData.int)) := by
  obtain ⟨a, rfl, h⟩ := h
  refine .tup h ?_
  clear h
  induction ns with
  | nil => exact .nil
  | cons n ns ih => exact .cons (.int n) ih
end Pk
namespace Pk
open PySem L2 PySem.Spec PyProof.Rows GxR NdefX
section
variable {α : Type} (lt : α → α → Bool)
structure Lo : Prop where
  tr : ∀ x y z, lt y x = false → lt z y = false → lt z x = false
  as : ∀ x y, lt x y = true → lt y x = false
/-- the item at i is not less than that above it -/
def OkH (ts : Array α) (i : Nat) : Prop := ∀ (h : i < ts.size) (_ : 0 < i), lt ts[i] (ts[(i - 1) / 2]'(by omega)) = false
variable {lt}
end
section
variable {prog : Program} {w : World} {A : Around} {s0 : Shared} {l : Addr} {α : Type} {val : α → Value} {lt : α → α → Bool} {R : Result → Shared → Prop} {res : Value}
/-- the list at l holds these; all else stands as it did -/
structure Hl (h0 : Heap) (l : Addr) (val : α → Value) (ts : Array α) (h : Heap) : Prop where
  at_ : ∃ n : Nat, h.get? l = some { cls := .type "list", data := .seq (ts.map val) n }
  keep : ∀ b o, b ≠ l → h0.get? b = some o → h.get? b = some o
theorem swap_map {val : α → Value} {ts : Array α} {i j : Nat} (hi : i < ts.size) (hj : j < ts.size) : ((ts.map val).setIfInBounds i (val ts[j])).setIfInBounds j (val ts[i]) = (ts.swap i j hi hj).map val := by
  refine Array.ext_getElem? fun k => ?_
  rw [Array.getElem?_setIfInBounds, Array.getElem?_setIfInBounds, Array.getElem?_map, Array.getElem?_map]
  simp only [Array.size_setIfInBounds, Array.size_map]
  by_cases e1 : j = k
  · subst e1
    rw [if_pos rfl, if_pos hj, Array.getElem?_eq_getElem (by simpa using hj), Array.getElem_swap]
    by_cases e2 : j = i
    · subst e2; simp
    · rw [if_neg e2, if_pos rfl]; rfl
  · rw [if_neg e1]
    by_cases e2 : i = k
    · subst e2
      rw [if_pos rfl, if_pos hi, Array.getElem?_eq_getElem (by simpa using hi), Array.getElem_swap, if_pos rfl]; rfl
    · rw [if_neg e2]
      by_cases hk : k < ts.size
      · rw [Array.getElem?_eq_getElem hk, Array.getElem?_eq_getElem (by simpa using hk), Array.getElem_swap, if_neg (Ne.symm e2), if_neg (Ne.symm e1)]
      · rw [Array.getElem?_eq_none (by omega), Array.getElem?_eq_none (by simpa using hk)]
theorem Hl.swap {h0 h : Heap} {l : Addr} {val : α → Value} {ts : Array α} (H : Hl h0 l val ts h) {i j : Nat} (hi : i < ts.size) (hj : j < ts.size) :
    Hl h0 l val (ts.swap i j hi hj) (h.update l (Obj.mapSeq fun xs => (xs.setIfInBounds i (val ts[j])).setIfInBounds j (val ts[i]))) := by
  obtain ⟨n, e⟩ := H.at_
  have q := PySem.IsL.update e fun xs => (xs.setIfInBounds i (val ts[j])).setIfInBounds j (val ts[i])
  rw [swap_map hi hj] at q
  exact ⟨⟨_, q⟩, fun b o hb eo => (Heap.get?_update_other h _ (Ne.symm hb)).trans (H.keep b o hb eo)⟩
theorem Hl.push {h0 h : Heap} {l : Addr} {val : α → Value} {ts : Array α} (H : Hl h0 l val ts h) (a : α) : Hl h0 l val (ts.push a) (h.update l (Obj.mapSeq (·.push (val a)))) := by
  obtain ⟨n, e⟩ := H.at_
  have q := PySem.IsL.update e (·.push (val a))
  rw [← Array.map_push] at q
  exact ⟨⟨_, q⟩, fun b o hb eo => (Heap.get?_update_other h _ (Ne.symm hb)).trans (H.keep b o hb eo)⟩
end
abbrev QI : Type := Int × Pl
def ltQ (p q : QI) : Bool := decide (p.1 < q.1 ∨ (p.1 = q.1 ∧ (p.2.1 < q.2.1 ∨ (p.2.1 = q.2.1 ∧ p.2.2 < q.2.2))))
def HeapQ (qs : List QI) : Prop := ∀ i, OkH ltQ qs.toArray i
theorem HeapQ.nil : HeapQ [] := fun i h => absurd h (Nat.not_lt_zero _)
end Pk
namespace Pk
open PySem L2 PySem.Spec PyProof.Rows GxR NdefX
structure OrdD {α : Type} (enc : α → PyData) (lt : α → α → Bool) : Prop where
  lt_eq : ∀ a b, PySem.W.dataLt (enc a) (enc b) = lt a b
  al : ∀ a b, PySem.W.alike (enc a) (enc b) = true
  tup : ∀ a, ∃ x r, enc a = .tuple (x :: r)
  inj : ∀ a b, enc a = enc b → a = b
  dep : ∀ a, (enc a).depth ≤ 8
  nod : ∀ a, Pk.nod (enc a) = true
section
variable {X : Cx} {α : Type} {enc : α → PyData} {lt : α → α → Bool}
theorem OrdD.ne (O : OrdD enc lt) (a : α) : enc a ≠ .none := by
  obtain ⟨x, r, e⟩ := O.tup a
  rw [e]
  exact fun z => nomatch z
/-- a value, what it stands for in the heap, and as what it reads -/
abbrev T3o (α : Type) : Type := V × Value × α
theorem t3o_of {pins : List (Addr × Obj)} {σ : L2.St} {H : Hp} {s : Shared} (I : Inv X pins σ H s) : ∀ (L : List (V × α)) (its : List Value), Vals (L.map (·.1)) its → (∀ p ∈ L, Dp X.K H p.1 (enc p.2)) →
    ∃ T : List (T3o α), T.map (fun t => (t.1, t.2.2)) = L ∧ T.map (fun t => t.2.1) = its ∧ ∀ t ∈ T, RelV t.1 t.2.1 ∧ ∃ as, Reads s.heap t.2.1 (enc t.2.2) as
  | [], its, r, _ => by
    cases r
    exact ⟨[], rfl, rfl, fun _ z => nomatch z⟩
  | p :: L, its, r, h => by
    cases r with
    | cons r1 r2 =>
      obtain ⟨T, e1, e2, e3⟩ := t3o_of I L _ r2 fun q hq => h q (.tail _ hq)
      rename_i u _
      obtain ⟨as, rd⟩ := Dp.reads I _ _ _ (h p (.head _)) r1
      refine ⟨(p.1, u, p.2) :: T, by rw [List.map_cons, e1], by rw [List.map_cons, e2], fun t ht => ?_⟩
      rcases List.mem_cons.mp ht with z | z
      · subst z
        exact ⟨r1, as, rd⟩
      · exact e3 t z
theorem vals_t3o : ∀ {T : List (T3o α)}, (∀ t ∈ T, RelV t.1 t.2.1) → Vals (T.map fun t => t.1) (T.map fun t => t.2.1)
  | [], _ => .nil
  | t :: T, h => .cons (h t (.head _)) (vals_t3o fun q hq => h q (.tail _ hq))
theorem each_t3o {R : Value → T3o α → Prop} : ∀ {T : List (T3o α)}, (∀ t ∈ T, R t.2.1 t) → PySem.W.EachIs R (T.map fun t => t.2.1) T
  | [], _ => .nil
  | t :: T, h => .cons (h t (.head _)) (each_t3o fun q hq => h q (.tail _ hq))
theorem each_back : ∀ {vs : List Value} {T : List (T3o α)}, PySem.W.EachIs (fun v t => v = t.2.1) vs T → vs = T.map fun t => t.2.1
  | _, _, .nil => rfl
  | _, _, .cons h t => by rw [List.map_cons, h, each_back t]
/-- sorted(xs): a new list, stable -/
def rSortO (K : PySem.W.Frag) (enc : α → PyData) (lt : α → α → Bool) : List V → Hp → VK → Prop := fun vs H Q => ∃ (l : Addr) (L : List (V × α)), vs = [.ref l] ∧ H l = some (.lst (L.map (·.1))) ∧ (∀ p ∈ L, Dp K H p.1 (enc p.2)) ∧
  ∀ p, H p = none → Q (.ref p) (upd H p (.lst ((L.mergeSort fun x y => !lt y.2 x.2).map (·.1))))
theorem cr_sortO (O : OrdD enc lt) (hu : X.A.units + 64 < cLine) : CallR X (.builtin "sorted") (rSortO X.K enc lt) := by
  intro pins s σ H vs us Q I r h
  obtain ⟨l, L, rfl, hH, hL, k⟩ := h
  cases r with
  | cons r1 r =>
    cases r
    cases r1
    obtain ⟨z, its, n, rv, hlen, e⟩ := I.lstM hH
    obtain ⟨T, e1, e2, e3⟩ := t3o_of I L its rv hL
    have hTl : T.length = L.length := by rw [← e1, List.length_map]
    have hz : T.length ≤ sizeLine := by
      have : (L.map (·.1)).length ≤ sizeLine := by first | exact z | exact hlen | (rw [rv.length]; exact hlen)
      rw [List.length_map] at this
      omega
    refine PySem.W.sorted_data (enc := fun t : T3o α => enc t.2.2) (R := fun v t => v = t.2.1) (vs := its) (bs := T) ⟨_, e, rfl, ⟨_, rfl⟩⟩ (by rw [← e2]; exact each_t3o fun _ _ => rfl) (by rw [← e2]; exact each_t3o fun t ht => (e3 t ht).2) (.of fun a b => O.al _ _) (.tuples fun t => O.tup _) hz (fun t _ => by have := O.dep t.2.2; omega) fun out hl ho => ?_
    have ho := each_back ho
    have em : (T.mergeSort (PySem.W.dataLe false fun t : T3o α => enc t.2.2)).map (fun t => (t.1, t.2.2)) = L.mergeSort fun x y => !lt y.2 x.2 := by
      rw [← e1]
      have : PySem.W.dataLe false (fun t : T3o α => enc t.2.2) = fun a b => !lt b.2.2 a.2.2 := by
        funext a b
        show (!PySem.W.dataLt (enc b.2.2) (enc a.2.2)) = _
        rw [O.lt_eq]
      rw [this]
      exact List.map_mergeSort (f := fun t : T3o α => (t.1, t.2.2)) fun a _ b _ => rfl
    have pm := List.mergeSort_perm T (PySem.W.dataLe false fun t : T3o α => enc t.2.2)
    have vv : Vals ((L.mergeSort fun x y => !lt y.2 x.2).map (·.1)) out := by
      rw [ho, ← em, List.map_map]
      exact vals_t3o fun t ht => (e3 t (pm.mem_iff.mp ht)).1
    obtain ⟨n2, at2⟩ := sortedAll_at s.heap its (List.toArray out)
    refine ⟨.ref (s.heap.objs.size + 1), _, I.laid (o := .lst ((L.mergeSort fun x y => !lt y.2 x.2).map (·.1))) (t' := s.toks) (fun b o hb => sortedAll_old hb) (Nat.le_succ _) ⟨?_, out, n2, vv, at2⟩, rfl, k _ (I.hok.fresh (Nat.le_succ _))⟩
    rw [vv.length, hl]
    exact hz
end
end Pk
namespace Pk
open PySem L2 PySem.Spec PyProof.Rows GxR NdefX
/-- what such a list holds -/
def res2 {α β : Type} (p : α → Bool) (ys : α → List β) (p1 : α → β → Bool) (f : α → β → PyData) (xs : List α) : List PyData := (xs.filter p).flatMap fun x => ((ys x).filter (p1 x)).map (f x)
theorem res2_succ {α β : Type} {p : α → Bool} {ys : α → List β} {p1 : α → β → Bool} {f : α → β → PyData} {xs : List α} {i : Nat} {x : α} (h : xs[i]? = some x) :
    res2 p ys p1 f (xs.take (i + 1)) = res2 p ys p1 f (xs.take i) ++ (if p x = true then ((ys x).filter (p1 x)).map (f x) else []) := by
  unfold res2
  rw [List.take_add_one, h, List.filter_append, List.flatMap_append]
  congr 1
  show (List.filter p [x]).flatMap _ = _
  cases hp : p x <;> simp [hp]
section
variable {c : Ct} {K : PySem.W.Frag} {α β : Type} {xs : List α} {enc : α → PyData} {G : α → List Slot} {is is1 vs vs1 : List Nat} {p : α → Bool} {tl tl1 te : TE} {tt tt1 : TT} {g g1 : TG}
  {ys : α → List β} {enc1 : β → PyData} {G1 : α → β → List Slot} {p1 : α → β → Bool} {f : α → β → PyData}
theorem n_lc2 (n : Nat) (hs : EI c tl (xs.map enc)) (hw : ∀ i ∈ vs, c.g[i]? = some .any) (his : ∀ i ∈ is, i ∈ vs)
    (hg : ∀ om, ∀ x ∈ xs, EG ⟨c.hs, c.h0, om, c.g⟩ g (RD (enc x)) (G x) is) (ht : ∀ om, ∀ x ∈ xs, ET ⟨c.hs, c.h0, om, G x⟩ tt (p x))
    (hs1 : ∀ om, ∀ x ∈ xs, p x = true → E true ⟨c.hs, c.h0, om, G x⟩ tl1 (RD (.list ((ys x).map enc1))))
    (hw1 : ∀ x ∈ xs, ∀ i ∈ vs1, (G x)[i]? = some .any) (his1 : ∀ i ∈ is1, i ∈ vs1)
    (hg1 : ∀ om, ∀ x ∈ xs, ∀ y ∈ ys x, EG ⟨c.hs, c.h0, om, G x⟩ g1 (RD (enc1 y)) (G1 x y) is1) (ht1 : ∀ om, ∀ x ∈ xs, ∀ y ∈ ys x, ET ⟨c.hs, c.h0, om, G1 x y⟩ tt1 (p1 x y))
    (he : ∀ om, ∀ x ∈ xs, p x = true → ∀ y ∈ ys x, p1 x y = true → E true ⟨c.hs, c.h0, om, G1 x y⟩ te (RD (f x y))) (hl : xs.length * n < sizeLine) (hn : ∀ x ∈ xs, (ys x).length ≤ n) :
    EN c (tLc2 (iList K tl) g tt (iList K tl1) g1 tt1 te vs vs1) (OL (res2 p ys p1 f xs)) := fun σ H s Q q => by
  refine hs σ H s _ fun H1 a us k1 e1 r1 => ⟨a, rfl, ⟨us, SqL.of e1⟩, fun D nD => ?_⟩
  have s1 := s.kp k1
  have fD : Fre c.hs D := .of s1.ks nD
  have hul : us.length = xs.length := by rw [r1.len, List.length_map]
  have sw := s1.wipe hw
  have ew : ∀ H', bas c (wipe σ vs) H' = bas c σ H' := fun H' => bas_iff (fun a => or_congr (own_wipe hw a) Iff.rfl) fun _ _ => rfl
  have lres : ∀ i, i ≤ xs.length → (res2 p ys p1 f (xs.take i)).length ≤ i * n := fun i => by
    induction i with
    | zero => intro _; rw [List.take_zero]; exact Nat.zero_le _
    | succ i ih =>
      intro hi
      have hx := List.getElem?_eq_getElem (show i < xs.length by omega)
      rw [res2_succ hx, List.length_append, Nat.succ_mul]
      refine Nat.add_le_add (ih (by omega)) ?_
      split
      · rw [List.length_map]
        exact Nat.le_trans (List.length_filter_le _ _) (hn _ (List.getElem_mem _))
      · exact Nat.zero_le _
  refine ⟨fun i m H => m = us.length - i ∧ i ≤ us.length ∧ Kc c (wipe σ vs) H1 D (res2 p ys p1 f (xs.take i)) H, ⟨us.length, by simp, Nat.zero_le _, ?_⟩, ?_⟩
  · obtain ⟨sh, eb⟩ := sw.hide (o := .lst []) nD trivial
    exact ⟨⟨[], upd_same, .nil⟩, sh, by rw [less_upd]; exact kp_of fun b o e => by rw [wo_ne (ne_of_none e nD)]; exact e⟩
  rintro i m H' ⟨rfl, hi, h⟩
  have q1 : SqL K H' a us := SqL.of (wo_some (h.kp.lst e1))
  by_cases hlt : i < us.length
  case neg =>
    have e : i = us.length := by omega
    subst e
    obtain ⟨acc, ea, aa⟩ := h.ex
    refine .inl ⟨⟨us, q1, Nat.le_refl _⟩, ?_⟩
    rw [← upd_less ea]
    refine q _ D _ (k1.trans h.kp) wo_at ⟨acc, rfl, ?_⟩
    rw [← ew, bas_less]
    rw [hul, List.take_length] at aa
    exact aa
  refine .inr ⟨⟨us, us[i], q1, by simp [hlt]⟩, fun H' => i + 1 ≤ us.length ∧ Kc c (wipe σ vs) H1 D (res2 p ys p1 f (xs.take (i + 1))) H', fun H' p' => ⟨us.length - (i + 1), by omega, rfl, p'.1, p'.2⟩, fun v H2 y => ?_⟩
  obtain ⟨e, y⟩ := y
  subst e
  have hx := y us q1
  obtain ⟨d0, hd0, hv⟩ := r1.at' hx
  rw [List.getElem?_map] at hd0
  obtain ⟨x, ex, rfl⟩ := Option.map_eq_some_iff.mp hd0
  have hm : x ∈ xs := List.mem_of_getElem? ex
  have hv' : Dt (bas ⟨c.hs, c.h0, fun b => c.om b ∨ b = D, c.g⟩ (wipe σ vs) H2) v (enc x) := by
    rw [← bas_less, ew]
    exact hv.kp (s1.kb h.kp)
  refine hg _ x hm _ H2 v h.st hv' _ fun σ2 s2 e2 w2 => ⟨(w2 vs his).trans (wipe_wipe fun _ m => m), ht _ x hm σ2 H2 s2 _ fun H3 k3 => ?_⟩
  cases hp : p x with
  | false =>
    rw [if_neg Bool.false_ne_true]
    refine ⟨hlt, ?_⟩
    rw [res2_succ ex, hp, if_neg Bool.false_ne_true, List.append_nil]
    exact h.grow k3
  | true =>
    rw [if_pos rfl]
    have s3 := s2.kp k3
    refine hs1 _ x hm hp σ2 H3 s3 _ fun H4 v1 k4 r4 => ?_
    rw [hb_t] at r4
    have h4 := (h.grow k3).grow k4
    have s4 := s3.kp k4
    obtain ⟨acc0, ea0, aa0⟩ := h4.ex
    cases r4 with
    | @lst a1 us1 _ b1 c1 =>
    have aD : a1 ≠ D := fun z => by
      have := (less_some b1).1
      exact this (.inr (.inr z))
    have f4 : H4 a1 = some (.lst us1) := (less_some b1).2
    have l1 : us1.length = (ys x).length := by rw [c1.len, List.length_map]
    have sw2 := s4.wipe (vs := vs1) (hw1 x hm)
    have ew1 : ∀ H', bas ⟨c.hs, c.h0, fun b => c.om b ∨ b = D, G x⟩ (wipe σ2 vs1) H' = bas ⟨c.hs, c.h0, fun b => c.om b ∨ b = D, G x⟩ σ2 H' := fun H' => bas_iff (fun a => or_congr (own_wipe (hw1 x hm) a) Iff.rfl) fun _ _ => rfl
    have fD' : Fre c.hs D := fD
    have ez : ∀ H', bas ⟨c.hs, c.h0, fun b => c.om b ∨ b = D, G x⟩ (wipe σ2 vs1) H' = bas ⟨c.hs, c.h0, fun b => c.om b ∨ b = D, c.g⟩ (wipe σ vs) H' := fun H' => (ew1 H').trans (e2 H')
    refine ⟨a1, rfl, ⟨us1, SqL.of f4⟩, fun j k H5 => k = us1.length - j ∧ j ≤ us1.length ∧ Kc c (wipe σ vs) H1 D (res2 p ys p1 f (xs.take i) ++ (((ys x).take j).filter (p1 x)).map (f x)) H5 ∧
      Kc ⟨c.hs, c.h0, c.om, G x⟩ (wipe σ2 vs1) (wo H4 D) D (res2 p ys p1 f (xs.take i) ++ (((ys x).take j).filter (p1 x)).map (f x)) H5, ⟨us1.length, by simp, Nat.zero_le _, ?_, ?_⟩, ?_⟩
    · rw [List.take_zero, List.filter_nil, List.map_nil, List.append_nil]
      exact h4
    · rw [List.take_zero, List.filter_nil, List.map_nil, List.append_nil]
      exact ⟨⟨acc0, ea0, by rw [ez]; exact aa0⟩, sw2, Kp.refl _⟩
    rintro j k H5 ⟨rfl, hj, g5, g6⟩
    have q5 : SqL K H5 a1 us1 := SqL.of (wo_some (g6.kp.lst (by rw [wo_ne aD]; exact f4)))
    by_cases hjt : j < us1.length
    case neg =>
      have e : j = us1.length := by omega
      subst e
      refine .inl ⟨⟨us1, q5, Nat.le_refl _⟩, hlt, ?_⟩
      rw [res2_succ ex, hp, if_pos rfl]
      rw [l1, List.take_length] at g5
      exact g5
    refine .inr ⟨⟨us1, us1[j], q5, by simp [hjt]⟩, fun H6 => j + 1 ≤ us1.length ∧ Kc c (wipe σ vs) H1 D (res2 p ys p1 f (xs.take i) ++ (((ys x).take (j + 1)).filter (p1 x)).map (f x)) H6 ∧
      Kc ⟨c.hs, c.h0, c.om, G x⟩ (wipe σ2 vs1) (wo H4 D) D (res2 p ys p1 f (xs.take i) ++ (((ys x).take (j + 1)).filter (p1 x)).map (f x)) H6, fun H6 p6 => ⟨us1.length - (j + 1), by omega, rfl, p6.1, p6.2⟩, fun v6 H6 y6 => ?_⟩
    obtain ⟨e, y6⟩ := y6
    subst e
    have hx6 := y6 us1 q5
    obtain ⟨d6, hd6, hv6⟩ := c1.at' hx6
    rw [List.getElem?_map] at hd6
    obtain ⟨z, ez6, rfl⟩ := Option.map_eq_some_iff.mp hd6
    have hz : z ∈ ys x := List.mem_of_getElem? ez6
    have hv6' : Dt (bas ⟨c.hs, c.h0, fun b => c.om b ∨ b = D, G x⟩ (wipe σ2 vs1) H6) v6 (enc1 z) := by
      rw [← ew1] at hv6
      rw [← bas_less (c := ⟨c.hs, c.h0, c.om, G x⟩)] at hv6 ⊢
      exact hv6.kp (less_kp g6.kp)
    refine hg1 _ x hm z hz _ H6 v6 g6.st hv6' _ fun σ3 s6 e6 w6 => ⟨(w6 vs1 his1).trans (wipe_wipe fun _ m => m), ht1 _ x hm z hz σ3 H6 s6 _ fun H7 k7 => ?_⟩
    cases hp1 : p1 x z with
    | false =>
      rw [if_neg Bool.false_ne_true]
      rw [ft_succ ez6, hp1, if_neg Bool.false_ne_true, List.append_nil]
      exact ⟨hjt, g5.grow k7, g6.grow k7⟩
    | true =>
      rw [if_pos rfl]
      refine he _ x hm hp z hz hp1 σ3 H7 (s6.kp k7) _ fun H8 v8 k8 r8 => ?_
      have g58 := (g5.grow k7).grow k8
      have g68 := (g6.grow k7).grow k8
      obtain ⟨acc, ea, aa⟩ := g58.ex
      rw [hb_t] at r8
      refine ⟨acc, ea, ?_, hjt, ?_, ?_⟩
      · have b1 := lres i (by omega)
        have b2 := lc_len (p := p1 x) (f := f x) (xs := ys x) (i := j) (hn x hm)
        rw [aa.len, List.length_append]
        have b3 : (i + 1) * n ≤ xs.length * n := Nat.mul_le_mul_right _ (by omega)
        rw [Nat.succ_mul] at b3
        omega
      · rw [ft_succ ez6, hp1, if_pos rfl, ← List.append_assoc]
        refine g58.put fD ea ?_
        rw [← ez, ← e6]
        exact r8
      · rw [ft_succ ez6, hp1, if_pos rfl, ← List.append_assoc]
        refine g68.put fD ea ?_
        show Dt (bas ⟨c.hs, c.h0, fun b => c.om b ∨ b = D, G x⟩ (wipe σ2 vs1) H8) v8 (f x z)
        rw [← e6]
        exact r8
/-- .. the same, slots by computation and items by a picture -/
theorem n_lc2M {γ : Type} {h : α → β → γ} {encB : γ → PyData} (n : Nat) (hs : EI c tl (xs.map enc)) (hw : anyAt c.g vs = true) (his : ∀ i ∈ is, i ∈ vs)
    (hg : ∀ om, ∀ x ∈ xs, EG ⟨c.hs, c.h0, om, c.g⟩ g (RD (enc x)) (G x) is) (ht : ∀ om, ∀ x ∈ xs, ET ⟨c.hs, c.h0, om, G x⟩ tt (p x))
    (hs1 : ∀ om, ∀ x ∈ xs, p x = true → E true ⟨c.hs, c.h0, om, G x⟩ tl1 (RD (.list ((ys x).map enc1))))
    (hw1 : ∀ x ∈ xs, anyAt (G x) vs1 = true) (his1 : ∀ i ∈ is1, i ∈ vs1)
    (hg1 : ∀ om, ∀ x ∈ xs, ∀ y ∈ ys x, EG ⟨c.hs, c.h0, om, G x⟩ g1 (RD (enc1 y)) (G1 x y) is1) (ht1 : ∀ om, ∀ x ∈ xs, ∀ y ∈ ys x, ET ⟨c.hs, c.h0, om, G1 x y⟩ tt1 (p1 x y))
    (he : ∀ om, ∀ x ∈ xs, p x = true → ∀ y ∈ ys x, p1 x y = true → E true ⟨c.hs, c.h0, om, G1 x y⟩ te (RD (encB (h x y)))) (hl : xs.length * n < 16777216) (hn : ∀ x ∈ xs, (ys x).length ≤ n) :
    EN c (tLc2 (iList K tl) g tt (iList K tl1) g1 tt1 te vs vs1) (OL (((xs.filter p).flatMap fun x => ((ys x).filter (p1 x)).map (h x)).map encB)) :=
  (n_lc2 (f := fun x y => encB (h x y)) n hs (anyAt_of hw) his hg ht hs1 (fun x hx => anyAt_of (hw1 x hx)) his1 hg1 ht1 he (by rw [sizeLine_eq]; exact hl) hn).eqL (by
    unfold res2
    rw [List.map_flatMap]
    congr 1
    funext x
    rw [List.map_map]
    rfl)
end
end Pk
namespace Pk
open PySem L2 PySem.Spec PyProof.Rows GxR NdefX
/-- lists and tuples stand there, too -/
def SeqKp (H H' : Hp) : Prop := (∀ a xs, H a = some (.lst xs) → H' a = some (.lst xs)) ∧ ∀ a xs, H a = some (.tup xs) → H' a = some (.tup xs)
section
variable {H H' : Hp} (k : SeqKp H H')
include k
mutual
theorem Dt.sq : ∀ {v : V} {d : PyData}, Dt H v d → nod d = true → Dt H' v d
  | _, _, .non, _ => .non
  | _, _, .bl b, _ => .bl b
  | _, _, .int i, _ => .int i
  | _, _, .str x, _ => .str x
  | _, .list ds, .lst e q, h => .lst (k.1 _ _ e) (DtAll.sq q h)
  | _, _, .dT _ _, h => by cases h
  | _, _, .dK _ _, h => by cases h
  | _, .tuple ds, .tup e q, h => .tup (k.2 _ _ e) (DtAll.sq q h)
theorem DtAll.sq : ∀ {vs : List V} {ds : List PyData}, DtAll H vs ds → nods ds = true → DtAll H' vs ds
  | _, _, .nil, _ => .nil
  | _, d :: ds, .cons a b, h => by
    have h' : (nod d && nods ds) = true := h
    rw [Bool.and_eq_true] at h'
    exact .cons (Dt.sq a h'.1) (DtAll.sq b h'.2)
end
end
theorem seqkp_upd {H : Hp} {d : Addr} {u o : HO} (e : H d = some u) (n1 : ∀ xs, u ≠ .lst xs) (n2 : ∀ xs, u ≠ .tup xs) : SeqKp H (upd H d o) :=
  ⟨fun a xs h => by
    rw [upd_ne fun z => by rw [z, e] at h; exact n1 xs (Option.some.inj h)]
    exact h, fun a xs h => by
    rw [upd_ne fun z => by rw [z, e] at h; exact n2 xs (Option.some.inj h)]
    exact h⟩
/-- what can be held fast here -/
def DL : HO → Prop
  | .dT _ => True
  | .dK _ => True
  | .ext _ => True
  | _ => False
theorem DL.l {u : HO} (h : DL u) (xs : List V) : u ≠ .lst xs := fun e => by rw [e] at h; exact h
theorem DL.t {u : HO} (h : DL u) (xs : List V) : u ≠ .tup xs := fun e => by rw [e] at h; exact h
theorem DL.b {u : HO} (h : DL u) (ps) : u ≠ .tbl ps := fun e => by rw [e] at h; exact h
theorem DL.m {u : HO} (h : DL u) : Mut (some u) := by
  cases u <;> first | exact trivial | exact h.elim
/-- what stands though a dict is held fast -/
def Lk (R : Rel) : Prop := ∀ (H : Hp) (v : V) (d : Addr) (u : HO) (od : Obj), DL u → H d = some u → R.p H v → R.p (upd H d (.frz od u)) v
/-- .. and though it is let go -/
def Uk (C : Own) : Prop := ∀ (H : Hp) (o : HO) (d : Addr) (u : HO) (od : Obj), DL u → H d = some (.frz od u) → C.p H o → C.p (upd H d u) o
theorem lk_D {d : PyData} (n : nod d = true) : Lk (RD d) := fun H v a u od hu e r => r.sq (seqkp_upd e hu.l hu.t) n
theorem uk_OL {ds : List PyData} (n : nods ds = true) : Uk (OL ds) := fun H o a u od _ e ⟨vs, eo, r⟩ => ⟨vs, eo, r.sq (seqkp_upd e (fun _ z => nomatch z) fun _ z => nomatch z) n⟩
def AllLk : List Slot → Prop
  | [] => True
  | .fz R :: g => Lk R ∧ AllLk g
  | _ :: g => AllLk g
theorem AllLk.at : ∀ {g : List Slot}, AllLk g → ∀ {j : Nat} {R : Rel}, g[j]? = some (.fz R) → Lk R
  | [], _, _, _, e => by simp at e
  | .fz S :: g, h, 0, R, e => by cases e; exact h.1
  | .fz S :: g, h, j + 1, R, e => AllLk.at (g := g) h.2 e
  | .any :: g, h, 0, R, e => by cases e
  | .any :: g, h, j + 1, R, e => AllLk.at (g := g) h e
  | .own C :: g, h, 0, R, e => by cases e
  | .own C :: g, h, j + 1, R, e => AllLk.at (g := g) h e
theorem upd_less' {H : Hp} {om : Addr → Prop} {d : Addr} {o : HO} (n : ¬ om d) : less (upd H d o) om = upd (less H om) d o := by
  funext a
  by_cases e : a = d
  · rw [e, upd_same, less_out n, upd_same]
  · rw [upd_ne e]
    by_cases m : om a
    · rw [less_in m, less_in m]
    · rw [less_out m, less_out m, upd_ne e]
/-- let go again -/
theorem kp_unlock {H H' : Hp} {d : Addr} {od : Obj} {u : HO} (e : H d = some u) (nt : ∀ ps, u ≠ .tbl ps) (k : Kp (upd H d (.frz od u)) H') : Kp H (upd H' d u) := by
  refine ⟨fun y o ey n => ?_, fun T ht => ?_⟩
  · by_cases z : y = d
    · subst z
      rw [e] at ey
      cases ey
      exact upd_same
    · rw [upd_ne z]
      exact k.at_ _ _ (by rw [upd_ne z]; exact ey) n
  · have ta : T ≠ d := fun z => by
      obtain ⟨ps, e3, _⟩ := ht
      rw [z, e] at e3
      cases e3
      exact nt _ rfl
    obtain ⟨ps, e3, e6⟩ := k.tab T (by
      obtain ⟨ps, e3, e6⟩ := ht
      exact ⟨ps, by rw [upd_ne ta]; exact e3, e6⟩)
    exact ⟨ps, by rw [upd_ne ta]; exact e3, e6⟩
theorem upd_swap {H : Hp} {p d : Addr} {o u : HO} (h : d ≠ p) : upd (upd H p o) d u = upd (upd H d u) p o := by
  funext a
  by_cases h1 : a = d
  · subst h1
    rw [upd_same, upd_ne h, upd_same]
  · rw [upd_ne h1]
    by_cases h2 : a = p
    · subst h2
      rw [upd_same, upd_same]
    · rw [upd_ne h2, upd_ne h2, upd_ne h1]
section
variable {c : Ct} {t te : TE}
def OLk (C : Own) : Prop := ∀ (H : Hp) (o : HO) (d : Addr) (u : HO) (od : Obj), DL u → H d = some u → C.p H o → C.p (upd H d (.frz od u)) o
def AllLk2 : List Slot → Prop
  | [] => True
  | .fz R :: g => Lk R ∧ AllLk2 g
  | .own C :: g => OLk C ∧ AllLk2 g
  | .any :: g => AllLk2 g
theorem AllLk2.at : ∀ {g : List Slot}, AllLk2 g → ∀ {j : Nat}, (∀ (R : Rel), g[j]? = some (.fz R) → Lk R) ∧ ∀ (C : Own), g[j]? = some (.own C) → OLk C
  | [], _, _ => And.intro (fun _ e => by simp at e) (fun _ e => by simp at e)
  | .fz S :: g, h, 0 => And.intro (fun _ e => by cases e; exact h.1) (fun _ e => by cases e)
  | .fz S :: g, h, j + 1 => AllLk2.at (g := g) h.2
  | .any :: g, h, 0 => And.intro (fun _ e => by cases e) (fun _ e => by cases e)
  | .any :: g, h, j + 1 => AllLk2.at (g := g) h
  | .own C :: g, h, 0 => And.intro (fun _ e => by cases e) (fun _ e => by cases e; exact h.1)
  | .own C :: g, h, j + 1 => AllLk2.at (g := g) h.2
theorem Sta.lkO {c : Ct} {σ : L2.St} {H : Hp} (s : Sta c σ H) {i : Nat} {R R' : Rel} {d : Addr} {u0 : HO} {od : Obj} {v : V} (hu : DL u0) (e3 : bas c σ H d = some u0) (ei : c.g[i]? = some (.fz R)) (ev : σ[i]? = some (some v)) (hR : R'.p (upd (bas c σ H) d (.frz od u0)) v) (st : AllLk2 (c.g.set i .any)) :
    Sta ⟨upd c.hs d (.frz od u0), upd (bas c σ H) d (.frz od u0), c.om, c.g.set i (.fz R')⟩ σ (upd H d (.frz od u0)) := by
  obtain ⟨nm, eH⟩ := less_some e3
  have own' : ∀ a, isOwn (c.g.set i (.fz R')) σ a ↔ isOwn c.g σ a := fun a => by
    constructor
    · rintro ⟨j, C, e1, e2⟩
      rcases getset e1 with ⟨_, z⟩ | ⟨_, z⟩
      · cases z
      · exact ⟨j, C, z, e2⟩
    · rintro ⟨j, C, e1, e2⟩
      refine ⟨j, C, ?_, e2⟩
      rw [List.getElem?_set_ne fun z => by rw [← z, ei] at e1; cases e1]
      exact e1
  have eb : bas ⟨upd c.hs d (.frz od u0), upd (bas c σ H) d (.frz od u0), c.om, c.g.set i (.fz R')⟩ σ (upd H d (.frz od u0)) = upd (bas c σ H) d (.frz od u0) := by
    funext a
    by_cases m : isOwn c.g σ a ∨ c.om a
    · have m' : isOwn (c.g.set i (.fz R')) σ a ∨ c.om a := m.elim (fun z => .inl ((own' a).mpr z)) .inr
      rw [bas_in (c := ⟨upd c.hs d (.frz od u0), upd (bas c σ H) d (.frz od u0), c.om, c.g.set i (.fz R')⟩) m']
      have ad : a ≠ d := fun z => nm (by rw [← z]; exact m)
      rw [upd_ne ad, bas_in m]
    · have m' : ¬ (isOwn (c.g.set i (.fz R')) σ a ∨ c.om a) := fun z => m (z.elim (fun y => .inl ((own' a).mp y)) .inr)
      rw [bas_out (c := ⟨upd c.hs d (.frz od u0), upd (bas c σ H) d (.frz od u0), c.om, c.g.set i (.fz R')⟩) m']
      by_cases ad : a = d
      · rw [ad, upd_same, upd_same]
      · rw [upd_ne ad, upd_ne ad, bas_out m]
  have back : ∀ {j : Nat} {C : Own}, (c.g.set i (.fz R'))[j]? = some (.own C) → j ≠ i ∧ c.g[j]? = some (.own C) := fun {j C} z => by
    rcases getset z with ⟨_, y⟩ | y
    · cases y
    · exact y
  have ks : Kp (upd c.hs d (.frz od u0)) (upd H d (.frz od u0)) := by
    refine ⟨fun y o ey n => ?_, fun T ht => ?_⟩
    · by_cases z : y = d
      · subst z
        rw [upd_same] at ey ⊢
        exact ey
      · rw [upd_ne z] at ey ⊢
        exact s.ks.at_ y o ey n
    · obtain ⟨ps, e4, e5⟩ := ht
      have td : T ≠ d := fun z => by rw [z, upd_same] at e4; cases e4
      rw [upd_ne td] at e4
      obtain ⟨qs, e6, e7⟩ := s.ks.tab T ⟨ps, e4, e5⟩
      exact ⟨qs, by rw [upd_ne td]; exact e6, e7⟩
  refine ⟨by show _ = (c.g.set i _).length; rw [List.length_set]; exact s.len, fun j S q => ?_, fun j C q => ?_, fun j k C C' p q1 q2 q3 q4 => ?_, by rw [eb]; exact Kp.refl _, ks, fun y m => ?_⟩
  · rw [eb]
    rcases getset q with ⟨rfl, z⟩ | ⟨nj, z⟩
    · cases z
      exact ⟨_, ev, hR⟩
    · obtain ⟨u, q1, q2⟩ := s.fz j S z
      exact ⟨u, q1, (st.at (j := j)).1 S (by rw [List.getElem?_set_ne fun y => nj y.symm]; exact z) _ _ d u0 od hu e3 q2⟩
  · obtain ⟨nj, z⟩ := back q
    obtain ⟨p, o, q1, q2, q3, q4, q5⟩ := s.own j C z
    have pd : p ≠ d := fun y => nm (.inl ⟨j, C, z, by rw [← y]; exact q1⟩)
    refine ⟨p, o, q1, by rw [upd_ne pd]; exact q2, by rw [eb]; exact (st.at (j := j)).2 C (by rw [List.getElem?_set_ne fun y => nj y.symm]; exact z) _ _ d u0 od hu e3 q3, ⟨fun o' eo => ?_, fun ht => ?_⟩, q5⟩
    · replace eo : upd c.hs d (.frz od u0) p = some o' := eo
      rw [upd_ne pd] at eo
      exact q4.1 o' eo
    · obtain ⟨ps, e4, e5⟩ := ht
      replace e4 : upd c.hs d (.frz od u0) p = some (.tbl ps) := e4
      rw [upd_ne pd] at e4
      exact q4.2 ⟨ps, e4, e5⟩
  · exact s.ne j k C C' p (back q1).2 (back q2).2 q3 q4
  · obtain ⟨u, q1, q2⟩ := s.hid y m
    exact ⟨u, by rw [upd_ne fun z => nm (by rw [← z]; exact .inr m)]; exact q1, q2⟩
theorem n_lockO {R R' : Rel} {C : Own} (i : Nat) (e : c.g[i]? = some (.fz R)) (op : ∀ B v, R.p B v → ∃ d u, v = .ref d ∧ DL u ∧ B d = some u ∧ ∀ od, R'.p (upd B d (.frz od u)) v) (st : AllLk2 (c.g.set i .any)) (hC : Uk C) (h : ∀ hs' h0', EN ⟨hs', h0', c.om, c.g.set i (.fz R')⟩ t C) : EN c (tLockE t) C := fun σ H s Q q => by
  obtain ⟨v, e1, r1⟩ := s.fz i _ e
  obtain ⟨a, u, rfl, hu, e2, r2⟩ := op _ _ r1
  obtain ⟨nm, e3⟩ := less_some e2
  refine ⟨a, u, e3, hu.m, fun od => ?_⟩
  have s2 := s.lkO (R' := R') (od := od) hu e2 e e1 (r2 od) st
  have own' : ∀ a, isOwn (c.g.set i (.fz R')) σ a ↔ isOwn c.g σ a := fun a => by
    constructor
    · rintro ⟨j, C, e1, e2⟩
      rcases getset e1 with ⟨_, z⟩ | ⟨_, z⟩
      · cases z
      · exact ⟨j, C, z, e2⟩
    · rintro ⟨j, C, e1, e2⟩
      refine ⟨j, C, ?_, e2⟩
      rw [List.getElem?_set_ne fun z => by rw [← z, e] at e1; cases e1]
      exact e1
  refine h _ _ σ _ s2 _ fun H' p o k n r => ?_
  have e4 : H' a = some (.frz od u) := k.at_ _ _ upd_same (fun _ z => nomatch z)
  have ap : a ≠ p := fun z => by rw [z, n] at e4; cases e4
  refine ⟨by rw [upd_ne ap]; exact e4, ?_⟩
  rw [upd_swap ap]
  refine q _ p o (kp_unlock e3 hu.b k) (by rw [upd_ne fun z => ap z.symm]; exact n) ?_
  have eb : bas ⟨upd c.hs a (.frz od u), upd (bas c σ H) a (.frz od u), c.om, c.g.set i (.fz R')⟩ σ H' = bas c σ H' := by
    funext y
    by_cases m : isOwn c.g σ y ∨ c.om y
    · rw [bas_in m]
      exact bas_in (c := ⟨upd c.hs a (.frz od u), upd (bas c σ H) a (.frz od u), c.om, c.g.set i (.fz R')⟩) (m.elim (fun z => .inl ((own' y).mpr z)) .inr)
    · rw [bas_out m]
      exact bas_out (c := ⟨upd c.hs a (.frz od u), upd (bas c σ H) a (.frz od u), c.om, c.g.set i (.fz R')⟩) fun z => m (z.elim (fun y => .inl ((own' _).mp y)) .inr)
  rw [eb] at r
  have := hC _ _ a u od hu (by rw [bas_out nm]; exact e4) r
  rw [show bas c σ (upd H' a u) = upd (bas c σ H') a u from upd_less' nm]
  exact this
end
section
variable {c : Ct} {α β : Type} {xs : List α} {R : α → Rel} {G : α → List Slot} {is is1 vs vs1 : List Nat} {p : α → Bool} {wi wi1 : TI} {te : TE} {tt tt1 : TT} {g g1 : TG}
  {ys : α → List β} {R1 : β → Rel} {G1 : α → β → List Slot} {p1 : α → β → Bool} {f : α → β → PyData}
theorem n_lc2G (n : Nat) (hs : EWg c wi xs R) (hw : anyAt c.g vs = true) (his : ∀ i ∈ is, i ∈ vs)
    (hg : ∀ om, ∀ x ∈ xs, EG ⟨c.hs, c.h0, om, c.g⟩ g (R x) (G x) is) (ht : ∀ om, ∀ x ∈ xs, ET ⟨c.hs, c.h0, om, G x⟩ tt (p x))
    (hs1 : ∀ om, ∀ x ∈ xs, p x = true → EWg ⟨c.hs, c.h0, om, G x⟩ wi1 (ys x) R1)
    (hw1 : ∀ x ∈ xs, anyAt (G x) vs1 = true) (his1 : ∀ i ∈ is1, i ∈ vs1)
    (hg1 : ∀ om, ∀ x ∈ xs, ∀ y ∈ ys x, EG ⟨c.hs, c.h0, om, G x⟩ g1 (R1 y) (G1 x y) is1) (ht1 : ∀ om, ∀ x ∈ xs, ∀ y ∈ ys x, ET ⟨c.hs, c.h0, om, G1 x y⟩ tt1 (p1 x y))
    (he : ∀ om, ∀ x ∈ xs, p x = true → ∀ y ∈ ys x, p1 x y = true → E true ⟨c.hs, c.h0, om, G1 x y⟩ te (RD (f x y))) (hl : xs.length * n < 16777216) (hn : ∀ x ∈ xs, (ys x).length ≤ n) :
    EN c (tLc2 wi g tt wi1 g1 tt1 te vs vs1) (OL (res2 p ys p1 f xs)) := fun σ H s Q q => by
  have hw := anyAt_of hw
  refine hs σ H s _ fun H1 J k1 ok D nD => ?_
  have s1 := s.kp k1
  have fD : Fre c.hs D := .of s1.ks nD
  have sw := s1.wipe hw
  have ew : ∀ H', bas c (wipe σ vs) H' = bas c σ H' := fun H' => bas_iff (fun a => or_congr (own_wipe hw a) Iff.rfl) fun _ _ => rfl
  have lres : ∀ i, i ≤ xs.length → (res2 p ys p1 f (xs.take i)).length ≤ i * n := fun i => by
    induction i with
    | zero => intro _; rw [List.take_zero]; exact Nat.zero_le _
    | succ i ih =>
      intro hi
      have hx := List.getElem?_eq_getElem (show i < xs.length by omega)
      rw [res2_succ hx, List.length_append, Nat.succ_mul]
      refine Nat.add_le_add (ih (by omega)) ?_
      split
      · rw [List.length_map]
        exact Nat.le_trans (List.length_filter_le _ _) (hn _ (List.getElem_mem _))
      · exact Nat.zero_le _
  refine ⟨fun i m H => m = xs.length - i ∧ i ≤ xs.length ∧ Kc c (wipe σ vs) H1 D (res2 p ys p1 f (xs.take i)) H, ⟨xs.length, by simp, Nat.zero_le _, ?_⟩, ?_⟩
  · obtain ⟨sh, eb⟩ := sw.hide (o := .lst []) nD trivial
    exact ⟨⟨[], upd_same, .nil⟩, sh, by rw [less_upd]; exact kp_of fun b o e => by rw [wo_ne (ne_of_none e nD)]; exact e⟩
  rintro i m H' ⟨rfl, hi, h⟩
  have kB : Kp (bas c σ H1) (bas ⟨c.hs, c.h0, fun a => c.om a ∨ a = D, c.g⟩ (wipe σ vs) H') := by
    rw [← bas_less, ew]
    exact s1.kb h.kp
  by_cases hlt : i < xs.length
  case neg =>
    have e : i = xs.length := by omega
    subst e
    obtain ⟨acc, ea, aa⟩ := h.ex
    refine .inl ⟨ok.stop _ H' _ h.st.hid' kB (Nat.le_refl _), ?_⟩
    rw [← upd_less ea]
    refine q _ D _ (k1.trans h.kp) wo_at ⟨acc, rfl, ?_⟩
    rw [← ew, bas_less]
    rw [List.take_length] at aa
    exact aa
  refine .inr ⟨ok.go i H' _ h.st.hid' kB hlt, fun H' => i + 1 ≤ xs.length ∧ Kc c (wipe σ vs) H1 D (res2 p ys p1 f (xs.take (i + 1))) H', fun H' p' => ⟨xs.length - (i + 1), by omega, rfl, p'.1, p'.2⟩, fun v H2 y => ?_⟩
  have ex := List.getElem?_eq_getElem hlt
  obtain ⟨k2, r⟩ := ok.yld i H' _ v H2 h.st.hid' kB y _ ex
  have h2 := h.grow k2
  have hm : xs[i] ∈ xs := List.getElem_mem hlt
  generalize xs[i] = x at ex r hm
  refine hg _ x hm _ H2 v h2.st r _ fun σ2 s2 e2 w2 => ⟨(w2 vs his).trans (wipe_wipe fun _ m => m), ht _ x hm σ2 H2 s2 _ fun H3 k3 => ?_⟩
  cases hp : p x with
  | false =>
    rw [if_neg Bool.false_ne_true]
    refine ⟨hlt, ?_⟩
    rw [res2_succ ex, hp, if_neg Bool.false_ne_true, List.append_nil]
    exact h2.grow k3
  | true =>
    rw [if_pos rfl]
    have s3 := s2.kp k3
    refine hs1 _ x hm hp σ2 H3 s3 _ fun H4 J1 k4 ok1 => ?_
    have h4 := (h2.grow k3).grow k4
    have s4 := s3.kp k4
    obtain ⟨acc0, ea0, aa0⟩ := h4.ex
    have hwx := anyAt_of (hw1 x hm)
    have sw2 := s4.wipe (vs := vs1) hwx
    have ew1 : ∀ H', bas ⟨c.hs, c.h0, fun b => c.om b ∨ b = D, G x⟩ (wipe σ2 vs1) H' = bas ⟨c.hs, c.h0, fun b => c.om b ∨ b = D, G x⟩ σ2 H' := fun H' => bas_iff (fun a => or_congr (own_wipe hwx a) Iff.rfl) fun _ _ => rfl
    have ez : ∀ H', bas ⟨c.hs, c.h0, fun b => c.om b ∨ b = D, G x⟩ (wipe σ2 vs1) H' = bas ⟨c.hs, c.h0, fun b => c.om b ∨ b = D, c.g⟩ (wipe σ vs) H' := fun H' => (ew1 H').trans (e2 H')
    refine ⟨fun j k H5 => k = (ys x).length - j ∧ j ≤ (ys x).length ∧ Kc c (wipe σ vs) H1 D (res2 p ys p1 f (xs.take i) ++ (((ys x).take j).filter (p1 x)).map (f x)) H5 ∧
      Kc ⟨c.hs, c.h0, c.om, G x⟩ (wipe σ2 vs1) (wo H4 D) D (res2 p ys p1 f (xs.take i) ++ (((ys x).take j).filter (p1 x)).map (f x)) H5, ⟨(ys x).length, by simp, Nat.zero_le _, ?_, ?_⟩, ?_⟩
    · rw [List.take_zero, List.filter_nil, List.map_nil, List.append_nil]
      exact h4
    · rw [List.take_zero, List.filter_nil, List.map_nil, List.append_nil]
      exact ⟨⟨acc0, ea0, by rw [ez]; exact aa0⟩, sw2, Kp.refl _⟩
    rintro j k H5 ⟨rfl, hj, g5, g6⟩
    have kB1 : Kp (bas ⟨c.hs, c.h0, fun b => c.om b ∨ b = D, G x⟩ σ2 H4) (bas ⟨c.hs, c.h0, fun b => c.om b ∨ b = D, G x⟩ (wipe σ2 vs1) H5) := by
      rw [← ew1 H4, ← bas_less (c := ⟨c.hs, c.h0, c.om, G x⟩), ← bas_less (c := ⟨c.hs, c.h0, c.om, G x⟩)]
      exact less_kp g6.kp
    by_cases hjt : j < (ys x).length
    case neg =>
      have e : j = (ys x).length := by omega
      subst e
      refine .inl ⟨ok1.stop _ H5 _ g6.st.hid' kB1 (Nat.le_refl _), hlt, ?_⟩
      rw [res2_succ ex, hp, if_pos rfl]
      rw [List.take_length] at g5
      exact g5
    refine .inr ⟨ok1.go j H5 _ g6.st.hid' kB1 hjt, fun H6 => j + 1 ≤ (ys x).length ∧ Kc c (wipe σ vs) H1 D (res2 p ys p1 f (xs.take i) ++ (((ys x).take (j + 1)).filter (p1 x)).map (f x)) H6 ∧
      Kc ⟨c.hs, c.h0, c.om, G x⟩ (wipe σ2 vs1) (wo H4 D) D (res2 p ys p1 f (xs.take i) ++ (((ys x).take (j + 1)).filter (p1 x)).map (f x)) H6, fun H6 p6 => ⟨(ys x).length - (j + 1), by omega, rfl, p6.1, p6.2⟩, fun v6 H6 y6 => ?_⟩
    have ez6 := List.getElem?_eq_getElem hjt
    obtain ⟨k6, r6⟩ := ok1.yld j H5 _ v6 H6 g6.st.hid' kB1 y6 _ ez6
    have hz : (ys x)[j] ∈ ys x := List.getElem_mem hjt
    generalize (ys x)[j] = z at ez6 r6 hz
    have g56 := g5.grow k6
    have g66 := g6.grow k6
    refine hg1 _ x hm z hz _ H6 v6 g66.st r6 _ fun σ3 s6 e6 w6 => ⟨(w6 vs1 his1).trans (wipe_wipe fun _ m => m), ht1 _ x hm z hz σ3 H6 s6 _ fun H7 k7 => ?_⟩
    cases hp1 : p1 x z with
    | false =>
      rw [if_neg Bool.false_ne_true]
      rw [ft_succ ez6, hp1, if_neg Bool.false_ne_true, List.append_nil]
      exact ⟨hjt, g56.grow k7, g66.grow k7⟩
    | true =>
      rw [if_pos rfl]
      refine he _ x hm hp z hz hp1 σ3 H7 (s6.kp k7) _ fun H8 v8 k8 r8 => ?_
      have g58 := (g56.grow k7).grow k8
      have g68 := (g66.grow k7).grow k8
      obtain ⟨acc, ea, aa⟩ := g58.ex
      rw [hb_t] at r8
      refine ⟨acc, ea, ?_, hjt, ?_, ?_⟩
      · have b1 := lres i (by omega)
        have b2 := lc_len (p := p1 x) (f := f x) (xs := ys x) (i := j) (hn x hm)
        rw [aa.len, List.length_append]
        have b3 : (i + 1) * n ≤ xs.length * n := Nat.mul_le_mul_right _ (by omega)
        rw [Nat.succ_mul] at b3
        rw [sizeLine_eq]
        omega
      · rw [ft_succ ez6, hp1, if_pos rfl, ← List.append_assoc]
        refine g58.put fD ea ?_
        rw [← ez, ← e6]
        exact r8
      · rw [ft_succ ez6, hp1, if_pos rfl, ← List.append_assoc]
        refine g68.put fD ea ?_
        show Dt (bas ⟨c.hs, c.h0, fun b => c.om b ∨ b = D, G x⟩ (wipe σ2 vs1) H8) v8 (f x z)
        rw [← e6]
        exact r8
end
end Pk
namespace Pk
open PySem L2 PySem.Spec PyProof.Rows GxR NdefX
def maxI (d : Int) : List Int → Int
  | [] => d
  | n :: ns => ns.foldl max n
def rMaxD (K : PySem.W.Frag) : List V → List V → Hp → VK → Prop := fun vs zs H Q => ∃ (a : Addr) (ns : List Int) (d : Int), vs = [.ref a] ∧ zs = [.int d] ∧ SqL K H a (ns.map V.int) ∧ Q (.int (maxI d ns)) H
open PySem.W in
theorem alikeAll_int (ns : List Int) : AlikeAll (ns.map PyData.int) := by
  refine ⟨fun d hd d' hd' => ?_, fun d hd => ?_⟩
  · obtain ⟨p, _, rfl⟩ := List.mem_map.mp hd
    obtain ⟨q, _, rfl⟩ := List.mem_map.mp hd'
    simp [alike]
  · obtain ⟨p, _, rfl⟩ := List.mem_map.mp hd
    exact fun z => nomatch z
theorem depth_int (ns : List Int) : PyData.depthAll (ns.map PyData.int) ≤ 0 := by
  induction ns with
  | nil => exact Nat.le_refl _
  | cons q qs ih =>
    show max (PyData.depth (.int q)) (PyData.depthAll (qs.map PyData.int)) ≤ 0
    have h : PyData.depth (.int q) = 0 := rfl
    omega
theorem dpAll_int {K : PySem.W.Frag} {H : Hp} : ∀ ns : List Int, DpAll K H (ns.map V.int) (ns.map PyData.int)
  | [] => .nil
  | n :: ns => .cons (.int n) (dpAll_int ns)
section
variable {X : Cx}
open PySem.W in
theorem crk_max (hc : X.calm = true) (hu : X.A.units + 64 < cLine) : CallRK X (.builtin "max") [("default" : Str)] (rMaxD X.K) := by
  intro pins s σ H xs zs us ws Q I r1 r2 h
  obtain ⟨a, ns, d, rfl, rfl, hs, q⟩ := h
  cases r1 with
  | cons a1 r =>
    cases r
    cases a1
    cases r2 with
    | cons d1 r =>
      cases r
      obtain ⟨t, rfl⟩ := d1
      obtain ⟨its, rv, pl, hz⟩ := I.list hs
      obtain ⟨as, ra⟩ := Dp.readsAll I (ns.map PyData.int) _ _ (dpAll_int ns) rv
      have dp := depth_int ns
      refine max_list_default (xs := ns.map PyData.int) (I.ok.hd hc) pl.isList (by simpa using ra) (alikeAll_int ns) (by show X.A.units + 1 + PyData.depthAll (ns.map PyData.int) < cLine; omega) (fun e h' tk kk => ?_) fun y ys i v h' tk bs e hv rd kk => ?_
      · cases ns with
        | cons n ns => cases e
        | nil => exact ⟨.int d, H, I.kept kk, ⟨_, rfl⟩, q⟩
      · cases ns with
        | nil => cases e
        | cons n ns =>
          rw [List.map_cons] at e
          injection e with e1 e2
          subst e1 e2
          rw [maxD_ints] at rd
          cases rd
          exact ⟨.int (maxI d (n :: ns)), H, I.kept kk, ⟨_, rfl⟩, q⟩
/-- sum(t), t a tuple of numbers -/
def rSumT (K : PySem.W.Frag) : List V → Hp → VK → Prop := fun vs H Q => ∃ (a : Addr) (ns : List Int), vs = [V.ref a] ∧ SqT K H a (ns.map V.int) ∧ Q (.int ns.sum) H
theorem cr_sumT (hc : X.calm = true) : CallR X (.builtin "sum") (rSumT X.K) := by
  intro pins s σ H vs us Q I r h
  obtain ⟨a, ns, rfl, hs, q⟩ := h
  obtain ⟨its, rv, hl, _⟩ := I.tuple hs
  rw [Vals.ref1 r]
  obtain ⟨xs, hx⟩ := (rv.ints).allInts.items
  have hn : numsOf its.toArray.toList = ns := by rw [show its.toArray.toList = its by simp, (rv.ints).numsOf]
  have hl : s.heap.IsTuple a its.toArray := hl
  rw [hx] at hl hn
  rw [nums_intItems] at hn
  refine PySem.W.ktm_sumG (I.ok.hd hc) hl fun h' tk t' kk => ⟨.int ns.sum, H, I.kept kk, ⟨t', ?_⟩, q⟩
  rw [preSum_eq, List.take_of_length_le (by simp), hn]
end
section
variable {b : Bool} {c : Ct} {K : PySem.W.Frag} {ta tb te tl : TE} {tt : TT} {wi : TI} {g : TG} {α : Type} {xs ys : List α} {enc : α → PyData}
theorem dt_tup {H : Hp} {v : V} {ds : List PyData} (h : Dt H v (.tuple ds)) : ∃ a vs, v = .ref a ∧ H a = some (.tup vs) ∧ DtAll H vs ds := by
  cases h with
  | tup e a => exact ⟨_, _, rfl, e, a⟩
theorem o_catT (l : xs.length + ys.length ≤ 16777216) : O2 (rCatA K) (RD (.tuple (xs.map enc))) (RD (.tuple (ys.map enc))) (RD (.tuple ((xs ++ ys).map enc))) := fun H M x y hd r1 r2 Q q => by
  obtain ⟨a, vs, rfl, ea, ra⟩ := dt_tup r1
  obtain ⟨a2, us, rfl, eb, rb⟩ := dt_tup r2
  have la := ra.len
  have lb := rb.len
  rw [List.length_map] at la lb
  refine ⟨a, a2, vs, us, rfl, rfl, SqT.of (less_some ea).2, SqT.of (less_some eb).2, by rw [la, lb, sizeLine_eq]; exact l, fun e => ?_, fun _ e => ?_, fun _ _ p n => ?_⟩
  · subst e
    have : xs = [] := List.eq_nil_of_length_eq_zero (by simpa using la.symm)
    subst this
    exact q H _ (Kp.refl _) r2
  · subst e
    have : ys = [] := List.eq_nil_of_length_eq_zero (by simpa using lb.symm)
    subst this
    rw [List.append_nil] at q
    exact q H _ (Kp.refl _) r1
  · obtain ⟨k, d⟩ := tup_new hd n (ra.app rb)
    refine q _ _ k ?_
    show Dt _ _ (.tuple ((xs ++ ys).map enc))
    rw [List.map_append]
    exact d
theorem e_slT {lo hi : Option Int} {tl' th : TO} (h : E true c ta (RD (.tuple (xs.map enc)))) (hl : EO c tl' lo) (hh : EO c th hi) : E true c (tSl (rSlA K) ta tl' th) (RD (.tuple ((cutL xs lo hi).map enc))) := fun σ H s Q q =>
  h σ H s _ fun H1 v k1 r1 => hl σ H1 (s.kp k1) _ fun H2 k2 => hh σ H2 ((s.kp k1).kp k2) _ fun H3 k3 => by
    obtain ⟨a, vs, rfl, ea, ra⟩ := dt_tup ((RD (.tuple (xs.map enc))).mn (hb_kp (k2.trans k3)) r1)
    have e : HT.sIx vs.length 0 lo = HT.sIx xs.length 0 lo := by rw [ra.len, List.length_map]
    have s3 := ((s.kp k1).kp k2).kp k3
    have cut : DtAll (hb true c σ H3) (cutV vs lo hi) ((cutL xs lo hi).map enc) := by
      rw [← cutD_map]
      exact ra.cut lo hi
    refine ⟨a, vs, rfl, SqT.of (less_some ea).2, fun w => ?_, fun _ p n => ?_⟩
    · refine q H3 _ ((k1.trans k2).trans k3) ?_
      have z : cutV vs lo hi = vs := by
        unfold cutV
        rw [w.1, w.2, List.drop_zero, Nat.sub_zero, List.take_length]
      rw [z] at cut
      exact .tup ea cut
    · obtain ⟨k, d⟩ := tup_new s3.hd n cut
      exact q _ _ (((k1.trans k2).trans k3).trans k) d
theorem o_lenTM : On (fun xs H Q => ∃ x n, xs = [x] ∧ LenV K x H n ∧ Q (.int n) H) [RD (.tuple (xs.map enc))] (RD (.int xs.length)) := by
  have := o_lenT (K := K) (ds := xs.map enc)
  rw [List.length_map] at this
  exact this
theorem o_sumT {ns : List Int} : On (rSumT K) [RD (.tuple (ns.map PyData.int))] (RD (.int ns.sum)) := fun H M vs _ r Q q => by
  obtain ⟨v, r', rfl, h1, rfl⟩ := r
  obtain ⟨a, vs, rfl, ea, ra⟩ := dt_tup h1
  refine ⟨a, ns, rfl, ?_, q H _ (Kp.refl _) (.int _)⟩
  rw [← ra.ints]
  exact SqT.of (less_some ea).2
/-- max(xs, default=d) -/
theorem e_maxD {ns : List Int} {d : Int} {t tk : TA} (h : EI c ta (ns.map PyData.int)) (hd : E false c tb (RD (.int d))) : E b c (tCKw (rMaxD K) (tCons ta tNil) (tCons tb tNil)) (RD (.int (maxI d ns))) := fun σ H s Q q =>
  h σ H s _ fun H1 a vs k1 e1 r1 => hd σ H1 (s.kp k1) _ fun H2 v k2 r2 => by
    cases r2
    refine ⟨a, ns, d, rfl, rfl, ?_, q H2 _ (k1.trans k2) (.int _)⟩
    rw [← r1.ints]
    exact SqL.of (k2.lst e1)
/-- x in (a, b, ..), flat things -/
theorem inV_intsM {i : Int} {ns : List Int} : inV (.int i) (ns.map V.int) = decide (i ∈ ns) := by
  unfold inV
  rw [List.any_map, Bool.eq_iff_iff, List.any_eq_true, decide_eq_true_eq]
  constructor
  · rintro ⟨j, hj, e⟩
    have e : (j == i) = true := e
    rw [beq_iff_eq] at e
    rw [← e]
    exact hj
  · intro h
    exact ⟨i, h, by show (i == i) = true; simp⟩
theorem flat_intsM (ns : List Int) : (ns.map V.int).all flatV = true := by
  rw [List.all_map, List.all_eq_true]
  exact fun _ _ => rfl
theorem o_inI {i : Int} {ns : List Int} (neg : Bool) : O2 (rIn K neg) (RD (.int i)) (RD (.tuple (ns.map PyData.int))) (RD (.bool (if neg then !decide (i ∈ ns) else decide (i ∈ ns)))) := fun H M x y hd r1 r2 Q q => by
  cases r1
  obtain ⟨a, vs, rfl, ea, ra⟩ := dt_tup r2
  have e := ra.ints
  subst e
  refine ⟨a, _, rfl, .inr (SqT.of (less_some ea).2), rfl, flat_intsM ns, q H _ (Kp.refl _) ?_⟩
  rw [inV_intsM]
  exact .bl _
/-- a walk over range(..) as a walk of numbers -/
theorem w_rngG {lo : Int} {n : Nat} (h : EW c wi lo n) : EWg c wi (rgI lo n) (fun k => RD (.int k)) := fun σ H s Q q => h σ H s _ fun H1 k1 => q H1 _ k1 (by
  have l : (rgI lo n).length = n := by unfold rgI; rw [List.length_map, List.length_range]
  refine ⟨fun i G N hd k hi => by rw [l] at hi; exact hi, fun i G N hd k hi => by rw [l] at hi; exact hi, fun i G N v G' hd k y m hm => ?_⟩
  obtain ⟨rfl, rfl⟩ := y
  unfold rgI at hm
  rw [List.getElem?_map] at hm
  obtain ⟨j, hj, rfl⟩ := Option.map_eq_some_iff.mp hm
  have := (List.getElem?_eq_some_iff.mp hj)
  obtain ⟨h1, h2⟩ := this
  rw [List.getElem_range] at h2
  subst h2
  exact ⟨Kp.refl _, .int _⟩)
/-- list(range(n)) -/
theorem n_listRg {i : Int} (h : E false c ta (RD (.int i))) (b1 : 0 ≤ i ∧ i ≤ 16777216) : EN c (tLstRg (tRg1 ta)) (OL ((rgI 0 i.toNat).map PyData.int)) := fun σ H s Q q => h σ H s _ fun H1 v k r => by
  cases r
  refine ⟨i, rfl, RgOk.of_le (by omega) (by omega) (by omega) (by omega), fun p n => q H1 p _ k n ⟨_, rfl, ?_⟩⟩
  have e : rgV 0 i = (rgI 0 i.toNat).map V.int := by
    unfold rgV rgI
    rw [List.map_map, Int.sub_zero]
    rfl
  rw [e]
  exact DtAll.ofInts _
/-- xs.index(y) -/
theorem e_indexI {ns : List Int} {i : Int} {j : Nat} (h : EI c ta (ns.map PyData.int)) (hy : E true c tb (RD (.int i))) (hj : ns[j]? = some i) (no : i ∉ ns.take j) : E b c (tBM K "list" (rIndexD K) ta (tCons tb tNil)) (RD (.int (j : Int))) := fun σ H s Q q =>
  h σ H s _ fun H1 a vs k1 e1 r1 => by
    refine .inl ⟨rfl, vs, SqL.of e1⟩ |> fun z => ⟨z, hy σ H1 (s.kp k1) _ fun H2 v k2 r2 => ?_⟩
    cases r2
    have ev := r1.ints
    subst ev
    have f : ∀ ns : List Int, nods (ns.map PyData.int) = true := fun ns => by
      induction ns with
      | nil => rfl
      | cons n ns ih => exact ih
    have sh : ∀ ns : List Int, PyData.canLayAll0 (ns.map PyData.int) = true := fun ns => by
      induction ns with
      | nil => rfl
      | cons n ns ih => exact ih
    refine ⟨a, .int i, .int i, ns.map PyData.int, j, .int i, rfl, rfl, .lst (SqL.of (k2.lst e1)) (dpAll_int ns), .int i, ?_, rfl, by rw [List.getElem?_map, hj]; rfl, by rw [enc_int.eqv]; simp, fun m z' hm hz => ?_, q H2 _ (k1.trans k2) (.int _)⟩
    · exact (enc_list enc_int).shaped (by decide) (a := ns) fun _ _ => trivial
    · rw [List.getElem?_map] at hz
      obtain ⟨y, hy2, rfl⟩ := Option.map_eq_some_iff.mp hz
      rw [enc_int.eqv, decide_eq_false_iff_not]
      intro e
      subst e
      refine no (List.mem_iff_getElem?.mpr ⟨m, ?_⟩)
      rw [List.getElem?_take, if_pos hm]
      exact hy2
variable {PT : Addr} {fr : List (Option Nat)} {is : List Nat} {g0 : List Slot}
theorem e_genG {R : α → Rel} {G : α → List Slot} {p : α → Bool} (st : Bool) (hs : EWg c wi xs R) (eg : gslots fr c.g = g0) (tb : ∀ H, Kp c.h0 H → TabG H PT)
    (hg : ∀ om, ∀ x, x ∈ xs → EG ⟨c.hs, c.h0, om, g0⟩ g (R x) (G x) is) (hd : ∀ x, dropS (G x) is = g0)
    (he : ∀ om, ∀ x, x ∈ xs → E false ⟨c.hs, c.h0, om, G x⟩ te (RD (.bool (p x)))) : E b c (tGen PT fr wi g te st) (RD (.bool (if st = true then xs.any p else xs.all p))) := by
  refine E.flat (fun σ H s Q q => ?_) rfl
  refine hs σ H s _ fun H1 J k1 ok => ?_
  have s1 := s.kp k1
  have tg : TabG H1 PT := tb _ (s1.k0.trans kp_less)
  refine ⟨tg, fun H2 t2 => ?_⟩
  have k2 := tabbed_kp t2 tg
  have s2 := s1.kp k2
  obtain ⟨sg, eb⟩ := sta_gen s2 fr
  rw [eg] at sg eb
  have kB : Kp (bas c σ H1) (bas ⟨c.hs, c.h0, omG c σ, g0⟩ (slotsG fr σ) H2) := by
    rw [eb]
    exact s1.kb k2
  have fin : ∀ {v : Bool} {H' : Hp}, Kp H2 H' → (if (∀ x ∈ xs, p x = !st) then !st else st) = v → Q (.bl v) H' := fun {v H'} k e => by
    refine q H' _ ((k1.trans k2).trans k) ?_
    rw [srch, e]
    exact .bl _
  refine ⟨fun i m σ' H' => m = xs.length - i ∧ i ≤ xs.length ∧ Sta ⟨c.hs, c.h0, omG c σ, g0⟩ σ' H' ∧ Kp H2 H' ∧ Kp (bas ⟨c.hs, c.h0, omG c σ, g0⟩ (slotsG fr σ) H2) (bas ⟨c.hs, c.h0, omG c σ, g0⟩ σ' H') ∧ ∀ x ∈ xs.take i, p x = !st, ⟨xs.length, by simp, Nat.zero_le _, sg, Kp.refl _, Kp.refl _, fun x m => by simp at m⟩, ?_⟩
  rintro i m σ' H' ⟨rfl, hi, s', k', kb', hp⟩
  have kBB := kB.trans kb'
  by_cases lt : i < xs.length
  · have hx : xs[i]? = some xs[i] := List.getElem?_eq_getElem lt
    refine .inr ⟨ok.go i H' _ s'.hid' kBB lt, fun σ3 H3 => Sta ⟨c.hs, c.h0, omG c σ, g0⟩ σ3 H3 ∧ Kp H2 H3 ∧ Kp (bas ⟨c.hs, c.h0, omG c σ, g0⟩ (slotsG fr σ) H2) (bas ⟨c.hs, c.h0, omG c σ, g0⟩ σ3 H3) ∧ p xs[i] = !st, fun σ3 H3 z => ?_, fun v H3 y => ?_⟩
    · obtain ⟨a1, a2, a3, a4⟩ := z
      refine ⟨xs.length - (i + 1), by omega, rfl, lt, a1, a2, a3, fun x m => ?_⟩
      rw [List.take_succ_eq_append_getElem lt] at m
      rcases List.mem_append.mp m with m | m
      · exact hp x m
      · rw [List.mem_singleton.mp m]
        exact a4
    · obtain ⟨k3, rv⟩ := ok.yld i H' _ v H3 s'.hid' kBB y _ hx
      have hm : xs[i] ∈ xs := List.getElem_mem lt
      have s3 := s'.kp k3
      refine hg (omG c σ) xs[i] hm σ' H3 v s3 rv _ fun σ4 s4 e4 _ => he (omG c σ) xs[i] hm σ4 H3 s4 _ fun H5 y5 k5 r5 => ?_
      cases r5
      refine ⟨p xs[i], rfl, ?_⟩
      by_cases h : p xs[i] = st
      · rw [if_pos h]
        exact fin ((k'.trans k3).trans k5) (if_neg fun z => by rw [z _ hm] at h; cases st <;> cases h)
      · rw [if_neg h]
        have s5 := s4.kp k5
        have s6 := Sta.dropS (c := ⟨c.hs, c.h0, omG c σ, g0⟩) is (G xs[i]) s5
        rw [hd] at s6
        refine ⟨s6, (k'.trans k3).trans k5, (kb'.trans (s'.kb k3)).trans ?_, by cases st <;> cases hh : p xs[i] <;> first | rfl | exact absurd hh h⟩
        have kk : Kp (bas ⟨c.hs, c.h0, omG c σ, G xs[i]⟩ σ4 H3) (bas ⟨c.hs, c.h0, omG c σ, G xs[i]⟩ σ4 H5) := s4.kb k5
        have e4' : bas ⟨c.hs, c.h0, omG c σ, G xs[i]⟩ σ4 H3 = bas ⟨c.hs, c.h0, omG c σ, g0⟩ σ' H3 := e4 H3
        rw [e4'] at kk
        refine kk.trans (less_mono fun a z => ?_)
        rcases z with ⟨j, C, q1, q2⟩ | z
        · subst eg
          exact absurd q1 gslots_own
        · exact .inr z
  · have e : i = xs.length := by omega
    subst e
    refine .inl ⟨ok.stop _ H' _ s'.hid' kBB (Nat.le_refl _), fin k' (if_pos fun x m => hp x (by rw [List.take_length]; exact m))⟩
end
abbrev MapI := List (Int × Int)
def kvI (M : MapI) : List (L2.Key × V) := M.map fun x => (.inl x.1, V.int x.2)
def getI (M : MapI) (k : Int) : Option Int := (M.find? fun x => decide (x.1 = k)).map (·.2)
def setI (M : MapI) (k : Int) (v : Int) : MapI := if (M.any fun x => decide (x.1 = k)) = true then M.map (fun x => if x.1 = k then (x.1, v) else x) else M ++ [(k, v)]
theorem getI_cons (x : Int × Int) (M : MapI) (p : Int) : getI (x :: M) p = if x.1 = p then some x.2 else getI M p := by
  unfold getI
  rw [List.find?_cons]
  by_cases c : x.1 = p
  · rw [if_pos c, decide_eq_true c]
    rfl
  · rw [if_neg c, decide_eq_false c]
theorem inl_inj {p q : Int} : ((.inl p : L2.Key) = .inl q) ↔ p = q := ⟨fun e => by injection e, fun e => by rw [e]⟩
theorem val_getI (p : Int) : ∀ M : MapI, valV (kvI M) (.inl p : L2.Key) = (getI M p).map V.int
  | [] => rfl
  | x :: M => by
    rw [getI_cons]
    show valV (((.inl x.1 : L2.Key), V.int x.2) :: kvI M) (.inl p) = _
    by_cases c : x.1 = p
    · rw [if_pos c]
      exact valV_pos (p := ((.inl x.1 : L2.Key), V.int x.2)) (by rw [c])
    · rw [if_neg c, valV_neg fun e => c (inl_inj.mp e)]
      exact val_getI p M
theorem put_setI (M : MapI) (p v : Int) : putK (kvI M) (.inl p : L2.Key) (.int v) = kvI (setI M p v) := by
  have e : ((kvI M).any fun kv => decide (kv.1 = (.inl p : L2.Key))) = M.any fun x => decide (x.1 = p) := by
    unfold kvI
    rw [List.any_map]
    refine congrArg (fun g => M.any g) (funext fun x => ?_)
    exact decide_eq_decide.mpr inl_inj
  unfold putK setI
  rw [e]
  by_cases c : (M.any fun x => decide (x.1 = p)) = true
  · rw [if_pos c, if_pos c]
    unfold kvI
    rw [List.map_map, List.map_map]
    refine List.map_congr_left fun x _ => ?_
    show (if (.inl x.1 : L2.Key) = .inl p then ((.inl x.1 : L2.Key), V.int v) else ((.inl x.1 : L2.Key), V.int x.2)) = _
    by_cases d : x.1 = p
    · rw [if_pos (by rw [d])]
      show _ = ((.inl (if x.1 = p then (x.1, v) else x).1 : L2.Key), V.int (if x.1 = p then (x.1, v) else x).2)
      rw [if_pos d]
    · rw [if_neg fun z => d (inl_inj.mp z)]
      show _ = ((.inl (if x.1 = p then (x.1, v) else x).1 : L2.Key), V.int (if x.1 = p then (x.1, v) else x).2)
      rw [if_neg d]
  · rw [if_neg c, if_neg c]
    unfold kvI
    rw [List.map_append]
    rfl
theorem kvI_len (M : MapI) : (kvI M).length = M.length := List.length_map _
theorem setI_len (M : MapI) (p v : Int) : (setI M p v).length ≤ M.length + 1 := by
  unfold setI
  split
  · rw [List.length_map]; omega
  · rw [List.length_append]; exact Nat.le_refl _
section
variable {b : Bool} {c : Ct} {K : PySem.W.Frag} {ta tb td ty tx tv : TE} {M : MapI} {i : Nat} {k z n : Int} {D : Ends}
def OTabI (M : MapI) : Own := ⟨fun _ o => o = .dK (kvI M), fun _ h => h, fun h => by subst h; exact trivial⟩
def RTabI (M : MapI) : Rel := ⟨fun H v => ∃ a, v = .ref a ∧ H a = some (.dK (kvI M)), fun k ⟨a, e, h⟩ => ⟨a, e, k.at_ _ _ h fun _ z => nomatch z⟩⟩
def RTabK (M : MapI) : Rel := ⟨fun H v => ∃ a od, v = .ref a ∧ H a = some (.frz od (.dK (kvI M))), fun k ⟨a, od, e, h⟩ => ⟨a, od, e, k.frz h⟩⟩
theorem n_dnewK : EN c tDNewK (OTabI []) := fun σ H s Q q p n => q H p _ (Kp.refl _) n rfl
theorem e_get2I (e : c.g[i]? = some (.own (OTabI M))) (hy : E false c ty (RD (.int k))) (hx : E false c tx (RD (.int z))) : E b c (tDGet2 (tVar i) ty tx) (RD (.int ((getI M k).getD z))) := fun σ H s Q q => by
  obtain ⟨a, o, e1, e2, rfl, _⟩ := s.own i _ e
  refine ⟨.ref a, e1, a, rfl, .inl ⟨_, .inl e2⟩, hy σ H s _ fun H1 y k1 r1 => hx σ H1 (s.kp k1) _ fun H2 x k2 r2 => ?_⟩
  cases r1
  cases r2
  refine ⟨_, DGet.k (k := .inl k) (k2.at_ _ _ (k1.at_ _ _ e2 (fun _ z => nomatch z)) fun _ z => nomatch z), ?_⟩
  rw [val_getI]
  generalize getI M k = oo at q ⊢
  cases oo with
  | none => exact q H2 _ (k1.trans k2) (.int z)
  | some d => exact q H2 _ (k1.trans k2) (.int d)
theorem s_dputI (e : c.g[i]? = some (.own (OTabI M))) (hv : E true c tv (RD (.int n))) (hy : E false c ty (RD (.int k))) (l : M.length < 16777216) (q : WC (c.set i (.own (OTabI (setI M k n)))) D.nx) : WC c (sDPut (tVar i) ty tv D) := fun σ H s => hv σ H s _ fun H1 v k1 r1 => by
  have s1 := s.kp k1
  obtain ⟨a, o, e1, _⟩ := s1.own i _ e
  refine ⟨.ref a, e1, hy σ H1 s1 _ fun H2 y k2 r2 => ?_⟩
  have s2 := s1.kp k2
  obtain ⟨a', o, e1', e2, rfl, _⟩ := s2.own i _ e
  cases e1.symm.trans e1'
  cases r1
  cases r2
  refine ⟨a, _, rfl, DPut.k (k := .inl k) e2 (by rw [kvI_len, sizeLine_eq]; exact l), ?_⟩
  rw [put_setI]
  exact q σ _ (s2.mut (C' := OTabI (setI M k n)) e e1 rfl).1
theorem s_fixI {kk : L2.St → Hp → Prop} (e : c.g[i]? = some (.own (OTabI M))) (q : WC (c.set i (.fz (RTabI M))) kk) : WC c kk := s_fix e (fun B a o h1 h => by
  replace h : o = .dK (kvI M) := h
  subst h
  exact ⟨a, rfl, h1⟩) q
theorem op_TabI (B : Hp) (v : V) (r : (RTabI M).p B v) : ∃ d u, v = .ref d ∧ DL u ∧ B d = some u ∧ ∀ od, (RTabK M).p (upd B d (.frz od u)) v := by
  obtain ⟨a, rfl, h⟩ := r
  exact ⟨a, .dK (kvI M), rfl, trivial, h, fun od => ⟨a, od, rfl, upd_same⟩⟩
theorem e_getK (g : getI M k = some n) (ha : E b c td (RTabK M)) (hy : E b c ty (RD (.int k))) : E b c (tDGet td ty) (RD (.int n)) := fun σ H s Q q =>
  ha σ H s _ fun H1 v k1 r1 => hy σ H1 (s.kp k1) _ fun H2 y k2 r2 => by
    obtain ⟨a, od, rfl, h⟩ := (RTabK M).mn ((hb_kp k2).trans hb_in) r1
    cases r2
    refine ⟨a, .int n, rfl, .inl ⟨kvI M, .inl k, .inr ⟨od, h⟩, rfl, ?_⟩, q H2 _ (k1.trans k2) (.int n)⟩
    rw [val_getI, g]
    rfl
theorem w_keysI (hd : E true c td (RTabK M)) : EWg c (iKeys td) M (fun m => RD (.int m.1)) := fun σ H s Q q => hd σ H s _ fun H1 v k1 r1 => by
  rw [hb_t] at r1
  obtain ⟨d, od, rfl, h⟩ := r1
  have n : (kvI M).length = M.length := kvI_len M
  refine ⟨d, od, rfl, .inl ⟨kvI M, (less_some h).2, q H1 _ k1 ⟨fun i G N hd k hi => ⟨(less_some (k.frz h)).2, by omega⟩, fun i G N hd k hi => ⟨(less_some (k.frz h)).2, by omega⟩, fun i G N v G' hd k y m hm => ?_⟩⟩⟩
  obtain ⟨rfl, kk, vv, e, rfl⟩ := y
  unfold kvI at e
  rw [List.getElem?_map, hm] at e
  cases e
  exact ⟨Kp.refl _, .int _⟩
end
end Pk
namespace Pk
section
variable {α : Type} [DecidableEq α] {e : α → List (α × Int)} {s : α}
/-- a walk of this length leads from s to p -/
inductive Wk (e : α → List (α × Int)) (s : α) : α → Int → Prop
  | nil : Wk e s s 0
  | snoc {q p : α} {d l : Int} : Wk e s q d → (p, l) ∈ e q → Wk e s p (d + l)
/-- the distance -/
def Dst (e : α → List (α × Int)) (s p : α) (d : Int) : Prop := Wk e s p d ∧ ∀ d', Wk e s p d' → d ≤ d'
def PosE (e : α → List (α × Int)) : Prop := ∀ q p l, (p, l) ∈ e q → 1 ≤ l
theorem Wk.nn (hp : PosE e) {p : α} {d : Int} (h : Wk e s p d) : 0 ≤ d := by
  induction h with
  | nil => exact Int.le_refl 0
  | snoc _ m ih =>
    have := hp _ _ _ m
    omega
theorem Dst.uniq {p : α} {d d' : Int} (h : Dst e s p d) (h' : Dst e s p d') : d = d' := Int.le_antisymm (h.2 _ h'.1) (h'.2 _ h.1)
theorem Dst.self (hp : PosE e) : Dst e s s 0 := ⟨.nil, fun _ h => h.nn hp⟩
theorem Dst.pred (hp : PosE e) {p : α} {d : Int} (h : Dst e s p d) : (p = s ∧ d = 0) ∨ ∃ q dq l, Dst e s q dq ∧ (p, l) ∈ e q ∧ d = dq + l := by
  obtain ⟨w, m⟩ := h
  cases w with
  | nil => exact .inl ⟨rfl, rfl⟩
  | @snoc q _ d l w k => exact .inr ⟨q, d, l, ⟨w, fun d1 w1 => by have := m _ (.snoc w1 k); omega⟩, k, rfl⟩
theorem Dst.zero (hp : PosE e) {p : α} (h : Dst e s p 0) : p = s := by
  rcases h.pred hp with ⟨h1, _⟩ | ⟨q, dq, l, h1, h2, h3⟩
  · exact h1
  · have := h1.1.nn hp
    have := hp _ _ _ h2
    omega
/-- a table that leaves nothing to do tells the distances -/
theorem closed_dst (hp : PosE e) {f : α → Option Int} (h0 : f s = some 0) (hw : ∀ p d, f p = some d → Wk e s p d) (hc : ∀ q d p l, f q = some d → (p, l) ∈ e q → ∃ d', f p = some d' ∧ d' ≤ d + l) (p : α) (d : Int) : f p = some d ↔ Dst e s p d := by
  have key : ∀ {p : α} {d' : Int}, Wk e s p d' → ∃ d'', f p = some d'' ∧ d'' ≤ d' := fun {p d'} w => by
    induction w with
    | nil => exact ⟨0, h0, Int.le_refl _⟩
    | snoc _ m ih =>
      obtain ⟨d2, h2, l2⟩ := ih
      obtain ⟨d3, h3, l3⟩ := hc _ _ _ _ h2 m
      exact ⟨d3, h3, by omega⟩
  constructor
  · intro h
    refine ⟨hw _ _ h, fun d' w => ?_⟩
    obtain ⟨d2, h2, l2⟩ := key w
    rw [h] at h2
    cases h2
    exact l2
  · intro h
    obtain ⟨d2, h2, l2⟩ := key h.1
    have := h.2 _ (hw _ _ h2)
    rw [h2, show d2 = d by omega]
/-- how many places are nearer -/
noncomputable def cnt (e : α → List (α × Int)) (s : α) (V : List α) (d : Int) : Nat := by
  classical exact (V.filter fun q => decide (∃ dq, Dst e s q dq ∧ dq < d)).length
/-- a turn over the places hs of a table f0 has come to f; ch: something has changed -/
structure Turn (e : α → List (α × Int)) (s : α) (f0 : α → Option Int) (hs : List α) (f : α → Option Int) (ch : Bool) : Prop where
  zero : f s = some 0
  walk : ∀ p d, f p = some d → Wk e s p d
  mono : ∀ p d, f0 p = some d → ∃ d', f p = some d' ∧ d' ≤ d
  done : ∀ q ∈ hs, ∀ dq, Dst e s q dq → f0 q = some dq → ∀ p l, (p, l) ∈ e q → ∃ d', f p = some d' ∧ d' ≤ dq + l
  same : ch = false → (∀ p, f p = f0 p) ∧ ∀ q ∈ hs, ∀ dq, f0 q = some dq → ∀ p l, (p, l) ∈ e q → ∃ d', f p = some d' ∧ d' ≤ dq + l
/-- inside: at the place q with the number dq, the first links es of it -/
structure Step (e : α → List (α × Int)) (s : α) (f0 : α → Option Int) (hs : List α) (q : α) (es : List (α × Int)) (f : α → Option Int) (ch : Bool) : Prop extends Turn e s f0 hs f ch where
  part : ∀ dq, Dst e s q dq → f0 q = some dq → ∀ p l, (p, l) ∈ es → ∃ d', f p = some d' ∧ d' ≤ dq + l
  samp : ch = false → ∀ dq, f0 q = some dq → ∀ p l, (p, l) ∈ es → ∃ d', f p = some d' ∧ d' ≤ dq + l
theorem Turn.start {f0 : α → Option Int} (h0 : f0 s = some 0) (hw : ∀ p d, f0 p = some d → Wk e s p d) : Turn e s f0 [] f0 false :=
  ⟨h0, hw, fun _ d h => ⟨d, h, Int.le_refl _⟩, (fun _ z => nomatch z), fun _ => ⟨fun _ => rfl, fun _ z => nomatch z⟩⟩
theorem Turn.step {f0 f : α → Option Int} {hs : List α} {ch : Bool} (t : Turn e s f0 hs f ch) (q : α) : Step e s f0 hs q [] f ch :=
  { t with part := (fun _ _ _ _ _ z => nomatch z), samp := fun _ _ _ _ _ z => nomatch z }
/-- the value at an exact place stays -/
theorem Turn.exact {f0 f : α → Option Int} {hs : List α} {ch : Bool} (t : Turn e s f0 hs f ch) {q : α} {dq : Int} (h : Dst e s q dq) (h0 : f0 q = some dq) : f q = some dq := by
  obtain ⟨d', h1, h2⟩ := t.mono q dq h0
  have := h.2 _ (t.walk _ _ h1)
  rw [h1, show d' = dq by omega]
/-- a link that changes nothing -/
theorem Step.keep {f0 f : α → Option Int} {hs : List α} {q p : α} {es : List (α × Int)} {ch : Bool} {d l d' : Int} (t : Step e s f0 hs q es f ch) (hq : f q = some d) (hp : f p = some d') (le : d' ≤ d + l) : Step e s f0 hs q (es ++ [(p, l)]) f ch := by
  refine { t with part := fun dq h1 h2 p' l' m => ?_, samp := fun c dq h2 p' l' m => ?_ }
  · rcases List.mem_append.mp m with z | z
    · exact t.part dq h1 h2 p' l' z
    · have e1 := List.mem_singleton.mp z
      cases e1
      have := t.exact h1 h2
      rw [hq] at this
      cases this
      exact ⟨d', hp, le⟩
  · rcases List.mem_append.mp m with z | z
    · exact t.samp c dq h2 p' l' z
    · have e1 := List.mem_singleton.mp z
      cases e1
      have := (t.same c).1 q
      rw [hq, h2] at this
      cases this
      exact ⟨d', hp, le⟩
/-- a link that makes a number less, or gives one -/
theorem Step.less {f0 f g : α → Option Int} {hs : List α} {q p : α} {es : List (α × Int)} {ch : Bool} {d l : Int} (hpos : PosE e) (t : Step e s f0 hs q es f ch) (hq : f q = some d) (he : (p, l) ∈ e q) (lt : ∀ d', f p = some d' → d + l < d') (hg : ∀ x, g x = if x = p then some (d + l) else f x) : Step e s f0 hs q (es ++ [(p, l)]) g true := by
  have up : ∀ x d1, f x = some d1 → ∃ d2, g x = some d2 ∧ d2 ≤ d1 := fun x d1 h => by
    rw [hg]
    by_cases c : x = p
    · rw [if_pos c]
      rw [c] at h
      have := lt d1 h
      exact ⟨d + l, rfl, by omega⟩
    · rw [if_neg c]
      exact ⟨d1, h, Int.le_refl _⟩
  have up2 : ∀ x b, (∃ d1, f x = some d1 ∧ d1 ≤ b) → ∃ d2, g x = some d2 ∧ d2 ≤ b := fun x b ⟨d1, h1, h2⟩ => by
    obtain ⟨d2, h3, h4⟩ := up x d1 h1
    exact ⟨d2, h3, by omega⟩
  refine { zero := ?_, walk := fun x dx h => ?_, mono := fun x dx h => ?_, done := fun x hx dx h1 h2 p' l' m => up2 _ _ (t.done x hx dx h1 h2 p' l' m), same := (fun c => nomatch c), part := fun dq h1 h2 p' l' m => ?_, samp := fun c => nomatch c }
  · rw [hg]
    by_cases c : s = p
    · have h1 := t.zero
      rw [c] at h1
      have h2 := lt 0 h1
      have h3 := (t.walk _ _ hq).nn hpos
      have h4 := hpos _ _ _ he
      omega
    · rw [if_neg c]
      exact t.zero
  · rw [hg] at h
    by_cases c : x = p
    · rw [if_pos c] at h
      cases h
      rw [c]
      exact .snoc (t.walk _ _ hq) he
    · rw [if_neg c] at h
      exact t.walk _ _ h
  · obtain ⟨d1, h1, h2⟩ := t.mono x dx h
    exact up2 _ _ ⟨d1, h1, h2⟩
  · rcases List.mem_append.mp m with z | z
    · exact up2 _ _ (t.part dq h1 h2 p' l' z)
    · have e1 := List.mem_singleton.mp z
      cases e1
      have := t.exact h1 h2
      rw [hq] at this
      cases this
      exact ⟨d + l, by rw [hg, if_pos rfl], Int.le_refl _⟩
/-- a turn without a change -/
theorem Turn.stop {f0 f : α → Option Int} {hs : List α} (hpos : PosE e) (hk : ∀ q, f0 q ≠ none → q ∈ hs) (t : Turn e s f0 hs f false) (p : α) (d : Int) : f p = some d ↔ Dst e s p d := by
  obtain ⟨h1, h2⟩ := t.same rfl
  refine closed_dst hpos t.zero t.walk (fun q dq p l hq m => ?_) p d
  rw [h1] at hq
  exact h2 q (hk q (by rw [hq]; exact fun z => nomatch z)) dq hq p l m
end
end Pk
namespace Pk
section
variable {α : Type} [DecidableEq α] {e : α → List (α × Int)} {s : α}
/-- what is known when the nearest is taken out again and again: q the queue -/
structure Near1 (e : α → List (α × Int)) (s : α) (f : α → Option Int) (qs : List (Int × α)) : Prop where
  ok : ∀ p d, f p = some d → Dst e s p d
  walk : ∀ x ∈ qs, Wk e s x.2 x.1
  edge : ∀ q d p l, f q = some d → (p, l) ∈ e q → f p ≠ none ∨ (d + l, p) ∈ qs
  root : f s ≠ none ∨ (0, s) ∈ qs
/-- .. while what lies beside h is looked at -/
structure Near2 (e : α → List (α × Int)) (s h : α) (n : Int) (es : List (α × Int)) (f : α → Option Int) (qs : List (Int × α)) : Prop where
  ok : ∀ p d, f p = some d → Dst e s p d
  at_ : f h = some n
  walk : ∀ x ∈ qs, Wk e s x.2 x.1
  edge : ∀ q d p l, f q = some d → (p, l) ∈ e q → (q = h → (p, l) ∈ es) → f p ≠ none ∨ (d + l, p) ∈ qs
  root : f s ≠ none
theorem Near1.start : Near1 e s (fun _ => none) [(0, s)] := by
  refine ⟨fun _ _ h => (nomatch h), fun x hx => ?_, fun _ _ _ _ h => (nomatch h), .inr (.head _)⟩
  rw [List.mem_singleton.mp hx]
  exact .nil
theorem Near2.push {f : α → Option Int} {qs qs' : List (Int × α)} {n : Int} {h : α} {es : List (α × Int)} {p : α} {l : Int} (N : Near2 e s h n es f qs) (m0 : (p, l) ∈ e h) (pm : qs'.Perm (qs ++ [(n + l, p)])) : Near2 e s h n (es ++ [(p, l)]) f qs' := by
  refine ⟨N.ok, N.at_, fun x hx => ?_, fun q d p' l' fq m c => ?_, N.root⟩
  · rcases List.mem_append.mp (pm.mem_iff.mp hx) with z | z
    · exact N.walk x z
    · rw [List.mem_singleton.mp z]
      exact .snoc (N.ok _ _ N.at_).1 m0
  · by_cases ch : q = h
    · rcases List.mem_append.mp (c ch) with w | w
      · rcases N.edge q d p' l' fq m fun _ => w with z | z
        · exact .inl z
        · exact .inr (pm.mem_iff.mpr (List.mem_append_left _ z))
      · have z := List.mem_singleton.mp w
        injection z with z1 z2
        rw [ch, N.at_] at fq
        cases fq
        rw [z1, z2]
        exact .inr (pm.mem_iff.mpr (by simp))
    · rcases N.edge q d p' l' fq m fun y => absurd y ch with z | z
      · exact .inl z
      · exact .inr (pm.mem_iff.mpr (List.mem_append_left _ z))
theorem Near2.done {f : α → Option Int} {qs : List (Int × α)} {n : Int} {h : α} (N : Near2 e s h n (e h) f qs) : Near1 e s f qs := ⟨N.ok, N.walk, fun q d p l fq m => N.edge q d p l fq m fun c => by rw [← c]; exact m, .inl N.root⟩
structure Way (e : α → List (α × Int)) (s : α) (D : α → Int) (ws : List α) : Prop where
  ne : ws ≠ []
  on : ∀ p ∈ ws, ∃ d, Dst e s p d
  step : ∀ (j : Nat) (h : j + 1 < ws.length), ∃ l, (ws[j + 1], l) ∈ e (ws[j]'(by omega)) ∧ D ws[j + 1] + l = D (ws[j]'(by omega))
theorem Way.snoc {D : α → Int} {ws : List α} {p q : α} {l d : Int} (W : Way e s D (ws ++ [p])) (m : (q, l) ∈ e p) (hq : D q + l = D p) (hd : Dst e s q d) : Way e s D ((ws ++ [p]) ++ [q]) := by
  refine ⟨by simp, fun x hx => ?_, fun j hj => ?_⟩
  · rcases List.mem_append.mp hx with z | z
    · exact W.on x z
    · rw [List.mem_singleton.mp z]
      exact ⟨d, hd⟩
  · rw [List.length_append, List.length_singleton] at hj
    by_cases c : j + 1 < (ws ++ [p]).length
    · obtain ⟨l', h1, h2⟩ := W.step j c
      refine ⟨l', ?_⟩
      rw [List.getElem_append_left c, List.getElem_append_left (show j < (ws ++ [p]).length by omega)]
      exact ⟨h1, h2⟩
    · have ej : j = ws.length := by
        rw [List.length_append, List.length_singleton] at c hj
        omega
      subst ej
      refine ⟨l, ?_⟩
      have e1 : ((ws ++ [p]) ++ [q])[ws.length + 1]'(by simp) = q := by simp
      have e2 : ((ws ++ [p]) ++ [q])[ws.length]'(by simp) = p := by simp
      rw [e1, e2]
      exact ⟨m, hq⟩
theorem Way.fall (hp : PosE e) {D : α → Int} {ws : List α} (W : Way e s D ws) : ∀ (n j : Nat) (h : j + n < ws.length), D ws[j + n] + n ≤ D (ws[j]'(by omega))
  | 0, j, h => by simp
  | n + 1, j, h => by
    have a := W.fall hp n j (by omega)
    obtain ⟨l, m, q⟩ := W.step (j + n) h
    have := hp _ _ _ m
    have e1 : D ws[j + (n + 1)] = D ws[j + n + 1] := rfl
    omega
theorem Way.nodup (hp : PosE e) {D : α → Int} {ws : List α} (W : Way e s D ws) : ws.Nodup := by
  rw [List.nodup_iff_pairwise_ne, List.pairwise_iff_getElem]
  intro i j hi hj lt z
  have := W.fall hp (j - i) i (by omega)
  have e1 : ws[i + (j - i)]'(by omega) = ws[j] := by congr 1; omega
  rw [e1, ← z] at this
  omega
theorem Way.most (hp : PosE e) {D : α → Int} {ws U : List α} (W : Way e s D ws) (hU : ∀ p d, Wk e s p d → p ∈ U) : ws.length ≤ U.length := by
  have : ∀ {a b : List α}, a.Nodup → (∀ x ∈ a, x ∈ b) → a.length ≤ b.length := fun {a} => by
    induction a with
    | nil => intro b _ _; exact Nat.zero_le _
    | cons x a ih =>
      intro b nd h
      have hx := h x List.mem_cons_self
      have ih := ih (b := b.erase x) (List.nodup_cons.mp nd).2 fun y hy => by
        have ne : y ≠ x := fun z => (List.nodup_cons.mp nd).1 (by rw [← z]; exact hy)
        exact (List.mem_erase_of_ne ne).mpr (h y (List.mem_cons_of_mem _ hy))
      rw [List.length_erase_of_mem hx] at ih
      have := List.length_pos_of_mem hx
      rw [List.length_cons]
      omega
  exact this (W.nodup hp) fun x hx => by
    obtain ⟨d, h⟩ := W.on x hx
    exact hU _ _ h.1
end
end Pk
namespace Pk
open PySem L2
def topS (i : Nat) : Stmt := PySem.Challenge.pw_pickaisle_k27_odd_places_and_errors.main.body.getD i (.Pass ⟨0, 0, 0, 0⟩)
abbrev s_InvalidPlace___init__ : Stmt := inClass (topS 6) 0
theorem sc_InvalidPlace___init__ : FnScope ["self", "place"] ["self", "place"] (defScope s_InvalidPlace___init__) := ⟨rfl, rfl, rfl, by decide +kernel, rfl, by decide +kernel, by decide +kernel⟩
abbrev s_Task___init__ : Stmt := inClass (topS 9) 0
theorem sc_Task___init__ : FnScope ["self", "start", "end", "picks"] ["self", "start", "end", "picks"] (defScope s_Task___init__) := ⟨rfl, rfl, rfl, by decide +kernel, rfl, by decide +kernel, by decide +kernel⟩
abbrev s_Task_picks : Stmt := inClass (topS 9) 1
theorem sc_Task_picks : FnScope ["self"] ["self"] (defScope s_Task_picks) := ⟨rfl, rfl, rfl, by decide +kernel, rfl, by decide +kernel, by decide +kernel⟩
abbrev s_check_task : Stmt := topS 10
theorem sc_check_task : FnScope ["house", "task", "place"] ["house", "task"] (defScope s_check_task) := ⟨rfl, rfl, rfl, by decide +kernel, rfl, by decide +kernel, by decide +kernel⟩
abbrev s_is_odd : Stmt := topS 19
theorem sc_is_odd : FnScope ["task", "place"] ["task", "place"] (defScope s_is_odd) := ⟨rfl, rfl, rfl, by decide +kernel, rfl, by decide +kernel, by decide +kernel⟩
abbrev s_odd_at : Stmt := topS 20
theorem sc_odd_at : FnScope ["task", "gap", "place"] ["task", "gap"] (defScope s_odd_at) := ⟨rfl, rfl, rfl, by decide +kernel, rfl, by decide +kernel, by decide +kernel⟩
abbrev s_kinds_of : Stmt := topS 21
theorem sc_kinds_of : FnScope ["heights", "odd", "kinds", "_", "walked", "kind", "row"] ["heights", "odd"] (defScope s_kinds_of) := ⟨rfl, rfl, rfl, by decide +kernel, rfl, by decide +kernel, by decide +kernel⟩
abbrev s_fits : Stmt := topS 22
theorem sc_fits : FnScope ["kind", "odd", "many"] ["kind", "odd"] (defScope s_fits) := ⟨rfl, rfl, rfl, by decide +kernel, rfl, by decide +kernel, by decide +kernel⟩
abbrev s_kind_of : Stmt := topS 23
theorem sc_kind_of : FnScope ["house", "task", "plan", "gap", "crosses", "numbers", "links", "labels", "height", "come_to", "aisle", "_", "link", "other"] ["house", "task", "plan", "gap"] (defScope s_kind_of) := ⟨rfl, rfl, rfl, by decide +kernel, rfl, by decide +kernel, by decide +kernel⟩
abbrev s__rows_behind : Stmt := topS 25
theorem sc__rows_behind : FnScope ["kind", "newest", "_", "group", "number"] ["kind"] (defScope s__rows_behind) := ⟨rfl, rfl, rfl, by decide +kernel, rfl, by decide +kernel, by decide +kernel⟩
abbrev s__has_number : Stmt := topS 26
theorem sc__has_number : FnScope ["kind", "number", "_"] ["kind"] (defScope s__has_number) := ⟨rfl, rfl, rfl, by decide +kernel, rfl, by decide +kernel, by decide +kernel⟩
abbrev s__odd_groups : Stmt := topS 27
theorem sc__odd_groups : FnScope ["kind", "sums", "number", "group"] ["kind"] (defScope s__odd_groups) := ⟨rfl, rfl, rfl, by decide +kernel, rfl, by decide +kernel, by decide +kernel⟩
abbrev s_marks_inside : Stmt := topS 30
theorem sc_marks_inside : FnScope ["house", "task", "aisle", "stretch", "low", "high", "number", "height"] ["house", "task", "aisle", "stretch"] (defScope s_marks_inside) := ⟨rfl, rfl, rfl, by decide +kernel, rfl, by decide +kernel, by decide +kernel⟩
abbrev s_pieces_of : Stmt := topS 31
theorem sc_pieces_of : FnScope ["house", "task", "aisle", "stretch"] ["house", "task", "aisle", "stretch"] (defScope s_pieces_of) := ⟨rfl, rfl, rfl, by decide +kernel, rfl, by decide +kernel, by decide +kernel⟩
abbrev s_options_of : Stmt := topS 33
theorem sc_options_of : FnScope ["house", "task", "aisle", "stretch"] ["house", "task", "aisle", "stretch"] (defScope s_options_of) := ⟨rfl, rfl, rfl, by decide +kernel, rfl, by decide +kernel, by decide +kernel⟩
abbrev s_best_options : Stmt := topS 34
theorem sc_best_options : FnScope ["house", "task", "aisle", "stretch"] ["house", "task", "aisle", "stretch"] (defScope s_best_options) := ⟨rfl, rfl, rfl, by decide +kernel, rfl, by decide +kernel, by decide +kernel⟩
abbrev s_options_between : Stmt := topS 35
theorem sc_options_between : FnScope ["house", "aisle", "stretch", "inside", "pieces", "closed", "low", "high", "options", "piece"] ["house", "aisle", "stretch", "inside"] (defScope s_options_between) := ⟨rfl, rfl, rfl, by decide +kernel, rfl, by decide +kernel, by decide +kernel⟩
abbrev s_best_between : Stmt := topS 36
theorem sc_best_between : FnScope ["house", "aisle", "stretch", "inside", "options", "best", "option", "signs"] ["house", "aisle", "stretch", "inside"] (defScope s_best_between) := ⟨rfl, rfl, rfl, by decide +kernel, rfl, by decide +kernel, by decide +kernel⟩
abbrev s__pieces_between : Stmt := topS 37
theorem sc__pieces_between : FnScope ["house", "stretch", "inside", "low", "high"] ["house", "stretch", "inside"] (defScope s__pieces_between) := ⟨rfl, rfl, rfl, by decide +kernel, rfl, by decide +kernel, by decide +kernel⟩
abbrev s_kinds_ahead : Stmt := topS 56
theorem sc_kinds_ahead : FnScope ["house", "task", "aisle"] ["house", "task", "aisle"] (defScope s_kinds_ahead) := ⟨rfl, rfl, rfl, by decide +kernel, rfl, by decide +kernel, by decide +kernel⟩
abbrev s_steps : Stmt := topS 57
theorem sc_steps : FnScope ["house", "task", "aisle", "kind"] ["house", "task", "aisle", "kind"] (defScope s_steps) := ⟨rfl, rfl, rfl, by decide +kernel, rfl, by decide +kernel, by decide +kernel⟩
abbrev s_best_steps : Stmt := topS 58
theorem sc_best_steps : FnScope ["house", "task", "aisle", "kind"] ["house", "task", "aisle", "kind"] (defScope s_best_steps) := ⟨rfl, rfl, rfl, by decide +kernel, rfl, by decide +kernel, by decide +kernel⟩
abbrev s_table : Stmt := topS 59
theorem sc_table : FnScope ["house", "task", "aisle"] ["house", "task", "aisle"] (defScope s_table) := ⟨rfl, rfl, rfl, by decide +kernel, rfl, by decide +kernel, by decide +kernel⟩
abbrev s_product_of : Stmt := topS 61
theorem sc_product_of : FnScope ["house", "task", "first", "last", "whole", "aisle"] ["house", "task", "first", "last"] (defScope s_product_of) := ⟨rfl, rfl, rfl, by decide +kernel, rfl, by decide +kernel, by decide +kernel⟩
abbrev s_lengths_from : Stmt := topS 62
theorem sc_lengths_from : FnScope ["house", "task", "dicts", "profiles", "aisle", "layers"] ["house", "task"] (defScope s_lengths_from) := ⟨rfl, rfl, rfl, by decide +kernel, rfl, by decide +kernel, by decide +kernel⟩
abbrev s_least_length : Stmt := topS 63
theorem sc_least_length : FnScope ["house", "task"] ["house", "task"] (defScope s_least_length) := ⟨rfl, rfl, rfl, by decide +kernel, rfl, by decide +kernel, by decide +kernel⟩
abbrev s_table_from : Stmt := topS 64
theorem sc_table_from : FnScope ["house", "task", "aisle", "kinds", "layers", "found", "kind", "behind", "length"] ["house", "task", "aisle", "kinds"] (defScope s_table_from) := ⟨rfl, rfl, rfl, by decide +kernel, rfl, by decide +kernel, by decide +kernel⟩
abbrev s_House___init__ : Stmt := inClass (topS 72) 0
theorem sc_House___init__ : FnScope ["self", "lengths", "gaps", "closed", "link"] ["self", "lengths", "gaps", "closed"] (defScope s_House___init__) := ⟨rfl, rfl, rfl, by decide +kernel, rfl, by decide +kernel, by decide +kernel⟩
abbrev s_House_crosses : Stmt := inClass (topS 72) 6
theorem sc_House_crosses : FnScope ["self"] ["self"] (defScope s_House_crosses) := ⟨rfl, rfl, rfl, by decide +kernel, rfl, by decide +kernel, by decide +kernel⟩
abbrev s_House_is_place : Stmt := inClass (topS 72) 7
theorem sc_House_is_place : FnScope ["self", "place", "aisle", "height"] ["self", "place"] (defScope s_House_is_place) := ⟨rfl, rfl, rfl, by decide +kernel, rfl, by decide +kernel, by decide +kernel⟩
abbrev s_House_is_cross : Stmt := inClass (topS 72) 8
theorem sc_House_is_cross : FnScope ["self", "place"] ["self", "place"] (defScope s_House_is_cross) := ⟨rfl, rfl, rfl, by decide +kernel, rfl, by decide +kernel, by decide +kernel⟩
abbrev s_House_is_link : Stmt := inClass (topS 72) 9
theorem sc_House_is_link : FnScope ["self", "link", "word", "aisle", "height"] ["self", "link"] (defScope s_House_is_link) := ⟨rfl, rfl, rfl, by decide +kernel, rfl, by decide +kernel, by decide +kernel⟩
abbrev s__are_long : Stmt := topS 73
theorem sc__are_long : FnScope ["numbers", "number"] ["numbers"] (defScope s__are_long) := ⟨rfl, rfl, rfl, by decide +kernel, rfl, by decide +kernel, by decide +kernel⟩
abbrev s__cross_heights : Stmt := topS 74
theorem sc__cross_heights : FnScope ["lengths", "heights", "length"] ["lengths"] (defScope s__cross_heights) := ⟨rfl, rfl, rfl, by decide +kernel, rfl, by decide +kernel, by decide +kernel⟩
abbrev s_flipped_task : Stmt := topS 76
theorem sc_flipped_task : FnScope ["house", "task", "pick"] ["house", "task"] (defScope s_flipped_task) := ⟨rfl, rfl, rfl, by decide +kernel, rfl, by decide +kernel, by decide +kernel⟩
abbrev s_swapped_task : Stmt := topS 77
theorem sc_swapped_task : FnScope ["house", "task", "pick"] ["house", "task"] (defScope s_swapped_task) := ⟨rfl, rfl, rfl, by decide +kernel, rfl, by decide +kernel, by decide +kernel⟩
abbrev s__law_row : Stmt := topS 81
theorem sc__law_row : FnScope ["cell", "many", "row", "rest", "state", "k"] ["cell", "many"] (defScope s__law_row) := ⟨rfl, rfl, rfl, by decide +kernel, rfl, by decide +kernel, by decide +kernel⟩
abbrev s__law_numbers : Stmt := topS 82
theorem sc__law_numbers : FnScope ["script", "many", "cells", "each", "numbers", "cell", "number"] ["script", "many"] (defScope s__law_numbers) := ⟨rfl, rfl, rfl, by decide +kernel, rfl, by decide +kernel, by decide +kernel⟩
abbrev s__law_crosses : Stmt := topS 83
theorem sc__law_crosses : FnScope ["lengths", "heights", "length"] ["lengths"] (defScope s__law_crosses) := ⟨rfl, rfl, rfl, by decide +kernel, rfl, by decide +kernel, by decide +kernel⟩
abbrev s__law_link : Stmt := topS 84
theorem sc__law_link : FnScope ["lengths", "gaps", "first", "second"] ["lengths", "gaps", "first", "second"] (defScope s__law_link) := ⟨rfl, rfl, rfl, by decide +kernel, rfl, by decide +kernel, by decide +kernel⟩
abbrev s__law_house : Stmt := topS 85
theorem sc__law_house : FnScope ["numbers", "at", "many", "most", "lengths", "gaps", "closed", "k", "link"] ["numbers", "at", "many", "most"] (defScope s__law_house) := ⟨rfl, rfl, rfl, by decide +kernel, rfl, by decide +kernel, by decide +kernel⟩
abbrev s__law_cross : Stmt := topS 86
theorem sc__law_cross : FnScope ["house", "number", "crosses"] ["house", "number"] (defScope s__law_cross) := ⟨rfl, rfl, rfl, by decide +kernel, rfl, by decide +kernel, by decide +kernel⟩
abbrev s__law_place : Stmt := topS 87
theorem sc__law_place : FnScope ["house", "number"] ["house", "number"] (defScope s__law_place) := ⟨rfl, rfl, rfl, by decide +kernel, rfl, by decide +kernel, by decide +kernel⟩
abbrev s__law_task : Stmt := topS 88
theorem sc__law_task : FnScope ["numbers", "at", "house", "many", "start", "end", "picks", "k", "place"] ["numbers", "at", "house", "many"] (defScope s__law_task) := ⟨rfl, rfl, rfl, by decide +kernel, rfl, by decide +kernel, by decide +kernel⟩
abbrev s__law_made : Stmt := topS 89
theorem sc__law_made : FnScope ["house", "task"] ["house", "task"] (defScope s__law_made) := ⟨rfl, rfl, rfl, by decide +kernel, rfl, by decide +kernel, by decide +kernel⟩
abbrev s__law_numbered : Stmt := topS 90
theorem sc__law_numbered : FnScope ["numbers", "lots", "seen", "found", "k"] ["numbers", "lots"] (defScope s__law_numbered) := ⟨rfl, rfl, rfl, by decide +kernel, rfl, by decide +kernel, by decide +kernel⟩
abbrev s__law_odd : Stmt := topS 91
theorem sc__law_odd : FnScope ["task", "gap", "place"] ["task", "gap"] (defScope s__law_odd) := ⟨rfl, rfl, rfl, by decide +kernel, rfl, by decide +kernel, by decide +kernel⟩
abbrev s__law_fits : Stmt := topS 92
theorem sc__law_fits : FnScope ["kind", "odd", "groups", "group", "pair"] ["kind", "odd"] (defScope s__law_fits) := ⟨rfl, rfl, rfl, by decide +kernel, rfl, by decide +kernel, by decide +kernel⟩
abbrev s__law_rows : Stmt := topS 93
theorem sc__law_rows : FnScope ["menu", "many", "rows", "k", "longer", "row", "one"] ["menu", "many"] (defScope s__law_rows) := ⟨rfl, rfl, rfl, by decide +kernel, rfl, by decide +kernel, by decide +kernel⟩
abbrev s__law_kinds : Stmt := topS 94
theorem sc__law_kinds : FnScope ["heights", "odd", "found", "numbers", "lots", "kind"] ["heights", "odd"] (defScope s__law_kinds) := ⟨rfl, rfl, rfl, by decide +kernel, rfl, by decide +kernel, by decide +kernel⟩
abbrev s__law_ahead : Stmt := topS 95
theorem sc__law_ahead : FnScope ["house", "task", "aisle"] ["house", "task", "aisle"] (defScope s__law_ahead) := ⟨rfl, rfl, rfl, by decide +kernel, rfl, by decide +kernel, by decide +kernel⟩
abbrev s__law_call : Stmt := topS 96
theorem sc__law_call : FnScope ["which", "house", "task"] ["which", "house", "task"] (defScope s__law_call) := ⟨rfl, rfl, rfl, by decide +kernel, rfl, by decide +kernel, by decide +kernel⟩
abbrev s__law_refused : Stmt := topS 97
theorem sc__law_refused : FnScope ["which", "house", "task", "error"] ["which", "house", "task"] (defScope s__law_refused) := ⟨rfl, rfl, rfl, by decide +kernel, rfl, by decide +kernel, by decide +kernel⟩
abbrev s_law : Stmt := topS 98
theorem sc_law : FnScope ["script", "numbers", "house", "task", "warehouse", "errand", "gap", "aisle", "told", "top", "bad", "wrong", "start", "end", "picks", "due", "inner", "one", "height", "which"] ["script"] (defScope s_law) := ⟨rfl, rfl, rfl, by decide +kernel, rfl, by decide +kernel, by decide +kernel⟩
theorem same_upd {H : Hp} {p : Addr} {o : HO} (h : H p = none) : Same H (upd H p o) := fun b x e => by
  rw [upd_ne (ne_of_none e h)]
  exact e
/-- a list of numbers below 1009 -/
def Small (ns : List Int) : Prop := ∀ n ∈ ns, 0 ≤ n ∧ n < 1009
theorem Small.nil : Small [] := fun _ h => nomatch h
theorem Small.snoc {ns : List Int} (h : Small ns) {n : Int} (h0 : 0 ≤ n) (h1 : n < 1009) : Small (ns ++ [n]) := fun k hk => by
  rcases List.mem_append.mp hk with z | z
  · exact h k z
  · rw [List.mem_singleton] at z
    subst z
    exact ⟨h0, h1⟩
theorem small1e7 {n : Nat} (h : n ≤ 100000) : n < sizeLine := Nat.lt_of_le_of_lt h (by decide)
section
local macro_rules | `(tactic| walk_at "rd1") => `(tactic| first
  | (refine Exists.intro _ (And.intro rfl ?_))
  | (refine ⟨_, _, rfl, rfl, ?_⟩)
  | (refine Or.inl (Exists.intro _ (And.intro rfl ?_)))
  | (refine ⟨_, _, _, rfl, rfl, by assumption, by assumption, ?_⟩)
  | (refine And.intro (Or.inl ⟨rfl, _, SqL.of (by assumption)⟩) ?_)
  | (refine And.intro (by (first | omega | (dsimp only; omega) | (constructor <;> omega) | (refine Or.inl ?_; constructor <;> omega) | (refine Or.inr ?_; constructor <;> omega) | exact ⟨by decide, by decide, by decide⟩)) ?_))
local macro_rules | `(tactic| walk_at "rd") => `(tactic| repeat walk_at "rd1")
variable {P : Program} {w : World} {K : PySem.W.Frag} {mg : Str → Option Value} {base : Heap}
/-- the names of built-ins that no def of the text hides -/
structure DrawTxt (mg : Str → Option Value) (fR : Addr) : Prop where
  abs : mg "abs" = none
  int : mg "int" = none
  range : mg "range" = none
  len : mg "len" = none
  max : mg "max" = none
  row : mg "_law_row" = some (.ref fR)
/-- a row of numbers: a new list of as many numbers as asked, each from 0 to 1008 -/
def spRow : Sp := fun vs H Q _ => ∃ (c : Int) (m : Nat), vs = [.int c, .int m] ∧ m ≤ 1000 ∧
  ∀ (H' : Hp) (p : Addr) (ns : List Int), Same H H' → H p = none → H' p = some (.lst (ns.map V.int)) → ns.length = m → Small ns → Q (.ref p) H'
theorem ok_row {f fR : Addr} {fd : FuncData} {k : Nat} (F : Fun K "_law_row" "_law_row" s__law_row f fd) (T : DrawTxt mg fR) : FnOk P w K mg base CX0 (k + 1) f fd ["cell", "many"] spRow := by
  refine F.ok sc__law_row (fun vs H Q E h => ?_) (fun cdv A outer s H vs Q E hr h => ?_)
  · obtain ⟨c, m, rfl, _⟩ := h
    rfl
  · obtain ⟨c, m, rfl, hm, q⟩ := h
    have nd := sc__law_row.nd
    refine ⟨_, pss_cons (ps_set (i := 2) nd rfl (.inl rfl) (pe_lst pa_nil))
      (pss_cons (ps_set (i := 3) nd rfl (.inl rfl) pe_int)
      (pss_cons (ps_if (pt_cmpR op_ge (pe_callB call_abs (by rfl) T.abs (by decide +kernel) (pa_cons (pv 0) pa_nil)) (pe_op op_pow pe_int pe_int) (nomark _))
          (pss_one (ps_set (i := 3) nd rfl (.inl rfl) (pe_callB call_abs (by rfl) T.abs (by decide +kernel) (pa_cons (pv 0) pa_nil)))) pss_nil)
      (pss_cons (ps_set (i := 4) nd rfl (.inl rfl) (pe_op op_mod (pe_callTy call_int1 (by rfl) T.int (by decide +kernel) (pa_cons (pe_callB call_abs (by rfl) T.abs (by decide +kernel) (pa_cons (pv 0) pa_nil)) pa_nil)) pe_int))
      (pss_cons (ps_for PassesOwn.never rfl (pi_range1 rfl T.range (pa_cons (pv 1) pa_nil)) (pg_name (i := 5) nd rfl (.inl rfl))
        (pss_cons (ps_set (i := 4) nd rfl (.inl rfl) (pe_op op_mod (pe_callTy call_int1 (by rfl) T.int (by decide +kernel)
            (pa_cons (pe_op op_add (pe_op op_mul (pe_op op_add (pv 4) pe_int) pe_int) (pe_op op_mul pe_int (pv 5))) pa_nil)) pe_int))
        (pss_one (ps_if (pt_cmpR op_gt (pv 3) pe_int (nomark _))
          (pss_cons (ps_expr (pe_bm PySem.F.plainAttrs_list PySem.F.slot_list_append PySem.F.type_list_append mt_append (pv 2)
              (pa_cons (pe_op op_mod (pe_callTy call_int1 (by rfl) T.int (by decide +kernel) (pa_cons (pv 3) pa_nil)) pe_int) pa_nil)))
            (pss_one (ps_set (i := 3) nd rfl (.inl rfl) (pe_op op_fdiv (pv 3) pe_int))))
          (pss_one (ps_expr (pe_bm PySem.F.plainAttrs_list PySem.F.slot_list_append PySem.F.type_list_append mt_append (pv 2)
              (pa_cons (pe_op op_mod (pe_callTy call_int1 (by rfl) T.int (by decide +kernel) (pa_cons (pe_op op_fdiv (pv 4) pe_int) pa_nil)) pe_int) pa_nil))))))))
      (pss_one (ps_ret (pv 2))))))), ?_⟩
    refine ⟨Nat.zero_le _, fun r nr => ?_⟩
    have s1 : Same H (upd H r (.lst [])) := same_upd nr
    walk_at "rd"
    refine ite2 (fun hc => ?_) (fun hc => ?_)
    all_goals
      walk_at "rd"
      refine for_range (lo := 0) (n := m) (fun i σ H' => ∃ (ns : List Int) (rst st : Int) (vk : Option V), σ = [some (.int c), some (.int m), some (.ref r), some (.int rst), some (.int st), vk] ∧ Same H H' ∧ H' r = some (.lst (ns.map V.int)) ∧ ns.length = i ∧ Small ns ∧ 0 ≤ st ∧ st < 2147483647)
        ⟨[], _, _, none, rfl, s1, upd_same, rfl, Small.nil, Int.emod_nonneg _ (by decide), Int.emod_lt_of_pos _ (by decide)⟩ ?_ ?_
      · rintro i σ H' hi ⟨ns, rst, st, vk, rfl, sm, hrow, hl, hs, h0, h1⟩
        have hlen : (ns.map V.int).length < sizeLine := by
          rw [List.length_map]
          exact small1e7 (by omega)
        walk_at "rd"
        refine ite2 (fun hc2 => ?_) (fun hc2 => ?_)
        · walk_at "rd"
          refine ⟨ns ++ [rst % 1009], _, _, _, rfl, fun b o e => ?_, ?_, ?_, hs.snoc (Int.emod_nonneg _ (by decide)) (Int.emod_lt_of_pos _ (by decide)), Int.emod_nonneg _ (by decide), Int.emod_lt_of_pos _ (by decide)⟩
          · rw [upd_ne (ne_of_none e nr)]
            exact sm b o e
          · rw [upd_same, List.map_append]
            rfl
          · rw [List.length_append, hl]
            rfl
        · walk_at "rd"
          refine ⟨ns ++ [((st + 1) * 48271 + 69621 * (0 + (i : Int))) % 2147483647 / 2048 % 1009], _, _, _, rfl, fun b o e => ?_, ?_, ?_, hs.snoc (Int.emod_nonneg _ (by decide)) (Int.emod_lt_of_pos _ (by decide)), Int.emod_nonneg _ (by decide), Int.emod_lt_of_pos _ (by decide)⟩
          · rw [upd_ne (ne_of_none e nr)]
            exact sm b o e
          · rw [upd_same, List.map_append]
            rfl
          · rw [List.length_append, hl]
            rfl
      · rintro σ H' ⟨ns, rst, st, vk, rfl, sm, hrow, hl, hs, h0, h1⟩
        exact ⟨_, rfl, q H' r ns sm nr hrow hl hs⟩
/-- as many numbers as asked, drawn from the script: a new list, each from 0 to 1008 -/
def spNumbers (K : PySem.W.Frag) : Sp := fun vs H Q _ => ∃ (a : Addr) (xs : List Int) (m : Nat), vs = [.ref a, .int m] ∧ SqL K H a (xs.map V.int) ∧ xs.length ≤ 63 ∧ m ≤ 200 ∧
  ∀ (H' : Hp) (p : Addr) (ns : List Int), Same H H' → H p = none → H' p = some (.lst (ns.map V.int)) → ns.length = m → Small ns → Q (.ref p) H'
theorem cut_all (xs : List V) (h : xs.length ≤ 63) : cutV xs none (some 63) = xs := by
  unfold cutV
  rw [show HT.sIx xs.length xs.length (some 63) = min 63 xs.length from HT.sIx_nat xs.length xs.length 63, HT.sIx_none, List.drop_zero, Nat.sub_zero, Nat.min_eq_right h, List.take_length]
theorem cut_to (xs : List V) (m : Nat) : cutV xs none (some (m : Int)) = xs.take m := by
  unfold cutV
  rw [HT.sIx_nat, HT.sIx_none, List.drop_zero, Nat.sub_zero]
  rcases Nat.le_total m xs.length with h | h
  · rw [Nat.min_eq_left h]
  · rw [Nat.min_eq_right h, List.take_length, List.take_of_length_le h]
def lenAt (H : Hp) (p : Addr) : Nat := match H p with
  | some (.lst xs) => xs.length
  | _ => 0
theorem lenAt_of {H : Hp} {p : Addr} {xs : List V} (h : H p = some (.lst xs)) : lenAt H p = xs.length := by
  unfold lenAt
  rw [h]
theorem each_nat (m n : Nat) (hm : m ≤ 200) : ∃ e : Nat, 1 + (m : Int).fdiv (if (n : Int) > 1 then (n : Int) else 1) = (e : Int) ∧ e ≤ 201 := by
  have hp : 0 < (if (n : Int) > 1 then (n : Int) else 1) := by split <;> omega
  have e1 : (m : Int).fdiv (if (n : Int) > 1 then (n : Int) else 1) = (m : Int) / (if (n : Int) > 1 then (n : Int) else 1) := Int.fdiv_eq_ediv_of_nonneg _ (Int.le_of_lt hp)
  have h0 : 0 ≤ (m : Int) / (if (n : Int) > 1 then (n : Int) else 1) := Int.ediv_nonneg (by omega) (Int.le_of_lt hp)
  have h1 : (m : Int) / (if (n : Int) > 1 then (n : Int) else 1) ≤ m := Int.ediv_le_self _ (by omega)
  rw [e1]
  exact ⟨(1 + (m : Int) / (if (n : Int) > 1 then (n : Int) else 1)).toNat, by omega, by omega⟩
theorem ok_numbers {f fR : Addr} {fd fdR : FuncData} (F : Fun K "_law_numbers" "_law_numbers" s__law_numbers f fd) (T : DrawTxt mg fR) (FR : Fun K "_law_row" "_law_row" s__law_row fR fdR) (bR : Binds K fdR ["cell", "many"] []) :
    FnOk P w K mg base CX0 2 f fd ["script", "many"] (spNumbers K) := by
  have GR : FnOk P w K mg base CX0 1 fR fdR ["cell", "many"] spRow := ok_row FR T
  refine F.ok sc__law_numbers (fun vs H Q E h => ?_) (fun cdv A outer s H vs Q E hr h => ?_)
  · obtain ⟨a, xs, m, rfl, _⟩ := h
    rfl
  · obtain ⟨a, xs, m, rfl, hS, hx, hm, q⟩ := h
    have nd := sc__law_numbers.nd
    refine ⟨_, pss_cons (ps_set (i := 2) nd rfl (.inl rfl) (pe_slice sl_list (pv 0) po_none (po_some pe_int)))
      (pss_cons (ps_set (i := 3) nd rfl (.inl rfl) (pe_op op_add pe_int (pe_op op_fdivN (pv 1) (pe_callB (call_max2 rfl) (by rfl) T.max (by decide +kernel)
          (pa_cons pe_int (pa_cons (pe_callB call_len (by rfl) T.len (by decide +kernel) (pa_cons (pv 2) pa_nil)) pa_nil))))))
      (pss_cons (ps_set (i := 4) nd rfl (.inl rfl) (pe_lst pa_nil))
      (pss_cons (ps_for PassesOwn.never rfl (pi_list (pv 2)) (pg_name (i := 5) nd rfl (.inl rfl))
        (pss_one (ps_for PassesOwn.never rfl (pi_list (pe_call GR hr (by rfl) T.row FR.kp bR .nil pass0 (pa_cons (pv 5) (pa_cons (pv 3) pa_nil)))) (pg_name (i := 6) nd rfl (.inl rfl))
          (pss_one (ps_expr (pe_bm PySem.F.plainAttrs_list PySem.F.slot_list_append PySem.F.type_list_append mt_append (pv 4) (pa_cons (pv 6) pa_nil)))))))
      (pss_cons (ps_while PassesOwn.never (pt_cmpR op_lt (pe_callB call_len (by rfl) T.len (by decide +kernel) (pa_cons (pv 4) pa_nil)) (pv 1) (nomark _))
        (pss_one (ps_expr (pe_bm PySem.F.plainAttrs_list PySem.F.slot_list_append PySem.F.type_list_append mt_append (pv 4) (pa_cons pe_int pa_nil)))))
      (pss_one (ps_ret (pe_slice sl_list (pv 4) po_none (po_some (pv 1))))))))), ?_⟩
    refine ⟨_, rfl, _, rfl, a, _, rfl, hS, fun c nc => ?_⟩
    rw [cut_all _ (by rw [List.length_map]; exact hx)]
    have s1 : Same H (upd H c (.lst (xs.map V.int))) := same_upd nc
    refine ⟨_, rfl, _, rfl, _, _, rfl, .inl ⟨_, SqL.of upd_same, rfl⟩, _, _, rfl, _, _, rfl, rfl, ?_, ?_⟩
    · constructor
      · rw [List.length_map]
        split <;> omega
      · rw [List.length_map]
        split <;> omega
    refine ⟨_, _, rfl, rfl, ?_⟩
    dsimp only
    obtain ⟨e, he, hle⟩ := each_nat m (List.map V.int xs).length hm
    rw [he]
    refine ⟨Nat.zero_le _, fun b nb => ?_⟩
    have s2 : Same (upd H c (.lst (xs.map V.int))) (upd (upd H c (.lst (xs.map V.int))) b (.lst [])) := same_upd nb
    have nbc : c ≠ b := ne_of_none upd_same nb
    have nb0 : H b = none := s1.free nb
    -- for cell in cells
    refine ⟨_, rfl, c, rfl, ⟨_, SqL.of (s2 _ _ upd_same)⟩, for_list (K := K) (a := c) (xs := xs.map V.int) (fun i σ H' => ∃ (ns : List Int) (v5 v6 : Option V), σ = [some (.ref a), some (.int m), some (.ref c), some (.int e), some (.ref b), v5, v6] ∧ Same H H' ∧ H' c = some (.lst (xs.map V.int)) ∧ H' b = some (.lst (ns.map V.int)) ∧ ns.length ≤ i * 201 ∧ Small ns)
      ⟨[], none, none, rfl, s1.trans s2, s2 _ _ upd_same, upd_same, Nat.zero_le _, Small.nil⟩ (fun i σ H' _ ⟨_, _, _, _, _, hc, _⟩ => SqL.of hc) ?_ ?_⟩
    · rintro i y σ H' hi ⟨ns, v5, v6, rfl, sm, hc, hb, hl, hs⟩
      obtain ⟨z, hz, rfl⟩ : ∃ z, xs[i]? = some z ∧ y = V.int z := by
        rw [List.getElem?_map] at hi
        cases e : xs[i]? with
        | none =>
          rw [e] at hi
          cases hi
        | some z =>
          rw [e] at hi
          exact ⟨z, rfl, (Option.some.inj hi).symm⟩
      have hil : i < xs.length := (List.getElem?_eq_some_iff.mp hz).1
      -- for number in _law_row(cell, each)
      refine ⟨_, rfl, _, rfl, z, e, rfl, by omega, fun H2 r rs s3 nr hr2 hrl hrs => ?_⟩
      refine ⟨r, rfl, ⟨_, SqL.of hr2⟩, for_list (K := K) (a := r) (xs := rs.map V.int) (fun j σ H3 => ∃ (ms : List Int) (v6 : Option V), σ = [some (.ref a), some (.int m), some (.ref c), some (.int e), some (.ref b), some (.int z), v6] ∧ Same H H3 ∧ H3 r = some (.lst (rs.map V.int)) ∧ H3 c = some (.lst (xs.map V.int)) ∧ H3 b = some (.lst (ms.map V.int)) ∧ ms.length = ns.length + j ∧ Small ms)
        ⟨ns, v6, rfl, sm.trans s3, hr2, s3 _ _ hc, s3 _ _ hb, rfl, hs⟩ (fun j σ H3 _ ⟨_, _, _, _, h, _⟩ => SqL.of h) ?_ ?_⟩
      · rintro j y σ H3 hj ⟨ms, v6, rfl, sm3, hr3, hc3, hb3, hl3, hs3⟩
        obtain ⟨n, hn, rfl⟩ : ∃ n, rs[j]? = some n ∧ y = V.int n := by
          rw [List.getElem?_map] at hj
          cases e : rs[j]? with
          | none =>
            rw [e] at hj
            cases hj
          | some z =>
            rw [e] at hj
            exact ⟨z, rfl, (Option.some.inj hj).symm⟩
        have hjl : j < rs.length := (List.getElem?_eq_some_iff.mp hn).1
        have hb3l : (ms.map V.int).length < sizeLine := by
          rw [List.length_map]
          exact small1e7 (by omega)
        have nrb : r ≠ b := fun z => by
          rw [z] at nr
          rw [nr] at hb
          cases hb
        obtain ⟨g0, g1⟩ := hrs n (List.mem_of_getElem? hn)
        walk_at "rd"
        refine ⟨ms ++ [n], _, rfl, fun d o e => ?_, by rw [upd_ne nrb]; exact hr3, by rw [upd_ne nbc]; exact hc3, ?_, ?_, hs3.snoc g0 g1⟩
        · rw [upd_ne (ne_of_none e nb0)]
          exact sm3 d o e
        · rw [upd_same, List.map_append]
          rfl
        · rw [List.length_append, hl3]
          rfl
      · rintro σ H3 ⟨ms, v6, rfl, sm3, hr3, hc3, hb3, hl3, hs3⟩
        rw [List.length_map] at hl3
        exact ⟨ms, _, _, rfl, sm3, hc3, hb3, by rw [Nat.succ_mul]; omega, hs3⟩
    · rintro σ H' ⟨ns, v5, v6, rfl, sm, hc, hb, hl, hs⟩
      rw [List.length_map] at hl
      -- while len(numbers) < many
      refine while_by (fun σ H' => ∃ ns : List Int, σ = [some (.ref a), some (.int m), some (.ref c), some (.int e), some (.ref b), v5, v6] ∧ Same H H' ∧ H' b = some (.lst (ns.map V.int)) ∧ Small ns) (fun _ H' => m - lenAt H' b)
        ⟨ns, rfl, sm, hb, hs⟩ ?_ ?_
      · rintro σ H' ⟨ns, rfl, sm, hb, hs⟩
        refine ⟨_, rfl, _, _, rfl, .inl ⟨_, SqL.of hb, rfl⟩, _, rfl, _, _, rfl, rfl, _, rfl, ?_⟩
        rw [List.length_map]
        refine ite2 (fun hlt => ?_) (fun hlt => ?_)
        · have hlt' : ns.length < m := by
            have := of_decide_eq_true hlt
            omega
          have hbl : (ns.map V.int).length < sizeLine := by
            rw [List.length_map]
            exact small1e7 (by omega)
          walk_at "rd"
          refine ⟨⟨ns ++ [0], rfl, fun d o e => ?_, ?_, hs.snoc (by decide) (by decide)⟩, ?_⟩
          · rw [upd_ne (ne_of_none e nb0)]
            exact sm d o e
          · rw [upd_same, List.map_append]
            rfl
          · rw [lenAt_of upd_same, lenAt_of hb, List.length_append, List.length_map]
            show m - (ns.length + 1) < m - ns.length
            omega
        · have hge : m ≤ ns.length := by
            have : ¬ ((ns.length : Int) < (m : Int)) := fun z => hlt (decide_eq_true z)
            omega
          refine ⟨_, rfl, _, rfl, _, rfl, b, _, rfl, SqL.of hb, fun p np => ?_⟩
          rw [cut_to, ← List.map_take]
          refine q _ p (ns.take m) (fun d o e => ?_) (sm.free np) upd_same (by rw [List.length_take]; omega) (fun n hn => hs n (List.mem_of_mem_take hn))
          rw [upd_ne (ne_of_none (sm d o e) np)]
          exact sm d o e
      · rintro σ H Q Q' h ⟨v, e1, x, n, e2, l, u, e3, i, j, ei, ej, k, ek, q⟩
        exact ⟨v, e1, x, n, e2, l, u, e3, i, j, ei, ej, k, ek, h _ _ q⟩
end
section
open GxR NdefX PySem.Spec PyProof.Rows
variable {P : Program} {w : World} {K : PySem.W.Frag} {mg : Str → Option Value} {base : Heap}
def longN (n : Int) : Bool := decide (1 ≤ n) && decide (n ≤ 40)
/-- what the top has left for them -/
structure HouseTop (mg : Str → Option Value) : Prop where
  all : mg "all" = none
  len : mg "len" = none
  sum : mg "sum" = none
  list : mg "list" = none
  sorted : mg "sorted" = none
  range : mg "range" = none
  longest : ∃ t, mg "LONGEST" = some (.int 40 t)
  stretches : ∃ t, mg "MOST_STRETCHES" = some (.int 2 t)
  mostGaps : ∃ t, mg "MOST_GAPS" = some (.int 11 t)
  mostClosed : ∃ t, mg "MOST_CLOSED" = some (.int 200 t)
def spLong (K : PySem.W.Frag) (T : Addr) : Sp := fun vs H Q _ => ∃ (l : Addr) (ns : List Int), vs = [.ref l] ∧ SqL K H l (ns.map V.int) ∧ TabG H T ∧
  ∀ H', Tabbed T H H' → Q (.bl (ns.all longN)) H'
theorem ok_long {f c T : Addr} {fd : FuncData} (F : FunC K "_are_long" "_are_long" s__are_long f c fd) (Z : HouseTop mg) (TB : TabB base mg c T) : FnOk P w K mg base CX0 3 f fd ["numbers"] (spLong K T) := by
  refine F.ok sc__are_long (fun vs H Q E h => ?_) (fun A outer s H vs Q E hr h => ?_)
  · obtain ⟨l, ns, rfl, _⟩ := h
    rfl
  · obtain ⟨l, ns, rfl, hl, ht, q⟩ := h
    obtain ⟨t, hlong⟩ := Z.longest
    refine ⟨_, pss_one (ps_ret (pe_allG (k := 1) (N := ["number"]) (fr := [none]) (g := gName 0) hr (by rfl) Z.all (by decide +kernel) TB rfl (gsc_by (outer := defScope s__are_long) rfl rfl (by decide +kernel)) (gfr_by (outer := defScope s__are_long) (XN := ["numbers", "number"]) rfl rfl (by decide +kernel)) (pi_list (pv 0))
      (fun B s0 H0 cd fp rB => ⟨pg_name (i := 0) (show (["number"] : List Str).Nodup by decide) rfl (.inl rfl), pe_chain op_le op_le pe_int (pv 0) (pe_glob (v := .int 40) rfl hlong ⟨_, rfl⟩)⟩) (fun _ => rfl))), ?_⟩
    refine ⟨_, rfl, l, rfl, ⟨_, hl⟩, ht, fun H2 t2 => ?_⟩
    have hl2 : SqL K H2 l (ns.map V.int) := (Tabbed.kp t2 ht).seq hl
    refine for_list (K := K) (a := l) (xs := ns.map V.int) (fun i σ H' => (∃ z, σ = [z]) ∧ H' = H2 ∧ (ns.take i).all longN = true) ?_ ?_ ?_ ?_
    · exact ⟨⟨none, rfl⟩, rfl, rfl⟩
    · rintro i σ H' _ ⟨_, rfl, _⟩
      exact hl2
    · rintro i x σ H' hx ⟨⟨z, rfl⟩, rfl, hp⟩
      rw [List.getElem?_map] at hx
      cases hn : ns[i]? with
      | none => rw [hn] at hx; cases hx
      | some n =>
        rw [hn] at hx
        cases hx
        have et : ns.take (i + 1) = ns.take i ++ [n] := by rw [List.take_add_one, hn]; rfl
        have fals : longN n = false → ns.all longN = false := fun e => by
          rw [Bool.eq_false_iff]
          intro z
          rw [List.all_eq_true] at z
          rw [z n (List.mem_of_getElem? hn)] at e
          cases e
        refine ⟨_, rfl, _, _, rfl, rfl, _, rfl, ?_⟩
        refine ite2 (fun h1 => ?_) (fun h1 => ?_)
        · refine ⟨_, _, rfl, rfl, _, rfl, ?_⟩
          refine ite2 (fun h2 => ?_) (fun h2 => ?_)
          · have e : longN n = false := by
              unfold longN
              rw [h2, Bool.and_false]
            have z := q H' t2
            rw [fals e] at z
            exact z
          · refine ⟨⟨_, rfl⟩, rfl, ?_⟩
            have e2 : decide (n ≤ 40) = true := by simpa using h2
            rw [et, List.all_append, hp]
            show (true && (longN n && true)) = true
            unfold longN
            rw [h1, e2]
            rfl
        · refine ⟨_, rfl, ?_⟩
          rw [if_pos rfl]
          have e : longN n = false := by
            unfold longN
            rw [show decide (1 ≤ n) = false by simpa using h1]
            rfl
          have z := q H' t2
          rw [fals e] at z
          exact z
    · rintro σ H' ⟨_, rfl, hp⟩
      rw [List.length_map, List.take_length] at hp
      have z := q H' t2
      rw [hp] at z
      exact z
end
section
open GxR NdefX PySem.Spec PyProof.Rows
variable {P : Program} {w : World} {K : PySem.W.Frag} {mg : Str → Option Value} {base : Heap}
def crossN (ns : List Int) : List Int := (List.range (ns.length + 1)).map fun k => (ns.take k).sum
theorem atI_last {α : Type} (xs : List α) (x : α) : atI (xs ++ [x]) (-1) = some x := by
  unfold atI ixN
  rw [if_neg (by decide), List.length_append]
  have h : (-(1 : Int) : Int) + ((xs.length + [x].length : Nat) : Int) = (xs.length : Int) := by
    show (-1 : Int) + ((xs.length + 1 : Nat) : Int) = _
    omega
  split
  · show (xs ++ [x])[(-1 + ((xs.length + [x].length : Nat) : Int)).toNat]? = some x
    rw [h]
    simp
  · rename_i z
    exact absurd (by show -((xs.length + 1 : Nat) : Int) ≤ -1; omega) z
def spCross (K : PySem.W.Frag) : Sp := fun vs H Q _ => ∃ (l : Addr) (ns : List Int), vs = [.ref l] ∧ SqL K H l (ns.map V.int) ∧ ns.length ≤ 1000 ∧
  ∀ (H' : Hp) (p : Addr), Same H H' → H p = none → H' p = some (.lst ((crossN ns).map V.int)) → Q (.ref p) H'
theorem ok_cross {f : Addr} {fd : FuncData} (F : Fun K "_cross_heights" "_cross_heights" s__cross_heights f fd) : FnOk P w K mg base CX0 2 f fd ["lengths"] (spCross K) := by
  refine F.ok sc__cross_heights (fun vs H Q E h => ?_) (fun cdv A outer s H vs Q E hr h => ?_)
  · obtain ⟨l, ns, rfl, _⟩ := h
    rfl
  · obtain ⟨l, ns, rfl, hl, hn, q⟩ := h
    have nd := sc__cross_heights.nd
    refine ⟨_, (pss_cons (ps_set (i := 1) nd rfl (.inl rfl) (pe_lst (pa_cons pe_int pa_nil)))
      (pss_cons (ps_for PassesOwn.never rfl (pi_list (pv 0)) (pg_name (i := 2) nd rfl (.inl rfl)) (pss_one (ps_expr (pe_bm PySem.F.plainAttrs_list PySem.F.slot_list_append PySem.F.type_list_append mt_append (pv 1) (pa_cons (pe_op op_add (pe_ix ix_list (pv 1) (pe_un un_neg pe_int) (fun _ _ => rfl)) (pv 2)) pa_nil)))))
      (pss_one (ps_ret (pv 1))))), ?_⟩
    refine ⟨by decide, fun r nr => ?_⟩
    have sR : ∀ o, Same H (upd H r o) := fun o => same_upd nr
    refine ⟨_, rfl, l, rfl, ⟨_, (sR _).seq hl⟩, ?_⟩
    refine for_list (K := K) (a := l) (xs := ns.map V.int) (fun i σ H' => (∃ z, σ = [some (.ref l), some (.ref r), z]) ∧ H' = upd H r (.lst (((List.range (i + 1)).map fun k => (ns.take k).sum).map V.int))) ?_ ?_ ?_ ?_
    · exact ⟨⟨none, rfl⟩, rfl⟩
    · rintro i σ H' _ ⟨_, rfl⟩
      exact (sR _).seq hl
    · rintro i x σ H' hx ⟨⟨z, rfl⟩, rfl⟩
      rw [List.getElem?_map] at hx
      cases hi : ns[i]? with
      | none => rw [hi] at hx; cases hx
      | some n =>
        rw [hi] at hx
        cases hx
        have lt := (List.getElem?_eq_some_iff.mp hi).1
        have et : ns.take (i + 1) = ns.take i ++ [n] := by rw [List.take_add_one, hi]; rfl
        have er : ((List.range (i + 1)).map fun k => (ns.take k).sum).map V.int = (((List.range i).map fun k => (ns.take k).sum).map V.int) ++ [V.int (ns.take i).sum] := by
          rw [List.range_succ, List.map_append, List.map_append]
          rfl
        refine ⟨_, rfl, ?_⟩
        refine And.intro (Or.inl ⟨rfl, _, SqL.of upd_same⟩) ?_
        refine ⟨_, rfl, _, rfl, r, _, -1, _, rfl, rfl, SqL.of upd_same, by rw [er]; exact atI_last _ _, _, rfl, _, _, rfl, rfl, ?_⟩
        refine ⟨r, _, _, rfl, rfl, upd_same, ?_, ⟨_, rfl⟩, ?_⟩
        · rw [List.length_map, List.length_map, List.length_range, sizeLine_eq]
          omega
        · rw [upd_upd, List.range_succ (n := i + 1), List.map_append, List.map_append]
          show upd H r (.lst (_ ++ [V.int ((ns.take i).sum + n)])) = upd H r (.lst (_ ++ [V.int (ns.take (i + 1)).sum]))
          rw [et, List.sum_append]
          simp
    · rintro σ H' ⟨⟨z, rfl⟩, rfl⟩
      refine ⟨_, rfl, ?_⟩
      rw [List.length_map]
      exact q _ r (sR _) nr upd_same
end
section
open GxR NdefX PySem.Spec PyProof.Rows
variable {P : Program} {w : World} {K : PySem.W.Frag} {mg : Str → Option Value} {base : Heap}
def hf (l g c t d : V) : List (Str × V) := putF "_closed" d (putF "_top" t (putF "_crosses" c (putF "_gaps" g (putF "_lengths" l []))))
theorem hk1 : ¬ (("_lengths" : Str) = "_gaps") := by decide +kernel
theorem hk2 : ¬ (("_lengths" : Str) = "_crosses") := by decide +kernel
theorem hk3 : ¬ (("_lengths" : Str) = "_top") := by decide +kernel
theorem hk4 : ¬ (("_lengths" : Str) = "_closed") := by decide +kernel
theorem hk5 : ¬ (("_gaps" : Str) = "_crosses") := by decide +kernel
theorem hk6 : ¬ (("_gaps" : Str) = "_top") := by decide +kernel
theorem hk7 : ¬ (("_gaps" : Str) = "_closed") := by decide +kernel
theorem hk8 : ¬ (("_crosses" : Str) = "_top") := by decide +kernel
theorem hk9 : ¬ (("_crosses" : Str) = "_closed") := by decide +kernel
theorem hk10 : ¬ (("_top" : Str) = "_closed") := by decide +kernel
section
variable (l g c t d : V)
theorem hf_lengths : (hf l g c t d).lookup ("_lengths" : Str) = some l := by
  unfold hf
  rw [lookup_putF, if_neg hk4, lookup_putF, if_neg hk3, lookup_putF, if_neg hk2, lookup_putF, if_neg hk1, lookup_putF, if_pos rfl]
theorem hf_gaps : (hf l g c t d).lookup ("_gaps" : Str) = some g := by
  unfold hf
  rw [lookup_putF, if_neg hk7, lookup_putF, if_neg hk6, lookup_putF, if_neg hk5, lookup_putF, if_pos rfl]
theorem hf_crosses : (hf l g c t d).lookup ("_crosses" : Str) = some c := by
  unfold hf
  rw [lookup_putF, if_neg hk9, lookup_putF, if_neg hk8, lookup_putF, if_pos rfl]
theorem hf_top : (hf l g c t d).lookup ("_top" : Str) = some t := by
  unfold hf
  rw [lookup_putF, if_neg hk10, lookup_putF, if_pos rfl]
theorem hf_closed : (hf l g c t d).lookup ("_closed" : Str) = some d := by
  unfold hf
  rw [lookup_putF, if_pos rfl]
theorem hf_no {m : Str} (h1 : ¬ m = "_lengths") (h2 : ¬ m = "_gaps") (h3 : ¬ m = "_crosses") (h4 : ¬ m = "_top") (h5 : ¬ m = "_closed") : (hf l g c t d).lookup m = none := by
  unfold hf
  rw [lookup_putF, if_neg h5, lookup_putF, if_neg h4, lookup_putF, if_neg h3, lookup_putF, if_neg h2, lookup_putF, if_neg h1]
  rfl
end
/-- a link's key -/
def lk (x : Str) (a h : Int) : Tk := [.inr x, .inl a, .inl h]
/-- it is one of the house -/
def isLk (ls gs : List Int) (x : Str) (a h : Int) : Bool :=
  if x = "up" then (decide (0 ≤ a) && decide (a ≤ gs.length)) && (decide (0 ≤ h) && decide (h < ls.sum))
  else decide (x = "over") && ((decide (0 ≤ a) && decide (a < gs.length)) && decide (h ∈ crossN ls))
/-- the fields that do not tell the closed links -/
def PartAt (C : Addr) (H : Hp) (p : Addr) (ls gs : List Int) : Prop := ∃ (dx l g c : Addr) (d : V), H p = some (.ins C dx (hf (.ref l) (.ref g) (.ref c) (.int ls.sum) d)) ∧
  H l = some (.lst (ls.map V.int)) ∧ H g = some (.lst (gs.map V.int)) ∧ H c = some (.lst ((crossN ls).map V.int))
theorem PartAt.kp {C : Addr} {H H' : Hp} {p : Addr} {ls gs : List Int} (h : PartAt C H p ls gs) (k : Kp H H') : PartAt C H' p ls gs := by
  obtain ⟨dx, l, g, c, d, h1, h2, h3, h4⟩ := h
  exact ⟨dx, l, g, c, d, k.ins h1, k.lst h2, k.lst h3, k.lst h4⟩
structure HouseTxt (K : PySem.W.Frag) (mg : Str → Option Value) (C : Addr) : Prop where
  cl : Cls K C
  nL : NoAttr K C "_lengths"
  nG : NoAttr K C "_gaps"
  nX : NoAttr K C "_crosses"
  nT : NoAttr K C "_top"
  nC : NoAttr K C "_closed"
theorem inV_ints (x : Int) (ns : List Int) : inV (.int x) (ns.map V.int) = decide (x ∈ ns) := by
  unfold inV
  induction ns with
  | nil => simp
  | cons n ns ih =>
    rw [List.map_cons, List.any_cons, ih]
    have e : eqV (.int n) (.int x) = decide (n = x) := by rfl
    rw [e]
    by_cases h : n = x
    · subst h; simp
    · have h2 : ¬ x = n := fun z => h z.symm
      simp [h, h2]
theorem flat_ints (ns : List Int) : (ns.map V.int).all flatV = true := by
  rw [List.all_eq_true]
  intro x hx
  obtain ⟨n, _, rfl⟩ := List.mem_map.mp hx
  rfl
/-- the reading of te hands out v and changes nothing -/
def Tells (te : TE) (σ : L2.St) (H : Hp) (v : V) : Prop := ∀ Q : VK, Q v H → te σ H Q
theorem tells_chain {tb tc : TE} {σ : L2.St} {H : Hp} {i0 j n : Int} {f : Int → Int → Bool} (hb : Tells tb σ H (.int j)) (hc : Tells tc σ H (.int n)) :
    Tells (tChain (rI0 fun i j => V.bl (decide (i ≤ j))) (rI0 fun i j => V.bl (f i j)) (tC (.int i0)) tb tc) σ H (.bl (decide (i0 ≤ j) && f j n)) := fun Q q => by
  refine hb _ ⟨_, _, rfl, rfl, _, rfl, ?_⟩
  refine ite2 (fun h => ?_) (fun h => ?_)
  · refine hc _ ⟨_, _, rfl, rfl, ?_⟩
    rw [h, Bool.true_and] at q
    exact q
  · rw [show decide (i0 ≤ j) = false by simpa using h, Bool.false_and] at q
    exact q
theorem tells_and {ta tb : TE} {σ : L2.St} {H : Hp} {a b : Bool} (ha : Tells ta σ H (.bl a)) (hb : Tells tb σ H (.bl b)) : Tells (tAndV ta tb) σ H (.bl (a && b)) := fun Q q => by
  refine ha _ ⟨_, rfl, ?_⟩
  cases a with
  | true => exact hb _ q
  | false => exact q
def spLink (C : Addr) : Sp := fun vs H Q _ => ∃ (p : Addr) (v : V) (ls gs : List Int) (x : Str) (a h : Int), vs = [.ref p, v] ∧ PartAt C H p ls gs ∧ Kr H v (lk x a h) ∧ Q (.bl (isLk ls gs x a h)) H
theorem ok_link {f C : Addr} {fd : FuncData} (F : Fun K "is_link" "House.is_link" s_House_is_link f fd) (Z : HouseTop mg) (T : HouseTxt K mg C) : FnOk P w K mg base CX0 1 f fd ["self", "link"] (spLink C) := by
  refine F.ok sc_House_is_link (fun vs H Q E h => ?_) (fun cdv A outer s H vs Q E hr h => ?_)
  · obtain ⟨p, v, ls, gs, x, a, h, rfl, _⟩ := h
    rfl
  · obtain ⟨p, v, ls, gs, x, a, h, rfl, ⟨dx, l, g, c, d, h1, h2, h3, h4⟩, ⟨t, rfl, ht⟩, q⟩ := h
    have nd := sc_House_is_link.nd
    refine ⟨_, (pss_cons (ps_asg (pv 1) (pg_tup rfl (pgs_cons (pg_name (i := 2) nd rfl (.inl rfl)) (pgs_cons (pg_name (i := 3) nd rfl (.inl rfl)) (pgs_cons (pg_name (i := 4) nd rfl (.inl rfl)) pgs_nil)))))
      (pss_cons (ps_if (pt_cmpR op_eq (pv 2) pe_str (nomark _)) (pss_one (ps_ret (pe_and (pe_chain op_le op_le pe_int (pv 3) (pe_callB call_len (by rfl) Z.len (by decide +kernel) (pa_cons (pe_fld (pv 0) rfl) pa_nil))) (pe_one (pe_chain op_le op_lt pe_int (pv 4) (pe_fld (pv 0) rfl)))))) pss_nil)
      (pss_one (ps_ret (pe_and (pe_cmpR op_eq (pv 2) pe_str (nomark _)) (pe_and (pe_chain op_le op_lt pe_int (pv 3) (pe_callB call_len (by rfl) Z.len (by decide +kernel) (pa_cons (pe_fld (pv 0) rfl) pa_nil))) (pe_one (pe_cmpR op_in_seq (pv 4) (pe_fld (pv 0) rfl) (by rfl))))))))), ?_⟩
    refine ⟨_, rfl, t, _, rfl, SqT.of ht, rfl, _, _, rfl, _, _, rfl, _, _, rfl, rfl, ?_⟩
    have var : ∀ {σ : L2.St} {i : Nat} {v : V}, σ[i]? = some (some v) → Tells (tVar i) σ H v := fun e Q q => ⟨_, e, q⟩
    have fld : ∀ {σ : L2.St} {f : Str} {v : V}, σ[0]? = some (some (V.ref p)) → NoAttr K C f → (hf (.ref l) (.ref g) (.ref c) (.int ls.sum) d).lookup f = some v → Tells (tFld K (tVar 0) f) σ H v := fun e n z Q q =>
      ⟨_, e, p, C, dx, _, _, rfl, h1, T.cl, n, z, q⟩
    have cnt : ∀ {σ : L2.St}, σ[0]? = some (some (V.ref p)) → Tells (tCB (fun xs H1 Q => ∃ x n, xs = [x] ∧ LenV K x H1 n ∧ Q (V.int (n : Nat)) H1) (tCons (tFld K (tVar 0) "_gaps") tNil)) σ H (.int gs.length) := fun e Q q =>
      fld e T.nG (hf_gaps _ _ _ _ _) _ ⟨_, _, rfl, .inl ⟨_, SqL.of h3, rfl⟩, by rw [List.length_map]; exact q⟩
    refine ⟨_, rfl, rfl, _, rfl, ?_⟩
    refine ite2 (fun hc => ?_) (fun hc => ?_)
    · have hx : x = "up" := V.str.inj (of_decide_eq_true hc)
      refine tells_and (tells_chain (f := fun i j => decide (i ≤ j)) (var rfl) (cnt rfl)) (tells_chain (f := fun i j => decide (i < j)) (var rfl) (fld rfl T.nT (hf_top _ _ _ _ _))) _ ?_
      unfold isLk at q
      rw [if_pos hx] at q
      exact q
    · have hx : ¬ x = "up" := fun z => by
        rw [z] at hc
        exact hc (decide_eq_true rfl)
      have eqq : Tells (tOp rEq (tVar 2) (tC (V.str "over"))) [some (.ref p), some (.ref t), some (.str x), some (.int a), some (.int h)] H (.bl (decide (x = "over"))) := fun Q q =>
        ⟨_, rfl, rfl, by rw [show decide (V.str x = V.str "over") = decide (x = "over") by simp]; exact q⟩
      have inn : Tells (tOp (rIn K false) (tVar 4) (tFld K (tVar 0) "_crosses")) [some (.ref p), some (.ref t), some (.str x), some (.int a), some (.int h)] H (.bl (decide (h ∈ crossN ls))) := fun Q q =>
        ⟨_, rfl, fld rfl T.nX (hf_crosses _ _ _ _ _) _ ⟨c, _, rfl, .inl (SqL.of h4), rfl, flat_ints _, by rw [inV_ints]; exact q⟩⟩
      refine tells_and eqq (tells_and (tells_chain (f := fun i j => decide (i < j)) (var rfl) (cnt rfl)) inn) _ ?_
      unfold isLk at q
      rw [if_neg hx] at q
      exact q
end
section
open GxR NdefX PySem.Spec PyProof.Rows
variable {P : Program} {w : World} {K : PySem.W.Frag} {mg : Str → Option Value} {base : Heap}
theorem Room.units0 {k : Nat} {A : Around} (r : Room k A) : A.units < cLine := by
  have := r.un
  omega
/-- all but what is at p is as it was, tables aside -/
structure KpB (p : Addr) (H H' : Hp) : Prop where
  at_ : ∀ b o, H b = some o → b ≠ p → (∀ ps, o ≠ .tbl ps) → H' b = some o
  tab : ∀ P, TabG H P → TabG H' P
section
variable {p : Addr} {H H1 H2 : Hp}
theorem KpB.refl : KpB p H H := ⟨fun _ _ e _ _ => e, fun _ t => t⟩
theorem KpB.kp (k : KpB p H H1) (m : Kp H1 H2) : KpB p H H2 := ⟨fun b o e n t => m.at_ b o (k.at_ b o e n t) t, fun P t => m.tab P (k.tab P t)⟩
theorem KpB.new {r : Addr} {o : HO} (k : KpB p H H1) (n : H1 r = none) : KpB p H (upd H1 r o) := k.kp (kpS (same_upd n))
theorem KpB.put {C dx : Addr} {fs gs : List (Str × V)} (k : KpB p H H1) (hp : H1 p = some (.ins C dx fs)) : KpB p H (upd H1 p (.ins C dx gs)) :=
  ⟨fun b o e n t => by rw [upd_ne n]; exact k.at_ b o e n t, fun P t => by
    obtain ⟨ps, e, t'⟩ := k.tab P t
    exact ⟨ps, by rw [upd_ne (ne_of hp e fun z => nomatch z).symm]; exact e, t'⟩⟩
end
/-- a new object is laid, then a field of p is set -/
theorem stepF {p r C dx : Addr} {fs gs : List (Str × V)} {H H2 : Hp} {o : HO} (kb : KpB p H H2) (hp : H2 p = some (.ins C dx fs)) (n : H2 r = none) :
    ∃ H3, upd (upd H2 r o) p (.ins C dx gs) = H3 ∧ KpB p H H3 ∧ H3 p = some (.ins C dx gs) ∧ H3 r = some o ∧ (∀ b u, H2 b = some u → b ≠ p → H3 b = some u) ∧ ∀ b, H3 b = none → H2 b = none := by
  have pr : p ≠ r := ne_of_none hp n
  refine ⟨_, rfl, (kb.new n).put (fs := fs) (by rw [upd_ne pr]; exact hp), upd_same, by rw [upd_ne pr.symm, upd_same], fun b u e h => ?_, fun b e => ?_⟩
  · rw [upd_ne h, upd_ne (ne_of_none e n)]
    exact e
  · cases q : H2 b with
    | none => rfl
    | some u =>
      by_cases z : b = p
      · rw [z, upd_same] at e
        cases e
      · rw [upd_ne z, upd_ne (ne_of_none q n), q] at e
        cases e
theorem stepP {p C dx : Addr} {fs gs : List (Str × V)} {H H2 : Hp} (kb : KpB p H H2) (hp : H2 p = some (.ins C dx fs)) :
    ∃ H3, upd H2 p (.ins C dx gs) = H3 ∧ KpB p H H3 ∧ H3 p = some (.ins C dx gs) ∧ (∀ b u, H2 b = some u → b ≠ p → H3 b = some u) ∧ ∀ b, H3 b = none → H2 b = none := by
  refine ⟨_, rfl, kb.put hp, upd_same, fun b u e h => by rw [upd_ne h]; exact e, fun b e => ?_⟩
  by_cases z : b = p
  · rw [z, upd_same] at e
    cases e
  · rw [upd_ne z] at e
    exact e
theorem lenF {f : Str} {v : V} {fs : List (Str × V)} {n : Nat} (h : fs.length < n) : (putF f v fs).length < n + 1 := by
  have q := length_putF f v fs
  omega
theorem seqP {K : PySem.W.Frag} {p C dx a : Addr} {fs : List (Str × V)} {H H2 : Hp} {xs : List V} (hp : H p = some (.ins C dx fs)) (k : ∀ b u, H b = some u → b ≠ p → H2 b = some u) (h : SqL K H a xs) : SqL K H2 a xs := by
  rcases h with (h | ⟨o, h⟩) | h
  · exact .inl (.inl (k _ _ h (ne_of hp h fun z => nomatch z).symm))
  · exact .inl (.inr ⟨o, k _ _ h (ne_of hp h fun z => nomatch z).symm⟩)
  · exact .inr h
theorem krsP {p C dx : Addr} {fs : List (Str × V)} {H H2 : Hp} {xs : List V} {ks : List Tk} (hp : H p = some (.ins C dx fs)) (k : ∀ b u, H b = some u → b ≠ p → H2 b = some u) (h : Krs H xs ks) : Krs H2 xs ks := by
  induction h with
  | nil => exact .nil
  | cons a _ ih =>
    obtain ⟨t, rfl, e⟩ := a
    exact .cons ⟨t, rfl, k _ _ e (ne_of hp e fun z => nomatch z).symm⟩ ih
/-- what the house's keys are -/
def kOf (cs : List (Str × Int × Int)) : List Tk := cs.map fun c => lk c.1 c.2.1 c.2.2
def Valid (ls gs : List Int) (cs : List (Str × Int × Int)) : Prop := ((1 ≤ ls.length ∧ ls.length ≤ 2) ∧ ls.all longN = true) ∧ (gs.length ≤ 11 ∧ gs.all longN = true) ∧ cs.length ≤ 200 ∧ (kOf cs).Nodup ∧ ∀ c ∈ cs, isLk ls gs c.1 c.2.1 c.2.2 = true
/-- a house stands at p -/
def HouseAt (C : Addr) (H : Hp) (p : Addr) (ls gs : List Int) (cs : List (Str × Int × Int)) : Prop := Valid ls gs cs ∧ ∃ dx l g c d : Addr, H p = some (.ins C dx (hf (.ref l) (.ref g) (.ref c) (.int ls.sum) (.ref d))) ∧
  H l = some (.lst (ls.map V.int)) ∧ H g = some (.lst (gs.map V.int)) ∧ H c = some (.lst ((crossN ls).map V.int)) ∧ H d = some (.dT ((kOf cs).map fun k => (k, V.bl true)))
structure ErrTxt (K : PySem.W.Frag) (mg : Str → Option Value) (CI : Addr) (x : Str) : Prop where
  gI : mg x = some (.ref CI)
  kI : PySem.W.keepIn K (.ref CI) = true
  xI : PySem.W.excIn K CI [.type "ValueError", .type "Exception", .type "BaseException", .type "object"] "ValueError.__new__" = true
  bI : PySem.W.subIn K (.ref CI) (.type "BaseException") = some true
  tI : PySem.W.typeIn K (.ref CI) = some (.type "type")
/-- no list stands there -/
def NoLst (H : Hp) (b : Addr) : Prop := ∀ zs, H b ≠ some (.lst zs)
theorem Kp.noLst {H H' : Hp} {b : Addr} (k : Kp H H') (n : H' b = none) : NoLst H b := fun zs e => by
  rcases k.free n with z | ⟨ps, z⟩
  · rw [z] at e
    cases e
  · rw [z] at e
    cases e
def spHouse (K : PySem.W.Frag) (C CI TL TI : Addr) : Sp := fun vs H Q E => ∃ (p dx l g c : Addr) (ls gs : List Int) (xs : List V) (cs : List (Str × Int × Int)), vs = [.ref p, .ref l, .ref g, .ref c] ∧ H p = some (.ins C dx []) ∧
  SqL K H l (ls.map V.int) ∧ SqL K H g (gs.map V.int) ∧ SqL K H c xs ∧ Krs H xs (kOf cs) ∧ ls.length ≤ 1000 ∧ gs.length ≤ 1000 ∧ cs.length ≤ 1000 ∧ TabG H TL ∧ TabG H TI ∧
  (Valid ls gs cs → ∀ H', HouseAt C H' p ls gs cs → KpB p H H' → (∀ (dx l g c : Addr) (t d : V), H' p = some (.ins C dx (hf (.ref l) (.ref g) (.ref c) t d)) → NoLst H l ∧ NoLst H g ∧ NoLst H c) → Q .non H') ∧
  (¬ Valid ls gs cs → ∀ H', KpB p H H' → E (.ref CI) none H')
theorem ok_house {f cI TI C CI fL fA cA TL fX : Addr} {fd fdL fdA fdX : FuncData} (F : FunC K "__init__" "House.__init__" s_House___init__ f cI fd) (TB : TabB base mg cI TI) (Z : HouseTop mg) (T : HouseTxt K mg C) (U : ErrTxt K mg CI "InvalidHouse")
    (FL : Fun K "is_link" "House.is_link" s_House_is_link fL fdL) (bL : Binds K fdL ["self", "link"] []) (mL : Meth K C "is_link" fL)
    (FA : FunC K "_are_long" "_are_long" s__are_long fA cA fdA) (TBA : TabB base mg cA TL) (bA : Binds K fdA ["numbers"] []) (gA : mg "_are_long" = some (.ref fA))
    (FX : Fun K "_cross_heights" "_cross_heights" s__cross_heights fX fdX) (bX : Binds K fdX ["lengths"] []) (gX : mg "_cross_heights" = some (.ref fX)) :
    FnOk P w K mg base (L2.CX P w) 5 f fd ["self", "lengths", "gaps", "closed"] (spHouse K C CI TL TI) := by
  have GL : FnOk P w K mg base CX0 1 fL fdL ["self", "link"] (spLink C) := ok_link FL Z T
  have GA : FnOk P w K mg base CX0 3 fA fdA ["numbers"] (spLong K TL) := ok_long FA Z TBA
  have GX : FnOk P w K mg base CX0 2 fX fdX ["lengths"] (spCross K) := ok_cross FX
  refine F.okX sc_House___init__ (fun vs H Q E h => ?_) (fun A outer s H vs Q E hr h => ?_)
  · obtain ⟨p, dx, l, g, c, ls, gs, xs, cs, rfl, _⟩ := h
    rfl
  · obtain ⟨p, dx, l, g, c, ls, gs, xs, cs, rfl, hp, hl, hg, hc, hx, bl, bg, bc, tL, tI, q, e⟩ := h
    obtain ⟨_, hStr⟩ := Z.stretches
    obtain ⟨_, hGap⟩ := Z.mostGaps
    obtain ⟨_, hClo⟩ := Z.mostClosed
    have nd := sc_House___init__.nd
    have hxl := hx.len
    refine ⟨_, (pss_cons (ps_if (PW.pt (pw_or (pt_not (pt_chain op_le op_le pe_int (pe_callB call_len (by rfl) Z.len (by decide +kernel) (pa_cons (pv 1) pa_nil)) (pe_glob (v := .int 2) rfl hStr ⟨_, rfl⟩))) (pw_or1 (pt_not (pt_val (pe_call GA (by exact hr.mono (by decide)) (by rfl) gA FA.kp bA .nil pass0 (pa_cons (pv 1) pa_nil))))))) (pss_one (ps_raise rfl (takes_of rfl rfl rfl rfl) (pmk_own PySem.F.excBase_ValueError U.xI U.gI U.kI (raises_own U.bI U.tI) rfl))) pss_nil)
      (pss_cons (ps_if (PW.pt (pw_or (pt_cmpR op_gt (pe_callB call_len (by rfl) Z.len (by decide +kernel) (pa_cons (pv 2) pa_nil)) (pe_glob (v := .int 11) rfl hGap ⟨_, rfl⟩) (nomark _)) (pw_or1 (pt_not (pt_val (pe_call GA (by exact hr.mono (by decide)) (by rfl) gA FA.kp bA .nil pass0 (pa_cons (pv 2) pa_nil))))))) (pss_one (ps_raise rfl (takes_of rfl rfl rfl rfl) (pmk_own PySem.F.excBase_ValueError U.xI U.gI U.kI (raises_own U.bI U.tI) rfl))) pss_nil)
      (pss_cons (ps_fld (pv 0) (pe_callTy call_list_of (by rfl) Z.list (by decide +kernel) (pa_cons (pv 1) pa_nil)) rfl)
      (pss_cons (ps_fld (pv 0) (pe_callTy call_list_of (by rfl) Z.list (by decide +kernel) (pa_cons (pv 2) pa_nil)) rfl)
      (pss_cons (ps_fld (pv 0) (pe_call GX (by exact hr.mono (by decide)) (by rfl) gX FX.kp bX .nil pass0 (pa_cons (pv 1) pa_nil)) rfl)
      (pss_cons (ps_fld (pv 0) (pe_callB (cr_sum rfl) (by rfl) Z.sum (by decide +kernel) (pa_cons (pv 1) pa_nil)) rfl)
      (pss_cons (ps_fld (pv 0) (pe_dcT (own := [("link", 4)]) (g := gName 4) rfl (by exact hr.units0) nd (pi_list (pv 3)) (blkOk_by (N := ["self", "lengths", "gaps", "closed", "link"]) (sc := defScope s_House___init__) (by decide +kernel)) (fun _ _ _ _ _ => ⟨pg_name (i := 4) nd rfl (.inl rfl), pv 4, pe_bl⟩)) rfl)
      (pss_cons (ps_if (PW.pt (pw_or (pt_cmpR op_gt (pe_callB call_len (by rfl) Z.len (by decide +kernel) (pa_cons (pv 3) pa_nil)) (pe_glob (v := .int 200) rfl hClo ⟨_, rfl⟩) (nomark _)) (pw_or1 (pt_cmpR op_lt (pe_callB call_len_dT (by rfl) Z.len (by decide +kernel) (pa_cons (pe_fld (pv 0) rfl) pa_nil)) (pe_callB call_len (by rfl) Z.len (by decide +kernel) (pa_cons (pv 3) pa_nil)) (nomark _))))) (pss_one (ps_raise rfl (takes_of rfl rfl rfl rfl) (pmk_own PySem.F.excBase_ValueError U.xI U.gI U.kI (raises_own U.bI U.tI) rfl))) pss_nil)
      (pss_one (ps_if (pt_not (pt_val (pe_allG (k := 3) (N := ["link", "self"]) (fr := [none, some 0]) (g := gName 0) (by exact hr) (by rfl) Z.all (by decide +kernel) TB rfl (gsc_by (outer := defScope s_House___init__) rfl rfl (by decide +kernel)) (gfr_by (outer := defScope s_House___init__) (XN := ["self", "lengths", "gaps", "closed", "link"]) rfl rfl (by decide +kernel)) (pi_list (pv 3)) (fun B s0 H0 cd fp rB => ⟨pg_name (i := 0) (show (["link", "self"] : List Str).Nodup by decide) rfl (.inl rfl), (pe_meth (pv 1) T.cl mL GL (by exact rB.mono (by decide)) bL .nil pass0 (pa_cons (pv 0) pa_nil))⟩) (fun _ => rfl)))) (pss_one (ps_raise rfl (takes_of rfl rfl rfl rfl) (pmk_own PySem.F.excBase_ValueError U.xI U.gI U.kI (raises_own U.bI U.tI) rfl))) pss_nil)))))))))), ?_⟩
    have bad : ∀ {H' : Hp}, ¬ Valid ls gs cs → KpB p H H' → E (.ref CI) none H' := fun {H'} n k => e n H' k
    refine (tells_chain (f := fun i j => decide (i ≤ j)) (j := (ls.length : Int)) (n := 2) (fun Q q => ⟨_, rfl, _, _, rfl, .inl ⟨_, hl, rfl⟩, by rw [List.length_map]; exact q⟩) (fun Q q => q)) _ ⟨_, rfl, ?_⟩
    refine ite2 (fun h1 => ?_) (fun h1 => ?_)
    · exact bad (fun v => by
        have v1 := v.1.1
        simp at h1
        omega) KpB.refl
    refine ⟨_, rfl, l, ls, rfl, hl, tL, fun H1 t1 => ⟨_, rfl, ?_⟩⟩
    have k1 : Kp H H1 := Tabbed.kp t1 tL
    refine ite2 (fun h2 => ?_) (fun h2 => ?_)
    · exact bad (fun v => by
        rw [v.1.2] at h2
        cases h2) (KpB.refl.kp k1)
    have v1 : (1 ≤ ls.length ∧ ls.length ≤ 2) ∧ ls.all longN = true := ⟨by simp at h1; omega, by simpa using h2⟩
    refine ⟨_, rfl, _, _, rfl, .inl ⟨_, k1.seq hg, rfl⟩, _, _, rfl, rfl, _, rfl, ?_⟩
    refine ite2 (fun h3 => ?_) (fun h3 => ?_)
    · exact bad (fun v => by
        have v2 := v.2.1.1
        simp at h3
        omega) (KpB.refl.kp k1)
    refine ⟨_, rfl, g, gs, rfl, k1.seq hg, k1.tab _ tL, fun H2 t2 => ⟨_, rfl, ?_⟩⟩
    have k2 : Kp H H2 := k1.trans (Tabbed.kp t2 (k1.tab _ tL))
    refine ite2 (fun h4 => ?_) (fun h4 => ?_)
    · exact bad (fun v => by
        rw [v.2.1.2] at h4
        cases h4) (KpB.refl.kp k2)
    have v2 : gs.length ≤ 11 ∧ gs.all longN = true := ⟨by simp at h3; omega, by simpa using h4⟩
    have kb2 : KpB p H H2 := KpB.refl.kp k2
    have hp2 := k2.ins hp
    -- self._lengths
    refine ⟨_, rfl, l, _, rfl, .inl (k2.seq hl), fun r1 n1 => ⟨_, rfl, p, C, dx, [], rfl, by rw [upd_ne (ne_of_none hp2 n1)]; exact hp2, T.cl, T.nL, by show 0 < 1000; decide, ?_⟩⟩
    obtain ⟨H3, e3, kb3, hp3, g3, s3, f3⟩ := stepF (o := .lst (ls.map V.int)) (gs := putF "_lengths" (.ref r1) []) kb2 hp2 n1
    rw [e3]
    have l3 := seqP hp2 s3 (k2.seq hl)
    have q3 := seqP hp2 s3 (k2.seq hg)
    have c3 := seqP hp2 s3 (k2.seq hc)
    have x3 := krsP hp2 s3 (hx.kp k2)
    -- self._gaps
    refine ⟨_, rfl, g, _, rfl, .inl q3, fun r2 n2 => ⟨_, rfl, p, C, dx, _, rfl, by rw [upd_ne (ne_of_none hp3 n2)]; exact hp3, T.cl, T.nG, by show 1 < 1000; decide, ?_⟩⟩
    obtain ⟨H4, e4, kb4, hp4, g4, s4, f4⟩ := stepF (o := .lst (gs.map V.int)) (gs := putF "_gaps" (.ref r2) (putF "_lengths" (.ref r1) [])) kb3 hp3 n2
    rw [e4]
    have l4 := seqP hp3 s4 l3
    have c4 := seqP hp3 s4 c3
    have x4 := krsP hp3 s4 x3
    have gL4 := s4 _ _ g3 (ne_of hp3 g3 fun z => nomatch z).symm
    have len0 : ([] : List (Str × V)).length < 1 := by decide
    -- self._crosses
    refine ⟨_, rfl, l, ls, rfl, l4, bl, fun H5 r3 sm5 n3 g5 => ⟨_, rfl, p, C, dx, _, rfl, sm5 _ _ hp4, T.cl, T.nX, Nat.lt_of_lt_of_le (lenF (lenF len0)) (by decide), ?_⟩⟩
    obtain ⟨H6, e6, kb6, hp6, s6, f6⟩ := stepP (gs := putF "_crosses" (.ref r3) (putF "_gaps" (.ref r2) (putF "_lengths" (.ref r1) []))) (kb4.kp (kpS sm5)) (sm5 _ _ hp4)
    rw [e6]
    have hp5 := sm5 _ _ hp4
    have l6 := seqP hp5 s6 (sm5.seq l4)
    have c6 := seqP hp5 s6 (sm5.seq c4)
    have x6 := krsP hp5 s6 (x4.same sm5)
    have gL6 := s6 _ _ (sm5 _ _ gL4) (ne_of hp5 (sm5 _ _ gL4) fun z => nomatch z).symm
    have gG6 := s6 _ _ (sm5 _ _ g4) (ne_of hp5 (sm5 _ _ g4) fun z => nomatch z).symm
    have gX6 := s6 _ _ g5 (ne_of hp5 g5 fun z => nomatch z).symm
    -- self._top
    refine ⟨_, rfl, l, ls, rfl, l6, _, rfl, p, C, dx, _, rfl, hp6, T.cl, T.nT, Nat.lt_of_lt_of_le (lenF (lenF (lenF len0))) (by decide), ?_⟩
    obtain ⟨H7, e7, kb7, hp7, s7, f7⟩ := stepP (gs := putF "_top" (.int ls.sum) (putF "_crosses" (.ref r3) (putF "_gaps" (.ref r2) (putF "_lengths" (.ref r1) [])))) kb6 hp6
    rw [e7]
    have c7 := seqP hp6 s7 c6
    have x7 := krsP hp6 s7 x6
    have gL7 := s7 _ _ gL6 (ne_of hp6 gL6 fun z => nomatch z).symm
    have gG7 := s7 _ _ gG6 (ne_of hp6 gG6 fun z => nomatch z).symm
    have gX7 := s7 _ _ gX6 (ne_of hp6 gX6 fun z => nomatch z).symm
    -- self._closed
    refine ⟨_, rfl, c, rfl, ⟨_, c7⟩, fun D nD => ?_⟩
    have sD : ∀ o, Same H7 (upd H7 D o) := fun o => same_upd nD
    refine dcT_list (K := K) (a := c) (xs := xs) (fun i H' => H' = upd H7 D (.dT (ded ((kOf cs).take i)))) rfl ?_ ?_ ?_
    · rintro i H' _ rfl
      exact (sD _).seq c7
    · rintro i x H' hi rfl
      obtain ⟨y, hy, t, rfl, ht⟩ := (x7.same (sD (.dT (ded ((kOf cs).take i))))).at hi
      refine ⟨rfl, _, rfl, t, _, y, rfl, ht, upd_same, ?_, ?_⟩
      · have z1 := ded_le ((kOf cs).take i)
        have z2 : ((kOf cs).take i).length ≤ (kOf cs).length := List.length_take_le' _ _
        have z3 : (kOf cs).length = cs.length := List.length_map _
        rw [sizeLine_eq]
        omega
      · rw [upd_upd, List.take_add_one, hy]
        show _ = upd H7 D (.dT (ded ((kOf cs).take i ++ [y])))
        rw [ded_snoc]
    · rintro H' rfl
      rw [hxl, List.take_length]
      refine ⟨_, rfl, p, C, dx, _, rfl, sD _ _ _ hp7, T.cl, T.nC, Nat.lt_of_lt_of_le (lenF (lenF (lenF (lenF len0)))) (by decide), ?_⟩
      obtain ⟨H8, e8, kb8, hp8, g8, s8, f8⟩ := stepF (o := .dT (ded (kOf cs))) (gs := hf (.ref r1) (.ref r2) (.ref r3) (.int ls.sum) (.ref D)) kb7 hp7 nD
      have e8' : upd (upd H7 D (.dT (ded (kOf cs)))) p (.ins C dx (putF "_closed" (.ref D) (putF "_top" (.int ls.sum) (putF "_crosses" (.ref r3) (putF "_gaps" (.ref r2) (putF "_lengths" (.ref r1) [])))))) = H8 := e8
      rw [e8']
      have c8 := seqP hp7 s8 c7
      have x8 := krsP hp7 s8 x7
      have gL8 := s8 _ _ gL7 (ne_of hp7 gL7 fun z => nomatch z).symm
      have gG8 := s8 _ _ gG7 (ne_of hp7 gG7 fun z => nomatch z).symm
      have gX8 := s8 _ _ gX7 (ne_of hp7 gX7 fun z => nomatch z).symm
      have kl : (kOf cs).length = cs.length := List.length_map _
      -- too many, or one twice
      refine ⟨_, rfl, _, _, rfl, .inl ⟨_, c8, rfl⟩, _, _, rfl, rfl, _, rfl, ?_⟩
      refine ite2 (fun h5 => ?_) (fun h5 => ?_)
      · exact bad (fun v => by
          have v3 := v.2.2.1
          simp at h5
          omega) kb8
      have v3 : cs.length ≤ 200 := by
        simp at h5
        omega
      refine ⟨_, rfl, p, C, dx, _, _, rfl, hp8, T.cl, T.nC, hf_closed _ _ _ _ _, D, _, rfl, g8, _, rfl, _, _, rfl, .inl ⟨_, c8, rfl⟩, _, _, rfl, rfl, _, rfl, ?_⟩
      refine ite2 (fun h6 => ?_) (fun h6 => ?_)
      · exact bad (fun v => by
          rw [(ded_eq (kOf cs)).1 v.2.2.2.1, List.length_map] at h6
          have z := of_decide_eq_true h6
          omega) kb8
      have v4 : (kOf cs).Nodup := Decidable.byContradiction fun n => h6 (decide_eq_true (by
        have z := (ded_eq (kOf cs)).2 n
        omega))
      -- each is a link
      have tab8 : TabG H8 TI := kb8.tab _ tI
      refine ⟨_, rfl, c, rfl, ⟨_, c8⟩, tab8, fun H9 t9 => ?_⟩
      have k9 : Kp H8 H9 := Tabbed.kp t9 tab8
      have kb9 : KpB p H H9 := kb8.kp k9
      have hp9 := k9.ins hp8
      have x9 := x8.kp k9
      have part : PartAt C H9 p ls gs := ⟨dx, r1, r2, r3, _, hp9, k9.lst gL8, k9.lst gG8, k9.lst gX8⟩
      refine for_list (K := K) (a := c) (xs := xs) (fun i σ H' => (∃ z, σ = [z, some (.ref p)]) ∧ H' = H9 ∧ ∀ c ∈ cs.take i, isLk ls gs c.1 c.2.1 c.2.2 = true) ?_ ?_ ?_ ?_
      · exact ⟨⟨none, rfl⟩, rfl, fun c z => by simp at z⟩
      · rintro i σ H' _ ⟨_, rfl, _⟩
        exact k9.seq c8
      · rintro i x H0 H' hi ⟨⟨z, rfl⟩, rfl, hall⟩
        obtain ⟨y, hy, hk⟩ := x9.at hi
        unfold kOf at hy
        rw [List.getElem?_map] at hy
        cases hci : cs[i]? with
        | none => rw [hci] at hy; cases hy
        | some ci =>
          rw [hci] at hy
          cases hy
          refine ⟨_, rfl, p, dx, _, rfl, hp9, hf_no _ _ _ _ _ (by decide +kernel) (by decide +kernel) (by decide +kernel) (by decide +kernel) (by decide +kernel), _, rfl, p, x, ls, gs, ci.1, ci.2.1, ci.2.2, rfl, part, hk, _, rfl, ?_⟩
          refine ite2 (fun h7 => ?_) (fun h7 => ?_)
          · refine ⟨_, rfl, ?_⟩
            exact bad (fun v => by
              rw [v.2.2.2.2 ci (List.mem_of_getElem? hci)] at h7
              cases h7) kb9
          · refine ⟨⟨_, rfl⟩, rfl, fun c' hc' => ?_⟩
            rw [List.take_add_one, hci] at hc'
            rcases List.mem_append.mp hc' with z1 | z1
            · exact hall c' z1
            · have z2 : c' = ci := by simpa using z1
              rw [z2]
              simpa using h7
      · rintro σ H' ⟨⟨z, rfl⟩, rfl, hall⟩
        rw [hxl, kl, List.take_length] at hall
        have va : Valid ls gs cs := ⟨v1, v2, v3, v4, hall⟩
        refine ⟨_, rfl, ?_⟩
        refine q va H' ⟨va, dx, r1, r2, r3, D, hp9, k9.lst gL8, k9.lst gG8, k9.lst gX8, ?_⟩ kb9 (fun dx' l' g' c' t' d' z => ?_)
        · rw [← (ded_eq (kOf cs)).1 v4]
          exact k9.dT g8
        · rw [hp9] at z
          have z2 := Option.some.inj z
          injection z2 with _ _ z3
          have e1 := hf_lengths (.ref r1) (.ref r2) (.ref r3) (.int ls.sum) (.ref D)
          have e2 := hf_gaps (.ref r1) (.ref r2) (.ref r3) (.int ls.sum) (.ref D)
          have e3' := hf_crosses (.ref r1) (.ref r2) (.ref r3) (.int ls.sum) (.ref D)
          rw [z3, hf_lengths] at e1
          rw [z3, hf_gaps] at e2
          rw [z3, hf_crosses] at e3'
          obtain rfl : l' = r1 := V.ref.inj (Option.some.inj e1)
          obtain rfl : g' = r2 := V.ref.inj (Option.some.inj e2)
          obtain rfl : c' = r3 := V.ref.inj (Option.some.inj e3')
          exact ⟨Kp.noLst k2 n1, Kp.noLst k2 (f3 _ n2), Kp.noLst k2 (f3 _ (f4 _ n3))⟩
end
section
open GxR NdefX PySem.Spec PyProof.Rows
variable {P : Program} {w : World} {K : PySem.W.Frag} {mg : Str → Option Value} {base : Heap}
theorem HouseAt.kp {C : Addr} {H H' : Hp} {p : Addr} {ls gs : List Int} {cs : List (Str × Int × Int)} (h : HouseAt C H p ls gs cs) (k : Kp H H') : HouseAt C H' p ls gs cs := by
  obtain ⟨v, dx, l, g, c, d, h1, h2, h3, h4, h5⟩ := h
  exact ⟨v, dx, l, g, c, d, k.ins h1, k.lst h2, k.lst h3, k.lst h4, k.dT h5⟩
theorem HouseAt.part {C : Addr} {H : Hp} {p : Addr} {ls gs : List Int} {cs : List (Str × Int × Int)} (h : HouseAt C H p ls gs cs) : PartAt C H p ls gs := by
  obtain ⟨v, dx, l, g, c, d, h1, h2, h3, h4, h5⟩ := h
  exact ⟨dx, l, g, c, _, h1, h2, h3, h4⟩
/-- a list of numbers of the house's own, handed out anew -/
def spNums (C : Addr) (f : List Int → List Int → List Int) : Sp := fun vs H Q _ => ∃ (p : Addr) (ls gs : List Int) (cs : List (Str × Int × Int)), vs = [.ref p] ∧ HouseAt C H p ls gs cs ∧
  ∀ r, H r = none → Q (.ref r) (upd H r (.lst ((f ls gs).map V.int)))
theorem ok_crosses {f C : Addr} {fd : FuncData} (F : Fun K "crosses" "House.crosses" s_House_crosses f fd) (Z : HouseTop mg) (T : HouseTxt K mg C) : FnOk P w K mg base CX0 1 f fd ["self"] (spNums C (fun ls _ => crossN ls)) := by
  refine F.ok sc_House_crosses (fun vs H Q E h => ?_) (fun cdv A outer s H vs Q E hr h => ?_)
  · obtain ⟨p, ls, gs, cs, rfl, _⟩ := h
    rfl
  · obtain ⟨p, ls, gs, cs, rfl, ⟨_, dx, l, g, c, d, h1, h2, h3, h4, h5⟩, q⟩ := h
    exact ⟨_, (pss_one (ps_ret (pe_callTy call_list_of (by rfl) Z.list (by decide +kernel) (pa_cons (pe_fld (pv 0) rfl) pa_nil)))), _, rfl, p, C, dx, _, _, rfl, h1, T.cl, T.nX, hf_crosses _ _ _ _ _, c, _, rfl, .inl (SqL.of h4), q⟩
end
section
open GxR NdefX PySem.Spec PyProof.Rows
variable {P : Program} {w : World} {K : PySem.W.Frag} {mg : Str → Option Value} {base : Heap}
theorem room65 {k : Nat} {A : Around} (r : Room k A) : A.units + 65 < cLine := by
  have := r.un
  omega
section
variable {σ : L2.St} {H : Hp} {ta tb : TE} {i j : Int}
theorem Tells.go {te : TE} {v : V} {Q : VK} (h : Tells te σ H v) (q : Q v H) : te σ H Q := h Q q
def nth (ns : List Int) (i : Int) : Int := (ns[i.toNat]?).getD 0
theorem nth_small {ns : List Int} (h : Small ns) (i : Int) : 0 ≤ nth ns i ∧ nth ns i < 1009 := by
  unfold nth
  cases e : ns[i.toNat]? with
  | none => decide
  | some n => exact h n (List.mem_of_getElem? e)
theorem atI_nth {ns : List Int} {i : Int} (h0 : 0 ≤ i) (h1 : i < ns.length) : atI (ns.map V.int) i = some (V.int (nth ns i)) := by
  have e : ((i.toNat : Nat) : Int) = i := Int.toNat_of_nonneg h0
  have lt : i.toNat < ns.length := by omega
  have z : atI (ns.map V.int) ((i.toNat : Nat) : Int) = some (V.int (nth ns i)) := by
    refine atI_nat ?_
    unfold nth
    rw [List.getElem?_map, List.getElem?_eq_getElem lt]
    rfl
  rw [e] at z
  exact z
end
theorem ok_lk {x : Str} (h : PyData.canLay0 (.str x) = true) (a b : Int) : okk (lk x a b) = true := by
  show (PyData.canLay0 (.str x) && (true && (true && true))) = true
  rw [h]
  rfl
/-- numbers from 1 to 40 -/
def Lens (ls : List Int) : Prop := ∀ x ∈ ls, 1 ≤ x ∧ x ≤ 40
theorem Lens.all {ls : List Int} (h : Lens ls) : ls.all longN = true := List.all_eq_true.mpr fun x hx => by
  have q := h x hx
  unfold longN
  rw [decide_eq_true q.1, decide_eq_true q.2]
  rfl
theorem Lens.snoc {ls : List Int} (h : Lens ls) {x : Int} (h1 : 1 ≤ x) (h2 : x ≤ 40) : Lens (ls ++ [x]) := fun y hy => by
  rcases List.mem_append.mp hy with z | z
  · exact h y z
  · rw [List.mem_singleton.mp z]
    exact ⟨h1, h2⟩
theorem Lens.pos {ls : List Int} (h : Lens ls) : ∀ k, 0 ≤ (ls.take k).sum := by
  intro k
  have all : ∀ xs : List Int, (∀ x ∈ xs, 1 ≤ x ∧ x ≤ 40) → 0 ≤ xs.sum := by
    intro xs
    induction xs with
    | nil => intro _; decide
    | cons x xs ih =>
      intro q
      have q1 := q x List.mem_cons_self
      have q2 := ih fun y hy => q y (List.mem_cons_of_mem _ hy)
      rw [List.sum_cons]
      omega
  exact all _ fun x hx => h x (List.mem_of_mem_take hx)
theorem Lens.pos1 {ls : List Int} (h : Lens ls) (hl : 1 ≤ ls.length) : 1 ≤ ls.sum := by
  cases ls with
  | nil => simp at hl
  | cons x ls =>
    have q1 := h x List.mem_cons_self
    have q2 := Lens.pos (ls := ls) (fun y hy => h y (List.mem_cons_of_mem _ hy)) ls.length
    rw [List.take_length] at q2
    rw [List.sum_cons]
    omega
theorem made {H : Hp} {a : Addr} {o : HO} (h : H a = none) : ∃ H', upd H a o = H' ∧ Same H H' ∧ H' a = some o := ⟨_, rfl, same_upd h, upd_same⟩
end
section
open GxR NdefX PySem.Spec PyProof.Rows
variable {P : Program} {w : World} {K : PySem.W.Frag} {mg : Str → Option Value} {base : Heap}
/-- behind a new object: all but it is as it was -/
theorem mkKp {H H' : Hp} {x dx : Addr} {o u : HO} (n : H x = none) (m : H dx = none) (k : KpB x (upd (upd H dx u) x o) H') : Kp H H' := by
  have step : ∀ b z, H b = some z → (upd (upd H dx u) x o) b = some z := fun b z e => by
    rw [upd_ne (ne_of_none e n), upd_ne (ne_of_none e m)]
    exact e
  exact ⟨fun b z e t => k.at_ b z (step b z e) (ne_of_none e n) t, fun P ⟨ps, e, t⟩ => k.tab P ⟨ps, step _ _ e, t⟩⟩
structure PropD (P : Program) (w : World) (K : PySem.W.Frag) (mg : Str → Option Value) (base : Heap) (C : Addr) (k : Nat) (x : Str) (sp : Sp) where
  f : Addr
  p : Addr
  fd : FuncData
  h : PropOf K C x p f
  G : FnOk P w K mg base CX0 k f fd ["self"] sp
  b : Binds K fd ["self"] []
structure MethD (P : Program) (w : World) (K : PySem.W.Frag) (mg : Str → Option Value) (base : Heap) (C : Addr) (k : Nat) (x : Str) (ps : List Str) (sp : Sp) where
  f : Addr
  fd : FuncData
  m : Meth K C x f
  G : FnOk P w K mg base CX0 k f fd ps sp
  b : Binds K fd ps []
structure TopD (P : Program) (w : World) (K : PySem.W.Frag) (mg : Str → Option Value) (base : Heap) (k : Nat) (x : Str) (ps : List Str) (sp : Sp) where
  f : Addr
  fd : FuncData
  G : FnOk P w K mg base CX0 k f fd ps sp
  b : Binds K fd ps []
  g : mg x = some (.ref f)
  kp : PySem.W.keepIn K (.ref f) = true
theorem Lens.pos2 {ls : List Int} (h : Lens ls) : 0 ≤ ls.sum := by
  have q := h.pos ls.length
  rw [List.take_length] at q
  exact q
theorem Lens.le {ls : List Int} (h : Lens ls) (k : Nat) : (ls.take k).sum ≤ ls.sum := by
  have e : ls.sum = (ls.take k).sum + (ls.drop k).sum := by
    rw [← List.sum_append, List.take_append_drop]
  have q : Lens (ls.drop k) := fun x hx => h x (List.mem_of_mem_drop hx)
  have z := q.pos2
  omega
theorem Lens.top {ls : List Int} (h : Lens ls) (hl : ls.length ≤ 2) : ls.sum ≤ 80 := by
  match ls, h, hl with
  | [], _, _ => decide
  | [x], h, _ =>
    have := h x (by simp)
    simp
    omega
  | [x, y], h, _ =>
    have := h x (by simp)
    have := h y (by simp)
    simp
    omega
  | _ :: _ :: _ :: _, _, hl => simp at hl
theorem Lens.cross {ls : List Int} (h : Lens ls) {y : Int} (hy : y ∈ crossN ls) : 0 ≤ y ∧ y ≤ ls.sum := by
  unfold crossN at hy
  obtain ⟨k, _, rfl⟩ := List.mem_map.mp hy
  exact ⟨h.pos k, h.le k⟩
end
section
open GxR NdefX PySem.Spec PyProof.Rows
variable {P : Program} {w : World} {K : PySem.W.Frag} {mg : Str → Option Value} {base : Heap}
abbrev Goes (J : It) (H1 : Hp) (Qd : Hp → Prop) (B : V → Hp → (Hp → Prop) → Prop) : Prop := ∃ W : Nat → Nat → Hp → Prop, (∃ m, W 0 m H1) ∧ ∀ i m H, W i m H →
  (J.stop i H ∧ Qd H) ∨ (J.go i H ∧ ∃ Nx : Hp → Prop, (∀ H', Nx H' → ∃ m', m' < m ∧ W (i + 1) m' H') ∧ ∀ x H', J.yld i H x H' → B x H' Nx)
def lkC (c : Str × Int × Int) : Tk := lk c.1 c.2.1 c.2.2
theorem crossN_len (ls : List Int) : (crossN ls).length = ls.length + 1 := by
  unfold crossN
  rw [List.length_map, List.length_range]
theorem Room.units1 {k : Nat} {A : Around} (r : Room k A) : A.units + 1 < cLine := by
  have := r.un
  omega
theorem Valid.lens {ls gs : List Int} {cs : List (Str × Int × Int)} (v : Valid ls gs cs) : Lens ls := fun x hx => by
  have z := List.all_eq_true.mp v.1.2 x hx
  unfold longN at z
  rw [Bool.and_eq_true, decide_eq_true_eq, decide_eq_true_eq] at z
  exact z
def isPl (ls gs : List Int) (p : Pl) : Bool := (decide (0 ≤ p.1) && decide (p.1 ≤ gs.length)) && (decide (0 ≤ p.2) && decide (p.2 ≤ ls.sum))
def isCr (ls gs : List Int) (p : Pl) : Bool := isPl ls gs p && decide (p.2 ∈ crossN ls)
def spPl (C : Addr) (f : List Int → List Int → Pl → Bool) : Sp := fun vs H Q _ => ∃ (p : Addr) (v : V) (ls gs : List Int) (cs : List (Str × Int × Int)) (pl : Pl), vs = [.ref p, v] ∧ HouseAt C H p ls gs cs ∧ Pr H v pl ∧ Q (.bl (f ls gs pl)) H
theorem Pr.kr {H : Hp} {v : V} {p : Pl} (h : Pr H v p) : ∃ t, v = .ref t ∧ H t = some (.tup [.int p.1, .int p.2]) := h
theorem ok_is_place {f C : Addr} {fd : FuncData} (F : Fun K "is_place" "House.is_place" s_House_is_place f fd) (Z : HouseTop mg) (T : HouseTxt K mg C) : FnOk P w K mg base CX0 1 f fd ["self", "place"] (spPl C isPl) := by
  refine F.ok sc_House_is_place (fun vs H Q E h => ?_) (fun cdv A outer s H vs Q E hr h => ?_)
  · obtain ⟨p, v, ls, gs, cs, pl, rfl, _⟩ := h
    rfl
  · obtain ⟨p, v, ls, gs, cs, pl, rfl, ⟨_, dx, l, g, c, d, h1, h2, h3, h4, h5⟩, ⟨t, rfl, ht⟩, q⟩ := h
    have nd := sc_House_is_place.nd
    refine ⟨_, (pss_cons (ps_asg (pv 1) (pg_tup rfl (pgs_cons (pg_name (i := 2) nd rfl (.inl rfl)) (pgs_cons (pg_name (i := 3) nd rfl (.inl rfl)) pgs_nil))))
      (pss_one (ps_ret (pe_and (pe_chain op_le op_le pe_int (pv 2) (pe_callB call_len (by rfl) Z.len (by decide +kernel) (pa_cons (pe_fld (pv 0) rfl) pa_nil))) (pe_one (pe_chain op_le op_le pe_int (pv 3) (pe_fld (pv 0) rfl))))))), ?_⟩
    refine ⟨_, rfl, t, _, rfl, SqT.of ht, rfl, _, _, rfl, _, _, rfl, rfl, ?_⟩
    have var : ∀ {σ : L2.St} {i : Nat} {v : V}, σ[i]? = some (some v) → Tells (tVar i) σ H v := fun e Q q => ⟨_, e, q⟩
    have fld : ∀ {σ : L2.St} {f : Str} {v : V}, σ[0]? = some (some (V.ref p)) → NoAttr K C f → (hf (.ref l) (.ref g) (.ref c) (.int ls.sum) (.ref d)).lookup f = some v → Tells (tFld K (tVar 0) f) σ H v := fun e n z Q q =>
      ⟨_, e, p, C, dx, _, _, rfl, h1, T.cl, n, z, q⟩
    have cnt : ∀ {σ : L2.St}, σ[0]? = some (some (V.ref p)) → Tells (tCB (fun xs H1 Q => ∃ x n, xs = [x] ∧ LenV K x H1 n ∧ Q (V.int (n : Nat)) H1) (tCons (tFld K (tVar 0) "_gaps") tNil)) σ H (.int gs.length) := fun e Q q =>
      fld e T.nG (hf_gaps _ _ _ _ _) _ ⟨_, _, rfl, .inl ⟨_, SqL.of h3, rfl⟩, by rw [List.length_map]; exact q⟩
    refine tells_and (tells_chain (f := fun i j => decide (i ≤ j)) (var rfl) (cnt rfl)) (tells_chain (f := fun i j => decide (i ≤ j)) (var rfl) (fld rfl T.nT (hf_top _ _ _ _ _))) _ ?_
    exact q
end
theorem ks1 : ¬ (("start" : Str) = "end") := by decide +kernel
theorem ks2 : ¬ (("start" : Str) = "_picks") := by decide +kernel
theorem ks3 : ¬ (("end" : Str) = "_picks") := by decide +kernel
def tf (a b : V) (l : Addr) : List (Str × V) := putF "_picks" (.ref l) (putF "end" b (putF "start" a []))
theorem tf_len2 (a b : V) : (putF "end" b (putF "start" a ([] : List (Str × V)))).length = 2 := by
  show (if ("start" : Str) = "end" then [(("start" : Str), b)] else (("start" : Str), a) :: putF "end" b []).length = 2
  rw [if_neg ks1]
  rfl
theorem tf_start (a b : V) (l : Addr) : (tf a b l).lookup ("start" : Str) = some a := by
  unfold tf
  rw [lookup_putF, if_neg ks2, lookup_putF, if_neg ks1, lookup_putF, if_pos rfl]
theorem tf_end (a b : V) (l : Addr) : (tf a b l).lookup ("end" : Str) = some b := by
  unfold tf
  rw [lookup_putF, if_neg ks3, lookup_putF, if_pos rfl]
theorem tf_picks (a b : V) (l : Addr) : (tf a b l).lookup ("_picks" : Str) = some (.ref l) := by
  unfold tf
  rw [lookup_putF, if_pos rfl]
/-- a task stands at p: its start, its end, its picks in order -/
def TaskAt (C : Addr) (H : Hp) (p : Addr) (st en : Pl) (ps : List Pl) : Prop := ∃ (dx l : Addr) (a b : V) (xs : List V),
  H p = some (.ins C dx (tf a b l)) ∧ Pr H a st ∧ Pr H b en ∧ H l = some (.lst xs) ∧ Prs H xs ps ∧ ps.Pairwise lp ∧ ps.Nodup ∧ ps.length ≤ 60
theorem TaskAt.same {C : Addr} {H H' : Hp} {p : Addr} {st en : Pl} {ps : List Pl} (h : TaskAt C H p st en ps) (k : Same H H') : TaskAt C H' p st en ps := by
  obtain ⟨dx, l, a, b, xs, h1, h2, h3, h4, h5, h6⟩ := h
  exact ⟨dx, l, a, b, xs, k _ _ h1, h2.same k, h3.same k, k _ _ h4, h5.same k, h6⟩
theorem TaskAt.over {C : Addr} {H : Hp} {p m : Addr} {st en : Pl} {ps : List Pl} {zs ws : List V} (h : TaskAt C H p st en ps) (hm : H m = some (.lst zs)) (hn : ∀ dx a b r, H p = some (.ins C dx (tf a b r)) → r ≠ m) : TaskAt C (upd H m (.lst ws)) p st en ps := by
  obtain ⟨dx, l, a, b, xs, h1, h2, h3, h4, h5, h6⟩ := h
  exact ⟨dx, l, a, b, xs, by rw [upd_ne (ne_of h1 hm (by intro z; cases z))]; exact h1, h2.over hm, h3.over hm, by rw [upd_ne (hn _ _ _ _ h1)]; exact h4, h5.over hm, h6⟩
/-- what the top has left of the class of tasks and of its errors -/
structure TaskTxt (K : PySem.W.Frag) (mg : Str → Option Value) (C CI : Addr) : Prop where
  cl : Cls K C
  nS : NoAttr K C "start"
  nE : NoAttr K C "end"
  nP : NoAttr K C "_picks"
  mgC : mg "Task" = some (.ref C)
  len : mg "len" = none
  set : mg "set" = none
  sorted : mg "sorted" = none
  list : mg "list" = none
  most : ∃ t, mg "MOST_PICKS" = some (.int 60 t)
  gI : mg "InvalidTask" = some (.ref CI)
  kI : PySem.W.keepIn K (.ref CI) = true
  xI : PySem.W.excIn K CI [.type "ValueError", .type "Exception", .type "BaseException", .type "object"] "ValueError.__new__" = true
  bI : PySem.W.subIn K (.ref CI) (.type "BaseException") = some true
  tI : PySem.W.typeIn K (.ref CI) = some (.type "type")
section
variable {P : Program} {w : World} {K : PySem.W.Frag} {mg : Str → Option Value} {base : Heap}
/-- all but what is at p is as it was -/
def But (p : Addr) (H H' : Hp) : Prop := ∀ b o, H b = some o → b ≠ p → H' b = some o
def spTask (K : PySem.W.Frag) (C CI : Addr) : Sp := fun vs H Q E => ∃ (p dx l : Addr) (a b : V) (st en : Pl) (xs : List V) (ps : List Pl), vs = [.ref p, a, b, .ref l] ∧ H p = some (.ins C dx []) ∧ Pr H a st ∧ Pr H b en ∧
  SqL K H l xs ∧ Prs H xs ps ∧ ps.length ≤ 1000 ∧
  (ps.length ≤ 60 → ps.Nodup → ∀ H', TaskAt C H' p st en (sortP ps) → But p H H' → (∀ dx a b r, H' p = some (.ins C dx (tf a b r)) → H r = none) → Q .non H') ∧
  (¬ (ps.length ≤ 60 ∧ ps.Nodup) → ∀ H', Same H H' → E (.ref CI) none H')
theorem ok_task {f C CI : Addr} {fd : FuncData} (F : Fun K "__init__" "Task.__init__" s_Task___init__ f fd) (T : TaskTxt K mg C CI) : FnOk P w K mg base (L2.CX P w) 2 f fd ["self", "start", "end", "picks"] (spTask K C CI) := by
  refine F.okX sc_Task___init__ (fun vs H Q E h => ?_) (fun cdv A outer s H vs Q E hr h => ?_)
  · obtain ⟨p, dx, l, a, b, st, en, xs, ps, rfl, _⟩ := h
    rfl
  · obtain ⟨p, dx, l, a, b, st, en, xs, ps, rfl, hp, ha, hb, hl, hx, hn, q, e⟩ := h
    obtain ⟨t, hmost⟩ := T.most
    have hxl := hx.len
    refine ⟨_, (pss_cons (ps_if (pt_cmpR op_gt (pe_callB call_len (by rfl) T.len (by decide +kernel) (pa_cons (pv 3) pa_nil)) (pe_glob (v := .int 60) rfl hmost ⟨_, rfl⟩) (nomark _)) (pss_one (ps_raise rfl (takes_of rfl rfl rfl rfl) (pmk_own PySem.F.excBase_ValueError T.xI T.gI T.kI (raises_own T.bI T.tI) rfl))) pss_nil)
      (pss_cons (ps_if (pt_cmpR op_lt (pe_callB call_lenP (by rfl) T.len (by decide +kernel) (pa_cons (pe_callTy (cr_setP rfl hr.units) (by rfl) T.set (by decide +kernel) (pa_cons (pv 3) pa_nil)) pa_nil)) (pe_callB call_len (by rfl) T.len (by decide +kernel) (pa_cons (pv 3) pa_nil)) (nomark _)) (pss_one (ps_raise rfl (takes_of rfl rfl rfl rfl) (pmk_own PySem.F.excBase_ValueError T.xI T.gI T.kI (raises_own T.bI T.tI) rfl))) pss_nil)
      (pss_cons (ps_fld (pv 0) (pv 1) rfl)
      (pss_cons (ps_fld (pv 0) (pv 2) rfl)
      (pss_one (ps_fld (pv 0) (pe_callB call_sortP (by rfl) T.sorted (by decide +kernel) (pa_cons (pv 3) pa_nil)) rfl)))))), ?_⟩
    -- len(picks) > MOST_PICKS
    refine ⟨_, rfl, _, _, rfl, .inl ⟨_, hl, rfl⟩, _, _, rfl, rfl, _, rfl, ?_⟩
    refine ite2 (fun hc => ?_) (fun hc => ?_)
    · have hc' := of_decide_eq_true hc
      exact e (fun z => by omega) H (Same.refl _)
    · have hc' : ps.length ≤ 60 := by
        have : ¬ ((60 : Int) < (xs.length : Int)) := fun z => hc (decide_eq_true z)
        omega
      -- len(set(picks)) < len(picks)
      refine ⟨_, rfl, l, xs, ps, rfl, hl, hx, by omega, fun H1 s0 ns0 k1 hs0 => ⟨s0, ps, rfl, hs0, _, rfl, _, _, rfl, .inl ⟨_, k1.seq hl, rfl⟩, _, _, rfl, rfl, _, rfl, ?_⟩⟩
      refine ite2 (fun hd => ?_) (fun hd => ?_)
      · have hd' := of_decide_eq_true hd
        exact e (fun z => (nub_lt ps).mp (by omega) z.2) H1 k1
      · have hnd : ps.Nodup := by
          have z : ¬ (((nub ps).length : Int) < (xs.length : Int)) := fun z => hd (decide_eq_true z)
          exact Decidable.byContradiction fun y => z (by have := (nub_lt ps).mpr y; omega)
        -- self.start, self.end, self._picks
        have hp1 := k1 _ _ hp
        refine ⟨_, rfl, _, rfl, p, C, dx, [], rfl, hp1, T.cl, T.nS, (by show 0 < 1000; decide), ?_⟩
        refine ⟨_, rfl, _, rfl, p, C, dx, _, rfl, upd_same, T.cl, T.nE, (by show 1 < 1000; decide), ?_⟩
        have hl' : SqL K (upd (upd H1 p (.ins C dx (putF "start" a []))) p (.ins C dx (putF "end" b (putF "start" a [])))) l xs := by
          rcases k1.seq hl with (h | ⟨o, h⟩) | h
          · exact .inl (.inl (by rw [upd_ne (ne_of hp1 h (by intro z; cases z)).symm, upd_ne (ne_of hp1 h (by intro z; cases z)).symm]; exact h))
          · exact .inl (.inr ⟨o, by rw [upd_ne (ne_of hp1 h (by intro z; cases z)).symm, upd_ne (ne_of hp1 h (by intro z; cases z)).symm]; exact h⟩)
          · exact .inr h
        have keep : ∀ c o, H1 c = some o → c ≠ p → (upd (upd H1 p (.ins C dx (putF "start" a []))) p (.ins C dx (putF "end" b (putF "start" a [])))) c = some o := fun c o h n => by
          rw [upd_ne n, upd_ne n]
          exact h
        have tupne : ∀ {v : V} {z : Pl}, Pr H1 v z → Pr (upd (upd H1 p (.ins C dx (putF "start" a []))) p (.ins C dx (putF "end" b (putF "start" a [])))) v z := fun {v z} h => by
          obtain ⟨t, rfl, h⟩ := h
          exact ⟨t, rfl, keep _ _ h (ne_of hp1 h (by intro z; cases z)).symm⟩
        have prsne : ∀ {vs : List V} {zs : List Pl}, Prs H1 vs zs → Prs (upd (upd H1 p (.ins C dx (putF "start" a []))) p (.ins C dx (putF "end" b (putF "start" a [])))) vs zs := fun h => by
          induction h with
          | nil => exact .nil
          | cons x _ ih => exact .cons (tupne x) ih
        refine ⟨_, rfl, l, xs, ps, rfl, hl', prsne (hx.same k1), fun r ys nr hys => ⟨_, rfl, p, C, dx, putF "end" b (putF "start" a []), rfl, ?_, T.cl, T.nP, ?_, ?_⟩⟩
        · rw [upd_ne (ne_of_none upd_same nr)]
          exact upd_same
        · rw [tf_len2]
          decide
        · have npr : p ≠ r := ne_of_none upd_same nr
          have sm : But p H1 (upd (upd (upd (upd H1 p (.ins C dx (putF "start" a []))) p (.ins C dx (putF "end" b (putF "start" a [])))) r (.lst ys)) p (.ins C dx (tf a b r))) := fun c o h n => by
            rw [upd_ne n, upd_ne (ne_of_none (keep c o h n) nr)]
            exact keep c o h n
          have back : ∀ {c : Addr} {xs : List V}, (upd (upd (upd H1 p (.ins C dx (putF "start" a []))) p (.ins C dx (putF "end" b (putF "start" a [])))) r (.lst ys)) c = some (.tup xs) →
              (upd (upd (upd (upd H1 p (.ins C dx (putF "start" a []))) p (.ins C dx (putF "end" b (putF "start" a [])))) r (.lst ys)) p (.ins C dx (tf a b r))) c = some (.tup xs) := fun {c xs} h => by
            rw [upd_ne (show c ≠ p from fun z => by rw [z, upd_ne npr, upd_same] at h; cases h)]
            exact h
          have pr1 : ∀ {v : V} {z : Pl}, Pr (upd (upd H1 p (.ins C dx (putF "start" a []))) p (.ins C dx (putF "end" b (putF "start" a [])))) v z → Pr (upd (upd (upd (upd H1 p (.ins C dx (putF "start" a []))) p (.ins C dx (putF "end" b (putF "start" a [])))) r (.lst ys)) p (.ins C dx (tf a b r))) v z := fun {v z} h => by
            obtain ⟨t, rfl, h⟩ := h
            exact ⟨t, rfl, back (by rw [upd_ne (ne_of_none h nr)]; exact h)⟩
          have pr2 : ∀ {vs : List V} {zs : List Pl}, Prs (upd (upd H1 p (.ins C dx (putF "start" a []))) p (.ins C dx (putF "end" b (putF "start" a [])))) vs zs → Prs (upd (upd (upd (upd H1 p (.ins C dx (putF "start" a []))) p (.ins C dx (putF "end" b (putF "start" a [])))) r (.lst ys)) p (.ins C dx (tf a b r))) vs zs := fun h => by
            induction h with
            | nil => exact .nil
            | cons x _ ih => exact .cons (pr1 x) ih
          refine q hc' hnd _ ⟨dx, r, a, b, ys, upd_same, pr1 (tupne (ha.same k1)), pr1 (tupne (hb.same k1)), ?_, pr2 hys, sortP_pw ps, sortP_nd.mpr hnd, by rw [sortP_len]; exact hc'⟩ (fun c o h n => sm c o (k1 _ _ h) n) fun dx' a' b' r' z => ?_
          · rw [upd_ne npr.symm]
            exact upd_same
          · rw [upd_same] at z
            have z2 := Option.some.inj z
            injection z2 with _ _ z3
            have z4 := tf_picks a b r
            have z6 : tf a b r = tf a' b' r' := z3
            rw [z6, tf_picks] at z4
            have z5 : r' = r := V.ref.inj (Option.some.inj z4)
            subst z5
            rw [upd_ne npr.symm, upd_ne npr.symm] at nr
            exact k1.free nr
def spPicks (C : Addr) : Sp := fun vs H Q _ => ∃ (p : Addr) (st en : Pl) (ps : List Pl), vs = [.ref p] ∧ TaskAt C H p st en ps ∧
  ∀ (r : Addr) (xs : List V), H r = none → Prs H xs ps → Q (.ref r) (upd H r (.lst xs))
theorem ok_picks {f C CI : Addr} {fd : FuncData} (F : Fun K "picks" "Task.picks" s_Task_picks f fd) (T : TaskTxt K mg C CI) : FnOk P w K mg base CX0 1 f fd ["self"] (spPicks C) := by
  refine F.ok sc_Task_picks (fun vs H Q E h => ?_) (fun cdv A outer s H vs Q E hr h => ?_)
  · obtain ⟨p, st, en, ps, rfl, _⟩ := h
    rfl
  · obtain ⟨p, st, en, ps, rfl, ⟨dx, l, a, b, xs, h1, h2, h3, h4, h5, _⟩, q⟩ := h
    exact ⟨_, (pss_one (ps_ret (pe_callTy call_list_of (by rfl) T.list (by decide +kernel) (pa_cons (pe_fld (pv 0) rfl) pa_nil)))), _, rfl, p, C, dx, _, _, rfl, h1, T.cl, T.nP, tf_picks _ _ _, l, xs, rfl, .inl (SqL.of h4), fun r nr => q r xs nr h5⟩
/-- an object of the class made: the heap as it is handed to __init__ -/
theorem mkSame {H : Hp} {x dx : Addr} {o u : HO} (n : H x = none) (m : H dx = none) : Same H (upd (upd H dx u) x o) := fun b o e => by
  rw [upd_ne (ne_of_none e n), upd_ne (ne_of_none e m)]
  exact e
theorem mkBut {H H' : Hp} {x dx : Addr} {o u : HO} (n : H x = none) (m : H dx = none) (k : But x (upd (upd H dx u) x o) H') : Same H H' := fun b o e => k b o (mkSame n m b o e) (ne_of_none e n)
/-- behind raise X(v), X a class with one attribute f -/
theorem raised {H : Hp} {a d C : Addr} {f : Str} {v : V} (ha : H a = none) (hd : (upd H a (exo a C none)) d = none) (hne : d ≠ a) :
    (upd (upd (upd H a (exo a C none)) d (exd d [(f, v)])) a (exo a C (some d))) a = some (exo a C (some d)) ∧ (upd (upd (upd H a (exo a C none)) d (exd d [(f, v)])) a (exo a C (some d))) d = some (exd d [(f, v)]) ∧ H d = none ∧
    Same H (upd (del (upd (upd (upd H a (exo a C none)) d (exd d [(f, v)])) a (exo a C (some d))) a) d (.xd [(f, v)])) := by
  have hdn : H d = none := by
    rw [upd_ne hne] at hd
    exact hd
  refine ⟨upd_same, by rw [upd_ne hne, upd_same], hdn, fun b o e => ?_⟩
  have h1 : b ≠ a := ne_of_none e ha
  have h2 : b ≠ d := ne_of_none e hdn
  rw [upd_ne h2, del_ne h1, upd_ne h1, upd_ne h2, upd_ne h1]
  exact e
end
section
open GxR NdefX PySem.Spec PyProof.Rows
variable {P : Program} {w : World} {K : PySem.W.Frag} {mg : Str → Option Value} {base : Heap}
/-- the error of places that are none -/
structure PlcTxt (K : PySem.W.Frag) (mg : Str → Option Value) (CP fP : Addr) : Prop where
  g : mg "InvalidPlace" = some (.ref CP)
  o : OexC K CP
  n : PySem.W.findIn K (.ref CP) "place" = some none
  i : PySem.W.findIn K (.ref CP) "__init__" = some (some (.ref fP))
  y : PySem.W.typeIn K (.ref fP) = some (.type "function")
theorem ok_plcinit {f C : Addr} {fd : FuncData} (F : Fun K "__init__" "InvalidPlace.__init__" s_InvalidPlace___init__ f fd) : FnOk P w K mg base CX0 1 f fd ["self", "place"] (spXI K C "place") := by
  refine F.ok sc_InvalidPlace___init__ (fun vs H Q E h => ?_) (fun cdv A outer s H vs Q E hr h => ?_)
  · obtain ⟨a, v, rfl, _⟩ := h
    rfl
  · obtain ⟨a, v, rfl, T, hno, ha, q⟩ := h
    exact ⟨_, pss_one (ps_ost (pv 0) (pv 1)), v, rfl, _, rfl, a, C, rfl, T, hno, .inl ⟨ha, q⟩⟩
theorem ok_is_cross {f fI C : Addr} {fd fdI : FuncData} (F : Fun K "is_cross" "House.is_cross" s_House_is_cross f fd) (T : HouseTxt K mg C) (GI : FnOk P w K mg base CX0 1 fI fdI ["self", "place"] (spPl C isPl)) (bI : Binds K fdI ["self", "place"] []) (mI : Meth K C "is_place" fI) : FnOk P w K mg base CX0 2 f fd ["self", "place"] (spPl C isCr) := by
  refine F.ok sc_House_is_cross (fun vs H Q E h => ?_) (fun cdv A outer s H vs Q E hr h => ?_)
  · obtain ⟨p, v, ls, gs, cs, pl, rfl, _⟩ := h
    rfl
  · obtain ⟨p, v, ls, gs, cs, pl, rfl, hH, ⟨t, rfl, ht⟩, q⟩ := h
    obtain ⟨_, dx, l, g, c, d, h1, h2, h3, h4, h5⟩ := id hH
    refine ⟨_, (pss_one (ps_ret (pe_and (pe_meth (pv 0) T.cl mI GI hr bI .nil pass0 (pa_cons (pv 1) pa_nil)) (pe_one (pe_cmpR op_in_seq (pe_ix ix_tup (pv 1) pe_int (fun _ _ => rfl)) (pe_fld (pv 0) rfl) (by rfl)))))), ?_⟩
    refine ⟨_, rfl, p, dx, _, rfl, h1, hf_no _ _ _ _ _ (by decide +kernel) (by decide +kernel) (by decide +kernel) (by decide +kernel) (by decide +kernel), _, rfl, p, .ref t, ls, gs, cs, pl, rfl, hH, ⟨t, rfl, ht⟩, _, rfl, ?_⟩
    unfold isCr at q
    cases hp : isPl ls gs pl with
    | false =>
      rw [hp] at q
      exact q
    | true =>
      rw [hp, Bool.true_and] at q
      exact ⟨_, rfl, t, _, _, _, rfl, rfl, SqT.of ht, rfl, _, rfl, p, C, dx, _, _, rfl, h1, T.cl, T.nX, hf_crosses _ _ _ _ _, c, _, rfl, .inl (SqL.of h4), rfl, flat_ints _, by rw [inV_ints]; exact q⟩
/-- the first place that is wrong -/
def wrongP (ls gs : List Int) (st en : Pl) (ps : List Pl) : Option Pl := ([st, en].find? fun p => !isCr ls gs p).or (ps.find? fun p => !isPl ls gs p)
def spCheck (CT C CP : Addr) : Sp := fun vs H Q E => ∃ (p t : Addr) (ls gs : List Int) (cs : List (Str × Int × Int)) (st en : Pl) (ps : List Pl), vs = [.ref p, .ref t] ∧ HouseAt C H p ls gs cs ∧ TaskAt CT H t st en ps ∧
  (wrongP ls gs st en ps = none → ∀ H', Same H H' → Q .non H') ∧
  (∀ a, wrongP ls gs st en ps = some a → ∀ (H' : Hp) (d : Addr) (v : V), Same H H' → Pr H' v a → H' d = some (.xd [("place", v)]) → E (.ref CP) (some d) H')
theorem find_snoc {α : Type} {f : α → Bool} {xs : List α} {i : Nat} {x : α} (h0 : (xs.take i).find? f = none) (hx : xs[i]? = some x) : (f x = true → xs.find? f = some x) ∧ (f x = false → (xs.take (i + 1)).find? f = none) := by
  have e : xs.take (i + 1) = xs.take i ++ [x] := by
    rw [List.take_add_one, hx]
    rfl
  refine ⟨fun z => ?_, fun z => ?_⟩
  · have q := List.take_append_drop (i + 1) xs
    rw [← q, List.find?_append, e, List.find?_append, h0]
    simp [z]
  · rw [e, List.find?_append, h0]
    simp [z]
theorem ok_check {f fX fL fI fP pp C CT CI CP : Addr} {fd fdX fdL fdI fdP : FuncData} (F : Fun K "check_task" "check_task" s_check_task f fd) (T : HouseTxt K mg C) (TT : TaskTxt K mg CT CI) (U : PlcTxt K mg CP fI) (GI : FnOk P w K mg base CX0 1 fI fdI ["self", "place"] (spXI K CP "place")) (bI : Binds K fdI ["self", "place"] [])
    (GL : FnOk P w K mg base CX0 1 fL fdL ["self", "place"] (spPl C isPl)) (bL : Binds K fdL ["self", "place"] []) (mL : Meth K C "is_place" fL) (GX : FnOk P w K mg base CX0 2 fX fdX ["self", "place"] (spPl C isCr)) (bX : Binds K fdX ["self", "place"] []) (mX : Meth K C "is_cross" fX)
    (GP : FnOk P w K mg base CX0 1 fP fdP ["self"] (spPicks CT)) (bP : Binds K fdP ["self"] []) (hP : PropOf K CT "picks" pp fP) : FnOk P w K mg base (L2.CX P w) 4 f fd ["house", "task"] (spCheck CT C CP) := by
  refine F.okX sc_check_task (fun vs H Q E h => ?_) (fun cdv A outer s H vs Q E hr h => ?_)
  · obtain ⟨p, t, ls, gs, cs, st, en, ps, rfl, _⟩ := h
    rfl
  · obtain ⟨p, t, ls, gs, cs, st, en, ps, rfl, hH, hT, q, e⟩ := h
    obtain ⟨va, dx, l, g, c, d, h1, _⟩ := id hH
    obtain ⟨dt, r, a, b, xs, t1, ha, hb, ht4, hxs, tw, tn, tl⟩ := id hT
    have nd := sc_check_task.nd
    refine ⟨_, (pss_cons (ps_for (passes_of rfl) rfl (pi_list (pe_lst (pa_cons (pe_fld (pv 1) rfl) (pa_cons (pe_fld (pv 1) rfl) pa_nil)))) (pg_name (i := 2) nd rfl (.inl rfl)) (pss_one (ps_if (pt_not (pt_val (pe_meth (pv 0) T.cl mX GX (by exact hr.mono (by decide)) bX .nil pass0 (pa_cons (pv 2) pa_nil)))) (pss_one (ps_raise rfl (takes_of rfl rfl rfl rfl) (pmk_oex U.o U.i U.y GI (by exact hr.mono (by decide)) bI .nil pass0 (by rfl) U.g (pa_cons (pv 2) pa_nil)))) pss_nil)))
      (pss_one (ps_for (passes_of rfl) rfl (pi_list (pe_prop (pv 1) TT.cl hP GP (by exact hr.mono (by decide)) bP .nil pass0 rfl)) (pg_name (i := 2) nd rfl (.inl rfl)) (pss_one (ps_if (pt_not (pt_val (pe_meth (pv 0) T.cl mL GL (by exact hr.mono (by decide)) bL .nil pass0 (pa_cons (pv 2) pa_nil)))) (pss_one (ps_raise rfl (takes_of rfl rfl rfl rfl) (pmk_oex U.o U.i U.y GI (by exact hr.mono (by decide)) bI .nil pass0 (by rfl) U.g (pa_cons (pv 2) pa_nil)))) pss_nil))))), ?_⟩
    refine ⟨_, rfl, t, CT, dt, _, _, rfl, t1, TT.cl, TT.nS, tf_start _ _ _, _, rfl, t, CT, dt, _, _, rfl, t1, TT.cl, TT.nE, tf_end _ _ _, (by show 2 ≤ sizeLine; decide), fun m nm => ?_⟩
    obtain ⟨H1, e1, k1, g1⟩ := made (o := .lst [a, b]) nm
    rw [e1]
    have hab : Prs H1 [a, b] [st, en] := .cons (ha.same k1) (.cons (hb.same k1) .nil)
    refine ⟨m, rfl, ⟨_, SqL.of g1⟩, ?_⟩
    refine for_list (K := K) (a := m) (xs := [a, b]) (fun i σ H' => (∃ v2 : Option V, σ = [some (.ref p), some (.ref t), v2]) ∧ Same H1 H' ∧ ([st, en].take i).find? (fun p => !isCr ls gs p) = none) ?_ ?_ ?_ ?_
    · exact ⟨⟨_, rfl⟩, Same.refl _, rfl⟩
    · rintro i σ H' _ ⟨_, kt, _⟩
      exact SqL.of (kt _ _ g1)
    · rintro i x σ H' hx ⟨⟨v2, rfl⟩, kt, hno⟩
      obtain ⟨z, hz, hxz⟩ := (hab.same kt).at hx
      obtain ⟨f1, f2⟩ := find_snoc hno hz
      have k1t := k1.trans kt
      refine ⟨_, rfl, p, dx, _, rfl, k1t _ _ h1, hf_no _ _ _ _ _ (by decide +kernel) (by decide +kernel) (by decide +kernel) (by decide +kernel) (by decide +kernel), _, rfl, p, x, ls, gs, cs, z, rfl, hH.kp (kpS k1t), hxz, _, rfl, ?_⟩
      cases hi : isCr ls gs z with
      | false =>
        refine iteT ?_
        have hw : wrongP ls gs st en ps = some z := by
          unfold wrongP
          rw [f1 (by rw [hi]; rfl)]
          rfl
        refine ⟨_, rfl, by show 1 ≤ 1000; decide, fun y ny => ⟨y, x, rfl, U.o, U.n, upd_same, fun dd hd hne => ⟨rfl, dd, [("place", x)], ?_⟩⟩⟩
        obtain ⟨g1, g2, g3, g4⟩ := raised (f := "place") (v := x) ny hd hne
        exact ⟨g1, g2, g3, e z hw _ dd x (k1t.trans g4) (hxz.same g4) upd_same⟩
      | true =>
        refine iteF ?_
        exact ⟨⟨_, rfl⟩, kt, f2 (by rw [hi]; rfl)⟩
    rintro σ H2 ⟨⟨v2, rfl⟩, k2, hno⟩
    have k12 := k1.trans k2
    have hT2 := hT.same k12
    refine ⟨_, rfl, t, dt, _, rfl, k12 _ _ t1, t, st, en, ps, rfl, hT2, fun m2 ys nm2 hys => ?_⟩
    obtain ⟨H3, e3, k3, g3⟩ := made (o := .lst ys) nm2
    rw [e3]
    have hys3 := hys.same k3
    refine ⟨m2, rfl, ⟨_, SqL.of g3⟩, ?_⟩
    refine for_list (K := K) (a := m2) (xs := ys) (fun i σ H' => (∃ v2 : Option V, σ = [some (.ref p), some (.ref t), v2]) ∧ Same H3 H' ∧ (ps.take i).find? (fun p => !isPl ls gs p) = none) ?_ ?_ ?_ ?_
    · exact ⟨⟨_, rfl⟩, Same.refl _, rfl⟩
    · rintro i σ H' _ ⟨_, kt, _⟩
      exact SqL.of (kt _ _ g3)
    · rintro i x σ H' hx ⟨⟨v2, rfl⟩, kt, hno2⟩
      obtain ⟨z, hz, hxz⟩ := (hys3.same kt).at hx
      obtain ⟨f1, f2⟩ := find_snoc hno2 hz
      have k0t := (k12.trans k3).trans kt
      refine ⟨_, rfl, p, dx, _, rfl, k0t _ _ h1, hf_no _ _ _ _ _ (by decide +kernel) (by decide +kernel) (by decide +kernel) (by decide +kernel) (by decide +kernel), _, rfl, p, x, ls, gs, cs, z, rfl, hH.kp (kpS k0t), hxz, _, rfl, ?_⟩
      cases hi : isPl ls gs z with
      | false =>
        refine iteT ?_
        have hw : wrongP ls gs st en ps = some z := by
          unfold wrongP
          have hno' : [st, en].find? (fun p => !isCr ls gs p) = none := hno
          rw [hno', f1 (by rw [hi]; rfl)]
          rfl
        refine ⟨_, rfl, by show 1 ≤ 1000; decide, fun y ny => ⟨y, x, rfl, U.o, U.n, upd_same, fun dd hd hne => ⟨rfl, dd, [("place", x)], ?_⟩⟩⟩
        obtain ⟨g1, g2, g3, g4⟩ := raised (f := "place") (v := x) ny hd hne
        exact ⟨g1, g2, g3, e z hw _ dd x (k0t.trans g4) (hxz.same g4) upd_same⟩
      | true =>
        refine iteF ?_
        exact ⟨⟨_, rfl⟩, kt, f2 (by rw [hi]; rfl)⟩
    rintro σ H4 ⟨⟨v2', rfl⟩, k4, hno2⟩
    rw [hys.len, List.take_length] at hno2
    refine q ?_ H4 ((k12.trans k3).trans k4)
    unfold wrongP
    have hno' : [st, en].find? (fun p => !isCr ls gs p) = none := hno
    rw [hno', hno2]
    rfl
end
section
open GxR NdefX PySem.Spec PyProof.Rows
variable {P : Program} {w : World} {K : PySem.W.Frag} {mg : Str → Option Value} {base : Heap}
theorem ok_lcr {f : Addr} {fd : FuncData} (F : Fun K "_law_crosses" "_law_crosses" s__law_crosses f fd) : FnOk P w K mg base CX0 2 f fd ["lengths"] (spCross K) := by
  refine F.ok sc__law_crosses (fun vs H Q E h => ?_) (fun cdv A outer s H vs Q E hr h => ?_)
  · obtain ⟨l, ns, rfl, _⟩ := h
    rfl
  · obtain ⟨l, ns, rfl, hl, hn, q⟩ := h
    have nd := sc__law_crosses.nd
    refine ⟨_, (pss_cons (ps_set (i := 1) nd rfl (.inl rfl) (pe_lst (pa_cons pe_int pa_nil)))
      (pss_cons (ps_for PassesOwn.never rfl (pi_list (pv 0)) (pg_name (i := 2) nd rfl (.inl rfl)) (pss_one (ps_expr (pe_bm PySem.F.plainAttrs_list PySem.F.slot_list_append PySem.F.type_list_append mt_append (pv 1) (pa_cons (pe_op op_add (pe_ix ix_list (pv 1) (pe_un un_neg pe_int) (fun _ _ => rfl)) (pv 2)) pa_nil)))))
      (pss_one (ps_ret (pv 1))))), ?_⟩
    refine ⟨by decide, fun r nr => ?_⟩
    have sR : ∀ o, Same H (upd H r o) := fun o => same_upd nr
    refine ⟨_, rfl, l, rfl, ⟨_, (sR _).seq hl⟩, ?_⟩
    refine for_list (K := K) (a := l) (xs := ns.map V.int) (fun i σ H' => (∃ z, σ = [some (.ref l), some (.ref r), z]) ∧ H' = upd H r (.lst (((List.range (i + 1)).map fun k => (ns.take k).sum).map V.int))) ?_ ?_ ?_ ?_
    · exact ⟨⟨none, rfl⟩, rfl⟩
    · rintro i σ H' _ ⟨_, rfl⟩
      exact (sR _).seq hl
    · rintro i x σ H' hx ⟨⟨z, rfl⟩, rfl⟩
      rw [List.getElem?_map] at hx
      cases hi : ns[i]? with
      | none => rw [hi] at hx; cases hx
      | some n =>
        rw [hi] at hx
        cases hx
        have lt := (List.getElem?_eq_some_iff.mp hi).1
        have et : ns.take (i + 1) = ns.take i ++ [n] := by rw [List.take_add_one, hi]; rfl
        have er : ((List.range (i + 1)).map fun k => (ns.take k).sum).map V.int = (((List.range i).map fun k => (ns.take k).sum).map V.int) ++ [V.int (ns.take i).sum] := by
          rw [List.range_succ, List.map_append, List.map_append]
          rfl
        refine ⟨_, rfl, ?_⟩
        refine And.intro (Or.inl ⟨rfl, _, SqL.of upd_same⟩) ?_
        refine ⟨_, rfl, _, rfl, r, _, -1, _, rfl, rfl, SqL.of upd_same, by rw [er]; exact atI_last _ _, _, rfl, _, _, rfl, rfl, ?_⟩
        refine ⟨r, _, _, rfl, rfl, upd_same, ?_, ⟨_, rfl⟩, ?_⟩
        · rw [List.length_map, List.length_map, List.length_range, sizeLine_eq]
          omega
        · rw [upd_upd, List.range_succ (n := i + 1), List.map_append, List.map_append]
          show upd H r (.lst (_ ++ [V.int ((ns.take i).sum + n)])) = upd H r (.lst (_ ++ [V.int (ns.take (i + 1)).sum]))
          rw [et, List.sum_append]
          simp
    · rintro σ H' ⟨⟨z, rfl⟩, rfl⟩
      refine ⟨_, rfl, ?_⟩
      rw [List.length_map]
      exact q _ r (sR _) nr upd_same
theorem isLk_u {ls gs : List Int} {a h : Int} (a0 : 0 ≤ a) (a1 : a ≤ gs.length) (h0 : 0 ≤ h) (h1 : h < ls.sum) : isLk ls gs "up" a h = true := by
  unfold isLk
  rw [if_pos rfl]
  simp [a0, a1, h0, h1]
theorem isLk_o {ls gs : List Int} {a h : Int} (a0 : 0 ≤ a) (a1 : a < gs.length) (hh : h ∈ crossN ls) : isLk ls gs "over" a h = true := by
  unfold isLk
  rw [if_neg (by decide +kernel)]
  simp [a0, a1, hh]
theorem at_cross {ls : List Int} {z : Int} (h0 : 0 ≤ z) (h1 : z < (ls.length : Int) + 1) : ∃ h, h ∈ crossN ls ∧ atI ((crossN ls).map V.int) z = some (.int h) := by
  obtain ⟨j, rfl⟩ : ∃ j : Nat, z = (j : Int) := ⟨z.toNat, by omega⟩
  have hj : j < (crossN ls).length := by
    rw [crossN_len]
    omega
  exact ⟨(crossN ls)[j], List.getElem_mem hj, atI_nat (by rw [List.getElem?_map, List.getElem?_eq_getElem hj]; rfl)⟩
def spLk : Sp := fun vs H Q _ => ∃ (l g : Addr) (ls gs : List Int) (i j : Int), vs = [.ref l, .ref g, .int i, .int j] ∧ H l = some (.lst (ls.map V.int)) ∧ H g = some (.lst (gs.map V.int)) ∧ Lens ls ∧ 1 ≤ ls.length ∧ ls.length ≤ 2 ∧ gs.length ≤ 11 ∧
  ∀ (H' : Hp) (t : Addr) (c : Str × Int × Int), Same H H' → H' t = some (.tup [.str c.1, .int c.2.1, .int c.2.2]) → (c.1 = "up" ∨ c.1 = "over") → isLk ls gs c.1 c.2.1 c.2.2 = true → Q (.ref t) H'
theorem ok_lwlink {f : Addr} {fd : FuncData} (F : Fun K "_law_link" "_law_link" s__law_link f fd) (hint : mg "int" = none) (hlen : mg "len" = none) (hsum : mg "sum" = none) (Cr : TopD P w K mg base 2 "_law_crosses" ["lengths"] (spCross K)) : FnOk P w K mg base CX0 3 f fd ["lengths", "gaps", "first", "second"] spLk := by
  refine F.ok sc__law_link (fun vs H Q E h => ?_) (fun cdv A outer s H vs Q E hr h => ?_)
  · obtain ⟨l, g, ls, gs, i, j, rfl, _⟩ := h
    rfl
  · obtain ⟨l, g, ls, gs, i, j, rfl, hl, hg, hL, hl1, hl2, hg11, q⟩ := h
    have nd := sc__law_link.nd
    have top1 := hL.pos1 hl1
    refine ⟨_, (pss_cons (ps_if (PW.pt (pw_and (pt_cmpR op_eq (pe_op op_mod (pe_callTy call_int1 (by rfl) hint (by decide +kernel) (pa_cons (pv 2) pa_nil)) pe_int) pe_int (nomark _)) (pw_and1 (pt_cmpR op_gt (pe_callB call_len (by rfl) hlen (by decide +kernel) (pa_cons (pv 1) pa_nil)) pe_int (nomark _))))) (pss_one (ps_ret (pe_tup (pa_cons pe_str (pa_cons (pe_op op_mod (pe_callTy call_int1 (by rfl) hint (by decide +kernel) (pa_cons (pv 3) pa_nil)) (pe_callB call_len (by rfl) hlen (by decide +kernel) (pa_cons (pv 1) pa_nil))) (pa_cons (pe_ix ix_list (pe_call Cr.G (by exact hr.mono (by decide)) (by rfl) Cr.g Cr.kp Cr.b .nil pass0 (pa_cons (pv 0) pa_nil)) (pe_op op_mod (pe_callTy call_int1 (by rfl) hint (by decide +kernel) (pa_cons (pe_op op_fdiv (pv 3) pe_int) pa_nil)) (pe_op op_add (pe_callB call_len (by rfl) hlen (by decide +kernel) (pa_cons (pv 0) pa_nil)) pe_int)) (fun _ _ => rfl)) pa_nil)))))) pss_nil)
      (pss_one (ps_ret (pe_tup (pa_cons pe_str (pa_cons (pe_op op_mod (pe_callTy call_int1 (by rfl) hint (by decide +kernel) (pa_cons (pv 3) pa_nil)) (pe_op op_add (pe_callB call_len (by rfl) hlen (by decide +kernel) (pa_cons (pv 1) pa_nil)) pe_int)) (pa_cons (pe_op op_mod (pe_callTy call_int1 (by rfl) hint (by decide +kernel) (pa_cons (pe_op op_fdiv (pv 3) pe_int) pa_nil)) (pe_callB (cr_sum rfl) (by rfl) hsum (by decide +kernel) (pa_cons (pv 0) pa_nil))) pa_nil))))))), ?_⟩
    have up : ∀ (H' : Hp) (t : Addr), Same H H' → H' t = some (.tup [.str "up", .int (j % ((gs.length : Int) + 1)), .int (j / 12 % ls.sum)]) → Q (.ref t) H' := fun H' t k ht => by
      have a0 := Int.emod_nonneg j (show ((gs.length : Int) + 1) ≠ 0 by omega)
      have a1 := Int.emod_lt_of_pos j (show (0 : Int) < (gs.length : Int) + 1 by omega)
      have b0 := Int.emod_nonneg (j / 12) (show ls.sum ≠ 0 by omega)
      have b1 := Int.emod_lt_of_pos (j / 12) (show (0 : Int) < ls.sum by omega)
      have a2 : j % ((gs.length : Int) + 1) ≤ (gs.length : Int) := by omega
      exact q H' t ("up", j % ((gs.length : Int) + 1), j / 12 % ls.sum) k ht (.inl rfl) (isLk_u a0 a2 b0 b1)
    refine ⟨_, rfl, .inl ⟨_, rfl, _, _, rfl, rfl, (by show (0 : Int) < 3; decide), rfl, _, rfl, ?_⟩⟩
    refine ite2 (fun hc => ?_) (fun hc => ?_)
    · refine ⟨_, rfl, _, _, rfl, .inl ⟨_, SqL.of hg, rfl⟩, _, _, rfl, rfl, _, rfl, ?_⟩
      rw [List.length_map]
      refine ite2 (fun hc2 => ?_) (fun hc2 => ?_)
      · have gp : 0 < (gs.length : Int) := of_decide_eq_true hc2
        refine ⟨_, rfl, .inl ⟨_, rfl, _, rfl, _, _, rfl, .inl ⟨_, SqL.of hg, rfl⟩, _, _, rfl, rfl, (by rw [List.length_map]; exact gp), ?_⟩⟩
        rw [List.length_map]
        refine ⟨_, rfl, l, ls, rfl, SqL.of hl, by omega, fun H1 r k1 nr gr => ?_⟩
        have b0 := Int.emod_nonneg (j / 12) (show ((ls.length : Int) + 1) ≠ 0 by omega)
        have b1 := Int.emod_lt_of_pos (j / 12) (show (0 : Int) < (ls.length : Int) + 1 by omega)
        obtain ⟨h, hh, hat⟩ := at_cross b0 b1
        refine ⟨_, rfl, _, _, rfl, rfl, ⟨by decide, by decide⟩, .inl ⟨_, rfl, _, rfl, _, _, rfl, .inl ⟨_, SqL.of (k1 _ _ hl), rfl⟩, _, _, rfl, rfl, _, _, rfl, rfl, (by rw [List.length_map]; show (0 : Int) < _; omega), r, _, _, _, rfl, rfl, SqL.of gr, (by rw [List.length_map]; exact hat), (by show 3 ≤ sizeLine; decide), fun t nt => ?_⟩⟩
        obtain ⟨H2, e2, k2, g2⟩ := made (o := .tup [V.str "over", .int (j % (gs.length : Int)), .int h]) nt
        rw [e2]
        exact q H2 t ("over", _, _) (k1.trans k2) g2 (.inr rfl) (isLk_o (Int.emod_nonneg _ (by omega)) (Int.emod_lt_of_pos _ gp) hh)
      · refine ⟨_, rfl, .inl ⟨_, rfl, _, rfl, _, _, rfl, .inl ⟨_, SqL.of hg, rfl⟩, _, _, rfl, rfl, _, _, rfl, rfl, (by rw [List.length_map]; show (0 : Int) < _; omega), _, rfl, _, _, rfl, rfl, ⟨by decide, by decide⟩, .inl ⟨_, rfl, _, rfl, l, ls, rfl, SqL.of hl, _, _, rfl, rfl, (by show (0 : Int) < _; omega), (by show 3 ≤ sizeLine; decide), fun t nt => ?_⟩⟩⟩
        rw [List.length_map]
        obtain ⟨H2, e2, k2, g2⟩ := made (o := .tup [V.str "up", .int (j % ((gs.length : Int) + 1)), .int (j / 12 % ls.sum)]) nt
        rw [e2]
        exact up H2 t k2 g2
    · refine ⟨_, rfl, .inl ⟨_, rfl, _, rfl, _, _, rfl, .inl ⟨_, SqL.of hg, rfl⟩, _, _, rfl, rfl, _, _, rfl, rfl, (by rw [List.length_map]; show (0 : Int) < _; omega), _, rfl, _, _, rfl, rfl, ⟨by decide, by decide⟩, .inl ⟨_, rfl, _, rfl, l, ls, rfl, SqL.of hl, _, _, rfl, rfl, (by show (0 : Int) < _; omega), (by show 3 ≤ sizeLine; decide), fun t nt => ?_⟩⟩⟩
      rw [List.length_map]
      obtain ⟨H2, e2, k2, g2⟩ := made (o := .tup [V.str "up", .int (j % ((gs.length : Int) + 1)), .int (j / 12 % ls.sum)]) nt
      rw [e2]
      exact up H2 t k2 g2
end
section
open GxR NdefX PySem.Spec PyProof.Rows
variable {P : Program} {w : World} {K : PySem.W.Frag} {mg : Str → Option Value} {base : Heap}
/-- the three lists of parts stand at a tuple -/
def PartsAt (H : Hp) (p : Addr) (ls gs : List Int) (cs : List (Str × Int × Int)) : Prop := ∃ (l g c : Addr) (xs : List V), H p = some (.tup [.ref l, .ref g, .ref c]) ∧ H l = some (.lst (ls.map V.int)) ∧ H g = some (.lst (gs.map V.int)) ∧ H c = some (.lst xs) ∧ Krs H xs (kOf cs)
theorem PartsAt.kp {H H' : Hp} {p : Addr} {ls gs : List Int} {cs : List (Str × Int × Int)} (h : PartsAt H p ls gs cs) (k : Kp H H') : PartsAt H' p ls gs cs := by
  obtain ⟨l, g, c, xs, h1, h2, h3, h4, h5⟩ := h
  exact ⟨l, g, c, xs, k.tup h1, k.lst h2, k.lst h3, k.lst h4, h5.kp k⟩
theorem PartsAt.same {H H' : Hp} {p : Addr} {ls gs : List Int} {cs : List (Str × Int × Int)} (h : PartsAt H p ls gs cs) (k : Same H H') : PartsAt H' p ls gs cs := h.kp (kpS k)
abbrev NH : List Str := ["numbers", "at", "many", "most", "lengths", "gaps", "closed", "k", "link"]
theorem pick5 {z : Int} (h0 : 0 ≤ z) (h5 : z < 5) : ∃ mo : Int, atI [V.int 0, .int 0, .int 1, .int 2, .int 4] z = some (.int mo) ∧ 0 ≤ mo ∧ mo ≤ 4 := by
  have e5 : z = 0 ∨ z = 1 ∨ z = 2 ∨ z = 3 ∨ z = 4 := by omega
  rcases e5 with e | e | e | e | e <;> rw [e]
  · exact ⟨0, rfl, by decide, by decide⟩
  · exact ⟨0, rfl, by decide, by decide⟩
  · exact ⟨1, rfl, by decide, by decide⟩
  · exact ⟨2, rfl, by decide, by decide⟩
  · exact ⟨4, rfl, by decide, by decide⟩
theorem Lens.snoc1 {ls : List Int} {x : Int} (h : Lens ls) (h1 : 1 ≤ x) (h2 : x ≤ 40) : Lens (ls ++ [x]) := fun y hy => by
  rcases List.mem_append.mp hy with z | z
  · exact h y z
  · rw [List.mem_singleton.mp z]
    exact ⟨h1, h2⟩
theorem kOf_app1 (cs : List (Str × Int × Int)) (c : Str × Int × Int) : kOf (cs ++ [c]) = kOf cs ++ [lk c.1 c.2.1 c.2.2] := by
  unfold kOf
  rw [List.map_append]
  rfl
theorem okk_word {x : Str} (h : x = "up" ∨ x = "over") (a b : Int) : okk (lk x a b) = true := by
  refine ok_lk ?_ _ _
  rcases h with rfl | rfl <;> decide +kernel
theorem lens_all {gs : List Int} (h : Lens gs) : gs.all longN = true := List.all_eq_true.mpr fun x hx => by
  unfold longN
  rw [decide_eq_true (h x hx).1, decide_eq_true (h x hx).2]
  rfl
def spHs (K : PySem.W.Frag) : Sp := fun vs H Q _ => ∃ (n : Addr) (ns : List Int) (a many most : Nat), vs = [.ref n, .int (a : Int), .int (many : Int), .int (most : Int)] ∧ SqL K H n (ns.map V.int) ∧ Small ns ∧ a + 24 ≤ ns.length ∧ 1 ≤ many ∧ many ≤ 12 ∧ 1 ≤ most ∧ most ≤ 40 ∧
  ∀ (H' : Hp) (p : Addr) (ls gs : List Int) (cs : List (Str × Int × Int)), Same H H' → PartsAt H' p ls gs cs → Valid ls gs cs → cs.length ≤ 4 → gs.length < many → (∀ c ∈ cs, c.1 = "up" ∨ c.1 = "over") → Q (.ref p) H'
theorem ok_lwhouse {f : Addr} {fd : FuncData} (F : Fun K "_law_house" "_law_house" s__law_house f fd) (hint : mg "int" = none) (hrange : mg "range" = none) (Lk : TopD P w K mg base 3 "_law_link" ["lengths", "gaps", "first", "second"] spLk) : FnOk P w K mg base CX0 4 f fd ["numbers", "at", "many", "most"] (spHs K) := by
  refine F.ok sc__law_house (fun vs H Q E h => ?_) (fun cdv A outer s H vs Q E hr h => ?_)
  · obtain ⟨n, ns, a, many, most, rfl, _⟩ := h
    rfl
  · obtain ⟨n, ns, a, many, most, rfl, hn, hs, ha, m1, m12, o1, o40, q⟩ := h
    have nd : NH.Nodup := sc__law_house.nd
    have hline : 1000000 < sizeLine := by decide
    have sm := nth_small hs
    have a0 : (0 : Int) ≤ (a : Int) := Int.natCast_nonneg a
    have at_ : ∀ {i : Int}, 0 ≤ i → i < ns.length → atI (ns.map V.int) i = some (V.int (nth ns i)) := fun h0 h1 => atI_nth h0 h1
    refine ⟨_, (pss_cons (ps_setLc (i := 4) (own := [("k", 7)]) (g := gName 7) (tt := tYes) rfl nd rfl rfl rfl (pi_range1 rfl hrange (pa_cons (pe_op op_add pe_int (pe_op op_mod (pe_callTy call_int1 (by rfl) hint (by decide +kernel) (pa_cons (pe_ix ix_list (pv 0) (pv 1) (fun _ _ => rfl)) pa_nil)) pe_int)) pa_nil)) (blkOk_by (N := NH) (sc := defScope s__law_house) (by decide +kernel)) (fun _ _ _ _ _ => pg_name (i := 7) nd rfl (Or.inl rfl)) (fun _ _ _ _ _ => pts_nil) (fun _ _ _ _ _ => (pe_op op_add pe_int (pe_op op_mod (pe_callTy call_int1 (by rfl) hint (by decide +kernel) (pa_cons (pe_ix (r := rIxL K) ix_list (pv 0) (pe_op op_add (pe_op op_add (pv 1) pe_int) (pv 7)) (fun _ _ => rfl)) pa_nil)) (pv 3)))))
      (pss_cons (ps_setLc (i := 5) (own := [("k", 7)]) (g := gName 7) (tt := tYes) rfl nd rfl rfl rfl (pi_range1 rfl hrange (pa_cons (pe_op op_mod (pe_callTy call_int1 (by rfl) hint (by decide +kernel) (pa_cons (pe_op op_fdiv (pe_ix ix_list (pv 0) (pv 1) (fun _ _ => rfl)) pe_int) pa_nil)) (pv 2)) pa_nil)) (blkOk_by (N := NH) (sc := defScope s__law_house) (by decide +kernel)) (fun _ _ _ _ _ => pg_name (i := 7) nd rfl (Or.inl rfl)) (fun _ _ _ _ _ => pts_nil) (fun _ _ _ _ _ => (pe_op op_add pe_int (pe_op op_mod (pe_callTy call_int1 (by rfl) hint (by decide +kernel) (pa_cons (pe_ix (r := rIxL K) ix_list (pv 0) (pe_op op_add (pe_op op_add (pv 1) pe_int) (pv 7)) (fun _ _ => rfl)) pa_nil)) (pe_op op_add pe_int (pe_op op_fdiv (pv 3) pe_int))))))
      (pss_cons (ps_set (i := 6) nd rfl (.inl rfl) (pe_lst pa_nil))
      (pss_cons (ps_for PassesOwn.never rfl (pi_range1 rfl hrange (pa_cons (pe_ix ix_tup (pe_tup (pa_cons pe_int (pa_cons pe_int (pa_cons pe_int (pa_cons pe_int (pa_cons pe_int pa_nil)))))) (pe_op op_mod (pe_callTy call_int1 (by rfl) hint (by decide +kernel) (pa_cons (pe_op op_fdiv (pe_ix ix_list (pv 0) (pv 1) (fun _ _ => rfl)) pe_int) pa_nil)) pe_int) (fun _ _ => rfl)) pa_nil)) (pg_name (i := 7) nd rfl (.inl rfl)) (pss_cons (ps_set (i := 8) nd rfl (.inl rfl) (pe_call Lk.G (by exact hr.mono (by decide)) (by rfl) Lk.g Lk.kp Lk.b .nil pass0 (pa_cons (pv 4) (pa_cons (pv 5) (pa_cons (pe_ix ix_list (pv 0) (pe_op op_add (pe_op op_add (pv 1) pe_int) (pe_op op_mul pe_int (pv 7))) (fun _ _ => rfl)) (pa_cons (pe_ix ix_list (pv 0) (pe_op op_add (pe_op op_add (pv 1) pe_int) (pe_op op_mul pe_int (pv 7))) (fun _ _ => rfl)) pa_nil))))))
      (pss_one (ps_if (pt_cmpR (op_notInD (room65 hr)) (pv 8) (pv 6) (by rfl)) (pss_one (ps_expr (pe_bm PySem.F.plainAttrs_list PySem.F.slot_list_append PySem.F.type_list_append mt_append (pv 6) (pa_cons (pv 8) pa_nil)))) pss_nil))))
      (pss_one (ps_ret (pe_tup (pa_cons (pv 4) (pa_cons (pv 5) (pa_cons (pv 6) pa_nil)))))))))), ?_⟩
    -- lengths
    refine ⟨_, rfl, _, rfl, n, _, _, _, rfl, rfl, hn, at_ a0 (by omega), .inl ⟨_, rfl, _, _, rfl, rfl, (by show (0 : Int) < 2; decide), _, _, rfl, rfl, _, rfl, by omega, by omega, fun D nD => ?_⟩⟩
    have c0 := Int.emod_nonneg (nth ns a) (show (2 : Int) ≠ 0 by decide)
    have c1 := Int.emod_lt_of_pos (nth ns a) (show (0 : Int) < 2 by decide)
    refine lc_range (lo := 0) (n := (1 + nth ns a % 2).toNat) (fun i H' => ∃ ls : List Int, H' = upd H D (.lst (ls.map V.int)) ∧ ls.length = i ∧ Lens ls) ?_ ?_ ?_
    · exact ⟨[], rfl, rfl, fun x z => nomatch z⟩
    · rintro i H' hi ⟨ls, rfl, hll, hL⟩
      have e0 := Int.emod_nonneg (nth ns ((a : Int) + 1 + (0 + (i : Int)))) (show (most : Int) ≠ 0 by omega)
      have e1 := Int.emod_lt_of_pos (nth ns ((a : Int) + 1 + (0 + (i : Int)))) (show (0 : Int) < (most : Int) by omega)
      refine ⟨rfl, _, rfl, _, rfl, _, _, rfl, rfl, _, rfl, _, _, rfl, rfl, n, _, _, _, rfl, rfl, (same_upd nD).seq hn, at_ (by omega) (by omega), .inl ⟨_, rfl, _, rfl, _, _, rfl, rfl, (by show (0 : Int) < _; omega), _, _, rfl, rfl, _, upd_same, ?_, ls ++ [1 + nth ns ((a : Int) + 1 + (0 + (i : Int))) % (most : Int)], ?_, ?_, hL.snoc1 (by omega) (by omega)⟩⟩
      · rw [List.length_map]
        omega
      · rw [upd_upd, List.map_append]
        rfl
      · rw [List.length_append, hll]
        rfl
    rintro H' ⟨ls, rfl, hll, hL⟩
    obtain ⟨H1, e1, k1, gl1⟩ := made (o := .lst (ls.map V.int)) nD
    rw [e1]
    have hl1 : 1 ≤ ls.length := by omega
    have hl2 : ls.length ≤ 2 := by omega
    -- gaps
    have d0 := Int.emod_nonneg (nth ns a / 2) (show (many : Int) ≠ 0 by omega)
    have d1 := Int.emod_lt_of_pos (nth ns a / 2) (show (0 : Int) < (many : Int) by omega)
    refine ⟨_, rfl, _, rfl, n, _, _, _, rfl, rfl, k1.seq hn, at_ a0 (by omega), _, _, rfl, rfl, ⟨by decide, by decide⟩, .inl ⟨_, rfl, _, rfl, _, _, rfl, rfl, (by show (0 : Int) < _; omega), _, rfl, by omega, by omega, fun G nG => ?_⟩⟩
    refine lc_range (lo := 0) (n := (nth ns a / 2 % (many : Int)).toNat) (fun i H' => ∃ gs : List Int, H' = upd H1 G (.lst (gs.map V.int)) ∧ gs.length = i ∧ Lens gs) ?_ ?_ ?_
    · exact ⟨[], rfl, rfl, fun x z => nomatch z⟩
    · rintro i H' hi ⟨gs, rfl, hgl, hG⟩
      have e0 := Int.emod_nonneg (nth ns ((a : Int) + 3 + (0 + (i : Int)))) (show (1 + (most : Int) / 2) ≠ 0 by omega)
      have e1 := Int.emod_lt_of_pos (nth ns ((a : Int) + 3 + (0 + (i : Int)))) (show (0 : Int) < 1 + (most : Int) / 2 by omega)
      refine ⟨rfl, _, rfl, _, rfl, _, _, rfl, rfl, _, rfl, _, _, rfl, rfl, n, _, _, _, rfl, rfl, (k1.trans (same_upd nG)).seq hn, at_ (by omega) (by omega), .inl ⟨_, rfl, _, rfl, _, _, rfl, rfl, ⟨by decide, by decide⟩, _, _, rfl, rfl, _, _, rfl, rfl, (by show (0 : Int) < _; omega), _, _, rfl, rfl, _, upd_same, ?_, gs ++ [1 + nth ns ((a : Int) + 3 + (0 + (i : Int))) % (1 + (most : Int) / 2)], ?_, ?_, hG.snoc1 (by omega) (by omega)⟩⟩
      · rw [List.length_map]
        omega
      · rw [upd_upd, List.map_append]
        rfl
      · rw [List.length_append, hgl]
        rfl
    rintro H' ⟨gs, rfl, hgl, hG⟩
    obtain ⟨H2, e2, k2, gg2⟩ := made (o := .lst (gs.map V.int)) nG
    rw [e2]
    have k12 := k1.trans k2
    have gl2 := k2 _ _ gl1
    have hg11 : gs.length ≤ 11 := by omega
    -- closed
    refine ⟨Nat.zero_le _, fun c nc => ?_⟩
    have kc : Same H2 (upd H2 c (.lst [])) := same_upd nc
    refine ⟨(by show 5 ≤ sizeLine; decide), fun m nm => ?_⟩
    have k7 : Same (upd H2 c (.lst [])) (upd (upd H2 c (.lst [])) m (.tup [V.int 0, .int 0, .int 1, .int 2, .int 4])) := same_upd nm
    obtain ⟨mo, hmo, mo0, mo4⟩ := pick5 (z := nth ns a / 24 % 5) (Int.emod_nonneg _ (by decide)) (Int.emod_lt_of_pos _ (by decide))
    refine ⟨_, rfl, _, rfl, n, _, _, _, rfl, rfl, ((k12.trans kc).trans k7).seq hn, at_ a0 (by omega), _, _, rfl, rfl, ⟨by decide, by decide⟩, .inl ⟨_, rfl, _, _, rfl, rfl, (by show (0 : Int) < 5; decide), m, _, _, _, rfl, rfl, SqT.of upd_same, hmo, mo, rfl, by omega, by omega, ?_⟩⟩
    refine for_range (lo := 0) (n := mo.toNat) (fun i σ H' => ∃ (v7 v8 : Option V) (ys : List V) (cs : List (Str × Int × Int)), σ = [some (.ref n), some (.int (a : Int)), some (.int (many : Int)), some (.int (most : Int)), some (.ref D), some (.ref G), some (.ref c), v7, v8] ∧ Same H2 H' ∧ H' c = some (.lst ys) ∧ Krs H' ys (kOf cs) ∧ (kOf cs).Nodup ∧
        (∀ d ∈ cs, isLk ls gs d.1 d.2.1 d.2.2 = true) ∧ (∀ d ∈ cs, d.1 = "up" ∨ d.1 = "over") ∧ cs.length ≤ i) ?_ ?_ ?_
    · exact ⟨none, none, [], [], rfl, kc.trans k7, k7 _ _ upd_same, .nil, .nil, (fun d z => nomatch z), (fun d z => nomatch z), Nat.zero_le _⟩
    · rintro i σ H' hi ⟨v7, v8, ys, cs, rfl, k', hc, hx, hnd, hlk, hw, hle⟩
      have kk := k12.trans k'
      refine ⟨_, rfl, _, rfl, _, rfl, _, rfl, _, _, rfl, rfl, _, rfl, _, _, rfl, rfl, .inl ⟨by decide, by decide⟩, _, _, rfl, rfl, n, _, _, _, rfl, rfl, kk.seq hn, at_ (by omega) (by omega), ?_⟩
      refine ⟨_, rfl, _, rfl, _, _, rfl, rfl, _, rfl, _, _, rfl, rfl, .inl ⟨by decide, by decide⟩, _, _, rfl, rfl, n, _, _, _, rfl, rfl, kk.seq hn, at_ (by omega) (by omega), ?_⟩
      refine ⟨D, G, ls, gs, _, _, rfl, k' _ _ gl2, k' _ _ gg2, hL, hl1, hl2, hg11, fun H3 t d k3 ht hwd hl => ?_⟩
      have hc3 := k3 _ _ hc
      have hx3 := hx.same k3
      have hkr : Kr H3 (.ref t) (lk d.1 d.2.1 d.2.2) := ⟨t, rfl, ht⟩
      refine ⟨_, rfl, _, rfl, dK (lk d.1 d.2.1 d.2.2), (kOf cs).map dK, hkr.dp, hx3.dl (SqL.of hc3), sh_dK (okk_word hwd _ _), sh_dKs (fun k hk => ?_), _, rfl, ?_⟩
      · obtain ⟨d2, hd, rfl⟩ := List.mem_map.mp hk
        exact okk_word (hw d2 hd) _ _
      rw [any_dK]
      refine ite2 (fun hin => ?_) (fun hin => ?_)
      · have hni : lk d.1 d.2.1 d.2.2 ∉ kOf cs := fun z => by
          rw [decide_eq_true z] at hin
          cases hin
        have hyl : ys.length = cs.length := hx.len.trans (List.length_map _)
        refine ⟨_, rfl, .inl ⟨rfl, _, SqL.of hc3⟩, _, rfl, c, ys, _, rfl, rfl, hc3, by omega, ?_⟩
        refine ⟨_, _, ys ++ [.ref t], cs ++ [d], rfl, Same.over (k'.trans k3) nc, upd_same, ?_, ?_, fun x hx => ?_, fun x hx => ?_, by rw [List.length_append]; show cs.length + 1 ≤ i + 1; omega⟩
        · rw [kOf_app1]
          exact (hx3.over hc3).snoc (hkr.over hc3)
        · rw [kOf_app1]
          exact List.nodup_append.mpr ⟨hnd, by simp, fun y hy y' hy' e => hni (by rw [List.mem_singleton.mp hy'] at e; rw [← e]; exact hy)⟩
        · rcases List.mem_append.mp hx with z | z
          · exact hlk x z
          · rw [List.mem_singleton.mp z]
            exact hl
        · rcases List.mem_append.mp hx with z | z
          · exact hw x z
          · rw [List.mem_singleton.mp z]
            exact hwd
      · exact ⟨_, _, ys, cs, rfl, k'.trans k3, hc3, hx3, hnd, hlk, hw, by omega⟩
    · rintro σ H' ⟨v7, v8, ys, cs, rfl, k', hc, hx, hnd, hlk, hw, hle⟩
      refine ⟨_, rfl, _, rfl, _, rfl, (by show 3 ≤ sizeLine; decide), fun p np => ?_⟩
      obtain ⟨H3, e3, k3, g3⟩ := made (o := .tup [V.ref D, .ref G, .ref c]) np
      rw [e3]
      have va : Valid ls gs cs := ⟨⟨⟨hl1, hl2⟩, lens_all hL⟩, ⟨hg11, lens_all hG⟩, by omega, hnd, hlk⟩
      exact q H3 p ls gs cs ((k12.trans k').trans k3) ⟨D, G, c, ys, g3, k3 _ _ (k' _ _ gl2), k3 _ _ (k' _ _ gg2), k3 _ _ hc, hx.same k3⟩ va (by omega) (by omega) hw
end
section
open GxR NdefX PySem.Spec PyProof.Rows
variable {P : Program} {w : World} {K : PySem.W.Frag} {mg : Str → Option Value} {base : Heap}
theorem cross_isCr {ls gs : List Int} (hL : Lens ls) {a h : Int} (a0 : 0 ≤ a) (a1 : a ≤ gs.length) (hh : h ∈ crossN ls) : isCr ls gs (a, h) = true := by
  have c := hL.cross hh
  unfold isCr
  rw [decide_eq_true hh, Bool.and_true]
  unfold isPl
  simp [a0, a1, c.1, c.2]
theorem isPl_mk {ls gs : List Int} {a h : Int} (a0 : 0 ≤ a) (a1 : a ≤ gs.length) (h0 : 0 ≤ h) (h1 : h ≤ ls.sum) : isPl ls gs (a, h) = true := by
  unfold isPl
  simp [a0, a1, h0, h1]
def spDraw (f : List Int → List Int → Pl → Bool) : Sp := fun vs H Q _ => ∃ (p : Addr) (ls gs : List Int) (cs : List (Str × Int × Int)) (i : Int), vs = [.ref p, .int i] ∧ PartsAt H p ls gs cs ∧ Valid ls gs cs ∧
  ∀ (H' : Hp) (t : Addr) (z : Pl), Same H H' → H' t = some (.tup [.int z.1, .int z.2]) → f ls gs z = true → Q (.ref t) H'
theorem ok_lc {f : Addr} {fd : FuncData} (F : Fun K "_law_cross" "_law_cross" s__law_cross f fd) (hint : mg "int" = none) (hlen : mg "len" = none) (Cr : TopD P w K mg base 2 "_law_crosses" ["lengths"] (spCross K)) : FnOk P w K mg base CX0 3 f fd ["house", "number"] (spDraw isCr) := by
  refine F.ok sc__law_cross (fun vs H Q E h => ?_) (fun cdv A outer s H vs Q E hr h => ?_)
  · obtain ⟨p, ls, gs, cs, i, rfl, _⟩ := h
    rfl
  · obtain ⟨p, ls, gs, cs, i, rfl, ⟨l, g, c, xs, hp, hl, hg, hc, hx⟩, va, q⟩ := h
    have nd := sc__law_cross.nd
    have hL := va.lens
    have l2 := va.1.1.2
    refine ⟨_, (pss_cons (ps_set (i := 2) nd rfl (.inl rfl) (pe_call Cr.G (by exact hr.mono (by decide)) (by rfl) Cr.g Cr.kp Cr.b .nil pass0 (pa_cons (pe_ix ix_tup (pv 0) pe_int (fun _ _ => rfl)) pa_nil)))
      (pss_one (ps_ret (pe_tup (pa_cons (pe_op op_mod (pe_callTy call_int1 (by rfl) hint (by decide +kernel) (pa_cons (pv 1) pa_nil)) (pe_op op_add (pe_callB call_len (by rfl) hlen (by decide +kernel) (pa_cons (pe_ix ix_tup (pv 0) pe_int (fun _ _ => rfl)) pa_nil)) pe_int)) (pa_cons (pe_ix ix_list (pv 2) (pe_op op_mod (pe_callTy call_int1 (by rfl) hint (by decide +kernel) (pa_cons (pe_op op_fdiv (pv 1) pe_int) pa_nil)) (pe_callB call_len (by rfl) hlen (by decide +kernel) (pa_cons (pv 2) pa_nil))) (fun _ _ => rfl)) pa_nil)))))), ?_⟩
    refine ⟨_, rfl, p, _, _, _, rfl, rfl, SqT.of hp, rfl, l, ls, rfl, SqL.of hl, by omega, fun H1 r k1 nr gr => ?_⟩
    have a0 := Int.emod_nonneg i (show ((gs.length : Int) + 1) ≠ 0 by omega)
    have a1 := Int.emod_lt_of_pos i (show (0 : Int) < (gs.length : Int) + 1 by omega)
    have b0 := Int.emod_nonneg (i / 12) (show ((ls.length : Int) + 1) ≠ 0 by omega)
    have b1 := Int.emod_lt_of_pos (i / 12) (show (0 : Int) < (ls.length : Int) + 1 by omega)
    obtain ⟨h, hh, hat⟩ := at_cross b0 b1
    refine ⟨_, rfl, .inl ⟨_, rfl, _, rfl, p, _, _, _, rfl, rfl, SqT.of (k1 _ _ hp), rfl, _, _, rfl, .inl ⟨_, SqL.of (k1 _ _ hg), rfl⟩, _, _, rfl, rfl, _, _, rfl, rfl, (by rw [List.length_map]; show (0 : Int) < _; omega), ?_⟩⟩
    rw [List.length_map]
    refine ⟨_, rfl, _, rfl, _, _, rfl, rfl, ⟨by decide, by decide⟩, .inl ⟨_, rfl, _, rfl, _, _, rfl, .inl ⟨_, SqL.of gr, rfl⟩, _, _, rfl, rfl, (by rw [List.length_map, crossN_len]; show (0 : Int) < _; omega), r, _, _, _, rfl, rfl, SqL.of gr, (by rw [List.length_map, crossN_len]; exact hat), (by show 2 ≤ sizeLine; decide), fun t nt => ?_⟩⟩
    obtain ⟨H2, e2, k2, g2⟩ := made (o := .tup [V.int (i % ((gs.length : Int) + 1)), .int h]) nt
    rw [e2]
    have a2 : i % ((gs.length : Int) + 1) ≤ (gs.length : Int) := by omega
    exact q H2 t (i % ((gs.length : Int) + 1), h) (k1.trans k2) g2 (cross_isCr hL a0 a2 hh)
theorem ok_lp {f : Addr} {fd : FuncData} (F : Fun K "_law_place" "_law_place" s__law_place f fd) (hint : mg "int" = none) (hlen : mg "len" = none) (hsum : mg "sum" = none) : FnOk P w K mg base CX0 1 f fd ["house", "number"] (spDraw isPl) := by
  refine F.ok sc__law_place (fun vs H Q E h => ?_) (fun cdv A outer s H vs Q E hr h => ?_)
  · obtain ⟨p, ls, gs, cs, i, rfl, _⟩ := h
    rfl
  · obtain ⟨p, ls, gs, cs, i, rfl, ⟨l, g, c, xs, hp, hl, hg, hc, hx⟩, va, q⟩ := h
    have nd := sc__law_place.nd
    have hL := va.lens
    have top0 := hL.pos2
    refine ⟨_, (pss_one (ps_ret (pe_tup (pa_cons (pe_op op_mod (pe_callTy call_int1 (by rfl) hint (by decide +kernel) (pa_cons (pv 1) pa_nil)) (pe_op op_add (pe_callB call_len (by rfl) hlen (by decide +kernel) (pa_cons (pe_ix ix_tup (pv 0) pe_int (fun _ _ => rfl)) pa_nil)) pe_int)) (pa_cons (pe_op op_mod (pe_callTy call_int1 (by rfl) hint (by decide +kernel) (pa_cons (pe_op op_fdiv (pv 1) pe_int) pa_nil)) (pe_op op_add (pe_callB (cr_sum rfl) (by rfl) hsum (by decide +kernel) (pa_cons (pe_ix ix_tup (pv 0) pe_int (fun _ _ => rfl)) pa_nil)) pe_int)) pa_nil))))), ?_⟩
    have a0 := Int.emod_nonneg i (show ((gs.length : Int) + 1) ≠ 0 by omega)
    have a1 := Int.emod_lt_of_pos i (show (0 : Int) < (gs.length : Int) + 1 by omega)
    have b0 := Int.emod_nonneg (i / 12) (show (ls.sum + 1) ≠ 0 by omega)
    have b1 := Int.emod_lt_of_pos (i / 12) (show (0 : Int) < ls.sum + 1 by omega)
    refine ⟨_, rfl, .inl ⟨_, rfl, _, rfl, p, _, _, _, rfl, rfl, SqT.of hp, rfl, _, _, rfl, .inl ⟨_, SqL.of hg, rfl⟩, _, _, rfl, rfl, _, _, rfl, rfl, (by rw [List.length_map]; show (0 : Int) < _; omega), ?_⟩⟩
    rw [List.length_map]
    refine ⟨_, rfl, _, _, rfl, rfl, ⟨by decide, by decide⟩, .inl ⟨_, rfl, _, rfl, p, _, _, _, rfl, rfl, SqT.of hp, rfl, l, ls, rfl, SqL.of hl, _, _, rfl, rfl, _, _, rfl, rfl, (by show (0 : Int) < _; omega), (by show 2 ≤ sizeLine; decide), fun t nt => ?_⟩⟩
    obtain ⟨H2, e2, k2, g2⟩ := made (o := .tup [V.int (i % ((gs.length : Int) + 1)), .int (i / 12 % (ls.sum + 1))]) nt
    rw [e2]
    have a2 : i % ((gs.length : Int) + 1) ≤ (gs.length : Int) := by omega
    have b2 : i / 12 % (ls.sum + 1) ≤ ls.sum := by omega
    exact q H2 t (i % ((gs.length : Int) + 1), i / 12 % (ls.sum + 1)) k2 g2 (isPl_mk a0 a2 b0 b2)
def spTk (K : PySem.W.Frag) : Sp := fun vs H Q _ => ∃ (n : Addr) (ns : List Int) (a : Nat) (pa : Addr) (ls gs : List Int) (cs : List (Str × Int × Int)) (many : Nat), vs = [.ref n, .int (a : Int), .ref pa, .int (many : Int)] ∧ SqL K H n (ns.map V.int) ∧ Small ns ∧ a + 4 + many ≤ ns.length ∧ many ≤ 50 ∧ PartsAt H pa ls gs cs ∧ Valid ls gs cs ∧
  ∀ (H' : Hp) (t : Addr) (va vb : V) (l : Addr) (xs : List V) (st en : Pl) (ps : List Pl), Same H H' → H' t = some (.tup [va, vb, .ref l]) → Pr H' va st → Pr H' vb en → isCr ls gs st = true → isCr ls gs en = true → H l = none → H' l = some (.lst xs) → Prs H' xs ps → ps.Nodup → ps.length ≤ many → (∀ x ∈ ps, isPl ls gs x = true) → Q (.ref t) H'
theorem ok_tk {f : Addr} {fd : FuncData} (F : Fun K "_law_task" "_law_task" s__law_task f fd) (hint : mg "int" = none) (hrange : mg "range" = none) (Lc : TopD P w K mg base 3 "_law_cross" ["house", "number"] (spDraw isCr)) (Lp : TopD P w K mg base 1 "_law_place" ["house", "number"] (spDraw isPl)) : FnOk P w K mg base CX0 4 f fd ["numbers", "at", "house", "many"] (spTk K) := by
  refine F.ok sc__law_task (fun vs H Q E h => ?_) (fun cdv A outer s H vs Q E hr h => ?_)
  · obtain ⟨n, ns, a, pa, ls, gs, cs, many, rfl, _⟩ := h
    rfl
  · obtain ⟨n, ns, a, pa, ls, gs, cs, many, rfl, hn, hs, ha, hm, hP, va, q⟩ := h
    have nd := sc__law_task.nd
    have hline : 1000000 < sizeLine := by decide
    have sm := nth_small hs
    have a0 : (0 : Int) ≤ (a : Int) := Int.natCast_nonneg a
    have at_ : ∀ {i : Int}, 0 ≤ i → i < ns.length → atI (ns.map V.int) i = some (V.int (nth ns i)) := fun h0 h1 => atI_nth h0 h1
    refine ⟨_, (pss_cons (ps_set (i := 4) nd rfl (.inl rfl) (pe_call Lc.G (by exact hr.mono (by decide)) (by rfl) Lc.g Lc.kp Lc.b .nil pass0 (pa_cons (pv 2) (pa_cons (pe_ix ix_list (pv 0) (pv 1) (fun _ _ => rfl)) pa_nil))))
      (pss_cons (ps_set (i := 5) nd rfl (.inl rfl) (pv 4))
      (C8.pss_cut (ps_if (pt_cmpR op_eq (pe_op op_mod (pe_callTy call_int1 (by rfl) hint (by decide +kernel) (pa_cons (pe_ix ix_list (pv 0) (pe_op op_add (pv 1) pe_int) (fun _ _ => rfl)) pa_nil)) pe_int) pe_int (nomark _)) (pss_one (ps_set (i := 5) nd rfl (.inl rfl) (pe_call Lc.G (by exact hr.mono (by decide)) (by rfl) Lc.g Lc.kp Lc.b .nil pass0 (pa_cons (pv 2) (pa_cons (pe_ix ix_list (pv 0) (pe_op op_add (pv 1) pe_int) (fun _ _ => rfl)) pa_nil))))) pss_nil)
      (pss_cons (ps_set (i := 6) nd rfl (.inl rfl) (pe_lst pa_nil))
      (pss_cons (ps_for PassesOwn.never rfl (pi_range1 rfl hrange (pa_cons (pe_op op_mod (pe_callTy call_int1 (by rfl) hint (by decide +kernel) (pa_cons (pe_ix ix_list (pv 0) (pe_op op_add (pv 1) pe_int) (fun _ _ => rfl)) pa_nil)) (pe_op op_add (pv 3) pe_int)) pa_nil)) (pg_name (i := 7) nd rfl (.inl rfl)) (pss_cons (ps_set (i := 8) nd rfl (.inl rfl) (pe_call Lp.G (by exact hr.mono (by decide)) (by rfl) Lp.g Lp.kp Lp.b .nil pass0 (pa_cons (pv 2) (pa_cons (pe_ix ix_list (pv 0) (pe_op op_add (pe_op op_add (pv 1) pe_int) (pv 7)) (fun _ _ => rfl)) pa_nil))))
      (pss_one (ps_if (pt_cmpR (op_notInD (room65 hr)) (pv 8) (pv 6) (by rfl)) (pss_one (ps_expr (pe_bm PySem.F.plainAttrs_list PySem.F.slot_list_append PySem.F.type_list_append mt_append (pv 6) (pa_cons (pv 8) pa_nil)))) pss_nil))))
      (pss_one (ps_ret (pe_tup (pa_cons (pv 4) (pa_cons (pv 5) (pa_cons (pv 6) pa_nil))))))))))), ?_⟩
    refine ⟨_, rfl, _, rfl, _, rfl, n, _, _, _, rfl, rfl, hn, at_ a0 (by omega), pa, ls, gs, cs, _, rfl, hP, va, fun H1 ts st k1 hts cst => ?_⟩
    refine ⟨_, rfl, ?_⟩
    refine ⟨fun σ H' => ∃ (te : Addr) (en : Pl), σ = [some (.ref n), some (.int (a : Int)), some (.ref pa), some (.int (many : Int)), some (.ref ts), some (.ref te), none, none, none] ∧ Same H1 H' ∧ H' te = some (.tup [.int en.1, .int en.2]) ∧ isCr ls gs en = true, ?_, ?_⟩
    · refine ⟨_, rfl, _, rfl, _, _, rfl, rfl, n, _, _, _, rfl, rfl, k1.seq hn, at_ (by omega) (by omega), .inl ⟨_, rfl, _, _, rfl, rfl, (by show (0 : Int) < 2; decide), rfl, _, rfl, ?_⟩⟩
      refine ite2 (fun hc => ?_) (fun hc => ?_)
      · refine ⟨_, rfl, _, rfl, _, rfl, _, _, rfl, rfl, n, _, _, _, rfl, rfl, k1.seq hn, at_ (by omega) (by omega), pa, ls, gs, cs, _, rfl, hP.same k1, va, fun H2 te en k2 hte cen => ?_⟩
        exact ⟨te, en, rfl, k2, hte, cen⟩
      · exact ⟨ts, st, rfl, Same.refl _, hts, cst⟩
    rintro σ H2 ⟨te, en, rfl, k2, hte, cen⟩
    have k12 := k1.trans k2
    refine ⟨Nat.zero_le _, fun l nl => ?_⟩
    have kl : Same H2 (upd H2 l (.lst [])) := same_upd nl
    have kl2 := k12.trans kl
    have e0 := Int.emod_nonneg (nth ns ((a : Int) + 2)) (show ((many : Int) + 1) ≠ 0 by omega)
    have e1 := Int.emod_lt_of_pos (nth ns ((a : Int) + 2)) (show (0 : Int) < (many : Int) + 1 by omega)
    refine ⟨_, rfl, _, rfl, _, _, rfl, rfl, n, _, _, _, rfl, rfl, kl2.seq hn, at_ (by omega) (by omega), .inl ⟨_, rfl, _, rfl, _, _, rfl, rfl, _, _, rfl, rfl, (by show (0 : Int) < _; omega), _, rfl, by omega, by omega, ?_⟩⟩
    refine for_range (lo := 0) (n := (nth ns ((a : Int) + 2) % ((many : Int) + 1)).toNat) (fun i σ H' => ∃ (v7 v8 : Option V) (xs : List V) (ps : List Pl), σ = [some (.ref n), some (.int (a : Int)), some (.ref pa), some (.int (many : Int)), some (.ref ts), some (.ref te), some (.ref l), v7, v8] ∧ Same H2 H' ∧ H' l = some (.lst xs) ∧ Prs H' xs ps ∧ ps.Nodup ∧ ps.length ≤ i ∧ ∀ x ∈ ps, isPl ls gs x = true) ?_ ?_ ?_
    · exact ⟨none, none, [], [], rfl, kl, upd_same, .nil, .nil, Nat.le_refl _, fun _ z => nomatch z⟩
    · rintro i σ H3 hi ⟨v7, v8, xs, ps, rfl, k3, gl, px, pn, pl, po⟩
      have k03 := k12.trans k3
      refine ⟨_, rfl, _, rfl, _, rfl, _, _, rfl, rfl, _, rfl, _, _, rfl, rfl, n, _, _, _, rfl, rfl, k03.seq hn, at_ (by omega) (by omega), pa, ls, gs, cs, _, rfl, hP.same k03, va, fun H4 t z k4 ht hz => ?_⟩
      have gl4 := k4 _ _ gl
      have px4 := px.same k4
      have pz : Pr H4 (.ref t) z := ⟨t, rfl, ht⟩
      have hxl := px.len
      refine ⟨_, rfl, _, rfl, dP z, ps.map dP, pz.dp, px4.dl (SqL.of gl4), sh_dP z, sh_dL ps, _, rfl, ?_⟩
      rw [any_dP]
      refine ite2 (fun hc => ?_) (fun hc => ?_)
      · have hzn : z ∉ ps := fun m => by
          rw [decide_eq_true m] at hc
          cases hc
        refine ⟨_, rfl, Or.inl ⟨rfl, _, SqL.of gl4⟩, _, rfl, l, xs, _, rfl, rfl, gl4, (by omega), ?_⟩
        exact ⟨_, _, xs ++ [.ref t], ps ++ [z], rfl, Same.over (k3.trans k4) nl, upd_same, (px4.snoc pz).over gl4,
          List.nodup_append.mpr ⟨pn, List.nodup_cons.mpr ⟨by simp, .nil⟩, fun y hy y' hy' e => hzn (by rw [List.mem_singleton.mp hy'] at e; rw [← e]; exact hy)⟩, by rw [List.length_append]; show ps.length + 1 ≤ i + 1; omega, fun x hx => by
            rcases List.mem_append.mp hx with hx | hx
            · exact po x hx
            · rw [List.mem_singleton.mp hx]
              exact hz⟩
      · exact ⟨_, _, xs, ps, rfl, k3.trans k4, gl4, px4, pn, by omega, po⟩
    · rintro σ H3 ⟨v7, v8, xs, ps, rfl, k3, gl, px, pn, pl, po⟩
      refine ⟨_, rfl, _, rfl, _, rfl, (by show 3 ≤ sizeLine; decide), fun t nt => ?_⟩
      obtain ⟨H4, e4, k4, g4⟩ := made (o := .tup [V.ref ts, .ref te, .ref l]) nt
      rw [e4]
      have k24 := k3.trans k4
      exact q H4 t (.ref ts) (.ref te) l xs st en ps (k12.trans k24) g4 ⟨ts, rfl, k24 _ _ (k2 _ _ hts)⟩ ⟨te, rfl, k24 _ _ hte⟩ cst cen (k12.free nl) (k4 _ _ gl) (px.same k4) pn (by omega) po
/-- what is needed to make houses -/
structure MakeH (P : Program) (w : World) (K : PySem.W.Frag) (mg : Str → Option Value) (base : Heap) where
  C : Addr
  CI : Addr
  TL : Addr
  TI : Addr
  fI : Addr
  fdI : FuncData
  M : Mk K C fI
  GI : FnOk P w K mg base (L2.CX P w) 5 fI fdI ["self", "lengths", "gaps", "closed"] (spHouse K C CI TL TI)
  bI : Binds K fdI ["self", "lengths", "gaps", "closed"] []
  mgC : mg "House" = some (.ref C)
def spMd (C CT TL TI : Addr) : Sp := fun vs H Q _ => ∃ (p t : Addr) (ls gs : List Int) (cs : List (Str × Int × Int)) (va vb : V) (l : Addr) (xs : List V) (st en : Pl) (ps : List Pl), vs = [.ref p, .ref t] ∧ PartsAt H p ls gs cs ∧ Valid ls gs cs ∧ H t = some (.tup [va, vb, .ref l]) ∧ Pr H va st ∧ Pr H vb en ∧ H l = some (.lst xs) ∧ Prs H xs ps ∧ ps.Nodup ∧ ps.length ≤ 60 ∧ TabG H TL ∧ TabG H TI ∧
  ∀ (H' : Hp) (r h e : Addr), Kp H H' → H' r = some (.tup [.ref h, .ref e]) → HouseAt C H' h ls gs cs → TaskAt CT H' e st en (sortP ps) → Q (.ref r) H'
theorem ok_md {f fT CT CIT : Addr} {fd fdT : FuncData} (F : Fun K "_law_made" "_law_made" s__law_made f fd) (Z : MakeH P w K mg base) (MT : Mk K CT fT) (GT : FnOk P w K mg base (L2.CX P w) 2 fT fdT ["self", "start", "end", "picks"] (spTask K CT CIT)) (bT : Binds K fdT ["self", "start", "end", "picks"] []) (mgT : mg "Task" = some (.ref CT)) : FnOk P w K mg base CX0 7 f fd ["house", "task"] (spMd Z.C CT Z.TL Z.TI) := by
  refine F.ok sc__law_made (fun vs H Q E h => ?_) (fun cdv A outer s H vs Q E hr h => ?_)
  · obtain ⟨p, t, ls, gs, cs, va, vb, l, xs, st, en, ps, rfl, _⟩ := h
    rfl
  · obtain ⟨p, t, ls, gs, cs, va, vb, l, xs, st, en, ps, rfl, ⟨hl, hg, hc, ks, hp, gl, gg, gc, hk⟩, vv, ht, pa, pb, gl2, px, pn, p60, tL, tI, q⟩ := h
    have nd := sc__law_made.nd
    have w1 := vv.1.1.2
    have w2 := vv.2.1.1
    have w3 := vv.2.2.1
    refine ⟨_, (pss_one (ps_ret (pe_tup (pa_cons (pe_make Z.M Z.GI (by exact hr.mono (by decide)) (by rfl) Z.mgC Z.bI .nil (passes_call takes0 fun _ _ _ _ h => h) (pa_cons (pe_ix ix_tup (pv 0) pe_int (fun _ _ => rfl)) (pa_cons (pe_ix ix_tup (pv 0) pe_int (fun _ _ => rfl)) (pa_cons (pe_ix ix_tup (pv 0) pe_int (fun _ _ => rfl)) pa_nil)))) (pa_cons (pe_make MT GT (by exact hr.mono (by decide)) (by rfl) mgT bT .nil (passes_call takes0 fun _ _ _ _ h => h) (pa_cons (pe_ix ix_tup (pv 1) pe_int (fun _ _ => rfl)) (pa_cons (pe_ix ix_tup (pv 1) pe_int (fun _ _ => rfl)) (pa_cons (pe_ix ix_tup (pv 1) pe_int (fun _ _ => rfl)) pa_nil)))) pa_nil))))), ?_⟩
    refine ⟨_, rfl, p, _, _, _, rfl, rfl, SqT.of hp, rfl, _, rfl, p, _, _, _, rfl, rfl, SqT.of hp, rfl, _, rfl, p, _, _, _, rfl, rfl, SqT.of hp, rfl, fun x dx nx ndx ne => ?_⟩
    have kM : Same H (upd (upd H dx (.own x)) x (.ins Z.C dx [])) := fun b z e => by
      rw [upd_ne (ne_of_none e nx), upd_ne (ne_of_none e ndx)]
      exact e
    refine ⟨x, dx, hl, hg, hc, ls, gs, ks, cs, rfl, upd_same, SqL.of (kM _ _ gl), SqL.of (kM _ _ gg), SqL.of (kM _ _ gc), hk.same kM, by omega, by omega, by omega, (kpS kM).tab _ tL, (kpS kM).tab _ tI, fun _ C1 hH kb _ => ⟨rfl, ?_⟩, fun nv => absurd vv nv⟩
    have c1 : Kp H C1 := mkKp nx ndx kb
    have ht1 := c1.tup ht
    refine ⟨_, rfl, t, _, _, _, rfl, rfl, SqT.of ht1, rfl, _, rfl, t, _, _, _, rfl, rfl, SqT.of ht1, rfl, _, rfl, t, _, _, _, rfl, rfl, SqT.of ht1, rfl, fun y dy ny ndy ney => ?_⟩
    have k5 := mkSame (o := .ins CT dy []) (u := .own y) ny ndy
    refine ⟨y, dy, l, va, vb, st, en, xs, ps, rfl, upd_same, (pa.kp c1).same k5, (pb.kp c1).same k5, SqL.of (k5 _ _ (c1.lst gl2)), (px.kp c1).same k5, by omega, fun _ _ H6 hT6 hb6 _ => ⟨rfl, ?_⟩, fun hbad => (hbad ⟨p60, pn⟩).elim⟩
    have c6 := mkBut ny ndy hb6
    refine ⟨(by show 2 ≤ sizeLine; decide), fun r nr => ?_⟩
    obtain ⟨H7, e7, k7, g7⟩ := made (o := .tup [V.ref x, .ref y]) nr
    rw [e7]
    exact q H7 r x y ((c1.trans (kpS c6)).trans (kpS k7)) g7 (hH.kp (kpS (c6.trans k7))) (hT6.same k7)
end
section
open GxR NdefX PySem.Spec PyProof.Rows
variable {P : Program} {w : World} {K : PySem.W.Frag} {mg : Str → Option Value} {base : Heap}
structure HD where
  ls : List Int
  gs : List Int
  cs : List (Str × Int × Int)
structure TD where
  st : Pl
  en : Pl
  ps : List Pl
theorem TaskAt.kp {C : Addr} {H H' : Hp} {p : Addr} {st en : Pl} {ps : List Pl} (h : TaskAt C H p st en ps) (k : Kp H H') : TaskAt C H' p st en ps := by
  obtain ⟨dx, l, a, b, xs, h1, h2, h3, h4, h5, h6⟩ := h
  exact ⟨dx, l, a, b, xs, k.ins h1, h2.kp k, h3.kp k, k.lst h4, h5.kp k, h6⟩
def RHouse (C : Addr) (h : HD) : Rel := ⟨fun H v => ∃ p, v = .ref p ∧ HouseAt C H p h.ls h.gs h.cs, fun k ⟨p, e, q⟩ => ⟨p, e, q.kp k⟩⟩
def RTask (C : Addr) (t : TD) : Rel := ⟨fun H v => ∃ p, v = .ref p ∧ TaskAt C H p t.st t.en t.ps, fun k ⟨p, e, q⟩ => ⟨p, e, q.kp k⟩⟩
theorem hi_house {C : Addr} {h : HD} {m : Str} (n1 : ¬ m = "_lengths") (n2 : ¬ m = "_gaps") (n3 : ¬ m = "_crosses") (n4 : ¬ m = "_top") (n5 : ¬ m = "_closed") (H : Hp) (v : V) (r : (RHouse C h).p H v) : ∃ a dx fs, v = .ref a ∧ H a = some (.ins C dx fs) ∧ fs.lookup m = none := by
  obtain ⟨p, rfl, hv, dx, l, g, c, d, h1, _⟩ := r
  exact ⟨p, dx, _, rfl, h1, hf_no _ _ _ _ _ n1 n2 n3 n4 n5⟩
theorem Dt.pr {H : Hp} {v : V} {p : Pl} (h : Dt H v (dP p)) : Pr H v p := by
  cases h with
  | tup e a =>
    cases a with
    | cons a1 a =>
      cases a with
      | cons a2 a =>
        cases a
        cases a1
        cases a2
        exact ⟨_, rfl, e⟩
theorem Pr.dt {H : Hp} {v : V} {p : Pl} (h : Pr H v p) : Dt H v (dP p) := by
  obtain ⟨t, rfl, e⟩ := h
  exact .tup e (.cons (.int _) (.cons (.int _) .nil))
theorem Prs.dt {H : Hp} {vs : List V} {ps : List Pl} (h : Prs H vs ps) : DtAll H vs (ps.map dP) := by
  induction h with
  | nil => exact .nil
  | cons a _ ih => exact .cons a.dt ih
theorem DtAll.prs {H : Hp} : ∀ {vs : List V} {ps : List Pl}, DtAll H vs (ps.map dP) → Prs H vs ps
  | [], [], _ => .nil
  | [], _ :: _, h => by cases h
  | _ :: _, [], h => by cases h
  | _ :: _, _ :: _, .cons a b => .cons a.pr b.prs
theorem Dt.kr {H : Hp} {v : V} {c : Str × Int × Int} (h : Dt H v (dLk c)) : Kr H v (lkC c) := by
  cases h with
  | tup e a =>
    cases a with
    | cons a1 a =>
      cases a with
      | cons a2 a =>
        cases a with
        | cons a3 a =>
          cases a
          cases a1
          cases a2
          cases a3
          exact ⟨_, rfl, e⟩
theorem Kr.dt {H : Hp} {v : V} {c : Str × Int × Int} (h : Kr H v (lkC c)) : Dt H v (dLk c) := by
  obtain ⟨t, rfl, e⟩ := h
  exact .tup e (.cons (.str _) (.cons (.int _) (.cons (.int _) .nil)))
theorem Krs.dt {H : Hp} : ∀ {vs : List V} {cs : List (Str × Int × Int)}, Krs H vs (kOf cs) → DtAll H vs (cs.map dLk)
  | [], [], _ => .nil
  | [], _ :: _, h => by cases h
  | _ :: _, [], h => by cases h
  | _ :: _, _ :: _, .cons a b => .cons (Kr.dt a) (Krs.dt b)
theorem DtAll.krs {H : Hp} : ∀ {vs : List V} {cs : List (Str × Int × Int)}, DtAll H vs (cs.map dLk) → Krs H vs (kOf cs)
  | [], [], _ => .nil
  | [], _ :: _, h => by cases h
  | _ :: _, [], h => by cases h
  | _ :: _, _ :: _, .cons a b => .cons a.kr b.krs
theorem flats_map {α : Type} {f : α → PyData} (h : ∀ a, flat (f a) = true) : ∀ xs : List α, flats (xs.map f) = true
  | [] => rfl
  | x :: xs => by
    show (flat (f x) && flats (xs.map f)) = true
    rw [h x, flats_map h xs]
    rfl
theorem sok_nums {C : Addr} {h : HD} (f : List Int → List Int → List Int) : Sok (spNums C f) [RHouse C h] (fun _ => True) (RD (.list ((f h.ls h.gs).map PyData.int))) := fun H om vs ho hr _ Q E q => by
  obtain ⟨v, r, rfl, ⟨p, rfl, hH⟩, rfl⟩ := hr
  refine ⟨p, h.ls, h.gs, h.cs, rfl, hH.kp kp_less, fun r n => q _ _ (kp_new n) ?_⟩
  rw [new_at ho n]
  exact .lst upd_same (DtAll.ofInts _)
theorem sok_check {C CT CP : Addr} {h : HD} {t : TD} : Sok (spCheck CT C CP) [RHouse C h, RTask CT t] (fun _ => wrongP h.ls h.gs t.st t.en t.ps = none) (RD .none) := fun H om vs ho hr hw Q E q => by
  obtain ⟨v, r, rfl, ⟨p, rfl, hH⟩, u, r', rfl, ⟨p', rfl, hT⟩, rfl⟩ := hr
  exact ⟨p, p', h.ls, h.gs, h.cs, t.st, t.en, t.ps, rfl, hH.kp kp_less, hT.kp kp_less, fun _ H' k => q H' _ (kpS k) .non, fun a z => by rw [hw] at z; cases z⟩
end
section
open GxR NdefX PySem.Spec PyProof.Rows
variable {P : Program} {w : World} {K : PySem.W.Frag} {mg : Str → Option Value} {base : Heap} {b : Bool} {c : Ct} {te : TE} {ta : TA} {R R0 : Rel}
/-- a field -/
theorem e_fld {f : Str} {C : Addr} (cl : Cls K C) (no : NoAttr K C f) (h : ∀ H v, R0.p H v → ∃ a dx fs u, v = .ref a ∧ H a = some (.ins C dx fs) ∧ fs.lookup f = some u ∧ R.p H u) (ho : E b c te R0) : E b c (tFld K te f) R := fun σ H s Q q =>
  ho σ H s _ fun H1 x k1 r1 => by
    obtain ⟨a, dx, fs, u, rfl, e, l, r⟩ := h _ _ r1
    exact ⟨a, C, dx, fs, u, rfl, (less_some e).2, cl, no, l, q H1 u k1 r⟩
theorem fld_start {C : Addr} {t : TD} (H : Hp) (v : V) (r : (RTask C t).p H v) : ∃ a dx fs u, v = .ref a ∧ H a = some (.ins C dx fs) ∧ fs.lookup ("start" : Str) = some u ∧ (RD (dP t.st)).p H u := by
  obtain ⟨p, rfl, dx, l, a, b, xs, h1, h2, h3, h4, h5, h6⟩ := r
  exact ⟨p, dx, _, a, rfl, h1, tf_start a b l, h2.dt⟩
theorem fld_end {C : Addr} {t : TD} (H : Hp) (v : V) (r : (RTask C t).p H v) : ∃ a dx fs u, v = .ref a ∧ H a = some (.ins C dx fs) ∧ fs.lookup ("end" : Str) = some u ∧ (RD (dP t.en)).p H u := by
  obtain ⟨p, rfl, dx, l, a, b, xs, h1, h2, h3, h4, h5, h6⟩ := r
  exact ⟨p, dx, _, b, rfl, h1, tf_end a b l, h3.dt⟩
theorem Pr.less {H : Hp} {M : Addr → Prop} (hM : ∀ a, M a → ∃ o, H a = some o ∧ Mut (some o)) {v : V} {p : Pl} (h : Pr H v p) : Pr (less H M) v p := (Dt.less hM h.dt rfl).pr
theorem Prs.less {H : Hp} {M : Addr → Prop} (hM : ∀ a, M a → ∃ o, H a = some o ∧ Mut (some o)) {vs : List V} {ps : List Pl} (h : Prs H vs ps) : Prs (less H M) vs ps := (DtAll.less hM h.dt (flats_map (fun _ => rfl) _)).prs
/-- Task(start, end, picks) -/
theorem e_mkTask {C CI : Addr} {E' : XK} {st en : Pl} {ps : List Pl} (h60 : ps.length ≤ 60) (nd : ps.Nodup) (ha : EA true c ta [RD (dP st), RD (dP en), RD (.list (ps.map dP))]) : E true c (tMake C (spTask K C CI) [] E' ta) (RTask C ⟨st, en, sortP ps⟩) := fun σ H s Q q =>
  ha σ H s _ fun H1 vs k1 r1 => fun x dx nx ndx ne => by
    obtain ⟨va, r, rfl, h1, vb, r', rfl, h2, vl, r'', rfl, h3, rfl⟩ := r1
    have s1 := s.kp k1
    have up : ∀ {v : V} {d : PyData}, Dt (hb true c σ H1) v d → Dt H1 v d := fun d => d.kp kp_less
    have k5 := mkSame (o := .ins C dx []) (u := .own x) nx ndx
    cases up h3 with
    | @lst l xs _ e a =>
      refine ⟨x, dx, l, va, vb, st, en, xs, ps, rfl, upd_same, (up h1).pr.same k5, (up h2).pr.same k5, SqL.of (k5 _ _ e), a.prs.same k5, by omega, fun _ _ H6 hT hb6 hr => ⟨rfl, ?_⟩, fun bad => absurd ⟨h60, nd⟩ bad⟩
      have c6 := mkBut nx ndx hb6
      have s6 := s1.kp (kpS c6)
      refine q H6 _ (k1.trans (kpS c6)) ⟨x, rfl, ?_⟩
      obtain ⟨dx', l', a', b', ys, e1, pa, pb, el, px, rest⟩ := hT
      have nl : H1 l' = none := by
        have z := hr dx' a' b' l' e1
        by_cases w1 : l' = x
        · rw [w1, upd_same] at z
          cases z
        · rw [upd_ne w1] at z
          by_cases w2 : l' = dx
          · rw [w2, upd_same] at z
            cases z
          · rw [upd_ne w2] at z
            exact z
      have hid : ∀ a, msk true c σ a → ∃ o, H6 a = some o ∧ Mut (some o) := fun a m => s6.hides a m
      have out : ∀ {a : Addr}, H1 a = none → ¬ msk true c σ a := fun n m => by
        obtain ⟨o, e, _⟩ := s1.hides _ m
        rw [n] at e
        cases e
      exact ⟨dx', l', a', b', ys, by rw [hb, less_out (out nx)]; exact e1, pa.less hid, pb.less hid, by rw [hb, less_out (out nl)]; exact el, px.less hid, rest⟩
end
section
open GxR NdefX PySem.Spec PyProof.Rows
variable {P : Program} {w : World} {K : PySem.W.Frag} {mg : Str → Option Value} {base : Heap}
abbrev dHT (ls gs : List Int) (cs : List (Str × Int × Int)) : PyData := eT3 (eL PyData.int) (eL PyData.int) (eL dLk) (ls, gs, cs)
theorem PartsAt.dt {H : Hp} {p : Addr} {ls gs : List Int} {cs : List (Str × Int × Int)} (h : PartsAt H p ls gs cs) : Dt H (.ref p) (dHT ls gs cs) := by
  obtain ⟨l, g, c, xs, h1, h2, h3, h4, h5⟩ := h
  exact .tup h1 (.cons (.lst h2 (DtAll.ofInts _)) (.cons (.lst h3 (DtAll.ofInts _)) (.cons (.lst h4 h5.dt) .nil)))
theorem ints_of {H : Hp} : ∀ {vs : List V} {ns : List Int}, DtAll H vs (ns.map PyData.int) → vs = ns.map V.int
  | [], [], _ => rfl
  | [], _ :: _, h => by cases h
  | _ :: _, [], h => by cases h
  | _ :: _, _ :: _, .cons a b => by
    cases a
    rw [ints_of b]
    rfl
theorem Dt.parts {H : Hp} {v : V} {ls gs : List Int} {cs : List (Str × Int × Int)} (h : Dt H v (dHT ls gs cs)) : ∃ p, v = .ref p ∧ PartsAt H p ls gs cs := by
  cases h with
  | tup e a =>
    cases a with
    | cons a1 a =>
      cases a with
      | cons a2 a =>
        cases a with
        | cons a3 a =>
          cases a
          cases a1 with
          | lst e1 b1 =>
            cases a2 with
            | lst e2 b2 =>
              cases a3 with
              | lst e3 b3 =>
                have z1 := ints_of b1
                have z2 := ints_of b2
                subst z1
                subst z2
                exact ⟨_, rfl, _, _, _, _, e, e1, e2, e3, b3.krs⟩
theorem Dt.nums {H : Hp} {v : V} {ns : List Int} (h : Dt H v (.list (ns.map PyData.int))) : ∃ p, v = .ref p ∧ H p = some (.lst (ns.map V.int)) := by
  cases h with
  | lst e a =>
    have z := ints_of a
    subst z
    exact ⟨_, rfl, e⟩
theorem skx_numbers {ns0 : List Int} {m : Nat} : Skx0 (spNumbers K) [RScr K ns0, RD (.int (m : Int))] (fun _ => ns0.length ≤ 63 ∧ m ≤ 200) (fun ns : List Int => RD (.list (ns.map PyData.int))) (fun ns => ns.length = m ∧ Small ns) := fun H vs hr hp Q E q => by
  obtain ⟨v, r, rfl, ⟨a, rfl, h1⟩, u, r', rfl, h2, rfl⟩ := hr
  cases h2
  exact ⟨a, ns0, m, rfl, h1, hp.1, hp.2, fun H' p ns k n e el sm => q H' _ ns (kpS k) ⟨el, sm⟩ (.lst e (DtAll.ofInts _))⟩
/-- the words of links, the numbers of a drawn house -/
structure Drawn (most : Nat) (x : List Int × List Int × List (Str × Int × Int)) : Prop where
  v : Valid x.1 x.2.1 x.2.2
  c4 : x.2.2.length ≤ 4
  gl : x.2.1.length < most
  wd : ∀ c ∈ x.2.2, c.1 = "up" ∨ c.1 = "over"
theorem skx_house {ns : List Int} {a many most : Nat} : Skx0 (spHs K) [RD (.list (ns.map PyData.int)), RD (.int (a : Int)), RD (.int (many : Int)), RD (.int (most : Int))] (fun _ => Small ns ∧ a + 24 ≤ ns.length ∧ 1 ≤ many ∧ many ≤ 12 ∧ 1 ≤ most ∧ most ≤ 40)
    (fun x : List Int × List Int × List (Str × Int × Int) => RD (dHT x.1 x.2.1 x.2.2)) (Drawn many) := fun H vs hr hp Q E q => by
  obtain ⟨v, r, rfl, h1, u, r', rfl, h2, u3, r3, rfl, h3, u4, r4, rfl, h4, rfl⟩ := hr
  obtain ⟨p, rfl, j1⟩ := Dt.nums h1
  cases h2
  cases h3
  cases h4
  obtain ⟨b1, b2, b3, b4, b5, b6⟩ := hp
  exact ⟨p, ns, a, many, most, rfl, SqL.of j1, b1, b2, b3, b4, b5, b6, fun H' t ls gs cs k pa va c4 gl cw => q H' _ (ls, gs, cs) (kpS k) ⟨va, c4, gl, cw⟩ pa.dt⟩
/-- what is drawn for a task -/
structure DTask (ls gs : List Int) (many : Nat) (st en : Pl) (ps : List Pl) : Prop where
  cs : isCr ls gs st = true
  ce : isCr ls gs en = true
  nd : ps.Nodup
  le : ps.length ≤ many
  pl : ∀ x ∈ ps, isPl ls gs x = true
theorem task_call {hs h0 : Hp} {g : List Slot} {ta : TA} {E' : XK} {ns : List Int} {a many : Nat} {ls gs : List Int} {cs : List (Str × Int × Int)} (ha : EA true ⟨hs, h0, fun _ => False, g⟩ ta [RD (.list (ns.map PyData.int)), RD (.int (a : Int)), RD (dHT ls gs cs), RD (.int (many : Int))])
    (hp : Small ns ∧ a + 4 + many ≤ ns.length ∧ many ≤ 50 ∧ Valid ls gs cs) (no : noOwn g = true := by rfl) :
    ∀ σ H, Sta ⟨hs, h0, fun _ => False, g⟩ σ H → ∀ Q : VK, (∀ H1 H' t va vb l xs st en ps, Kp H H1 → Kp H1 H' → H' t = some (.tup [va, vb, .ref l]) → Pr H' va st → Pr H' vb en → H1 l = none → H' l = some (.lst xs) → Prs H' xs ps → DTask ls gs many st en ps → Q (.ref t) H') → tCall (spTk K) [] E' ta σ H Q := fun σ H s Q q => ha σ H s _ fun H1 vs k1 r1 => by
  rw [List.append_nil]
  rw [hb_t, bas_all no] at r1
  obtain ⟨v, r, rfl, h1, u, r', rfl, h2, u3, r3, rfl, h3, u4, r4, rfl, h4, rfl⟩ := r1
  obtain ⟨p, rfl, j1⟩ := Dt.nums h1
  obtain ⟨ph, rfl, j3⟩ := Dt.parts h3
  cases h2
  cases h4
  exact ⟨p, ns, a, ph, ls, gs, cs, many, rfl, SqL.of j1, hp.1, hp.2.1, hp.2.2.1, j3, hp.2.2.2, fun H' t va vb l xs st en ps k et pa pb c1 c2 nl el px nd le po => q H1 H' t va vb l xs st en ps k1 (kpS k) et pa pb nl el px ⟨c1, c2, nd, le, po⟩⟩
theorem skx_made {C CT TL TI : Addr} {ls gs : List Int} {cs : List (Str × Int × Int)} {st en : Pl} {ps : List Pl} : Skx0 (spMd C CT TL TI) [RD (dHT ls gs cs), RD (eT3 dP dP (eL dP) (st, en, ps))] (fun H => Valid ls gs cs ∧ ps.Nodup ∧ ps.length ≤ 60 ∧ TabG H TL ∧ TabG H TI)
    (fun _ : Unit => RT2 (RHouse C ⟨ls, gs, cs⟩) (RTask CT ⟨st, en, sortP ps⟩)) (fun _ => True) := fun H vs hr hp Q E q => by
  obtain ⟨v, r, rfl, h1, u, r', rfl, h2, rfl⟩ := hr
  obtain ⟨p, rfl, j1⟩ := Dt.parts h1
  cases h2 with
  | tup e a =>
    cases a with
    | cons a1 a =>
      cases a with
      | cons a2 a =>
        cases a with
        | cons a3 a =>
          cases a
          cases a3 with
          | lst e3 b3 =>
            exact ⟨p, _, ls, gs, cs, _, _, _, _, st, en, ps, rfl, j1, hp.1, e, a1.pr, a2.pr, e3, b3.prs, hp.2.1, hp.2.2.1, hp.2.2.2.1, hp.2.2.2.2, fun H' r h e k er hh ht => q H' _ () k trivial ⟨r, _, _, rfl, er, ⟨h, rfl, hh⟩, e, rfl, ht⟩⟩
theorem wrong_none {ls gs : List Int} {st en : Pl} {ps : List Pl} (h1 : isCr ls gs st = true) (h2 : isCr ls gs en = true) (po : ∀ y ∈ ps, isPl ls gs y = true) : wrongP ls gs st en (sortP ps) = none := by
  unfold wrongP
  have e1 : ([st, en].find? fun p => !isCr ls gs p) = none := by simp [h1, h2]
  rw [e1, Option.none_or, List.find?_eq_none]
  intro x hx
  rw [po x (sortP_mem.mp hx)]
  simp
end
section
open GxR NdefX PySem.Spec PyProof.Rows
variable {P : Program} {w : World} {K : PySem.W.Frag} {mg : Str → Option Value} {base : Heap}
theorem dt_pairs {α : Type} {f : α → PyData} {H : Hp} : ∀ {L : List (V × α)}, (∀ p ∈ L, Dt H p.1 (f p.2)) → DtAll H (L.map (·.1)) ((L.map (·.2)).map f)
  | [], _ => .nil
  | x :: L, h => .cons (h x (.head _)) (dt_pairs fun p hp => h p (.tail _ hp))
theorem pairs_dt {α : Type} {f : α → PyData} {H : Hp} : ∀ {vs : List V} {xs : List α}, DtAll H vs (xs.map f) → ∃ L : List (V × α), L.map (·.1) = vs ∧ L.map (·.2) = xs ∧ ∀ p ∈ L, Dt H p.1 (f p.2)
  | [], [], _ => ⟨[], rfl, rfl, fun _ h => nomatch h⟩
  | [], _ :: _, h => by cases h
  | _ :: _, [], h => by cases h
  | v :: vs, x :: xs, .cons a h => by
    obtain ⟨L, e1, e2, h⟩ := pairs_dt h
    exact ⟨(v, x) :: L, by rw [List.map_cons, e1], by rw [List.map_cons, e2], fun p hp => by
      rcases List.mem_cons.mp hp with z | z
      · rw [z]; exact a
      · exact h p z⟩
end
section
open GxR NdefX PySem.Spec PyProof.Rows
variable {P : Program} {w : World} {K : PySem.W.Frag} {b : Bool} {c : Ct} {ta tb : TE} {α : Type} {enc : α → PyData} {lt : α → α → Bool}
def sortO (lt : α → α → Bool) (xs : List α) : List α := xs.mergeSort fun x y => !lt y x
theorem sortO_len {xs : List α} : (sortO lt xs).length = xs.length := (List.mergeSort_perm _ _).length_eq
theorem n_sortO (O : OrdD enc lt) {xs : List α} (h : EI c ta (xs.map enc)) : EN c (tCB (rSortO K enc lt) (tCons ta tNil)) (OL ((sortO lt xs).map enc)) := fun σ H s Q q =>
  h σ H s _ fun H1 a vs k1 e1 r1 => by
    obtain ⟨L, rfl, rfl, hL⟩ := pairs_dt r1
    refine ⟨a, L, rfl, e1, fun p hp => (Dt.kp kp_less (hL p hp)).dp (O.nod _), fun p n => q H1 p _ k1 n ⟨_, rfl, ?_⟩⟩
    have e : sortO lt (L.map (·.2)) = (L.mergeSort fun x y => !lt y.2 x.2).map (·.2) := (List.map_mergeSort (f := fun p : V × α => p.2) fun a _ b _ => rfl).symm
    rw [e]
    exact dt_pairs fun p hp => hL p ((List.mergeSort_perm _ _).mem_iff.mp hp)
end
section
open GxR NdefX PySem.Spec PyProof.Rows
variable {P : Program} {w : World} {K : PySem.W.Frag} {mg : Str → Option Value} {base : Heap}
abbrev KS := List Pl
abbrev Kd := Str ⊕ KS
def dKd : Kd → PyData
  | .inl x => .str x
  | .inr k => .tuple (k.map dP)
def OkKd : Kd → Prop
  | .inl x => PyData.strOk x = true
  | .inr _ => True
theorem enc_Kd : Enc dKd 2 OkKd := by
  have hl := enc_tupl enc_P
  refine ⟨fun a b => ?_, fun a h => ?_, fun a => ?_, fun a => ?_⟩
  · cases a with
    | inl x =>
      cases b with
      | inl y => show PyData.eqv (.str x) (.str y) = _; rw [enc_str.eqv]; exact decide_eq_decide.mpr ⟨fun e => by rw [e], fun e => by injection e⟩
      | inr k => exact (decide_eq_false (fun e => by cases e)).symm
    | inr k =>
      cases b with
      | inl y => exact (decide_eq_false (fun e => by cases e)).symm
      | inr l => show PyData.eqv (.tuple (k.map dP)) (.tuple (l.map dP)) = _; rw [hl.eqv]; exact decide_eq_decide.mpr ⟨fun e => by rw [e], fun e => by injection e⟩
  · cases a with
    | inl x => exact h
    | inr k => exact hl.lay k fun _ _ => ⟨trivial, trivial⟩
  · cases a with
    | inl x => exact Nat.zero_le _
    | inr k => exact hl.dep k
  · cases a with
    | inl x => rfl
    | inr k => exact hl.nod k
/-- small rows -/
def KOk (k : KS) : Prop := k.length ≤ 100 ∧ ∀ p ∈ k, 0 ≤ p.2 ∧ p.2 ≤ 1000
def mxG (k : KS) : Int := maxI 0 (k.map (·.2))
theorem foldl_max {a b : Int} : ∀ {ns : List Int} {n : Int}, (a ≤ n ∧ n ≤ b) → (∀ m ∈ ns, a ≤ m ∧ m ≤ b) → a ≤ ns.foldl max n ∧ ns.foldl max n ≤ b
  | [], _, h, _ => h
  | m :: ns, n, h, g => by
    rw [List.foldl_cons]
    have := g m (.head _)
    exact foldl_max (by omega) fun y hy => g y (.tail _ hy)
theorem mxG_bd {k : KS} (h : KOk k) : 0 ≤ mxG k ∧ mxG k ≤ 1000 := by
  unfold mxG
  cases k with
  | nil => exact ⟨by decide, by decide⟩
  | cons p k =>
    refine foldl_max (h.2 p (.head _)) fun m hm => ?_
    obtain ⟨q, hq, rfl⟩ := List.mem_map.mp hm
    exact h.2 q (.tail _ hq)
def rowsB (k : KS) : List Pl := [((0 : Int), (0 : Int))] ++ ([(1 : Int), 2].flatMap fun n => (rgI 1 (mxG k + 1 + 1 - 1).toNat).map fun g => (n, g))
theorem rgI_len {lo : Int} {n : Nat} : (rgI lo n).length = n := by unfold rgI; rw [List.length_map, List.length_range]
theorem ok_rows {f : Addr} {fd : FuncData} (F : Fun K "_rows_behind" "_rows_behind" s__rows_behind f fd) (z_max : mg "max" = none) (z_range : mg "range" = none) : FnOk P w K mg base CX0 1 f fd ["kind"] (SpN (fun k : KS => [RD (.tuple (k.map dP))]) (fun k _ => KOk k) fun k => OL ((rowsB k).map dP)) := by
  refine fn_okN F sc__rows_behind (fun _ => rfl) fun cdv A outer s H E0 hr => ?_
  have nd := sc__rows_behind.nd
  refine ⟨_, (pss_cons (ps_set (i := 1) nd rfl (.inr rfl) (pe_op op_add (pe_callBK (crk_max rfl (by exact hr.units)) (by rfl) z_max (by decide +kernel) (pa_cons (pe_lc (own := [("_", 2), ("group", 3)]) (g := gTup K 2 (gCons (gName 2) (gCons (gName 3) gNil))) (tt := tYes) rfl nd (pi_tup (pv 0)) (blkOk_by (N := ["kind", "newest", "_", "group", "number"]) (sc := defScope s__rows_behind) (by decide +kernel))
        (fun _ _ _ _ _ => (show PG _ _ (gTup K 2 (gCons (gName 2) (gCons (gName 3) gNil))) from pg_tup rfl (pgs_cons (pg_name (i := 2) nd rfl (.inl rfl)) (pgs_cons (pg_name (i := 3) nd rfl (.inl rfl)) pgs_nil)))) (fun _ _ _ _ _ => pts_nil) (fun _ _ _ _ _ => pv 3)) pa_nil) (pk_cons pe_int pk_nil)) pe_int))
      (pss_one (ps_ret (pe_op op_cat (pe_lst (pa_cons (pe_tup (pa_cons pe_int (pa_cons pe_int pa_nil))) pa_nil))
        (pe_lc2 (own := [("number", 4), ("group", 3)]) (vs1 := [3]) (g := gName 4) (g1 := gName 3) (tt := tYes) (tt1 := tYes) rfl nd (pi_tup (pe_tup (pa_cons pe_int (pa_cons pe_int pa_nil)))) (blkOk_by (N := ["kind", "newest", "_", "group", "number"]) (sc := defScope s__rows_behind) (by decide +kernel)) (by decide) (fun _ _ _ _ _ => pg_name (i := 4) nd rfl (.inl rfl)) (fun _ _ _ _ _ => pts_nil)
          (fun _ _ _ _ _ => (pi_range2 rfl z_range (pa_cons pe_int (pa_cons (pe_op (r := rI0 fun i j => .int (i + j)) op_add (pv 1) pe_int) pa_nil)))) (fun _ _ _ _ _ => pg_name (i := 3) nd rfl (.inl rfl)) (fun _ _ _ _ _ => pts_nil) (fun _ _ _ _ _ => pe_tup (pa_cons (pv 4) (pa_cons (pv 3) pa_nil)))))))), ?_⟩
  rintro k hs om Q hk q
  show WC ⟨hs, less hs om, om, [.fz (RD (.tuple (k.map dP))), .any, .any, .any, .any]⟩ _
  replace hk : KOk k := hk
  have bd := mxG_bd hk
  have kl := hk.1
  refine s_seq ?_
  refine s_set (R := RD (.int (mxG k + 1))) (e_op o_add (e_maxD (t := tNil) (tk := tNil) (i_n (n_lcGM1 (xs := k) (fe := fun p => p.2) (encB := PyData.int) (is := [2, 3]) (w_tup (e_var rfl)) rfl (by decide) (fun _ p hp => g_tup (gs_cons g_name (gs_cons g_name gs_nil))) (fun _ p hp _ => e_var rfl) (by omega))) e_int) e_int) ?_
  show WC ⟨hs, less hs om, om, [.fz (RD (.tuple (k.map dP))), .fz (RD (.int (mxG k + 1))), .any, .any, .any]⟩ _
  try dsimp only
  have eR : res2 (fun _ : Int => true) (fun _ => rgI 1 (mxG k + 1 + 1 - 1).toNat) (fun _ _ => true) (fun n g => dP (n, g)) [(1 : Int), 2] = ([(1 : Int), 2].flatMap fun n => (rgI 1 (mxG k + 1 + 1 - 1).toNat).map fun g => (n, g)).map dP := by
    unfold res2
    rw [List.filter_eq_self.mpr fun _ _ => rfl, List.map_flatMap]
    congr 1
    funext n
    rw [List.filter_eq_self.mpr fun _ _ => rfl, List.map_map]
    rfl
  refine s_retNew (n_catM (xs := [((0 : Int), (0 : Int))]) (ys := [(1 : Int), 2].flatMap fun n => (rgI 1 (mxG k + 1 + 1 - 1).toNat).map fun g => (n, g)) (i_n (n_lstM (xs := [((0 : Int), (0 : Int))]) (enc := dP) (m_cons (e_tup (m_cons e_int (m_cons e_int m_nil))) m_nil)))
    (i_n (EN.eqL (n_lc2G (xs := [(1 : Int), 2]) (R := fun a => RD (.int a)) (R1 := fun a => RD (.int a)) (p := fun _ => true) (ys := fun _ => rgI 1 (mxG k + 1 + 1 - 1).toNat) (p1 := fun _ _ => true) (f := fun n g => dP (n, g)) (is := [4]) (is1 := [3])
      (G := fun a => [.fz (RD (.tuple (k.map dP))), .fz (RD (.int (mxG k + 1))), .any, .any, .fz (RD (.int a))]) (G1 := fun a g => [.fz (RD (.tuple (k.map dP))), .fz (RD (.int (mxG k + 1))), .any, .fz (RD (.int g)), .fz (RD (.int a))]) (mxG k + 1 + 1 - 1).toNat
      (w_tup (xs := [(1 : Int), 2]) (f := PyData.int) (e_tup (m_cons e_int (m_cons e_int m_nil)))) rfl (by decide) (fun _ a ha => g_name) (fun _ a ha => t_yes) (fun _ a ha _ => w_rngG (w_rng2 (i := 1) (j := mxG k + 1 + 1) e_int (e_op o_add (e_var rfl) e_int) (by omega))) (fun _ _ => rfl) (by decide) (fun _ a ha g hg => g_name) (fun _ a ha g hg => t_yes)
      (fun _ a ha _ g hg _ => e_tup (m_cons (e_var rfl) (m_cons (e_var rfl) m_nil))) (by show 2 * _ < _; omega) (fun _ _ => Nat.le_of_eq rgI_len)) eR)) (by
        have : ([(1 : Int), 2].flatMap fun n => (rgI 1 (mxG k + 1 + 1 - 1).toNat).map fun g => (n, g)).length = (mxG k + 1 + 1 - 1).toNat + ((mxG k + 1 + 1 - 1).toNat + 0) := by
          rw [List.flatMap_cons, List.flatMap_cons, List.flatMap_nil, List.length_append, List.length_append, List.length_map, List.length_map, rgI_len]
          rfl
        rw [this]
        show 1 + _ ≤ _
        omega)) q
def hasN (k : KS) : Bool := k.any fun p => decide (0 < p.1)
theorem ok_has {f c TH : Addr} {fd : FuncData} (F : FunC K "_has_number" "_has_number" s__has_number f c fd) (TB : TabB base mg c TH) (z_any : mg "any" = none) : FnOk P w K mg base CX0 3 f fd ["kind"] (Sps (fun k : KS => [RD (.tuple (k.map dP))]) (fun _ H => TabG H TH) fun k => RD (.bool (hasN k))) := by
  refine fn_okC F sc__has_number (fun _ => rfl) fun A outer s H E0 hr => ?_
  have nd := sc__has_number.nd
  have nd2 : (["number", "_"] : List Str).Nodup := by decide
  refine ⟨_, (pss_one (ps_ret (pe_anyG (k := 1) (N := ["number", "_"]) (fr := [none, none]) (g := gTup K 2 (gCons (gName 0) (gCons (gName 1) gNil))) (by exact hr) (by rfl) z_any (by decide +kernel) TB rfl (gsc_by (outer := defScope s__has_number) rfl rfl (by decide +kernel)) (gfr_by (outer := defScope s__has_number) (XN := ["kind", "number", "_"]) rfl rfl (by decide +kernel)) (pi_tup (pv 0))
      (fun B s0 H0 cd fp rB => ⟨(show PG _ _ (gTup K 2 (gCons (gName 0) (gCons (gName 1) gNil))) from pg_tup rfl (pgs_cons (pg_name (i := 0) nd2 rfl (.inl rfl)) (pgs_cons (pg_name (i := 1) nd2 rfl (.inl rfl)) pgs_nil))), (pe_cmpR (r := rI0 fun i j => .bl (decide (j < i))) op_gt (pv 0) pe_int (nomark _))⟩) (fun _ => rfl)))), ?_⟩
  rintro k hs om Q tH q
  show WC ⟨hs, less hs om, om, [.fz (RD (.tuple (k.map dP))), .any, .any]⟩ _
  exact s_ret (e_genG (xs := k) (p := fun p => decide (0 < p.1)) (g0 := [.any, .any]) (is := [0, 1]) (G := fun p => [.fz (RD (.int p.1)), .fz (RD (.int p.2))]) true (w_tup (e_var rfl)) rfl (fun H kp => kp.tab _ tH) (fun _ p hp => g_tup (gs_cons g_name (gs_cons g_name gs_nil))) (fun _ => rfl) (fun _ p hp => e_op o_cmpI0 (e_var rfl) e_int)) q
def sumS (M : MapI) (p : Pl) : MapI := setI M p.2 ((getI M p.2).getD 0 + p.1)
def sumsM (k : KS) : MapI := k.foldl sumS []
def oddL (k : KS) : List Int := ((sumsM k).filter fun m => decide (m.2 % 2 = 1)).map (·.1)
def oddG (k : KS) : Int := ((oddL k).length : Nat)
theorem sums_succ {k : KS} {i : Nat} {p : Pl} (h : k[i]? = some p) : sumsM (k.take (i + 1)) = sumS (sumsM (k.take i)) p := by
  unfold sumsM
  rw [List.take_add_one, h, List.foldl_append]
  rfl
theorem keys_setI (M : MapI) (p v : Int) (nd : (M.map (·.1)).Nodup) : ((setI M p v).map (·.1)).Nodup := by
  unfold setI
  by_cases c : (M.any fun x => decide (x.1 = p)) = true
  · rw [if_pos c, List.map_map]
    have e : ((fun x : Int × Int => x.1) ∘ fun x : Int × Int => if x.1 = p then (x.1, v) else x) = fun x => x.1 := funext fun x => by
      show (if x.1 = p then (x.1, v) else x).1 = x.1
      split <;> rfl
    rw [e]
    exact nd
  · rw [if_neg c, List.map_append]
    refine List.nodup_append.mpr ⟨nd, by simp, fun y hy y' hy' e => c ?_⟩
    obtain ⟨x, hx, rfl⟩ := List.mem_map.mp hy
    refine List.any_eq_true.mpr ⟨x, hx, decide_eq_true ?_⟩
    rw [e]
    simpa using hy'
theorem sums_nd (k : KS) : ((sumsM k).map (·.1)).Nodup ∧ (sumsM k).length ≤ k.length := by
  have : ∀ (k : KS) (M : MapI), (M.map (·.1)).Nodup → ((k.foldl sumS M).map (·.1)).Nodup ∧ (k.foldl sumS M).length ≤ M.length + k.length := fun k => by
    induction k with
    | nil => exact fun M h => ⟨h, Nat.le_refl _⟩
    | cons p k ih =>
      intro M h
      have a := ih (sumS M p) (keys_setI _ _ _ h)
      have b := setI_len M p.2 ((getI M p.2).getD 0 + p.1)
      refine ⟨a.1, Nat.le_trans a.2 ?_⟩
      show (setI M p.2 ((getI M p.2).getD 0 + p.1)).length + k.length ≤ M.length + (k.length + 1)
      omega
  have := this k [] .nil
  exact ⟨this.1, by have := this.2; rw [List.length_nil, Nat.zero_add] at this; exact this⟩
theorem getI_mem : ∀ {M : MapI}, (M.map (·.1)).Nodup → ∀ {m : Int × Int}, m ∈ M → getI M m.1 = some m.2
  | [], _, _, h => nomatch h
  | y :: M, nd, m, h => by
    rw [getI_cons]
    obtain ⟨n1, n2⟩ := List.nodup_cons.mp nd
    rcases List.mem_cons.mp h with z | z
    · rw [if_pos (by rw [z]), z]
    · rw [if_neg fun e => n1 (by show y.1 ∈ M.map (·.1); rw [e]; exact List.mem_map_of_mem (f := (·.1)) z)]
      exact getI_mem n2 z
abbrev spOg : Sp := Sps (fun k : KS => [RD (.tuple (k.map dP))]) (fun k _ => k.length ≤ 100) fun k => RD (.int (oddG k))
theorem ok_oddg {f : Addr} {fd : FuncData} (F : Fun K "_odd_groups" "_odd_groups" s__odd_groups f fd) (z_len : mg "len" = none) : FnOk P w K mg base CX0 1 f fd ["kind"] spOg := by
  refine fn_ok F sc__odd_groups (fun _ => rfl) fun cdv A outer s H E0 hr => ?_
  have nd := sc__odd_groups.nd
  refine ⟨_, (pss_cons (ps_set (i := 1) nd rfl (.inr rfl) pe_dnewK)
      (pss_cons (ps_for PassesOwn.never rfl (pi_tup (pv 0)) (pg_tup rfl (pgs_cons (pg_name (i := 2) nd rfl (.inl rfl)) (pgs_cons (pg_name (i := 3) nd rfl (.inl rfl)) pgs_nil))) (pss_one (ps_dput (by exact Pk.Room.units1 hr) (pv 1) (pv 3) (pe_op op_add (pe_dget2 (by exact Pk.Room.units1 hr) (pv 1) (pv 3) pe_int ⟨rfl, rfl, rfl, rfl⟩) (pv 2)) rfl)))
      (pss_one (ps_ret (pe_callB call_len (by rfl) z_len (by decide +kernel) (pa_cons (pe_lock (pe_lc (own := [("group", 3)]) (g := gName 3) rfl nd (pi_keys (pv 1)) (blkOk_by (N := ["kind", "sums", "number", "group"]) (sc := defScope s__odd_groups) (by decide +kernel)) (fun _ _ _ _ _ => pg_name (i := 3) nd rfl (.inl rfl))
        (fun _ _ _ _ _ => pts_one (pt_cmpR (r := rEq) op_eq (pe_op (r := rI (fun _ j => 0 < j) fun i j => .int (i % j)) op_mod (pe_dget (by exact Pk.Room.units1 hr) (pv 1) (pv 3) (fun _ _ => rfl)) pe_int) pe_int (nomark _))) (fun _ _ _ _ _ => pv 3))) pa_nil)))))), ?_⟩
  rintro k hs om Q kl q
  show WC ⟨hs, less hs om, om, [.fz (RD (.tuple (k.map dP))), .any, .any, .any]⟩ _
  replace kl : k.length ≤ 100 := kl
  replace q : ∀ H' v, Kp hs H' → (RD (.int (oddG k))).p (less H' om) v → Q v H' := q
  refine s_seq ?_
  refine s_new n_dnewK ?_
  show WC ⟨hs, less hs om, om, [.fz (RD (.tuple (k.map dP))), .own (OTabI []), .any, .any]⟩ _
  try dsimp only
  refine s_seq ?_
  refine s_forG (xs := k) (fun i γ => γ = [.fz (RD (.tuple (k.map dP))), .own (OTabI (sumsM (k.take i))), .any, .any]) (w_tup (e_var rfl)) rfl ?_ ?_
  · rintro h1 i p γ kp hx rfl
    refine ⟨_, _, g_tup (gs_cons g_name (gs_cons g_name gs_nil)), ?_⟩
    show WC ⟨hs, h1, om, [.fz (RD (.tuple (k.map dP))), .own (OTabI (sumsM (k.take i))), .fz (RD (.int p.1)), .fz (RD (.int p.2))]⟩ _
    have l := (sums_nd (k.take i)).2
    rw [List.length_take] at l
    refine s_dputI rfl (e_op o_add (e_get2I rfl (e_var rfl) e_int) (e_var rfl)) (e_var rfl) (by omega) ?_
    refine s_drop 2 ?_
    refine s_drop 3 ?_
    refine s_of ?_
    rw [sums_succ hx]
    rfl
  · rintro γ rfl
    rw [List.take_length]
    refine s_fixI (i := 1) rfl ?_
    show WC ⟨hs, less hs om, om, [.fz (RD (.tuple (k.map dP))), .fz (RTabI (sumsM k)), .any, .any]⟩ _
    obtain ⟨n1, n2⟩ := sums_nd k
    try dsimp only
    refine s_ret (e_cb o_lenM (a_cons (n_e (n_lockO (R' := RTabK (sumsM k)) (C := OL ((oddL k).map PyData.int)) 1 rfl op_TabI ⟨lk_D (show nods (k.map dP) = true from nodAll enc_P.nod _), trivial⟩ (uk_OL (nodAll (fun _ => rfl) _)) fun hs' h0' => ?_)) a_nil)) q
    show EN ⟨hs', h0', om, [.fz (RD (.tuple (k.map dP))), .fz (RTabK (sumsM k)), .any, .any]⟩ _ _
    exact n_lcGM (xs := sumsM k) (p := fun m => decide (m.2 % 2 = 1)) (fe := fun m => m.1) (encB := PyData.int) (is := [3]) (G := fun m => [.fz (RD (.tuple (k.map dP))), .fz (RTabK (sumsM k)), .any, .fz (RD (.int m.1))]) (w_keysI (e_var rfl)) rfl (by decide) (fun _ m hm => g_name)
      (fun _ m hm => t_T (e_op o_eqI (e_op (o_mod (by decide)) (e_getK (getI_mem n1 hm) (e_var rfl) (e_var rfl)) e_int) e_int)) (fun _ m hm _ => e_var rfl) (by omega)
def fitsB : Kd → Int → Bool
  | .inl x, odd => if x = "none" then decide (odd = 0) else decide (odd ∈ [(0 : Int), 2])
  | .inr k, odd => decide (oddG k = odd) || (decide (oddG k = 0) && decide (odd = 2))
def KdOk : Kd → Prop
  | .inl x => x = "none" ∨ x = "done"
  | .inr k => k.length ≤ 100
abbrev spFi : Sp := Sps (fun a : Kd × Int => [RD (dKd a.1), RD (.int a.2)]) (fun a _ => KdOk a.1) fun a => RD (.bool (fitsB a.1 a.2))
theorem strOk_none : PyData.strOk ("none" : Str) = true := by decide +kernel
theorem strOk_done : PyData.strOk ("done" : Str) = true := by decide +kernel
theorem KdOk.enc {κ : Kd} (h : KdOk κ) : OkKd κ := by
  cases κ with
  | inl x =>
    rcases h with h | h
    · rw [h]; exact strOk_none
    · rw [h]; exact strOk_done
  | inr k => trivial
theorem ok_fits {f fO : Addr} {fd fdO : FuncData} (F : Fun K "fits" "fits" s_fits f fd) (g_NONE : ∃ t : Tok, mg "NONE" = some (.str "none" t)) (g_DONE : ∃ t : Tok, mg "DONE" = some (.str "done" t)) (g_MOST_ODD : ∃ t : Tok, mg "MOST_ODD" = some (.int 2 t))
    (GO : FnOk P w K mg base CX0 1 fO fdO ["kind"] spOg) (bO : Binds K fdO ["kind"] []) (gO : mg "_odd_groups" = some (.ref fO)) (kO : PySem.W.keepIn K (.ref fO) = true) : FnOk P w K mg base CX0 2 f fd ["kind", "odd"] spFi := by
  refine fn_ok F sc_fits (fun _ => rfl) fun cdv A outer s H E0 hr => ?_
  have nd := sc_fits.nd
  refine ⟨_, (pss_cons (ps_if (pt_cmpR (r := rEqD K) (op_eqD hr.units) (pv 0) (pe_glob (v := .str "none") (by rfl) g_NONE.choose_spec ⟨_, rfl⟩) (nomark _)) (pss_one (ps_ret (pe_cmpR (r := rEq) op_eq (pv 1) pe_int (nomark _)))) pss_nil)
      (pss_cons (ps_if (pt_cmpR (r := rEqD K) (op_eqD hr.units) (pv 0) (pe_glob (v := .str "done") (by rfl) g_DONE.choose_spec ⟨_, rfl⟩) (nomark _)) (pss_one (ps_ret (pe_cmpR (r := rIn K false) op_in_seq (pv 1) (pe_tup (pa_cons pe_int (pa_cons (pe_glob (v := .int 2) (by rfl) g_MOST_ODD.choose_spec ⟨_, rfl⟩) pa_nil))) (by rfl)))) pss_nil)
      (pss_cons (ps_set (i := 2) nd rfl (.inl rfl) (pe_call GO (by exact hr.mono (by decide)) (by rfl) gO kO bO .nil pass0 (pa_cons (pv 0) pa_nil)))
      (pss_one (ps_ret (pe_or (pe_cmpR (r := rEq) op_eq (pv 2) (pv 1) (nomark _)) (pe_one (pe_and (pe_cmpR (r := rEq) op_eq (pv 2) pe_int (nomark _)) (pe_one (pe_cmpR (r := rEq) op_eq (pv 1) (pe_glob (v := .int 2) (by rfl) g_MOST_ODD.choose_spec ⟨_, rfl⟩) (nomark _))))))))))), ?_⟩
  rintro ⟨κ, odd⟩ hs om Q hk q
  show WC ⟨hs, less hs om, om, [.fz (RD (dKd κ)), .fz (RD (.int odd)), .any]⟩ _
  replace hk : KdOk κ := hk
  replace q : ∀ H' v, Kp hs H' → (RD (.bool (fitsB κ odd))).p (less H' om) v → Q v H' := q
  refine s_seq ?_
  refine s_if (t_T (e_op (show O2 (rEqD K) (RD (dKd κ)) (RD (.str "none")) _ from o_eqE (f := dKd) (a := κ) (b := .inl "none") (hd := inferInstance) enc_Kd (by decide) hk.enc strOk_none) (e_var rfl) e_str)) (fun z => ?_) (fun z => ?_)
  · have z : κ = .inl "none" := of_decide_eq_true z
    subst z
    refine s_ret (Pk.E.eq (e_op o_eqI (e_var rfl) e_int) ?_) q
    show PyData.bool (decide (odd = 0)) = .bool (if ("none" : Str) = "none" then decide (odd = 0) else decide (odd ∈ [(0 : Int), 2]))
    rw [if_pos rfl]
  have z1 : ¬ κ = .inl "none" := of_decide_eq_false z
  refine s_pass ?_
  refine s_seq ?_
  refine s_if (t_T (e_op (show O2 (rEqD K) (RD (dKd κ)) (RD (.str "done")) _ from o_eqE (f := dKd) (a := κ) (b := .inl "done") (hd := inferInstance) enc_Kd (by decide) hk.enc strOk_done) (e_var rfl) e_str)) (fun z => ?_) (fun z => ?_)
  · have z : κ = .inl "done" := of_decide_eq_true z
    subst z
    refine s_ret (Pk.E.eq (e_op (o_inI (ns := [0, 2]) false) (e_var rfl) (e_tup (m_cons e_int (m_cons e_int m_nil)))) ?_) q
    show PyData.bool (decide (odd ∈ [(0 : Int), 2])) = .bool (if ("done" : Str) = "none" then decide (odd = 0) else decide (odd ∈ [(0 : Int), 2]))
    rw [if_neg (by decide +kernel)]
  have z2 : ¬ κ = .inl "done" := of_decide_eq_false z
  refine s_pass ?_
  cases κ with
  | inl x =>
    rcases hk with e | e
    · exact absurd (by rw [e]) z1
    · exact absurd (by rw [e]) z2
  | inr k =>
    replace hk : k.length ≤ 100 := hk
    refine s_seq ?_
    refine s_set (show Pk.E _ _ _ (RD (.int (oddG k))) from c_call (sok_sps (Rs := fun k : KS => [RD (.tuple (k.map dP))]) (P := fun k _ => k.length ≤ 100) (R := fun k => RD (.int (oddG k))) k) (a_cons (e_var rfl) a_nil) (fun _ _ => hk)) ?_
    show WC ⟨hs, less hs om, om, [.fz (RD (dKd (.inr k))), .fz (RD (.int odd)), .fz (RD (.int (oddG k)))]⟩ _
    try dsimp only
    exact s_ret (e_or (e_op o_eqI (e_var rfl) (e_var rfl)) (fun _ => e_and (e_op o_eqI (e_var rfl) e_int) (fun _ => e_op o_eqI (e_var rfl) e_int))) q
end
section
open GxR NdefX PySem.Spec PyProof.Rows
variable {P : Program} {w : World} {K : PySem.W.Frag} {mg : Str → Option Value} {base : Heap} {b : Bool} {c : Ct} {ta : TE}
def kinS (ks : List KS) : List KS := ks.flatMap fun k => (rowsB k).map fun r => k ++ [r]
def kinK : Nat → List KS
  | 0 => [[]]
  | n + 1 => kinS (kinK n)
def kinT (n : Nat) : Bool := Nat.ble (kinK n).length 100 && (kinK n).all fun k => Nat.ble k.length 10 && (k.all fun p => decide (0 ≤ p.2) && decide (p.2 ≤ 1000)) && Nat.ble (rowsB k).length 20
theorem kin_t : kinT 0 = true ∧ kinT 1 = true ∧ kinT 2 = true ∧ kinT 3 = true := by decide +kernel
theorem kin_ok {n : Nat} (h : n ≤ 3) : (kinK n).length ≤ 100 ∧ ∀ k ∈ kinK n, KOk k ∧ k.length ≤ 10 ∧ (rowsB k).length ≤ 20 := by
  have t : kinT n = true := by
    obtain ⟨a, b, c, d⟩ := kin_t
    match n, h with
    | 0, _ => exact a
    | 1, _ => exact b
    | 2, _ => exact c
    | 3, _ => exact d
  unfold kinT at t
  rw [Bool.and_eq_true, List.all_eq_true] at t
  refine ⟨Nat.le_of_ble_eq_true t.1, fun k hk => ?_⟩
  have := t.2 k hk
  rw [Bool.and_eq_true, Bool.and_eq_true, List.all_eq_true] at this
  obtain ⟨⟨h1, h2⟩, h3⟩ := this
  have l := Nat.le_of_ble_eq_true h1
  refine ⟨⟨by omega, fun p hp => ?_⟩, l, Nat.le_of_ble_eq_true h3⟩
  have := h2 p hp
  rw [Bool.and_eq_true, decide_eq_true_eq, decide_eq_true_eq] at this
  exact this
def kindsA (n : Nat) : List Kd := [.inl "none", .inl "done"] ++ ((kinK n).filter hasN).map .inr
def kindsB (n : Nat) (odd : Int) : List Kd := (kindsA n).filter fun κ => fitsB κ odd
theorem kindsA_ok {n : Nat} (h : n ≤ 3) : ∀ κ ∈ kindsA n, KdOk κ := fun κ hκ => by
  rcases List.mem_append.mp hκ with z | z
  · rcases List.mem_cons.mp z with y | y
    · rw [y]; exact .inl rfl
    · rw [List.mem_singleton.mp y]; exact .inr rfl
  · obtain ⟨k, hk, rfl⟩ := List.mem_map.mp z
    have := ((kin_ok h).2 k (List.mem_filter.mp hk).1).2.1
    show k.length ≤ 100
    omega
theorem kindsA_len {n : Nat} (h : n ≤ 3) : (kindsA n).length ≤ 102 := by
  have := (kin_ok h).1
  have h2 := List.length_filter_le hasN (kinK n)
  show ([.inl "none", .inl "done"] ++ ((kinK n).filter hasN).map .inr : List Kd).length ≤ 102
  rw [List.length_append, List.length_map]
  show 2 + _ ≤ 102
  omega
abbrev spRo : Sp := SpN (fun k : KS => [RD (.tuple (k.map dP))]) (fun k _ => KOk k) fun k => OL ((rowsB k).map dP)
abbrev spHn (TH : Addr) : Sp := Sps (fun k : KS => [RD (.tuple (k.map dP))]) (fun _ H => TabG H TH) fun k => RD (.bool (hasN k))
abbrev spKo (TH : Addr) : Sp := SpN (fun a : Nat × Int => [RD (.int (a.1 : Int)), RD (.int a.2)]) (fun a H => a.1 ≤ 3 ∧ TabG H TH) fun a => OL ((kindsB a.1 a.2).map dKd)
theorem ok_kindsof {f fR fH fF TH : Addr} {fd fdR fdH fdF : FuncData} (F : Fun K "kinds_of" "kinds_of" s_kinds_of f fd) (z_range : mg "range" = none) (g_NONE : ∃ t : Tok, mg "NONE" = some (.str "none" t)) (g_DONE : ∃ t : Tok, mg "DONE" = some (.str "done" t))
    (GR : FnOk P w K mg base CX0 1 fR fdR ["kind"] spRo) (bR : Binds K fdR ["kind"] []) (gR : mg "_rows_behind" = some (.ref fR)) (kR : PySem.W.keepIn K (.ref fR) = true)
    (GH : FnOk P w K mg base CX0 3 fH fdH ["kind"] (spHn TH)) (bH : Binds K fdH ["kind"] []) (gH : mg "_has_number" = some (.ref fH)) (kH : PySem.W.keepIn K (.ref fH) = true)
    (GF : FnOk P w K mg base CX0 2 fF fdF ["kind", "odd"] spFi) (bF : Binds K fdF ["kind", "odd"] []) (gF : mg "fits" = some (.ref fF)) (kF : PySem.W.keepIn K (.ref fF) = true) :
    FnOk P w K mg base CX0 4 f fd ["heights", "odd"] (spKo TH) := by
  refine fn_okN F sc_kinds_of (fun _ => rfl) fun cdv A outer s H E0 hr => ?_
  have nd := sc_kinds_of.nd
  refine ⟨_, (pss_cons (ps_set (i := 2) nd rfl (.inl rfl) (pe_lst (pa_cons (pe_tup pa_nil) pa_nil)))
      (pss_cons (ps_for PassesOwn.never rfl (pi_range1 rfl z_range (pa_cons (pv 0) pa_nil)) (pg_name (i := 3) nd rfl (.inl rfl))
        (pss_one (ps_setLc2 (i := 2) (own := [("kind", 5), ("row", 6)]) (vs1 := [6]) (g := gName 5) (g1 := gName 6) (tt := tYes) (tt1 := tYes) rfl nd rfl rfl rfl (pi_list (pv 2)) (blkOk_by (N := ["heights", "odd", "kinds", "_", "walked", "kind", "row"]) (sc := defScope s_kinds_of) (by decide +kernel)) (by decide) (fun _ _ _ _ _ => pg_name (i := 5) nd rfl (.inl rfl)) (fun _ _ _ _ _ => pts_nil)
          (fun _ _ _ _ _ => (show PI _ _ _ (iList K (tCall spRo [] E0 (tCons (tVar 5) tNil))) from pi_list (pe_call GR (by exact hr.mono (by decide)) (by rfl) gR kR bR .nil pass0 (pa_cons (pv 5) pa_nil)))) (fun _ _ _ _ _ => pg_name (i := 6) nd rfl (.inl rfl)) (fun _ _ _ _ _ => pts_nil) (fun _ _ _ _ _ => pe_op (r := rCatA K) op_catA (pv 5) (pe_tup (pa_cons (pv 6) pa_nil))))))
      (pss_cons (ps_setLc (i := 4) (own := [("kind", 5)]) (g := gName 5) rfl nd rfl rfl rfl (pi_list (pv 2)) (blkOk_by (N := ["heights", "odd", "kinds", "_", "walked", "kind", "row"]) (sc := defScope s_kinds_of) (by decide +kernel)) (fun _ _ _ _ _ => pg_name (i := 5) nd rfl (.inl rfl)) (fun _ _ _ _ _ => pts_one (pt_val (pe_call GH (by exact hr.mono (by decide)) (by rfl) gH kH bH .nil pass0 (pa_cons (pv 5) pa_nil)))) (fun _ _ _ _ _ => pv 5))
      (pss_one (ps_ret (pe_lc (own := [("kind", 5)]) (g := gName 5) rfl nd (pi_list (pe_op op_cat (pe_lst (pa_cons (pe_glob (v := .str "none") (by rfl) g_NONE.choose_spec ⟨_, rfl⟩) (pa_cons (pe_glob (v := .str "done") (by rfl) g_DONE.choose_spec ⟨_, rfl⟩) pa_nil))) (pv 4))) (blkOk_by (N := ["heights", "odd", "kinds", "_", "walked", "kind", "row"]) (sc := defScope s_kinds_of) (by decide +kernel)) (fun _ _ _ _ _ => pg_name (i := 5) nd rfl (.inl rfl))
        (fun _ _ _ _ _ => pts_one (pt_val (pe_call GF (by exact hr.mono (by decide)) (by rfl) gF kF bF .nil pass0 (pa_cons (pv 5) (pa_cons (pv 1) pa_nil))))) (fun _ _ _ _ _ => pv 5))))))), ?_⟩
  rintro ⟨n, odd⟩ hs om Q ⟨n3, tH⟩ q
  show WC ⟨hs, less hs om, om, [.fz (RD (.int (n : Int))), .fz (RD (.int odd)), .any, .any, .any, .any, .any]⟩ _
  replace n3 : n ≤ 3 := n3
  replace tH : TabG (less hs om) TH := tH
  replace q : ∀ H' p o, Kp hs H' → H' p = none → (OL ((kindsB n odd).map dKd)).p (less H' om) o → Q (.ref p) (upd H' p o) := q
  refine s_seq ?_
  refine s_set (R := RD (.list ((kinK 0).map (eTL dP)))) (n_e (n_lst (m_cons (e_tup m_nil) m_nil))) ?_
  show WC ⟨hs, less hs om, om, [.fz (RD (.int (n : Int))), .fz (RD (.int odd)), .fz (RD (.list ((kinK 0).map (eTL dP)))), .any, .any, .any, .any]⟩ _
  try dsimp only
  refine s_seq ?_
  refine s_rng (lo := 0) (n := (n : Int).toNat) (fun i γ => γ = [.fz (RD (.int (n : Int))), .fz (RD (.int odd)), .fz (RD (.list ((kinK i).map (eTL dP)))), .any, .any, .any, .any]) (w_rng1 (j := (n : Int)) (e_var rfl) (by omega)) rfl ?_ ?_
  · rintro i γ hi rfl
    refine ⟨_, _, g_name, ?_⟩
    show WC ⟨hs, less hs om, om, [.fz (RD (.int (n : Int))), .fz (RD (.int odd)), .fz (RD (.list ((kinK i).map (eTL dP)))), .fz (RD (.int (0 + (i : Int)))), .any, .any, .any]⟩ _
    obtain ⟨kl, ko⟩ := kin_ok (show i ≤ 3 by omega)
    refine s_drop 3 ?_
    show WC ⟨hs, less hs om, om, [.fz (RD (.int (n : Int))), .fz (RD (.int odd)), .fz (RD (.list ((kinK i).map (eTL dP)))), .any, .any, .any, .any]⟩ _
    refine s_set (R := RD (.list ((kinK (i + 1)).map (eTL dP)))) (n_e (EN.eqL (n_lc2M (xs := kinK i) (enc := eTL dP) (p := fun _ => true) (ys := rowsB) (enc1 := dP) (p1 := fun _ _ => true) (h := fun k r => k ++ [r]) (encB := eTL dP) (is := [5]) (is1 := [6])
      (G := fun k => [.fz (RD (.int (n : Int))), .fz (RD (.int odd)), .fz (RD (.list ((kinK i).map (eTL dP)))), .any, .any, .fz (RD (.tuple (k.map dP))), .any]) (G1 := fun k r => [.fz (RD (.int (n : Int))), .fz (RD (.int odd)), .fz (RD (.list ((kinK i).map (eTL dP)))), .any, .any, .fz (RD (.tuple (k.map dP))), .fz (RD (dP r))]) 20
      (i_of (e_var rfl)) rfl (by decide) (fun _ k hk => g_name) (fun _ k hk => t_yes) (fun _ k hk _ => n_e (n_call (skn_spn (Rs := fun k : KS => [RD (.tuple (k.map dP))]) (P := fun k _ => KOk k) (C := fun k => OL ((rowsB k).map dP)) k) (a_cons (e_var rfl) a_nil) (fun _ _ => (ko k hk).1))) (fun _ _ => rfl) (by decide) (fun _ k hk r hr => g_name) (fun _ k hk r hr => t_yes)
      (fun _ k hk _ r hr _ => e_op (o_catT (xs := k) (ys := [r]) (enc := dP) (by have := (ko k hk).2.1; show _ + 1 ≤ _; omega)) (e_var rfl) (e_tup (m_cons (e_var rfl) m_nil))) (by omega) (fun k hk => (ko k hk).2.2)) (by
        rw [List.filter_eq_self.mpr fun _ _ => rfl]
        show _ = (kinS (kinK i)).map (eTL dP)
        unfold kinS
        congr 2
        funext k
        rw [List.filter_eq_self.mpr fun _ _ => rfl]))) ?_
    exact s_of rfl
  · rintro γ rfl
    have en : (n : Int).toNat = n := by omega
    rw [en]
    obtain ⟨kl, ko⟩ := kin_ok n3
    try dsimp only
    refine s_seq ?_
    refine s_set (R := RD (.list (((kinK n).filter hasN).map (eTL dP)))) (n_e (EN.eqL (n_lcM (xs := kinK n) (enc := eTL dP) (p := hasN) (h := fun k => k) (encB := eTL dP) (is := [5]) (G := fun k => [.fz (RD (.int (n : Int))), .fz (RD (.int odd)), .fz (RD (.list ((kinK n).map (eTL dP)))), .any, .any, .fz (RD (.tuple (k.map dP))), .any]) (i_of (e_var rfl)) rfl (by decide) (fun _ k hk => g_name)
      (fun _ k hk => t_B (show Pk.E _ _ _ (RD (.bool (hasN k))) from c_call (sok_sps (Rs := fun k : KS => [RD (.tuple (k.map dP))]) (P := fun _ H => TabG H TH) (R := fun k => RD (.bool (hasN k))) k) (a_cons (e_var rfl) a_nil) (fun H kp => kp.tab _ tH))) (fun _ k hk _ => e_var rfl) (by omega)) (by rw [List.map_id']))) ?_
    show WC ⟨hs, less hs om, om, [.fz (RD (.int (n : Int))), .fz (RD (.int odd)), .fz (RD (.list ((kinK n).map (eTL dP)))), .any, .fz (RD (.list (((kinK n).filter hasN).map (eTL dP)))), .any, .any]⟩ _
    try dsimp only
    have eA : [PyData.str "none", .str "done"] ++ ((kinK n).filter hasN).map (eTL dP) = (kindsA n).map dKd := by
      unfold kindsA
      rw [List.map_append, List.map_map]
      rfl
    have hl := kindsA_len n3
    have hok := kindsA_ok n3
    have fl := List.length_filter_le hasN (kinK n)
    exact s_retNew (EN.eqL (n_lcM (xs := kindsA n) (enc := dKd) (p := fun κ => fitsB κ odd) (h := fun κ => κ) (encB := dKd) (is := [5]) (G := fun κ => [.fz (RD (.int (n : Int))), .fz (RD (.int odd)), .fz (RD (.list ((kinK n).map (eTL dP)))), .any, .fz (RD (.list (((kinK n).filter hasN).map (eTL dP)))), .fz (RD (dKd κ)), .any])
      (i_n (EN.eqL (n_cat (i_n (n_lst (m_cons e_str (m_cons e_str m_nil)))) (i_of (e_var rfl)) (by rw [List.length_map, sizeLine_eq]; show 2 + _ ≤ _; omega)) eA)) rfl (by decide) (fun _ κ hκ => g_name)
      (fun _ κ hκ => t_B (show Pk.E _ _ _ (RD (.bool (fitsB κ odd))) from c_call (sok_sps (Rs := fun a : Kd × Int => [RD (dKd a.1), RD (.int a.2)]) (P := fun a _ => KdOk a.1) (R := fun a => RD (.bool (fitsB a.1 a.2))) (κ, odd)) (a_cons (e_var rfl) (a_cons (e_var rfl) a_nil)) (fun _ _ => hok κ hκ))) (fun _ κ hκ _ => e_var rfl) (by omega)) (by rw [List.map_id']; rfl)) q
end
section
open GxR NdefX PySem.Spec PyProof.Rows
variable {P : Program} {w : World} {K : PySem.W.Frag} {mg : Str → Option Value} {base : Heap} {b : Bool} {c : Ct} {ta tb : TE}
theorem s_eqO {k : L2.St → Hp → Prop} (i : Nat) {C C' : Own} (e : c.g[i]? = some (.own C)) (h : C = C') (q : WC (c.set i (.own C')) k) : WC c k := by
  subst h
  have z : c.set i (.own C) = c := by
    obtain ⟨hs, h0, om, g⟩ := c
    show Ct.mk hs h0 om (g.set i _) = _
    congr 1
    apply List.ext_getElem?
    intro j
    rw [List.getElem?_set]
    replace e : g[i]? = some (.own C) := e
    split
    · rename_i ij
      subst ij
      rw [e]
      split
      · rfl
      · rename_i n
        exact absurd (List.getElem?_eq_some_iff.mp e).1 n
    · rfl
  rw [z] at q
  exact q
/-- a list or a tuple of numbers -/
def RSI (ns : List Int) : Rel := ⟨fun H v => Dt H v (.list (ns.map PyData.int)) ∨ Dt H v (.tuple (ns.map PyData.int)), fun k h => h.imp (Dt.kp k) (Dt.kp k)⟩
theorem rsi_t {ns : List Int} (h : E b c ta (RD (.tuple (ns.map PyData.int)))) : E b c ta (RSI ns) := h.imp fun _ _ r => .inr r
theorem o_lenSI {ns : List Int} : On (fun xs H Q => ∃ x n, xs = [x] ∧ LenV K x H n ∧ Q (.int n) H) [RSI ns] (RD (.int ns.length)) := fun H M vs hd r Q q => by
  obtain ⟨v, r', rfl, h1, rfl⟩ := r
  rcases h1 with h | h
  · exact o_lenM (xs := ns) (enc := PyData.int) H M _ hd ⟨v, [], rfl, h, rfl⟩ Q q
  · exact o_lenTM (xs := ns) (enc := PyData.int) H M _ hd ⟨v, [], rfl, h, rfl⟩ Q q
theorem o_ixSI {ns : List Int} {i : Int} (h : -(ns.length : Int) ≤ i ∧ i < ns.length) : O2 (rIx K) (RSI ns) (RD (.int i)) (RD (.int (ix ns i))) := fun H M x y hd r1 r2 Q q => by
  rcases r1 with h1 | h1
  · exact .inl (o_ixL (ix_at (enc := PyData.int) h) H M x y hd h1 r2 Q q)
  · exact .inr (.inl (o_ixT (ix_at (enc := PyData.int) h) H M x y hd h1 r2 Q q))
def idxI (x : Int) : List Int → Nat
  | [] => 0
  | a :: l => if a = x then 0 else idxI x l + 1
theorem idxI_at {x : Int} : ∀ {l : List Int}, x ∈ l → l[idxI x l]? = some x
  | [], h => nomatch h
  | a :: l, h => by
    unfold idxI
    by_cases e : a = x
    · rw [if_pos e, e]; rfl
    · rw [if_neg e]
      rcases List.mem_cons.mp h with z | z
      · exact absurd z.symm e
      · exact idxI_at z
theorem idxI_no {x : Int} : ∀ {l : List Int}, x ∉ l.take (idxI x l)
  | [], h => nomatch h
  | a :: l, h => by
    unfold idxI at h
    by_cases e : a = x
    · rw [if_pos e] at h; cases h
    · rw [if_neg e, List.take_succ_cons] at h
      rcases List.mem_cons.mp h with z | z
      · exact e z.symm
      · exact idxI_no z
def numE (s : List Int) (p : Int × Int) : List Int := if (decide (0 < p.1) && !decide (p.2 ∈ s)) = true then s ++ [p.2] else s
def numP (s : List Int) (p : Int × Int) : Pl := (p.1, if decide (0 < p.1) = true then 1 + ((idxI p.2 (numE s p) : Nat) : Int) else 0)
def numS (s : List Int × List Pl) (p : Int × Int) : List Int × List Pl := (numE s.1 p, s.2 ++ [numP s.1 p])
def numT (ns ls : List Int) (i : Nat) : List Int × List Pl := ((ns.zip ls).take i).foldl numS ([], [])
def numF (ns ls : List Int) : KS := ((ns.zip ls).foldl numS ([], [])).2
theorem numE_mem {s : List Int} {p : Int × Int} (h : 0 < p.1) : p.2 ∈ numE s p := by
  unfold numE
  by_cases e : p.2 ∈ s
  · rw [if_neg (by simp [e])]; exact e
  · rw [if_pos (by simp [e, h])]; simp
theorem numT_succ {ns ls : List Int} {i : Nat} {x y : Int} (h1 : ns[i]? = some x) (h2 : ls[i]? = some y) : numT ns ls (i + 1) = numS (numT ns ls i) (x, y) := by
  unfold numT
  have z : (ns.zip ls)[i]? = some (x, y) := by
    rw [List.getElem?_zip_eq_some]
    exact ⟨h1, h2⟩
  rw [List.take_add_one, z, List.foldl_append]
  rfl
theorem numT_len (ns ls : List Int) (i : Nat) : (numT ns ls i).1.length ≤ i ∧ (numT ns ls i).2.length ≤ i := by
  have : ∀ (l : List (Int × Int)) (s : List Int × List Pl), (l.foldl numS s).1.length ≤ s.1.length + l.length ∧ (l.foldl numS s).2.length ≤ s.2.length + l.length := fun l => by
    induction l with
    | nil => exact fun s => ⟨Nat.le_refl _, Nat.le_refl _⟩
    | cons p l ih =>
      intro s
      have a := ih (numS s p)
      have e1 : (numS s p).1.length ≤ s.1.length + 1 := by
        show (numE s.1 p).length ≤ _
        unfold numE
        split
        · rw [List.length_append]; exact Nat.le_refl _
        · omega
      have e2 : (numS s p).2.length = s.2.length + 1 := by
        show (s.2 ++ [_]).length = _
        rw [List.length_append]; rfl
      rw [List.foldl_cons, List.length_cons]
      omega
  have h := this ((ns.zip ls).take i) ([], [])
  have l : ((ns.zip ls).take i).length ≤ i := by rw [List.length_take]; omega
  unfold numT
  simp only [List.length_nil] at h
  omega
abbrev spNu : Sp := Sps (fun a : List Int × List Int => [RSI a.1, RSI a.2]) (fun a _ => a.1.length ≤ 100 ∧ a.1.length ≤ a.2.length) fun a => RD (.tuple ((numF a.1 a.2).map dP))
theorem ok_numbered {f : Addr} {fd : FuncData} (F : Fun K "_law_numbered" "_law_numbered" s__law_numbered f fd) (z_len : mg "len" = none) (z_range : mg "range" = none) (z_tuple : mg "tuple" = none) : FnOk P w K mg base CX0 1 f fd ["numbers", "lots"] spNu := by
  refine fn_ok F sc__law_numbered (fun _ => rfl) fun cdv A outer s H E0 hr => ?_
  have nd := sc__law_numbered.nd
  refine ⟨_, (pss_cons (ps_set (i := 2) nd rfl (.inl rfl) (pe_lst pa_nil))
      (pss_cons (ps_set (i := 3) nd rfl (.inl rfl) (pe_lst pa_nil))
      (pss_cons (ps_for PassesOwn.never rfl (pi_range1 rfl z_range (pa_cons (pe_callB call_len (by rfl) z_len (by decide +kernel) (pa_cons (pv 0) pa_nil)) pa_nil)) (pg_name (i := 4) nd rfl (.inl rfl))
        (pss_cons (ps_if (PW.pt (pw_and (pt_cmpR (r := rI0 fun i j => .bl (decide (j < i))) op_gt (pe_ix (r := rIx K) ix_seq (pv 0) (pv 4) (fun _ _ => rfl)) pe_int (nomark _)) (pw_and1 (pt_cmpR (r := rNotInD K) (op_notInD (room65 hr)) (pe_ix (r := rIx K) ix_seq (pv 1) (pv 4) (fun _ _ => rfl)) (pv 2) (by rfl)))))
            (pss_one (ps_expr (pe_bm PySem.F.plainAttrs_list PySem.F.slot_list_append PySem.F.type_list_append mt_append (pv 2) (pa_cons (pe_ix (r := rIx K) ix_seq (pv 1) (pv 4) (fun _ _ => rfl)) pa_nil)))) pss_nil)
        (pss_one (ps_expr (pe_bm PySem.F.plainAttrs_list PySem.F.slot_list_append PySem.F.type_list_append mt_append (pv 3) (pa_cons (pe_tup (pa_cons (pe_ix (r := rIx K) ix_seq (pv 0) (pv 4) (fun _ _ => rfl)) (pa_cons
            (pe_ifExp (pt_cmpR (r := rI0 fun i j => .bl (decide (j < i))) op_gt (pe_ix (r := rIx K) ix_seq (pv 0) (pv 4) (fun _ _ => rfl)) pe_int (nomark _)) (pe_op (r := rI0 fun i j => .int (i + j)) op_add pe_int (pe_bm PySem.F.plainAttrs_list PySem.F.slot_list_index PySem.F.type_list_index (mt_indexD (room65 hr)) (pv 2) (pa_cons (pe_ix (r := rIx K) ix_seq (pv 1) (pv 4) (fun _ _ => rfl)) pa_nil))) pe_int) pa_nil))) pa_nil))))))
      (pss_one (ps_ret (pe_callTy call_tuple_of (by rfl) z_tuple (by decide +kernel) (pa_cons (pv 3) pa_nil))))))), ?_⟩
  rintro ⟨ns, ls⟩ hs om Q ⟨l1, l2⟩ q
  show WC ⟨hs, less hs om, om, [.fz (RSI ns), .fz (RSI ls), .any, .any, .any]⟩ _
  replace l1 : ns.length ≤ 100 := l1
  replace l2 : ns.length ≤ ls.length := l2
  replace q : ∀ H' v, Kp hs H' → (RD (.tuple ((numF ns ls).map dP))).p (less H' om) v → Q v H' := q
  refine s_seq ?_
  refine s_new (C := OL ((numT ns ls 0).1.map PyData.int)) (n_lst m_nil) ?_
  refine s_seq ?_
  refine s_new (C := OL ((numT ns ls 0).2.map dP)) (n_lst m_nil) ?_
  show WC ⟨hs, less hs om, om, [.fz (RSI ns), .fz (RSI ls), .own (OL ((numT ns ls 0).1.map PyData.int)), .own (OL ((numT ns ls 0).2.map dP)), .any]⟩ _
  try dsimp only
  refine s_seq ?_
  refine s_rng (lo := 0) (n := (ns.length : Int).toNat) (fun i γ => γ = [.fz (RSI ns), .fz (RSI ls), .own (OL ((numT ns ls i).1.map PyData.int)), .own (OL ((numT ns ls i).2.map dP)), .any]) (w_rng1 (j := (ns.length : Int)) (e_cb o_lenSI (a_cons (e_var rfl) a_nil)) (by omega)) rfl ?_ ?_
  · rintro i γ hi rfl
    refine ⟨_, _, g_name, ?_⟩
    show WC ⟨hs, less hs om, om, [.fz (RSI ns), .fz (RSI ls), .own (OL ((numT ns ls i).1.map PyData.int)), .own (OL ((numT ns ls i).2.map dP)), .fz (RD (.int (0 + (i : Int))))]⟩ _
    have hi' : i < ns.length := by omega
    rw [Int.zero_add]
    have a1 : ns[i]? = some (ix ns (i : Int)) := by rw [ix_nat (List.getElem?_eq_getElem hi'), List.getElem?_eq_getElem hi']
    have a2 : ls[i]? = some (ix ls (i : Int)) := by rw [ix_nat (List.getElem?_eq_getElem (show i < ls.length by omega)), List.getElem?_eq_getElem (show i < ls.length by omega)]
    have sl := numT_len ns ls i
    obtain ⟨x, ex⟩ : ∃ x, ix ns (i : Int) = x := ⟨_, rfl⟩
    obtain ⟨y, ey⟩ : ∃ y, ix ls (i : Int) = y := ⟨_, rfl⟩
    rw [ex] at a1
    rw [ey] at a2
    have R1 : ∀ {c : Ct}, c.g[0]? = some (.fz (RSI ns)) → c.g[4]? = some (.fz (RD (.int (i : Int)))) → ∀ {b : Bool}, E b c (tOp (rIx K) (tVar 0) (tVar 4)) (RD (.int x)) := fun h1 h2 => by
      rw [← ex]
      exact e_op (o_ixSI (by omega)) (e_var h1) (e_var h2)
    have R2 : ∀ {c : Ct}, c.g[1]? = some (.fz (RSI ls)) → c.g[4]? = some (.fz (RD (.int (i : Int)))) → ∀ {b : Bool}, E b c (tOp (rIx K) (tVar 1) (tVar 4)) (RD (.int y)) := fun h1 h2 => by
      rw [← ey]
      exact e_op (o_ixSI (by omega)) (e_var h1) (e_var h2)
    refine s_seq ?_
    refine s_if (t_and (t_T (e_op o_cmpI0 (R1 rfl rfl) e_int)) (fun _ => t_T (e_op (o_niE (f := PyData.int) (a := y) (xs := (numT ns ls i).1) (hd := inferInstance) enc_int (by decide) trivial (fun _ _ => trivial)) (R2 rfl rfl) (e_own rfl)))) (fun z => s_appM (xs := (numT ns ls i).1) (a := y) rfl (R2 rfl rfl) (by omega) (s_eqO 2 (C' := OL ((numE (numT ns ls i).1 (x, y)).map PyData.int)) rfl (by unfold numE; rw [if_pos z]) ?_)) (fun z => s_pass (s_eqO 2 (C' := OL ((numE (numT ns ls i).1 (x, y)).map PyData.int)) rfl (by unfold numE; rw [if_neg (by rw [z]; exact Bool.false_ne_true)]) ?_))
    all_goals
      show WC ⟨hs, less hs om, om, [.fz (RSI ns), .fz (RSI ls), .own (OL ((numE (numT ns ls i).1 (x, y)).map PyData.int)), .own (OL ((numT ns ls i).2.map dP)), .fz (RD (.int (i : Int)))]⟩ _
      try dsimp only
      refine s_appM (xs := (numT ns ls i).2) (a := numP (numT ns ls i).1 (x, y)) rfl (e_tup (m_cons (R1 rfl rfl) (m_cons (e_ite (enc := PyData.int) (t_T (e_op o_cmpI0 (R1 rfl rfl) e_int)) (fun z0 => e_op o_add e_int (e_indexI (i_own rfl) (R2 rfl rfl) (idxI_at (numE_mem (p := (x, y)) (of_decide_eq_true z0))) idxI_no)) (fun _ => e_int)) m_nil))) (by omega) ?_
      refine s_drop 4 ?_
      refine s_of ?_
      rw [numT_succ a1 a2]
      rfl
  · rintro γ rfl
    have en : (ns.length : Int).toNat = ns.length := by omega
    rw [en]
    have ef : (numT ns ls ns.length).2 = numF ns ls := by
      unfold numT numF
      rw [List.take_of_length_le (by rw [List.length_zip]; omega)]
    rw [ef]
    exact s_ret (e_tupleL (i_own rfl)) q
def lgrp (k : KS) (g : Int) : Int := ((k.filter fun p => decide (p.2 = g)).map (·.1)).sum
def lgS (k : KS) : Nat → Int
  | 0 => 0
  | i + 1 => lgS k i + lgrp k (1 + (i : Int)) % 2
def lfitsB : Kd → Int → Bool
  | .inl x, odd => if x = "none" then decide (odd = 0) else !decide (odd = 1)
  | .inr k, odd => decide (lgS k 3 = odd) || (decide (odd = 2) && decide (lgS k 3 = 0))
abbrev spLf : Sp := Sps (fun a : Kd × Int => [RD (dKd a.1), RD (.int a.2)]) (fun a _ => KdOk a.1) fun a => RD (.bool (lfitsB a.1 a.2))
theorem ok_lfits {f : Addr} {fd : FuncData} (F : Fun K "_law_fits" "_law_fits" s__law_fits f fd) (z_range : mg "range" = none) (z_int : mg "int" = none) (z_sum : mg "sum" = none) : FnOk P w K mg base CX0 1 f fd ["kind", "odd"] spLf := by
  refine fn_ok F sc__law_fits (fun _ => rfl) fun cdv A outer s H E0 hr => ?_
  have nd := sc__law_fits.nd
  refine ⟨_, (pss_cons (ps_if (pt_cmpR (r := rEqD K) (op_eqD hr.units) (pv 0) pe_str (nomark _)) (pss_one (ps_ret (pe_cmpR (r := rEq) op_eq (pv 1) pe_int (nomark _)))) pss_nil)
      (pss_cons (ps_if (pt_cmpR (r := rEqD K) (op_eqD hr.units) (pv 0) pe_str (nomark _)) (pss_one (ps_ret (pe_cmpR (r := rNe) op_ne (pv 1) pe_int (nomark _)))) pss_nil)
      (pss_cons (ps_set (i := 2) nd rfl (.inl rfl) pe_int)
      (pss_cons (ps_for PassesOwn.never rfl (pi_range2 rfl z_range (pa_cons pe_int (pa_cons pe_int pa_nil))) (pg_name (i := 3) nd rfl (.inr rfl))
        (pss_one (ps_set (i := 2) nd rfl (.inl rfl) (pe_op (r := rI0 fun i j => .int (i + j)) op_add (pv 2) (pe_op (r := rI (fun _ j => 0 < j) fun i j => .int (i % j)) op_mod (pe_callTy call_int1 (by rfl) z_int (by decide +kernel) (pa_cons (pe_callB (cr_sum rfl) (by rfl) z_sum (by decide +kernel) (pa_cons
          (pe_lc (own := [("pair", 4)]) (g := gName 4) rfl nd (pi_tup (pv 0)) (blkOk_by (N := ["kind", "odd", "groups", "group", "pair"]) (sc := defScope s__law_fits) (by decide +kernel)) (fun _ _ _ _ _ => pg_name (i := 4) nd rfl (.inl rfl))
            (fun _ _ _ _ _ => pts_one (pt_cmpR (r := rEq) op_eq (pe_ix (r := rIxT K) ix_tup (pv 4) pe_int (fun _ _ => rfl)) (pv 3) (nomark _))) (fun _ _ _ _ _ => pe_ix (r := rIxT K) ix_tup (pv 4) pe_int (fun _ _ => rfl))) pa_nil)) pa_nil)) pe_int)))))
      (pss_one (ps_ret (pe_or (pe_cmpR (r := rEq) op_eq (pv 2) (pv 1) (nomark _)) (pe_one (pe_and (pe_cmpR (r := rEq) op_eq (pv 1) pe_int (nomark _)) (pe_one (pe_cmpR (r := rEq) op_eq (pv 2) pe_int (nomark _)))))))))))), ?_⟩
  rintro ⟨κ, odd⟩ hs om Q hk q
  show WC ⟨hs, less hs om, om, [.fz (RD (dKd κ)), .fz (RD (.int odd)), .any, .any, .any]⟩ _
  replace hk : KdOk κ := hk
  replace q : ∀ H' v, Kp hs H' → (RD (.bool (lfitsB κ odd))).p (less H' om) v → Q v H' := q
  refine s_seq ?_
  refine s_if (t_T (e_op (show O2 (rEqD K) (RD (dKd κ)) (RD (.str "none")) _ from o_eqE (f := dKd) (a := κ) (b := .inl "none") (hd := inferInstance) enc_Kd (by decide) hk.enc strOk_none) (e_var rfl) e_str)) (fun z => ?_) (fun z => ?_)
  · have z : κ = .inl "none" := of_decide_eq_true z
    subst z
    refine s_ret (Pk.E.eq (e_op o_eqI (e_var rfl) e_int) ?_) q
    show PyData.bool (decide (odd = 0)) = .bool (if ("none" : Str) = "none" then decide (odd = 0) else !decide (odd = 1))
    rw [if_pos rfl]
  have z1 : ¬ κ = .inl "none" := of_decide_eq_false z
  refine s_pass ?_
  refine s_seq ?_
  refine s_if (t_T (e_op (show O2 (rEqD K) (RD (dKd κ)) (RD (.str "done")) _ from o_eqE (f := dKd) (a := κ) (b := .inl "done") (hd := inferInstance) enc_Kd (by decide) hk.enc strOk_done) (e_var rfl) e_str)) (fun z => ?_) (fun z => ?_)
  · have z : κ = .inl "done" := of_decide_eq_true z
    subst z
    refine s_ret (Pk.E.eq (e_op o_neI (e_var rfl) e_int) ?_) q
    show PyData.bool (!decide (odd = 1)) = .bool (if ("done" : Str) = "none" then decide (odd = 0) else !decide (odd = 1))
    rw [if_neg (by decide +kernel)]
  have z2 : ¬ κ = .inl "done" := of_decide_eq_false z
  refine s_pass ?_
  cases κ with
  | inl x =>
    rcases hk with e | e
    · exact absurd (by rw [e]) z1
    · exact absurd (by rw [e]) z2
  | inr k =>
    replace hk : k.length ≤ 100 := hk
    dsimp only
    refine s_seq ?_
    refine s_set (i := 2) (R := RD (.int 0)) (te := tC (.int 0)) e_int ?_
    show WC ⟨hs, less hs om, om, [.fz (RD (.tuple (k.map dP))), .fz (RD (.int odd)), .fz (RD (.int (lgS k 0))), .any, .any]⟩ _
    try dsimp only
    refine s_seq ?_
    refine s_rng (lo := 1) (n := (4 - 1 : Int).toNat) (fun i γ => γ = [.fz (RD (.tuple (k.map dP))), .fz (RD (.int odd)), .fz (RD (.int (lgS k i))), .any, .any]) (w_rng2 (i := 1) (j := 4) e_int e_int (by omega)) rfl ?_ ?_
    · rintro i γ hi rfl
      refine ⟨_, _, g_name, ?_⟩
      show WC ⟨hs, less hs om, om, [.fz (RD (.tuple (k.map dP))), .fz (RD (.int odd)), .fz (RD (.int (lgS k i))), .fz (RD (.int (1 + (i : Int)))), .any]⟩ _
      refine s_set (R := RD (.int (lgS k (i + 1)))) (e_op o_add (e_var rfl) (e_op (o_mod (by decide)) (e_cb o_int (a_cons (e_cb (o_sum (ns := (k.filter fun p => decide (p.2 = 1 + (i : Int))).map (·.1))) (a_cons (n_e
        (n_lcGM (xs := k) (p := fun p => decide (p.2 = 1 + (i : Int))) (fe := fun p => p.1) (encB := PyData.int) (is := [4]) (G := fun p => [.fz (RD (.tuple (k.map dP))), .fz (RD (.int odd)), .fz (RD (.int (lgS k i))), .fz (RD (.int (1 + (i : Int)))), .fz (RD (dP p))]) (w_tup (e_var rfl)) rfl (by decide) (fun _ p hp => g_name)
          (fun _ p hp => t_T (e_op o_eqI (e_op (o_ixT rfl) (e_var rfl) e_int) (e_var rfl))) (fun _ p hp _ => e_op (o_ixT rfl) (e_var rfl) e_int) (by omega))) a_nil)) a_nil)) e_int)) ?_
      refine s_drop 3 ?_
      exact s_of rfl
    · rintro γ rfl
      exact s_ret (e_or (e_op o_eqI (e_var rfl) (e_var rfl)) (fun _ => e_and (e_op o_eqI (e_var rfl) e_int) (fun _ => e_op o_eqI (e_var rfl) e_int))) q
def rowsS (m : List Int) (rs : List (List Int)) : List (List Int) := rs.flatMap fun r => m.map fun o => r ++ [o]
def rowsL (m : List Int) : Nat → List (List Int)
  | 0 => [[]]
  | n + 1 => rowsS m (rowsL m n)
theorem rowsS_succ {m : List Int} {rs : List (List Int)} {j : Nat} {r : List Int} (h : rs[j]? = some r) : rowsS m (rs.take (j + 1)) = rowsS m (rs.take j) ++ m.map fun o => r ++ [o] := by
  unfold rowsS
  rw [List.take_add_one, h, List.flatMap_append]
  show _ ++ List.flatMap _ [r] = _
  rw [List.flatMap_cons, List.flatMap_nil, List.append_nil]
theorem rowsS_len (m : List Int) (rs : List (List Int)) : (rowsS m rs).length = rs.length * m.length := by
  unfold rowsS
  induction rs with
  | nil => simp
  | cons r rs ih => rw [List.flatMap_cons, List.length_append, ih, List.length_map, List.length_cons, Nat.succ_mul, Nat.add_comm]
theorem rowsL_len {m : List Int} (hm : m.length ≤ 3) : ∀ {n : Nat}, n ≤ 3 → (rowsL m n).length ≤ 27 := fun {n} hn => by
  have b0 : (rowsL m 0).length = 1 := rfl
  have s : ∀ n, (rowsL m (n + 1)).length ≤ (rowsL m n).length * 3 := fun n => by
    show (rowsS m (rowsL m n)).length ≤ _
    rw [rowsS_len]
    exact Nat.mul_le_mul_left _ hm
  have b1 : (rowsL m 1).length ≤ (rowsL m 0).length * 3 := s 0
  have b2 : (rowsL m 2).length ≤ (rowsL m 1).length * 3 := s 1
  have b3 : (rowsL m 3).length ≤ (rowsL m 2).length * 3 := s 2
  match n, hn with
  | 0, _ => omega
  | 1, _ => omega
  | 2, _ => omega
  | 3, _ => omega
theorem rowsL_row {m : List Int} : ∀ {n : Nat} {r : List Int}, r ∈ rowsL m n → r.length = n ∧ ∀ x ∈ r, x ∈ m
  | 0, r, h => by
    have : r = [] := by simpa [rowsL] using h
    subst this
    exact ⟨rfl, fun _ z => nomatch z⟩
  | n + 1, r, h => by
    have h : r ∈ rowsS m (rowsL m n) := h
    unfold rowsS at h
    obtain ⟨r0, h0, h1⟩ := List.mem_flatMap.mp h
    obtain ⟨o, ho, rfl⟩ := List.mem_map.mp h1
    obtain ⟨a, b⟩ := rowsL_row h0
    refine ⟨by rw [List.length_append, a]; rfl, fun x hx => ?_⟩
    rcases List.mem_append.mp hx with z | z
    · exact b x z
    · rw [List.mem_singleton.mp z]; exact ho
abbrev spRw : Sp := Sps (fun a : List Int × Nat => [RD (.list (a.1.map PyData.int)), RD (.int (a.2 : Int))]) (fun a _ => a.1.length ≤ 3 ∧ a.2 ≤ 3) fun a => RD (.list ((rowsL a.1 a.2).map (eTL PyData.int)))
theorem ok_lrows {f : Addr} {fd : FuncData} (F : Fun K "_law_rows" "_law_rows" s__law_rows f fd) (z_range : mg "range" = none) : FnOk P w K mg base CX0 1 f fd ["menu", "many"] spRw := by
  refine fn_ok F sc__law_rows (fun _ => rfl) fun cdv A outer s H E0 hr => ?_
  have nd := sc__law_rows.nd
  refine ⟨_, (pss_cons (ps_set (i := 2) nd rfl (.inl rfl) (pe_lst (pa_cons (pe_tup pa_nil) pa_nil)))
      (pss_cons (ps_for PassesOwn.never rfl (pi_range1 rfl z_range (pa_cons (pv 1) pa_nil)) (pg_name (i := 3) nd rfl (.inl rfl))
        (pss_cons (ps_set (i := 4) nd rfl (.inl rfl) (pe_lst pa_nil))
        (pss_cons (ps_for PassesOwn.never rfl (pi_list (pv 2)) (pg_name (i := 5) nd rfl (.inr rfl))
          (pss_one (ps_set (i := 4) nd rfl (.inl rfl) (pe_op op_cat (pv 4) (pe_lc (own := [("one", 6)]) (g := gName 6) (tt := tYes) rfl nd (pi_list (pv 0)) (blkOk_by (N := ["menu", "many", "rows", "k", "longer", "row", "one"]) (sc := defScope s__law_rows) (by decide +kernel)) (fun _ _ _ _ _ => pg_name (i := 6) nd rfl (.inl rfl))
            (fun _ _ _ _ _ => pts_nil) (fun _ _ _ _ _ => pe_op (r := rCatA K) op_catA (pv 5) (pe_tup (pa_cons (pv 6) pa_nil))))))))
        (pss_one (ps_set (i := 2) nd rfl (.inl rfl) (pv 4))))))
      (pss_one (ps_ret (pv 2))))), ?_⟩
  rintro ⟨m, n⟩ hs om Q ⟨hm, hn⟩ q
  show WC ⟨hs, less hs om, om, [.fz (RD (.list (m.map PyData.int))), .fz (RD (.int (n : Int))), .any, .any, .any, .any, .any]⟩ _
  replace hm : m.length ≤ 3 := hm
  replace hn : n ≤ 3 := hn
  replace q : ∀ H' v, Kp hs H' → (RD (.list ((rowsL m n).map (eTL PyData.int)))).p (less H' om) v → Q v H' := q
  refine s_seq ?_
  refine s_set (R := RD (.list ((rowsL m 0).map (eTL PyData.int)))) (n_e (n_lst (m_cons (e_tup m_nil) m_nil))) ?_
  show WC ⟨hs, less hs om, om, [.fz (RD (.list (m.map PyData.int))), .fz (RD (.int (n : Int))), .fz (RD (.list ((rowsL m 0).map (eTL PyData.int)))), .any, .any, .any, .any]⟩ _
  try dsimp only
  refine s_seq ?_
  refine s_rng (lo := 0) (n := (n : Int).toNat) (fun i γ => γ = [.fz (RD (.list (m.map PyData.int))), .fz (RD (.int (n : Int))), .fz (RD (.list ((rowsL m i).map (eTL PyData.int)))), .any, .any, .any, .any]) (w_rng1 (j := (n : Int)) (e_var rfl) (by omega)) rfl ?_ ?_
  · rintro i γ hi rfl
    refine ⟨_, _, g_name, ?_⟩
    show WC ⟨hs, less hs om, om, [.fz (RD (.list (m.map PyData.int))), .fz (RD (.int (n : Int))), .fz (RD (.list ((rowsL m i).map (eTL PyData.int)))), .fz (RD (.int (0 + (i : Int)))), .any, .any, .any]⟩ _
    refine s_drop 3 ?_
    show WC ⟨hs, less hs om, om, [.fz (RD (.list (m.map PyData.int))), .fz (RD (.int (n : Int))), .fz (RD (.list ((rowsL m i).map (eTL PyData.int)))), .any, .any, .any, .any]⟩ _
    have rl := rowsL_len hm (n := i) (by omega)
    refine s_seq ?_
    refine s_set (R := RD (.list ((rowsS m ((rowsL m i).take 0)).map (eTL PyData.int)))) (n_e (n_lst m_nil)) ?_
    show WC ⟨hs, less hs om, om, [.fz (RD (.list (m.map PyData.int))), .fz (RD (.int (n : Int))), .fz (RD (.list ((rowsL m i).map (eTL PyData.int)))), .any, .fz (RD (.list ((rowsS m ((rowsL m i).take 0)).map (eTL PyData.int)))), .any, .any]⟩ _
    try dsimp only
    refine s_seq ?_
    refine s_forG (xs := rowsL m i) (fun j γ => γ = [.fz (RD (.list (m.map PyData.int))), .fz (RD (.int (n : Int))), .fz (RD (.list ((rowsL m i).map (eTL PyData.int)))), .any, .fz (RD (.list ((rowsS m ((rowsL m i).take j)).map (eTL PyData.int)))), .any, .any]) (w_list (e_var rfl)) rfl ?_ ?_
    · rintro h1 j r γ kp hx rfl
      refine ⟨_, _, g_name, ?_⟩
      show WC ⟨hs, h1, om, [.fz (RD (.list (m.map PyData.int))), .fz (RD (.int (n : Int))), .fz (RD (.list ((rowsL m i).map (eTL PyData.int)))), .any, .fz (RD (.list ((rowsS m ((rowsL m i).take j)).map (eTL PyData.int)))), .fz (RD (.tuple (r.map PyData.int))), .any]⟩ _
      have rr := (rowsL_row (List.mem_of_getElem? hx)).1
      have tl : ((rowsL m i).take j).length ≤ 27 := by rw [List.length_take]; omega
      have sl := rowsS_len m ((rowsL m i).take j)
      have sm : ((rowsL m i).take j).length * m.length ≤ 27 * 3 := Nat.mul_le_mul tl hm
      refine s_set (R := RD (.list ((rowsS m ((rowsL m i).take (j + 1))).map (eTL PyData.int)))) (n_e (EN.eqL (n_catM (xs := rowsS m ((rowsL m i).take j)) (ys := m.map fun o => r ++ [o]) (i_of (e_var rfl))
        (i_n (n_lcGM1 (xs := m) (fe := fun o => r ++ [o]) (encB := eTL PyData.int) (is := [6]) (G := fun o => [.fz (RD (.list (m.map PyData.int))), .fz (RD (.int (n : Int))), .fz (RD (.list ((rowsL m i).map (eTL PyData.int)))), .any, .fz (RD (.list ((rowsS m ((rowsL m i).take j)).map (eTL PyData.int)))), .fz (RD (.tuple (r.map PyData.int))), .fz (RD (.int o))]) (w_list (e_var rfl)) rfl (by decide) (fun _ o ho => g_name)
          (fun _ o ho _ => e_op (o_catT (xs := r) (ys := [o]) (enc := PyData.int) (by show _ + 1 ≤ _; omega)) (e_var rfl) (e_tup (m_cons (e_var rfl) m_nil))) (by omega))) (by rw [List.length_map]; omega)) (by rw [rowsS_succ hx]))) ?_
      refine s_drop 5 ?_
      exact s_of rfl
    · rintro γ rfl
      rw [List.take_length]
      refine s_set (R := RD (.list ((rowsL m (i + 1)).map (eTL PyData.int)))) (e_var rfl) ?_
      refine s_drop 4 ?_
      exact s_of rfl
  · rintro γ rfl
    have en : (n : Int).toNat = n := by omega
    rw [en]
    exact s_ret (e_var rfl) q
end
section
open GxR NdefX PySem.Spec PyProof.Rows
variable {P : Program} {w : World} {K : PySem.W.Frag} {mg : Str → Option Value} {base : Heap} {b : Bool} {c : Ct} {ta tb : TE}
abbrev NE := Pl × KS
abbrev dNE : NE → PyData := fun a => .tuple ((a.1 :: a.2).map dP)
abbrev ltNE (a b : NE) : Bool := PySem.W.listLt (a.1 :: a.2) (b.1 :: b.2)
theorem ordNE : OrdD dNE ltNE := by
  have h := enc_tupl enc_P
  refine ⟨fun a b => PySem.W.DatumOrd.lt_eq (PySem.W.Tup.mk (a.1 :: a.2)) (PySem.W.Tup.mk (b.1 :: b.2)), fun a b => PySem.W.DatumOrd.alike (PySem.W.Tup.mk (a.1 :: a.2)) (PySem.W.Tup.mk (b.1 :: b.2)), fun a => ⟨_, _, rfl⟩, fun a b e => ?_, fun a => Nat.le_trans (h.dep (a.1 :: a.2)) (by decide), fun a => h.nod (a.1 :: a.2)⟩
  have z := h.eqv (a.1 :: a.2) (b.1 :: b.2)
  have y := h.eqv (b.1 :: b.2) (b.1 :: b.2)
  have e : (PyData.tuple ((a.1 :: a.2).map dP)) = .tuple ((b.1 :: b.2).map dP) := e
  rw [e, y, decide_eq_true rfl] at z
  have := of_decide_eq_true z.symm
  injection this with e1 e2
  exact Prod.ext e1 e2
theorem total_ord {α : Type} {enc : α → PyData} {lt : α → α → Bool} (O : OrdD enc lt) : PySem.W.TotalLe (fun x y => !lt y x) := by
  have : (fun x y => !lt y x) = PySem.W.dataLe false enc := by
    funext x y
    show _ = (!PySem.W.dataLt (enc y) (enc x))
    rw [O.lt_eq]
  rw [this]
  exact PySem.W.sortLe_total _ _ _
theorem listLt_anti : ∀ {a b : List Pl}, PySem.W.listLt a b = false → PySem.W.listLt b a = false → a = b
  | [], [], _, _ => rfl
  | [], _ :: _, h, _ => by cases h
  | _ :: _, [], _, h => by cases h
  | x :: xs, y :: ys, h1, h2 => by
    unfold PySem.W.listLt at h1 h2
    by_cases e : x = y
    · rw [if_pos e] at h1
      rw [if_pos e.symm] at h2
      rw [e, listLt_anti h1 h2]
    · rw [if_neg e] at h1
      rw [if_neg fun z => e z.symm] at h2
      exfalso
      replace h1 : (if x.1 = y.1 then decide (x.2 < y.2) else decide (x.1 < y.1)) = false := h1
      replace h2 : (if y.1 = x.1 then decide (y.2 < x.2) else decide (y.1 < x.1)) = false := h2
      by_cases f : x.1 = y.1
      · rw [if_pos f, decide_eq_false_iff_not] at h1
        rw [if_pos f.symm, decide_eq_false_iff_not] at h2
        exact e (Prod.ext f (by omega))
      · rw [if_neg f, decide_eq_false_iff_not] at h1
        rw [if_neg fun z => f z.symm, decide_eq_false_iff_not] at h2
        omega
/-- sorted, as soon as some order of it is found that rises -/
theorem sortNE_eq {xs ys : List NE} (p : ys.Perm xs) (h : ys.Pairwise fun x y => ltNE y x = false) : sortO ltNE xs = ys := by
  refine List.Perm.eq_of_pairwise (le := fun x y => (!ltNE y x) = true) (fun a b _ _ h1 h2 => ?_) (PySem.W.sort_pairwise (total_ord ordNE) xs) (h.imp fun z => by rw [z]; rfl) ((List.mergeSort_perm _ _).trans p.symm)
  rw [Bool.not_eq_true'] at h1 h2
  have := listLt_anti h2 h1
  injection this with e1 e2
  exact Prod.ext e1 e2
def kStep (odd : Int) (ns : List Int) (F : List KS) (ls : List Int) : List KS :=
  if (decide (0 < ns.sum) && (!decide (numF ns ls ∈ F) && lfitsB (.inr (numF ns ls)) odd)) = true then F ++ [numF ns ls] else F
def kRow (n : Nat) (odd : Int) (F : List KS) (ns : List Int) : List KS := (rowsL (rgI 0 n) n).foldl (kStep odd ns) F
def foundL (n : Nat) (odd : Int) : List KS := (rowsL [0, 1, 2] n).foldl (kRow n odd) []
def toNE (k : KS) : NE := (k.headD default, k.tail)
def ofNE (a : NE) : KS := a.1 :: a.2
theorem kStep_len (odd : Int) (ns : List Int) (F : List KS) (ls : List Int) : (kStep odd ns F ls).length ≤ F.length + 1 := by
  unfold kStep
  split
  · rw [List.length_append]; exact Nat.le_refl _
  · omega
theorem kFold_len (odd : Int) (ns : List Int) : ∀ (l : List (List Int)) (F : List KS), (l.foldl (kStep odd ns) F).length ≤ F.length + l.length
  | [], F => Nat.le_refl _
  | x :: l, F => by
    have a := kFold_len odd ns l (kStep odd ns F x)
    have b := kStep_len odd ns F x
    rw [List.foldl_cons, List.length_cons]
    omega
theorem rgI_length {lo : Int} {n : Nat} : (rgI lo n).length = n := by unfold rgI; rw [List.length_map, List.length_range]
theorem kRow_len {n : Nat} (hn : n ≤ 3) (odd : Int) (F : List KS) (ns : List Int) : (kRow n odd F ns).length ≤ F.length + 27 := by
  have a := kFold_len odd ns (rowsL (rgI 0 n) n) F
  have b := rowsL_len (m := rgI 0 n) (by rw [rgI_length]; exact hn) hn
  unfold kRow
  omega
theorem kRows_len {n : Nat} (hn : n ≤ 3) (odd : Int) : ∀ (l : List (List Int)) (F : List KS), (l.foldl (kRow n odd) F).length ≤ F.length + 27 * l.length
  | [], F => Nat.le_refl _
  | x :: l, F => by
    have a := kRows_len hn odd l (kRow n odd F x)
    have b := kRow_len hn odd F x
    rw [List.foldl_cons, List.length_cons]
    omega
theorem fold_succ {α β : Type} {f : β → α → β} {z : β} {l : List α} {i : Nat} {x : α} (h : l[i]? = some x) : (l.take (i + 1)).foldl f z = f ((l.take i).foldl f z) x := by
  rw [List.take_add_one, h, List.foldl_append]
  rfl
/-- every numbered kind of n rows has n rows -/
theorem numF_len {ns ls : List Int} (h : ns.length ≤ ls.length) : (numF ns ls).length = ns.length := by
  have : ∀ (l : List (Int × Int)) (s : List Int × List Pl), (l.foldl numS s).2.length = s.2.length + l.length := fun l => by
    induction l with
    | nil => exact fun s => rfl
    | cons p l ih =>
      intro s
      rw [List.foldl_cons, ih, List.length_cons]
      show (s.2 ++ [_]).length + l.length = _
      rw [List.length_append]
      show s.2.length + 1 + l.length = _
      omega
  have := this (ns.zip ls) ([], [])
  rw [List.length_zip] at this
  unfold numF
  rw [this]
  show 0 + _ = _
  omega
def NeAll (F : List KS) : Prop := ∀ k ∈ F, k ≠ []
theorem kStep_ne {odd : Int} {ns : List Int} {F : List KS} {ls : List Int} (h : NeAll F) (hn : numF ns ls ≠ []) : NeAll (kStep odd ns F ls) := by
  unfold kStep
  split
  · intro k hk
    rcases List.mem_append.mp hk with z | z
    · exact h k z
    · rw [List.mem_singleton.mp z]; exact hn
  · exact h
theorem foundL_ne {n : Nat} (h1 : 1 ≤ n) (odd : Int) : NeAll (foundL n odd) := by
  have row : ∀ (ns : List Int), ns.length = n → ∀ (l : List (List Int)), (∀ x ∈ l, x.length = n) → ∀ F : List KS, NeAll F → NeAll (l.foldl (kStep odd ns) F) := fun ns hns l => by
    induction l with
    | nil => exact fun _ F h => h
    | cons x l ih =>
      intro hl F h
      refine ih (fun y hy => hl y (.tail _ hy)) _ (kStep_ne h fun e => ?_)
      have := numF_len (ns := ns) (ls := x) (by rw [hns, hl x (.head _)]; exact Nat.le_refl _)
      rw [e, hns] at this
      have z : (0 : Nat) = n := this
      omega
  have rows : ∀ (l : List (List Int)), (∀ x ∈ l, x.length = n) → ∀ F : List KS, NeAll F → NeAll (l.foldl (kRow n odd) F) := fun l => by
    induction l with
    | nil => exact fun _ F h => h
    | cons x l ih =>
      intro hl F h
      exact ih (fun y hy => hl y (.tail _ hy)) _ (row x (hl x (.head _)) _ (fun y hy => (rowsL_row hy).1) F h)
  exact rows _ (fun x hx => (rowsL_row hx).1) [] fun _ z => nomatch z
def lkinds (n : Nat) (odd : Int) : List Kd := (([.inl "none", .inl "done"] : List Kd).filter fun κ => lfitsB κ odd) ++ ((sortO ltNE ((foundL n odd).map toNE)).map fun a => .inr (ofNE a))
theorem ofNE_to {k : KS} (h : k ≠ []) : ofNE (toNE k) = k := by
  cases k with
  | nil => exact absurd rfl h
  | cons x xs => rfl
abbrev spKk : Sp := SpN (fun a : Nat × Int => [RD (.int (a.1 : Int)), RD (.int a.2)]) (fun a _ => 1 ≤ a.1 ∧ a.1 ≤ 3) fun a => OL ((lkinds a.1 a.2).map dKd)
theorem ok_lkinds {f fR fN fF : Addr} {fd fdR fdN fdF : FuncData} (F : Fun K "_law_kinds" "_law_kinds" s__law_kinds f fd) (z_range : mg "range" = none) (z_list : mg "list" = none) (z_sum : mg "sum" = none) (z_sorted : mg "sorted" = none)
    (GR : FnOk P w K mg base CX0 1 fR fdR ["menu", "many"] spRw) (bR : Binds K fdR ["menu", "many"] []) (gR : mg "_law_rows" = some (.ref fR)) (kR : PySem.W.keepIn K (.ref fR) = true)
    (GN : FnOk P w K mg base CX0 1 fN fdN ["numbers", "lots"] spNu) (bN : Binds K fdN ["numbers", "lots"] []) (gN : mg "_law_numbered" = some (.ref fN)) (kN : PySem.W.keepIn K (.ref fN) = true)
    (GF : FnOk P w K mg base CX0 1 fF fdF ["kind", "odd"] spLf) (bF : Binds K fdF ["kind", "odd"] []) (gF : mg "_law_fits" = some (.ref fF)) (kF : PySem.W.keepIn K (.ref fF) = true) :
    FnOk P w K mg base CX0 2 f fd ["heights", "odd"] spKk := by
  refine fn_okN F sc__law_kinds (fun _ => rfl) fun cdv A outer s H E0 hr => ?_
  have nd := sc__law_kinds.nd
  refine ⟨_, (pss_cons (ps_set (i := 2) nd rfl (.inl rfl) (pe_lst pa_nil))
      (pss_cons (ps_for PassesOwn.never rfl (show PI _ _ _ (iList K (tCall spRw [] E0 (tCons (tLst (tCons (tC (.int 0)) (tCons (tC (.int 1)) (tCons (tC (.int 2)) tNil)))) (tCons (tVar 0) tNil)))) from pi_list (pe_call GR (by exact hr.mono (by decide)) (by rfl) gR kR bR .nil pass0 (pa_cons (pe_lst (pa_cons pe_int (pa_cons pe_int (pa_cons pe_int pa_nil)))) (pa_cons (pv 0) pa_nil)))) (pg_name (i := 3) nd rfl (.inl rfl))
        (pss_one (ps_for PassesOwn.never rfl (show PI _ _ _ (iList K (tCall spRw [] E0 (tCons (tLstRg (tRg1 (tVar 0))) (tCons (tVar 0) tNil)))) from pi_list (pe_call GR (by exact hr.mono (by decide)) (by rfl) gR kR bR .nil pass0 (pa_cons (pe_listRg rfl (by rfl) z_list (prg_1 (by rfl) z_range (pv 0))) (pa_cons (pv 0) pa_nil)))) (pg_name (i := 4) nd rfl (.inl rfl))
          (pss_cons (ps_set (i := 5) nd rfl (.inl rfl) (pe_call GN (by exact hr.mono (by decide)) (by rfl) gN kN bN .nil pass0 (pa_cons (pv 3) (pa_cons (pv 4) pa_nil))))
          (pss_one (ps_if (PW.pt (pw_and (pt_cmpR (r := rI0 fun i j => .bl (decide (j < i))) op_gt (pe_callB (cr_sumT rfl) (by rfl) z_sum (by decide +kernel) (pa_cons (pv 3) pa_nil)) pe_int (nomark _)) (pw_and (pt_cmpR (r := rNotInD K) (op_notInD (room65 hr)) (pv 5) (pv 2) (by rfl))
              (pw_and1 (pt_val (pe_call GF (by exact hr.mono (by decide)) (by rfl) gF kF bF .nil pass0 (pa_cons (pv 5) (pa_cons (pv 1) pa_nil)))))))) (pss_one (ps_expr (pe_bm PySem.F.plainAttrs_list PySem.F.slot_list_append PySem.F.type_list_append mt_append (pv 2) (pa_cons (pv 5) pa_nil)))) pss_nil))))))
      (pss_one (ps_ret (pe_op op_cat (pe_lc (own := [("kind", 5)]) (g := gName 5) rfl nd (pi_list (pe_lst (pa_cons pe_str (pa_cons pe_str pa_nil)))) (blkOk_by (N := ["heights", "odd", "found", "numbers", "lots", "kind"]) (sc := defScope s__law_kinds) (by decide +kernel)) (fun _ _ _ _ _ => pg_name (i := 5) nd rfl (.inl rfl))
          (fun _ _ _ _ _ => pts_one (pt_val (pe_call GF (by exact hr.mono (by decide)) (by rfl) gF kF bF .nil pass0 (pa_cons (pv 5) (pa_cons (pv 1) pa_nil))))) (fun _ _ _ _ _ => pv 5))
        (pe_callB (cr_sortO ordNE (by exact hr.units)) (by rfl) z_sorted (by decide +kernel) (pa_cons (pv 2) pa_nil))))))), ?_⟩
  rintro ⟨n, odd⟩ hs om Q ⟨n1, n3⟩ q
  show WC ⟨hs, less hs om, om, [.fz (RD (.int (n : Int))), .fz (RD (.int odd)), .any, .any, .any, .any]⟩ _
  replace n1 : 1 ≤ n := n1
  replace n3 : n ≤ 3 := n3
  replace q : ∀ H' p o, Kp hs H' → H' p = none → (OL ((lkinds n odd).map dKd)).p (less H' om) o → Q (.ref p) (upd H' p o) := q
  have enc_K := enc_tupl enc_P
  have rl := rowsL_len (m := [0, 1, 2]) (by decide) n3
  have rl2 := rowsL_len (m := rgI 0 n) (by rw [rgI_length]; exact n3) n3
  have en : (n : Int).toNat = n := by omega
  have fitsR : ∀ {c : Ct} {b : Bool} {te : TE} {κ : Kd}, KdOk κ → E b c te (RD (dKd κ)) → c.g[1]? = some (.fz (RD (.int odd))) → E b c (tCall spLf [] E0 (tCons te (tCons (tVar 1) tNil))) (RD (.bool (lfitsB κ odd))) := fun {c b te κ} hk he h1 => c_call (sok_sps (Rs := fun a : Kd × Int => [RD (dKd a.1), RD (.int a.2)]) (P := fun a _ => KdOk a.1) (R := fun a => RD (.bool (lfitsB a.1 a.2))) (κ, odd)) (a_cons he (a_cons (e_var h1) a_nil)) (fun _ _ => hk)
  refine s_seq ?_
  refine s_new (C := OL ((([] : List KS)).map (eTL dP))) (n_lst m_nil) ?_
  show WC ⟨hs, less hs om, om, [.fz (RD (.int (n : Int))), .fz (RD (.int odd)), .own (OL (((([] : List KS))).map (eTL dP))), .any, .any, .any]⟩ _
  try dsimp only
  refine s_seq ?_
  refine s_forG (xs := rowsL [0, 1, 2] n) (fun i γ => γ = [.fz (RD (.int (n : Int))), .fz (RD (.int odd)), .own (OL ((((rowsL [0, 1, 2] n).take i).foldl (kRow n odd) []).map (eTL dP))), .any, .any, .any])
    (w_list (f := eTL PyData.int) (c_call (sok_sps (Rs := fun a : List Int × Nat => [RD (.list (a.1.map PyData.int)), RD (.int (a.2 : Int))]) (P := fun a _ => a.1.length ≤ 3 ∧ a.2 ≤ 3) (R := fun a => RD (.list ((rowsL a.1 a.2).map (eTL PyData.int)))) ([0, 1, 2], n)) (a_cons (n_e (n_lst (m_cons e_int (m_cons e_int (m_cons e_int m_nil))))) (a_cons (e_var rfl) a_nil)) (fun _ _ => ⟨by show (3 : Nat) ≤ 3; exact Nat.le_refl _, n3⟩))) rfl ?_ ?_
  · rintro h1 i ns γ kp hx rfl
    refine ⟨_, _, g_name, ?_⟩
    obtain ⟨F0, hF0⟩ : ∃ F0, ((rowsL [0, 1, 2] n).take i).foldl (kRow n odd) [] = F0 := ⟨_, rfl⟩
    have f0l : F0.length ≤ 27 * 27 := by
      have := kRows_len n3 odd ((rowsL [0, 1, 2] n).take i) []
      rw [hF0, List.length_take] at this
      have z : ([] : List KS).length = 0 := rfl
      omega
    rw [hF0]
    show WC ⟨hs, h1, om, [.fz (RD (.int (n : Int))), .fz (RD (.int odd)), .own (OL (F0.map (eTL dP))), .fz (RD (.tuple (ns.map PyData.int))), .any, .any]⟩ _
    have nl := (rowsL_row (List.mem_of_getElem? hx)).1
    refine s_forG (xs := rowsL (rgI 0 n) n) (fun j γ => γ = [.fz (RD (.int (n : Int))), .fz (RD (.int odd)), .own (OL ((((rowsL (rgI 0 n) n).take j).foldl (kStep odd ns) F0).map (eTL dP))), .fz (RD (.tuple (ns.map PyData.int))), .any, .any])
      (w_list (f := eTL PyData.int) (c_call (sok_sps (Rs := fun a : List Int × Nat => [RD (.list (a.1.map PyData.int)), RD (.int (a.2 : Int))]) (P := fun a _ => a.1.length ≤ 3 ∧ a.2 ≤ 3) (R := fun a => RD (.list ((rowsL a.1 a.2).map (eTL PyData.int)))) (rgI 0 n, n)) (a_cons (n_e (EN.eqL (n_listRg (i := (n : Int)) (e_var rfl) (by omega)) (by rw [en]))) (a_cons (e_var rfl) a_nil)) (fun _ _ => ⟨by show (rgI 0 n).length ≤ 3; rw [rgI_length]; exact n3, n3⟩))) rfl ?_ ?_
    · rintro h2 j ls γ kp2 hx2 rfl
      refine ⟨_, _, g_name, ?_⟩
      have ll := (rowsL_row (List.mem_of_getElem? hx2)).1
      have kl := numF_len (ns := ns) (ls := ls) (by omega)
      rw [fold_succ hx2]
      obtain ⟨F1, hF1⟩ : ∃ F1, ((rowsL (rgI 0 n) n).take j).foldl (kStep odd ns) F0 = F1 := ⟨_, rfl⟩
      have f1l : F1.length ≤ 27 * 27 + 27 := by
        have := kFold_len odd ns ((rowsL (rgI 0 n) n).take j) F0
        rw [hF1, List.length_take] at this
        omega
      rw [hF1]
      show WC ⟨hs, h2, om, [.fz (RD (.int (n : Int))), .fz (RD (.int odd)), .own (OL (F1.map (eTL dP))), .fz (RD (.tuple (ns.map PyData.int))), .fz (RD (.tuple (ls.map PyData.int))), .any]⟩ _
      refine s_seq ?_
      refine s_set (R := RD (.tuple ((numF ns ls).map dP))) (c_call (sok_sps (Rs := fun a : List Int × List Int => [RSI a.1, RSI a.2]) (P := fun a _ => a.1.length ≤ 100 ∧ a.1.length ≤ a.2.length) (R := fun a => RD (.tuple ((numF a.1 a.2).map dP))) (ns, ls)) (a_cons (rsi_t (e_var rfl)) (a_cons (rsi_t (e_var rfl)) a_nil)) (fun _ _ => ⟨by show ns.length ≤ 100; omega, by show ns.length ≤ ls.length; omega⟩)) ?_
      obtain ⟨k0, hk0⟩ : ∃ k0, numF ns ls = k0 := ⟨_, rfl⟩
      have ek : kStep odd ns F1 ls = if (decide (0 < ns.sum) && (!decide (k0 ∈ F1) && lfitsB (.inr k0) odd)) = true then F1 ++ [k0] else F1 := by rw [← hk0]; rfl
      rw [ek]
      rw [hk0] at kl ⊢
      show WC ⟨hs, h2, om, [.fz (RD (.int (n : Int))), .fz (RD (.int odd)), .own (OL (F1.map (eTL dP))), .fz (RD (.tuple (ns.map PyData.int))), .fz (RD (.tuple (ls.map PyData.int))), .fz (RD (.tuple (k0.map dP)))]⟩ _
      try dsimp only
      refine s_if (t_and (t_T (e_op o_cmpI0 (e_cb o_sumT (a_cons (e_var rfl) a_nil)) e_int)) (fun _ => t_and (t_T (e_op (o_niE (f := eTL dP) (a := k0) (xs := F1) (hd := inferInstance) enc_K (by decide) (fun _ _ => ⟨trivial, trivial⟩) (fun _ _ _ _ => ⟨trivial, trivial⟩)) (e_var rfl) (e_own rfl))) (fun _ => t_B (fitsR (κ := .inr k0) (by show k0.length ≤ 100; omega) (e_var rfl) rfl)))) (fun z => ?_) (fun z => ?_)
      · refine s_appM (xs := F1) (a := k0) rfl (e_var rfl) (by omega) ?_
        refine s_drop 4 ?_
        refine s_drop 5 ?_
        refine s_of ?_
        rw [if_pos z]
        rfl
      · refine s_pass ?_
        refine s_drop 4 ?_
        refine s_drop 5 ?_
        refine s_of ?_
        rw [if_neg (by rw [z]; exact Bool.false_ne_true)]
        rfl
    · rintro γ rfl
      rw [List.take_length]
      refine s_drop 3 ?_
      refine s_of ?_
      rw [fold_succ hx, hF0]
      rfl
  · rintro γ rfl
    rw [List.take_length]
    have ef : (rowsL [0, 1, 2] n).foldl (kRow n odd) [] = foundL n odd := rfl
    rw [ef]
    have hne := foundL_ne n1 odd
    have fl : (foundL n odd).length ≤ 27 * 27 := by
      have := kRows_len n3 odd (rowsL [0, 1, 2] n) []
      rw [ef] at this
      have z : ([] : List KS).length = 0 := rfl
      omega
    have e1 : (foundL n odd).map (eTL dP) = ((foundL n odd).map toNE).map dNE := by
      rw [List.map_map]
      refine List.map_congr_left fun k hk => ?_
      show PyData.tuple (k.map dP) = .tuple ((ofNE (toNE k)).map dP)
      rw [ofNE_to (hne k hk)]
    have sl : (sortO ltNE ((foundL n odd).map toNE)).length ≤ 27 * 27 := by rw [sortO_len, List.length_map]; exact fl
    show WC ⟨hs, less hs om, om, [.fz (RD (.int (n : Int))), .fz (RD (.int odd)), .own (OL ((foundL n odd).map (eTL dP))), .any, .any, .any]⟩ _
    rw [e1]
    try dsimp only
    have tf : ((([.inl "none", .inl "done"] : List Kd).filter fun κ => lfitsB κ odd)).length ≤ 2 := List.length_filter_le _ _
    exact s_retNew (EN.eqL (n_cat (i_n (n_lcM (xs := ([.inl "none", .inl "done"] : List Kd)) (enc := dKd) (p := fun κ => lfitsB κ odd) (h := fun κ => κ) (encB := dKd) (is := [5]) (G := fun κ => [.fz (RD (.int (n : Int))), .fz (RD (.int odd)), .own (OL (((foundL n odd).map toNE).map dNE)), .any, .any, .fz (RD (dKd κ))])
        (i_n (n_lst (m_cons e_str (m_cons e_str m_nil)))) rfl (by decide) (fun _ κ hκ => g_name)
        (fun _ κ hκ => t_B (fitsR (kindsA_ok (n := 0) (by decide) κ (List.mem_append_left _ hκ)) (e_var rfl) rfl)) (fun _ κ hκ _ => e_var rfl) (by decide)))
      (i_n (n_sortO ordNE (i_own rfl))) (by rw [List.length_map, List.length_map, List.length_map, sizeLine_eq]; omega)) (by
        show _ = ((([.inl "none", .inl "done"] : List Kd).filter fun κ => lfitsB κ odd) ++ ((sortO ltNE ((foundL n odd).map toNE)).map fun a => (.inr (ofNE a) : Kd))).map dKd
        rw [List.map_append, List.map_id', List.map_map]
        rfl)) q
end
section
open GxR NdefX PySem.Spec PyProof.Rows
def yKinds (n : Nat) (odd : Int) : List NE := ((kinK n).filter fun k => hasN k && fitsB (.inr k) odd).map toNE
def risesB : List NE → Bool
  | [] => true
  | a :: l => (l.all fun x => !ltNE x a) && risesB l
theorem rises_pw : ∀ {l : List NE}, risesB l = true → l.Pairwise fun x y => ltNE y x = false
  | [], _ => .nil
  | a :: l, h => by
    unfold risesB at h
    rw [Bool.and_eq_true, List.all_eq_true] at h
    exact List.pairwise_cons.mpr ⟨fun y hy => by have := h.1 y hy; rw [Bool.not_eq_true'] at this; exact this, rises_pw h.2⟩
def kindT (n : Nat) (odd : Int) (m : Nat) : Bool := ((yKinds n odd).isPerm ((foundL n odd).map toNE) && risesB (yKinds n odd)) && (decide ((([.inl "none", .inl "done"] : List Kd).filter fun κ => lfitsB κ odd) ++ ((yKinds n odd).map fun a => .inr (ofNE a)) = kindsB n odd) && (decide ((kindsB n odd).length = m) && ((kindsB n odd).all fun κ => [(0 : Int), 1, 2].all fun o => fitsB κ o == lfitsB κ o)))
theorem kindT2 : kindT 2 0 7 = true ∧ kindT 2 1 6 = true ∧ kindT 2 2 7 = true := by decide +kernel
theorem kindT3 : kindT 3 0 25 = true ∧ kindT 3 1 34 = true ∧ kindT 3 2 36 = true := by decide +kernel
structure KindF (n : Nat) (odd : Int) (m : Nat) : Prop where
  eq : lkinds n odd = kindsB n odd
  len : (kindsB n odd).length = m
  fit : ∀ κ ∈ kindsB n odd, ∀ o : Int, 0 ≤ o → o < 3 → fitsB κ o = lfitsB κ o
theorem kindF {n : Nat} {odd : Int} {m : Nat} (t : kindT n odd m = true) : KindF n odd m := by
  unfold kindT at t
  simp only [Bool.and_eq_true] at t
  obtain ⟨⟨t1, t2⟩, t3, t4, t5⟩ := t
  refine ⟨?_, of_decide_eq_true t4, fun κ hκ o o0 o3 => ?_⟩
  · unfold lkinds
    rw [sortNE_eq (List.isPerm_iff.mp t1) (rises_pw t2)]
    exact of_decide_eq_true t3
  · rw [List.all_eq_true] at t5
    have h := t5 κ hκ
    rw [List.all_eq_true] at h
    have ho : o ∈ [(0 : Int), 1, 2] := by
      have : o = 0 ∨ o = 1 ∨ o = 2 := by omega
      rcases this with e | e | e <;> rw [e] <;> simp
    exact eq_of_beq (h o ho)
end
section
open GxR NdefX PySem.Spec PyProof.Rows
variable {P : Program} {w : World} {K : PySem.W.Frag} {mg : Str → Option Value} {base : Heap}
def rIsF (K : PySem.W.Frag) (a : Addr) (cls : Value) (d : Option Addr) : List V → Hp → VK → Prop := fun xs H Q => ∃ (C dd : Addr) (fs : List (Str × V)) (c : V) (cv : Value) (b : Bool), xs = [.ref a, c] ∧ cls = .ref C ∧ d = some dd ∧ H dd = some (.xd fs) ∧ ExcC K C ∧ (∀ u, RelV c u → u = cv) ∧ PySem.W.kitOne K (.ref C) cv = some b ∧ Q (.bl b) H
theorem call_isF {X : Cx} {a : Addr} {oe : Obj} {cls : Value} {d : Option Addr} {pn : List (Addr × Obj)} (hz : Zc cls d oe) (hf : ∃ vs, oe.data = .fields vs) : CallR (X.suite a ((a, oe) :: pn)) (.builtin "isinstance") (rIsF X.K a cls d) := by
  intro pins s σ H xs us Q I r h
  obtain ⟨C, dd, fs, c, cv, b, rfl, rfl, rfl, ea, T, hcv, e, q⟩ := h
  cases r with
  | cons rx rr =>
    cases rr with
    | cons rt rr =>
      cases rr
      cases rx
      obtain rfl := hcv _ rt
      obtain ⟨ha, _⟩ := I.pin (a, oe) (List.mem_append_left _ List.mem_cons_self)
      obtain ⟨vs, hd⟩ := hf
      obtain ⟨mA, hns, _⟩ := (show ObjOk X.prog X.w H s.heap dd (.xd fs) from I.hok dd _ ea)
      obtain ⟨od, ho, _⟩ := lookIn_ns hns
      have J : PySem.W.InstAt s.heap a oe C (some od) := ⟨ha, hz.1, by unfold PySem.W.notCls; rw [hd] <;> rfl, by rw [hz.2]; exact ho⟩
      have hcl : (PySem.W.clsIn X.K C).isSome = true := by
        obtain ⟨cd, hc, _⟩ := PySem.W.any_some T.hd
        rw [hc]
        rfl
      exact PySem.W.kia_one (PySem.W.kitx_exc hcl T.hg T.hk T.hs T.ha T.hn T.ht T.hm) I.kIn J e (fun z => nomatch z) fun tk => ⟨.bl b, H, I.kept (t' := tk) (fun _ _ z => z), rfl, q⟩
end
section
open GxR NdefX PySem.Spec PyProof.Rows
variable {P : Program} {w : World} {K : PySem.W.Frag} {mg : Str → Option Value} {base : Heap}
theorem pss_never {X : Cx} {ss : List Stmt} : PSs X ss (fun _ _ _ => False) := ⟨fun _ _ _ _ _ _ h => h.elim⟩
theorem s_unfit {c : Ct} {C CT CP : Addr} {h : HD} {t : TD} {r : Pl} {ta : TA} {E' : XK} {D : Ends} {b : Bool} (hw : wrongP h.ls h.gs t.st t.en t.ps = some r) (ha : EA b c ta [RHouse C h, RTask CT t])
    (k : ∀ H' d v, Kp c.hs H' → H' d = some (.xd [("place", v)]) → (RD (dP r)).p (less H' c.om) v → E' (.ref CP) (some d) H') : WC c (tDrop (tCall (spCheck CT C CP) [] E' ta) D) := fun σ H s => ha σ H s _ fun H1 vs k1 r1 => by
  rw [List.append_nil]
  obtain ⟨v, r', rfl, ⟨p, rfl, hH⟩, u, r'', rfl, ⟨p', rfl, hT⟩, rfl⟩ := r1
  refine ⟨p, p', h.ls, h.gs, h.cs, t.st, t.en, t.ps, rfl, hH.kp kp_less, hT.kp kp_less, fun z => by (rw [z] at hw; cases hw), fun a z H' d v k2 pr e => ?_⟩
  rw [hw] at z
  cases z
  have s2 := (s.kp k1).kp (kpS k2)
  exact k H' d v (s.ks.trans (k1.trans (kpS k2))) e (Dt.less (fun a m => s2.hid a m) pr.dt rfl)
/-- anything at all -/
def RTop : Rel := ⟨fun _ _ => True, fun _ h => h⟩
theorem e_top {b : Bool} {c : Ct} {t : TE} {R : Rel} (h : E b c t R) : E b c t RTop := h.imp fun _ _ _ => trivial
theorem en_top {b : Bool} {c : Ct} {t : TE} {C : Own} (h : EN c t C) : E b c t RTop := fun σ H s Q q => h σ H s Q fun H' p o k n r => q _ _ (k.trans (kp_new n)) trivial
/-- a def of a house, a task that doesn't fit it, and n things more: it raises -/
abbrev spG (C CT CP : Addr) (n : Nat) : Sp := fun vs H Q E => ∃ (h : HD) (t : TD) (om : Addr → Prop) (r : Pl), Hd H om ∧ Rok ([RHouse C h, RTask CT t] ++ List.replicate n RTop) (less H om) vs ∧ wrongP h.ls h.gs t.st t.en t.ps = some r ∧ ∀ H' d v, Kp H H' → H' d = some (.xd [("place", v)]) → (RD (dP r)).p (less H' om) v → E (.ref CP) (some d) H'
/-- what raises whatever comes -/
def Rz (c : Ct) (t : TE) : Prop := ∀ σ H, Sta c σ H → ∀ Q, t σ H Q
def RzA (c : Ct) (t : TA) : Prop := ∀ σ H, Sta c σ H → ∀ Q, t σ H Q
section
variable {c : Ct} {t : TE} {u ta : TA} {R : Rel} {b : Bool}
theorem rz_here (h : Rz c t) : RzA c (tCons t u) := fun σ H s Q => h σ H s _
theorem rz_later (h : E b c t R) (g : RzA c u) : RzA c (tCons t u) := fun σ H s Q => h σ H s _ fun H1 v k r => g σ H1 (s.kp k) _
theorem rz_call {sp : Sp} {E' : XK} (h : RzA c ta) : Rz c (tCall sp [] E' ta) := fun σ H s Q => h σ H s _
theorem rz_op {r : R2} {tb : TE} (h : Rz c t) : Rz c (tOp r t tb) := fun σ H s Q => h σ H s _
theorem s_rzRet {D : Ends} (h : Rz c t) : WC c (tRet t D) := fun σ H s => h σ H s _
theorem s_rzAsg {D : Ends} {g : TG} (h : Rz c t) : WC c (tAsg t g D) := fun σ H s => h σ H s _
theorem rz_g {C CT CP : Addr} {n : Nat} {h : HD} {t' : TD} {r : Pl} {E' : XK} (hw : wrongP h.ls h.gs t'.st t'.en t'.ps = some r) (ha : EA true c ta ([RHouse C h, RTask CT t'] ++ List.replicate n RTop))
    (k : ∀ H' d v, Kp c.hs H' → H' d = some (.xd [("place", v)]) → (RD (dP r)).p (less H' c.om) v → E' (.ref CP) (some d) H') : Rz c (tCall (spG C CT CP n) [] E' ta) := fun σ H s Q => ha σ H s _ fun H1 vs k1 r1 => by
  rw [List.append_nil]
  refine ⟨h, t', msk true c σ, r, (s.kp k1).hd, r1, hw, fun H' d v k2 e rv => ?_⟩
  exact k H' d v (s.ks.trans (k1.trans k2)) e ((RD (dP r)).mn (less_mono fun _ z => ⟨rfl, .inr z⟩) rv)
end
section
variable {C CT CP fC : Addr} {fdC : FuncData}
theorem okg_kind_of {f : Addr} {fd : FuncData} (F : Fun K "kind_of" "kind_of" s_kind_of f fd) (GC : FnOk P w K mg base (L2.CX P w) 4 fC fdC ["house", "task"] (spCheck CT C CP)) (bC : Binds K fdC ["house", "task"] []) (gC : mg "check_task" = some (.ref fC)) (kC : PySem.W.keepIn K (.ref fC) = true) : FnOk P w K mg base (L2.CX P w) 5 f fd ["house", "task", "plan", "gap"] (spG C CT CP 2) := by
  refine F.okX sc_kind_of (fun vs H Q E h => ?_) (fun cdv A outer s H vs Q E hr h => ?_)
  · obtain ⟨h, t, om, r, ho, hr, _⟩ := h
    exact hr.len
  · obtain ⟨h, t, om, r, ho, hR, hw, q2⟩ := h
    have nd := sc_kind_of.nd
    refine ⟨_, (pss_cons (ps_expr (pe_call GC (by exact hr.mono (by decide)) (by rfl) gC kC bC .nil (passes_call (takes_of rfl rfl rfl rfl) fun _ _ _ _ h => h) (pa_cons (pv 0) (pa_cons (pv 1) pa_nil)))) pss_never), ?_⟩
    have st := sta_start (N := ["house", "task", "plan", "gap", "crosses", "numbers", "links", "labels", "height", "come_to", "aisle", "_", "link", "other"]) ho hR
    refine (?_ : WC ⟨H, less H om, om, [.fz (RHouse C h), .fz (RTask CT t), .fz RTop, .fz RTop, .any, .any, .any, .any, .any, .any, .any, .any, .any, .any]⟩ _) _ _ st
    refine s_seq ?_
    exact s_unfit (b := true) hw (a_cons (e_var rfl) (a_cons (e_var rfl) a_nil)) q2
theorem okg_marks_inside {f : Addr} {fd : FuncData} (F : Fun K "marks_inside" "marks_inside" s_marks_inside f fd) (GC : FnOk P w K mg base (L2.CX P w) 4 fC fdC ["house", "task"] (spCheck CT C CP)) (bC : Binds K fdC ["house", "task"] []) (gC : mg "check_task" = some (.ref fC)) (kC : PySem.W.keepIn K (.ref fC) = true) : FnOk P w K mg base (L2.CX P w) 5 f fd ["house", "task", "aisle", "stretch"] (spG C CT CP 2) := by
  refine F.okX sc_marks_inside (fun vs H Q E h => ?_) (fun cdv A outer s H vs Q E hr h => ?_)
  · obtain ⟨h, t, om, r, ho, hr, _⟩ := h
    exact hr.len
  · obtain ⟨h, t, om, r, ho, hR, hw, q2⟩ := h
    have nd := sc_marks_inside.nd
    refine ⟨_, (pss_cons (ps_expr (pe_call GC (by exact hr.mono (by decide)) (by rfl) gC kC bC .nil (passes_call (takes_of rfl rfl rfl rfl) fun _ _ _ _ h => h) (pa_cons (pv 0) (pa_cons (pv 1) pa_nil)))) pss_never), ?_⟩
    have st := sta_start (N := ["house", "task", "aisle", "stretch", "low", "high", "number", "height"]) ho hR
    refine (?_ : WC ⟨H, less H om, om, [.fz (RHouse C h), .fz (RTask CT t), .fz RTop, .fz RTop, .any, .any, .any, .any]⟩ _) _ _ st
    refine s_seq ?_
    exact s_unfit (b := true) hw (a_cons (e_var rfl) (a_cons (e_var rfl) a_nil)) q2
theorem okg_kinds_ahead {f : Addr} {fd : FuncData} (F : Fun K "kinds_ahead" "kinds_ahead" s_kinds_ahead f fd) (GC : FnOk P w K mg base (L2.CX P w) 4 fC fdC ["house", "task"] (spCheck CT C CP)) (bC : Binds K fdC ["house", "task"] []) (gC : mg "check_task" = some (.ref fC)) (kC : PySem.W.keepIn K (.ref fC) = true) : FnOk P w K mg base (L2.CX P w) 5 f fd ["house", "task", "aisle"] (spG C CT CP 1) := by
  refine F.okX sc_kinds_ahead (fun vs H Q E h => ?_) (fun cdv A outer s H vs Q E hr h => ?_)
  · obtain ⟨h, t, om, r, ho, hr, _⟩ := h
    exact hr.len
  · obtain ⟨h, t, om, r, ho, hR, hw, q2⟩ := h
    have nd := sc_kinds_ahead.nd
    refine ⟨_, (pss_cons (ps_expr (pe_call GC (by exact hr.mono (by decide)) (by rfl) gC kC bC .nil (passes_call (takes_of rfl rfl rfl rfl) fun _ _ _ _ h => h) (pa_cons (pv 0) (pa_cons (pv 1) pa_nil)))) pss_never), ?_⟩
    have st := sta_start (N := ["house", "task", "aisle"]) ho hR
    refine (?_ : WC ⟨H, less H om, om, [.fz (RHouse C h), .fz (RTask CT t), .fz RTop]⟩ _) _ _ st
    refine s_seq ?_
    exact s_unfit (b := true) hw (a_cons (e_var rfl) (a_cons (e_var rfl) a_nil)) q2
theorem okg_steps {f : Addr} {fd : FuncData} (F : Fun K "steps" "steps" s_steps f fd) (GC : FnOk P w K mg base (L2.CX P w) 4 fC fdC ["house", "task"] (spCheck CT C CP)) (bC : Binds K fdC ["house", "task"] []) (gC : mg "check_task" = some (.ref fC)) (kC : PySem.W.keepIn K (.ref fC) = true) : FnOk P w K mg base (L2.CX P w) 5 f fd ["house", "task", "aisle", "kind"] (spG C CT CP 2) := by
  refine F.okX sc_steps (fun vs H Q E h => ?_) (fun cdv A outer s H vs Q E hr h => ?_)
  · obtain ⟨h, t, om, r, ho, hr, _⟩ := h
    exact hr.len
  · obtain ⟨h, t, om, r, ho, hR, hw, q2⟩ := h
    have nd := sc_steps.nd
    refine ⟨_, (pss_cons (ps_expr (pe_call GC (by exact hr.mono (by decide)) (by rfl) gC kC bC .nil (passes_call (takes_of rfl rfl rfl rfl) fun _ _ _ _ h => h) (pa_cons (pv 0) (pa_cons (pv 1) pa_nil)))) pss_never), ?_⟩
    have st := sta_start (N := ["house", "task", "aisle", "kind"]) ho hR
    refine (?_ : WC ⟨H, less H om, om, [.fz (RHouse C h), .fz (RTask CT t), .fz RTop, .fz RTop]⟩ _) _ _ st
    refine s_seq ?_
    exact s_unfit (b := true) hw (a_cons (e_var rfl) (a_cons (e_var rfl) a_nil)) q2
theorem okg_best_steps {f : Addr} {fd : FuncData} (F : Fun K "best_steps" "best_steps" s_best_steps f fd) (GC : FnOk P w K mg base (L2.CX P w) 4 fC fdC ["house", "task"] (spCheck CT C CP)) (bC : Binds K fdC ["house", "task"] []) (gC : mg "check_task" = some (.ref fC)) (kC : PySem.W.keepIn K (.ref fC) = true) : FnOk P w K mg base (L2.CX P w) 5 f fd ["house", "task", "aisle", "kind"] (spG C CT CP 2) := by
  refine F.okX sc_best_steps (fun vs H Q E h => ?_) (fun cdv A outer s H vs Q E hr h => ?_)
  · obtain ⟨h, t, om, r, ho, hr, _⟩ := h
    exact hr.len
  · obtain ⟨h, t, om, r, ho, hR, hw, q2⟩ := h
    have nd := sc_best_steps.nd
    refine ⟨_, (pss_cons (ps_expr (pe_call GC (by exact hr.mono (by decide)) (by rfl) gC kC bC .nil (passes_call (takes_of rfl rfl rfl rfl) fun _ _ _ _ h => h) (pa_cons (pv 0) (pa_cons (pv 1) pa_nil)))) pss_never), ?_⟩
    have st := sta_start (N := ["house", "task", "aisle", "kind"]) ho hR
    refine (?_ : WC ⟨H, less H om, om, [.fz (RHouse C h), .fz (RTask CT t), .fz RTop, .fz RTop]⟩ _) _ _ st
    refine s_seq ?_
    exact s_unfit (b := true) hw (a_cons (e_var rfl) (a_cons (e_var rfl) a_nil)) q2
theorem okg_lengths_from {f : Addr} {fd : FuncData} (F : Fun K "lengths_from" "lengths_from" s_lengths_from f fd) (GC : FnOk P w K mg base (L2.CX P w) 4 fC fdC ["house", "task"] (spCheck CT C CP)) (bC : Binds K fdC ["house", "task"] []) (gC : mg "check_task" = some (.ref fC)) (kC : PySem.W.keepIn K (.ref fC) = true) : FnOk P w K mg base (L2.CX P w) 5 f fd ["house", "task"] (spG C CT CP 0) := by
  refine F.okX sc_lengths_from (fun vs H Q E h => ?_) (fun cdv A outer s H vs Q E hr h => ?_)
  · obtain ⟨h, t, om, r, ho, hr, _⟩ := h
    exact hr.len
  · obtain ⟨h, t, om, r, ho, hR, hw, q2⟩ := h
    have nd := sc_lengths_from.nd
    refine ⟨_, (pss_cons (ps_expr (pe_call GC (by exact hr.mono (by decide)) (by rfl) gC kC bC .nil (passes_call (takes_of rfl rfl rfl rfl) fun _ _ _ _ h => h) (pa_cons (pv 0) (pa_cons (pv 1) pa_nil)))) pss_never), ?_⟩
    have st := sta_start (N := ["house", "task", "dicts", "profiles", "aisle", "layers"]) ho hR
    refine (?_ : WC ⟨H, less H om, om, [.fz (RHouse C h), .fz (RTask CT t), .any, .any, .any, .any]⟩ _) _ _ st
    refine s_seq ?_
    exact s_unfit (b := true) hw (a_cons (e_var rfl) (a_cons (e_var rfl) a_nil)) q2
theorem okg_flipped_task {f : Addr} {fd : FuncData} (F : Fun K "flipped_task" "flipped_task" s_flipped_task f fd) (GC : FnOk P w K mg base (L2.CX P w) 4 fC fdC ["house", "task"] (spCheck CT C CP)) (bC : Binds K fdC ["house", "task"] []) (gC : mg "check_task" = some (.ref fC)) (kC : PySem.W.keepIn K (.ref fC) = true) : FnOk P w K mg base (L2.CX P w) 5 f fd ["house", "task"] (spG C CT CP 0) := by
  refine F.okX sc_flipped_task (fun vs H Q E h => ?_) (fun cdv A outer s H vs Q E hr h => ?_)
  · obtain ⟨h, t, om, r, ho, hr, _⟩ := h
    exact hr.len
  · obtain ⟨h, t, om, r, ho, hR, hw, q2⟩ := h
    have nd := sc_flipped_task.nd
    refine ⟨_, (pss_cons (ps_expr (pe_call GC (by exact hr.mono (by decide)) (by rfl) gC kC bC .nil (passes_call (takes_of rfl rfl rfl rfl) fun _ _ _ _ h => h) (pa_cons (pv 0) (pa_cons (pv 1) pa_nil)))) pss_never), ?_⟩
    have st := sta_start (N := ["house", "task", "pick"]) ho hR
    refine (?_ : WC ⟨H, less H om, om, [.fz (RHouse C h), .fz (RTask CT t), .any]⟩ _) _ _ st
    refine s_seq ?_
    exact s_unfit (b := true) hw (a_cons (e_var rfl) (a_cons (e_var rfl) a_nil)) q2
theorem okg_swapped_task {f : Addr} {fd : FuncData} (F : Fun K "swapped_task" "swapped_task" s_swapped_task f fd) (GC : FnOk P w K mg base (L2.CX P w) 4 fC fdC ["house", "task"] (spCheck CT C CP)) (bC : Binds K fdC ["house", "task"] []) (gC : mg "check_task" = some (.ref fC)) (kC : PySem.W.keepIn K (.ref fC) = true) : FnOk P w K mg base (L2.CX P w) 5 f fd ["house", "task"] (spG C CT CP 0) := by
  refine F.okX sc_swapped_task (fun vs H Q E h => ?_) (fun cdv A outer s H vs Q E hr h => ?_)
  · obtain ⟨h, t, om, r, ho, hr, _⟩ := h
    exact hr.len
  · obtain ⟨h, t, om, r, ho, hR, hw, q2⟩ := h
    have nd := sc_swapped_task.nd
    refine ⟨_, (pss_cons (ps_expr (pe_call GC (by exact hr.mono (by decide)) (by rfl) gC kC bC .nil (passes_call (takes_of rfl rfl rfl rfl) fun _ _ _ _ h => h) (pa_cons (pv 0) (pa_cons (pv 1) pa_nil)))) pss_never), ?_⟩
    have st := sta_start (N := ["house", "task", "pick"]) ho hR
    refine (?_ : WC ⟨H, less H om, om, [.fz (RHouse C h), .fz (RTask CT t), .any]⟩ _) _ _ st
    refine s_seq ?_
    exact s_unfit (b := true) hw (a_cons (e_var rfl) (a_cons (e_var rfl) a_nil)) q2
theorem okn_table_from {f : Addr} {fd : FuncData} (F : Fun K "table_from" "table_from" s_table_from f fd) : FnOk P w K mg base (L2.CX P w) 1 f fd ["house", "task", "aisle", "kinds"] (fun _ _ _ _ => False) := F.okX sc_table_from (fun vs H Q E h => h.elim) (fun cdv A outer s H vs Q E hr h => h.elim)
theorem okn__pieces_between {f : Addr} {fd : FuncData} (F : Fun K "_pieces_between" "_pieces_between" s__pieces_between f fd) : FnOk P w K mg base (L2.CX P w) 1 f fd ["house", "stretch", "inside"] (fun _ _ _ _ => False) := F.okX sc__pieces_between (fun vs H Q E h => h.elim) (fun cdv A outer s H vs Q E hr h => h.elim)
theorem okn_options_between {f : Addr} {fd : FuncData} (F : Fun K "options_between" "options_between" s_options_between f fd) : FnOk P w K mg base (L2.CX P w) 1 f fd ["house", "aisle", "stretch", "inside"] (fun _ _ _ _ => False) := F.okX sc_options_between (fun vs H Q E h => h.elim) (fun cdv A outer s H vs Q E hr h => h.elim)
theorem okn_best_between {f : Addr} {fd : FuncData} (F : Fun K "best_between" "best_between" s_best_between f fd) : FnOk P w K mg base (L2.CX P w) 1 f fd ["house", "aisle", "stretch", "inside"] (fun _ _ _ _ => False) := F.okX sc_best_between (fun vs H Q E h => h.elim) (fun cdv A outer s H vs Q E hr h => h.elim)
theorem okg_table {f : Addr} {fd : FuncData} (F : Fun K "table" "table" s_table f fd) {fK : Addr} {fdK : FuncData} (GK : FnOk P w K mg base (L2.CX P w) 5 fK fdK ["house", "task", "aisle"] (spG C CT CP 1)) (bK : Binds K fdK ["house", "task", "aisle"] []) (gK : mg "kinds_ahead" = some (.ref fK)) (kK : PySem.W.keepIn K (.ref fK) = true) {fN : Addr} {fdN : FuncData} (GN : FnOk P w K mg base (L2.CX P w) 1 fN fdN ["house", "task", "aisle", "kinds"] (fun _ _ _ _ => False)) (bN : Binds K fdN ["house", "task", "aisle", "kinds"] []) (gN : mg "table_from" = some (.ref fN)) (kN : PySem.W.keepIn K (.ref fN) = true) : FnOk P w K mg base (L2.CX P w) 6 f fd ["house", "task", "aisle"] (spG C CT CP 1) := by
  refine F.okX sc_table (fun vs H Q E h => ?_) (fun cdv A outer s H vs Q E hr h => ?_)
  · obtain ⟨h, t, om, r, ho, hr, _⟩ := h
    exact hr.len
  · obtain ⟨h, t, om, r, ho, hR, hw, q2⟩ := h
    have nd := sc_table.nd
    refine ⟨_, (pss_one (ps_ret (pe_call GN (by exact hr.mono (by decide)) (by rfl) gN kN bN .nil (passes_call (takes_of rfl rfl rfl rfl) fun _ _ _ _ h => h) (pa_cons (pv 0) (pa_cons (pv 1) (pa_cons (pv 2) (pa_cons (pe_call GK (by exact hr.mono (by decide)) (by rfl) gK kK bK .nil (passes_call (takes_of rfl rfl rfl rfl) fun _ _ _ _ h => h) (pa_cons (pv 0) (pa_cons (pv 1) (pa_cons (pv 2) pa_nil)))) pa_nil))))))), ?_⟩
    have st := sta_start (N := ["house", "task", "aisle"]) ho hR
    refine (?_ : WC ⟨H, less H om, om, [.fz (RHouse C h), .fz (RTask CT t), .fz RTop]⟩ _) _ _ st
    exact s_rzRet (rz_call (rz_later (b := true) (e_var rfl) (rz_later (b := true) (e_var rfl) (rz_later (b := true) (e_var rfl) (rz_here (rz_g hw (a_cons (e_var rfl) (a_cons (e_var rfl) (a_cons (e_var rfl) a_nil))) q2))))))
theorem okg_product_of {f : Addr} {fd : FuncData} (F : Fun K "product_of" "product_of" s_product_of f fd) {fT : Addr} {fdT : FuncData} (GT : FnOk P w K mg base (L2.CX P w) 6 fT fdT ["house", "task", "aisle"] (spG C CT CP 1)) (bT : Binds K fdT ["house", "task", "aisle"] []) (gT : mg "table" = some (.ref fT)) (kT : PySem.W.keepIn K (.ref fT) = true) : FnOk P w K mg base (L2.CX P w) 7 f fd ["house", "task", "first", "last"] (spG C CT CP 2) := by
  refine F.okX sc_product_of (fun vs H Q E h => ?_) (fun cdv A outer s H vs Q E hr h => ?_)
  · obtain ⟨h, t, om, r, ho, hr, _⟩ := h
    exact hr.len
  · obtain ⟨h, t, om, r, ho, hR, hw, q2⟩ := h
    have nd := sc_product_of.nd
    refine ⟨_, (pss_cons (ps_set (i := 4) nd rfl (.inl rfl) (pe_call GT (by exact hr.mono (by decide)) (by rfl) gT kT bT .nil (passes_call (takes_of rfl rfl rfl rfl) fun _ _ _ _ h => h) (pa_cons (pv 0) (pa_cons (pv 1) (pa_cons (pv 2) pa_nil))))) pss_never), ?_⟩
    have st := sta_start (N := ["house", "task", "first", "last", "whole", "aisle"]) ho hR
    refine (?_ : WC ⟨H, less H om, om, [.fz (RHouse C h), .fz (RTask CT t), .fz RTop, .fz RTop, .any, .any]⟩ _) _ _ st
    refine s_seq ?_
    exact s_rzAsg (rz_g hw (a_cons (e_var rfl) (a_cons (e_var rfl) (a_cons (e_var rfl) a_nil))) q2)
theorem okg_least_length {f : Addr} {fd : FuncData} (F : Fun K "least_length" "least_length" s_least_length f fd) (g_DONE : ∃ t : Tok, mg "DONE" = some (.str "done" t)) {fL : Addr} {fdL : FuncData} (GL : FnOk P w K mg base (L2.CX P w) 5 fL fdL ["house", "task"] (spG C CT CP 0)) (bL : Binds K fdL ["house", "task"] []) (gL : mg "lengths_from" = some (.ref fL)) (kL : PySem.W.keepIn K (.ref fL) = true) : FnOk P w K mg base (L2.CX P w) 6 f fd ["house", "task"] (spG C CT CP 0) := by
  refine F.okX sc_least_length (fun vs H Q E h => ?_) (fun cdv A outer s H vs Q E hr h => ?_)
  · obtain ⟨h, t, om, r, ho, hr, _⟩ := h
    exact hr.len
  · obtain ⟨h, t, om, r, ho, hR, hw, q2⟩ := h
    have nd := sc_least_length.nd
    refine ⟨_, (pss_one (ps_ret (pe_dget1 (by exact Pk.Room.units1 hr) (pe_ix (r := rIxL K) ix_list (pe_call GL (by exact hr.mono (by decide)) (by rfl) gL kL bL .nil (passes_call (takes_of rfl rfl rfl rfl) fun _ _ _ _ h => h) (pa_cons (pv 0) (pa_cons (pv 1) pa_nil))) (pe_un un_neg pe_int) (fun _ _ => rfl)) (pe_glob (v := .str "done") (by rfl) g_DONE.choose_spec ⟨_, rfl⟩) ⟨rfl, rfl, rfl, rfl⟩))), ?_⟩
    have st := sta_start (N := ["house", "task"]) ho hR
    refine (?_ : WC ⟨H, less H om, om, [.fz (RHouse C h), .fz (RTask CT t)]⟩ _) _ _ st
    exact s_rzRet (fun σ H s Q => rz_op (rz_g hw (a_cons (e_var rfl) (a_cons (e_var rfl) a_nil)) q2) σ H s _)
theorem okg_pieces_of {f : Addr} {fd : FuncData} (F : Fun K "pieces_of" "pieces_of" s_pieces_of f fd) {fM : Addr} {fdM : FuncData} (GM : FnOk P w K mg base (L2.CX P w) 5 fM fdM ["house", "task", "aisle", "stretch"] (spG C CT CP 2)) (bM : Binds K fdM ["house", "task", "aisle", "stretch"] []) (gM : mg "marks_inside" = some (.ref fM)) (kM : PySem.W.keepIn K (.ref fM) = true) {fN : Addr} {fdN : FuncData} (GN : FnOk P w K mg base (L2.CX P w) 1 fN fdN ["house", "stretch", "inside"] (fun _ _ _ _ => False)) (bN : Binds K fdN ["house", "stretch", "inside"] []) (gN : mg "_pieces_between" = some (.ref fN)) (kN : PySem.W.keepIn K (.ref fN) = true) : FnOk P w K mg base (L2.CX P w) 6 f fd ["house", "task", "aisle", "stretch"] (spG C CT CP 2) := by
  refine F.okX sc_pieces_of (fun vs H Q E h => ?_) (fun cdv A outer s H vs Q E hr h => ?_)
  · obtain ⟨h, t, om, r, ho, hr, _⟩ := h
    exact hr.len
  · obtain ⟨h, t, om, r, ho, hR, hw, q2⟩ := h
    have nd := sc_pieces_of.nd
    refine ⟨_, (pss_one (ps_ret (pe_call GN (by exact hr.mono (by decide)) (by rfl) gN kN bN .nil (passes_call (takes_of rfl rfl rfl rfl) fun _ _ _ _ h => h) (pa_cons (pv 0) (pa_cons (pv 3) (pa_cons (pe_call GM (by exact hr.mono (by decide)) (by rfl) gM kM bM .nil (passes_call (takes_of rfl rfl rfl rfl) fun _ _ _ _ h => h) (pa_cons (pv 0) (pa_cons (pv 1) (pa_cons (pv 2) (pa_cons (pv 3) pa_nil))))) pa_nil)))))), ?_⟩
    have st := sta_start (N := ["house", "task", "aisle", "stretch"]) ho hR
    refine (?_ : WC ⟨H, less H om, om, [.fz (RHouse C h), .fz (RTask CT t), .fz RTop, .fz RTop]⟩ _) _ _ st
    exact s_rzRet (rz_call (rz_later (b := true) (e_var rfl) (rz_later (b := true) (e_var rfl) (rz_here (rz_g hw (a_cons (e_var rfl) (a_cons (e_var rfl) (a_cons (e_var rfl) (a_cons (e_var rfl) a_nil)))) q2)))))
theorem okg_options_of {f : Addr} {fd : FuncData} (F : Fun K "options_of" "options_of" s_options_of f fd) {fM : Addr} {fdM : FuncData} (GM : FnOk P w K mg base (L2.CX P w) 5 fM fdM ["house", "task", "aisle", "stretch"] (spG C CT CP 2)) (bM : Binds K fdM ["house", "task", "aisle", "stretch"] []) (gM : mg "marks_inside" = some (.ref fM)) (kM : PySem.W.keepIn K (.ref fM) = true) {fN : Addr} {fdN : FuncData} (GN : FnOk P w K mg base (L2.CX P w) 1 fN fdN ["house", "aisle", "stretch", "inside"] (fun _ _ _ _ => False)) (bN : Binds K fdN ["house", "aisle", "stretch", "inside"] []) (gN : mg "options_between" = some (.ref fN)) (kN : PySem.W.keepIn K (.ref fN) = true) : FnOk P w K mg base (L2.CX P w) 6 f fd ["house", "task", "aisle", "stretch"] (spG C CT CP 2) := by
  refine F.okX sc_options_of (fun vs H Q E h => ?_) (fun cdv A outer s H vs Q E hr h => ?_)
  · obtain ⟨h, t, om, r, ho, hr, _⟩ := h
    exact hr.len
  · obtain ⟨h, t, om, r, ho, hR, hw, q2⟩ := h
    have nd := sc_options_of.nd
    refine ⟨_, (pss_one (ps_ret (pe_call GN (by exact hr.mono (by decide)) (by rfl) gN kN bN .nil (passes_call (takes_of rfl rfl rfl rfl) fun _ _ _ _ h => h) (pa_cons (pv 0) (pa_cons (pv 2) (pa_cons (pv 3) (pa_cons (pe_call GM (by exact hr.mono (by decide)) (by rfl) gM kM bM .nil (passes_call (takes_of rfl rfl rfl rfl) fun _ _ _ _ h => h) (pa_cons (pv 0) (pa_cons (pv 1) (pa_cons (pv 2) (pa_cons (pv 3) pa_nil))))) pa_nil))))))), ?_⟩
    have st := sta_start (N := ["house", "task", "aisle", "stretch"]) ho hR
    refine (?_ : WC ⟨H, less H om, om, [.fz (RHouse C h), .fz (RTask CT t), .fz RTop, .fz RTop]⟩ _) _ _ st
    exact s_rzRet (rz_call (rz_later (b := true) (e_var rfl) (rz_later (b := true) (e_var rfl) (rz_later (b := true) (e_var rfl) (rz_here (rz_g hw (a_cons (e_var rfl) (a_cons (e_var rfl) (a_cons (e_var rfl) (a_cons (e_var rfl) a_nil)))) q2))))))
theorem okg_best_options {f : Addr} {fd : FuncData} (F : Fun K "best_options" "best_options" s_best_options f fd) {fM : Addr} {fdM : FuncData} (GM : FnOk P w K mg base (L2.CX P w) 5 fM fdM ["house", "task", "aisle", "stretch"] (spG C CT CP 2)) (bM : Binds K fdM ["house", "task", "aisle", "stretch"] []) (gM : mg "marks_inside" = some (.ref fM)) (kM : PySem.W.keepIn K (.ref fM) = true) {fN : Addr} {fdN : FuncData} (GN : FnOk P w K mg base (L2.CX P w) 1 fN fdN ["house", "aisle", "stretch", "inside"] (fun _ _ _ _ => False)) (bN : Binds K fdN ["house", "aisle", "stretch", "inside"] []) (gN : mg "best_between" = some (.ref fN)) (kN : PySem.W.keepIn K (.ref fN) = true) : FnOk P w K mg base (L2.CX P w) 6 f fd ["house", "task", "aisle", "stretch"] (spG C CT CP 2) := by
  refine F.okX sc_best_options (fun vs H Q E h => ?_) (fun cdv A outer s H vs Q E hr h => ?_)
  · obtain ⟨h, t, om, r, ho, hr, _⟩ := h
    exact hr.len
  · obtain ⟨h, t, om, r, ho, hR, hw, q2⟩ := h
    have nd := sc_best_options.nd
    refine ⟨_, (pss_one (ps_ret (pe_call GN (by exact hr.mono (by decide)) (by rfl) gN kN bN .nil (passes_call (takes_of rfl rfl rfl rfl) fun _ _ _ _ h => h) (pa_cons (pv 0) (pa_cons (pv 2) (pa_cons (pv 3) (pa_cons (pe_call GM (by exact hr.mono (by decide)) (by rfl) gM kM bM .nil (passes_call (takes_of rfl rfl rfl rfl) fun _ _ _ _ h => h) (pa_cons (pv 0) (pa_cons (pv 1) (pa_cons (pv 2) (pa_cons (pv 3) pa_nil))))) pa_nil))))))), ?_⟩
    have st := sta_start (N := ["house", "task", "aisle", "stretch"]) ho hR
    refine (?_ : WC ⟨H, less H om, om, [.fz (RHouse C h), .fz (RTask CT t), .fz RTop, .fz RTop]⟩ _) _ _ st
    exact s_rzRet (rz_call (rz_later (b := true) (e_var rfl) (rz_later (b := true) (e_var rfl) (rz_later (b := true) (e_var rfl) (rz_here (rz_g hw (a_cons (e_var rfl) (a_cons (e_var rfl) (a_cons (e_var rfl) (a_cons (e_var rfl) a_nil)))) q2))))))
end
end
section
open GxR NdefX PySem.Spec PyProof.Rows
variable {P : Program} {w : World} {K : PySem.W.Frag} {mg : Str → Option Value} {base : Heap} {C CT CP : Addr}
structure TopN (P : Program) (w : World) (K : PySem.W.Frag) (mg : Str → Option Value) (base : Heap) (CX : CXT) (k : Nat) (x : Str) (ps : List Str) (sp : Sp) where
  f : Addr
  fd : FuncData
  G : FnOk P w K mg base CX k f fd ps sp
  b : Binds K fd ps []
  g : mg x = some (.ref f)
  kp : PySem.W.keepIn K (.ref f) = true
abbrev spLc (C CT CP : Addr) : Sp := fun vs H Q E => ∃ (n : Int) (h : HD) (t : TD) (om : Addr → Prop) (r : Pl), Hd H om ∧ Rok [RD (.int n), RHouse C h, RTask CT t] (less H om) vs ∧ wrongP h.ls h.gs t.st t.en t.ps = some r ∧ ∀ H' d v, Kp H H' → H' d = some (.xd [("place", v)]) → (RD (dP r)).p (less H' om) v → E (.ref CP) (some d) H'
theorem ok_lcall {f : Addr} {fd : FuncData} (F : Fun K "_law_call" "_law_call" s__law_call f fd) (t_kind_of : TopN P w K mg base (L2.CX P w) 5 "kind_of" ["house", "task", "plan", "gap"] (spG C CT CP 2)) (t_kinds_ahead : TopN P w K mg base (L2.CX P w) 5 "kinds_ahead" ["house", "task", "aisle"] (spG C CT CP 1)) (t_steps : TopN P w K mg base (L2.CX P w) 5 "steps" ["house", "task", "aisle", "kind"] (spG C CT CP 2)) (t_best_steps : TopN P w K mg base (L2.CX P w) 5 "best_steps" ["house", "task", "aisle", "kind"] (spG C CT CP 2)) (t_table : TopN P w K mg base (L2.CX P w) 6 "table" ["house", "task", "aisle"] (spG C CT CP 1)) (t_product_of : TopN P w K mg base (L2.CX P w) 7 "product_of" ["house", "task", "first", "last"] (spG C CT CP 2)) (t_lengths_from : TopN P w K mg base (L2.CX P w) 5 "lengths_from" ["house", "task"] (spG C CT CP 0)) (t_least_length : TopN P w K mg base (L2.CX P w) 6 "least_length" ["house", "task"] (spG C CT CP 0)) (t_flipped_task : TopN P w K mg base (L2.CX P w) 5 "flipped_task" ["house", "task"] (spG C CT CP 0)) (t_swapped_task : TopN P w K mg base (L2.CX P w) 5 "swapped_task" ["house", "task"] (spG C CT CP 0)) (t_marks_inside : TopN P w K mg base (L2.CX P w) 5 "marks_inside" ["house", "task", "aisle", "stretch"] (spG C CT CP 2)) (t_pieces_of : TopN P w K mg base (L2.CX P w) 6 "pieces_of" ["house", "task", "aisle", "stretch"] (spG C CT CP 2)) (t_options_of : TopN P w K mg base (L2.CX P w) 6 "options_of" ["house", "task", "aisle", "stretch"] (spG C CT CP 2)) (t_best_options : TopN P w K mg base (L2.CX P w) 6 "best_options" ["house", "task", "aisle", "stretch"] (spG C CT CP 2)) : FnOk P w K mg base (L2.CX P w) 8 f fd ["which", "house", "task"] (spLc C CT CP) := by
  refine F.okX sc__law_call (fun vs H Q E h => ?_) (fun cdv A outer s H vs Q E hr h => ?_)
  · obtain ⟨n, h, t, om, r, ho, hr, _⟩ := h
    exact hr.len
  · obtain ⟨n, h, t, om, r, ho, hR, hw, q2⟩ := h
    have nd := sc__law_call.nd
    refine ⟨_, (pss_cons (ps_if (pt_cmpR (r := rEq) op_eq (pv 0) pe_int (nomark _)) (pss_one (ps_ret (pe_call t_kind_of.G (by exact hr.mono (by decide)) (by rfl) t_kind_of.g t_kind_of.kp t_kind_of.b .nil (passes_call (takes_of rfl rfl rfl rfl) fun _ _ _ _ h => h) (pa_cons (pv 1) (pa_cons (pv 2) (pa_cons pe_dnewK (pa_cons pe_int pa_nil))))))) pss_nil)
      (pss_cons (ps_if (pt_cmpR (r := rEq) op_eq (pv 0) pe_int (nomark _)) (pss_one (ps_ret (pe_call t_kinds_ahead.G (by exact hr.mono (by decide)) (by rfl) t_kinds_ahead.g t_kinds_ahead.kp t_kinds_ahead.b .nil (passes_call (takes_of rfl rfl rfl rfl) fun _ _ _ _ h => h) (pa_cons (pv 1) (pa_cons (pv 2) (pa_cons pe_int pa_nil)))))) pss_nil)
      (pss_cons (ps_if (pt_cmpR (r := rEq) op_eq (pv 0) pe_int (nomark _)) (pss_one (ps_ret (pe_call t_steps.G (by exact hr.mono (by decide)) (by rfl) t_steps.g t_steps.kp t_steps.b .nil (passes_call (takes_of rfl rfl rfl rfl) fun _ _ _ _ h => h) (pa_cons (pv 1) (pa_cons (pv 2) (pa_cons pe_int (pa_cons pe_str pa_nil))))))) pss_nil)
      (pss_cons (ps_if (pt_cmpR (r := rEq) op_eq (pv 0) pe_int (nomark _)) (pss_one (ps_ret (pe_call t_best_steps.G (by exact hr.mono (by decide)) (by rfl) t_best_steps.g t_best_steps.kp t_best_steps.b .nil (passes_call (takes_of rfl rfl rfl rfl) fun _ _ _ _ h => h) (pa_cons (pv 1) (pa_cons (pv 2) (pa_cons pe_int (pa_cons pe_str pa_nil))))))) pss_nil)
      (pss_cons (ps_if (pt_cmpR (r := rEq) op_eq (pv 0) pe_int (nomark _)) (pss_one (ps_ret (pe_call t_table.G (by exact hr.mono (by decide)) (by rfl) t_table.g t_table.kp t_table.b .nil (passes_call (takes_of rfl rfl rfl rfl) fun _ _ _ _ h => h) (pa_cons (pv 1) (pa_cons (pv 2) (pa_cons pe_int pa_nil)))))) pss_nil)
      (pss_cons (ps_if (pt_cmpR (r := rEq) op_eq (pv 0) pe_int (nomark _)) (pss_one (ps_ret (pe_call t_product_of.G (by exact hr.mono (by decide)) (by rfl) t_product_of.g t_product_of.kp t_product_of.b .nil (passes_call (takes_of rfl rfl rfl rfl) fun _ _ _ _ h => h) (pa_cons (pv 1) (pa_cons (pv 2) (pa_cons pe_int (pa_cons pe_int pa_nil))))))) pss_nil)
      (pss_cons (ps_if (pt_cmpR (r := rEq) op_eq (pv 0) pe_int (nomark _)) (pss_one (ps_ret (pe_call t_lengths_from.G (by exact hr.mono (by decide)) (by rfl) t_lengths_from.g t_lengths_from.kp t_lengths_from.b .nil (passes_call (takes_of rfl rfl rfl rfl) fun _ _ _ _ h => h) (pa_cons (pv 1) (pa_cons (pv 2) pa_nil))))) pss_nil)
      (pss_cons (ps_if (pt_cmpR (r := rEq) op_eq (pv 0) pe_int (nomark _)) (pss_one (ps_ret (pe_call t_least_length.G (by exact hr.mono (by decide)) (by rfl) t_least_length.g t_least_length.kp t_least_length.b .nil (passes_call (takes_of rfl rfl rfl rfl) fun _ _ _ _ h => h) (pa_cons (pv 1) (pa_cons (pv 2) pa_nil))))) pss_nil)
      (pss_cons (ps_if (pt_cmpR (r := rEq) op_eq (pv 0) pe_int (nomark _)) (pss_one (ps_ret (pe_call t_flipped_task.G (by exact hr.mono (by decide)) (by rfl) t_flipped_task.g t_flipped_task.kp t_flipped_task.b .nil (passes_call (takes_of rfl rfl rfl rfl) fun _ _ _ _ h => h) (pa_cons (pv 1) (pa_cons (pv 2) pa_nil))))) pss_nil)
      (pss_cons (ps_if (pt_cmpR (r := rEq) op_eq (pv 0) pe_int (nomark _)) (pss_one (ps_ret (pe_call t_swapped_task.G (by exact hr.mono (by decide)) (by rfl) t_swapped_task.g t_swapped_task.kp t_swapped_task.b .nil (passes_call (takes_of rfl rfl rfl rfl) fun _ _ _ _ h => h) (pa_cons (pv 1) (pa_cons (pv 2) pa_nil))))) pss_nil)
      (pss_cons (ps_if (pt_cmpR (r := rEq) op_eq (pv 0) pe_int (nomark _)) (pss_one (ps_ret (pe_call t_marks_inside.G (by exact hr.mono (by decide)) (by rfl) t_marks_inside.g t_marks_inside.kp t_marks_inside.b .nil (passes_call (takes_of rfl rfl rfl rfl) fun _ _ _ _ h => h) (pa_cons (pv 1) (pa_cons (pv 2) (pa_cons pe_int (pa_cons pe_int pa_nil))))))) pss_nil)
      (pss_cons (ps_if (pt_cmpR (r := rEq) op_eq (pv 0) pe_int (nomark _)) (pss_one (ps_ret (pe_call t_pieces_of.G (by exact hr.mono (by decide)) (by rfl) t_pieces_of.g t_pieces_of.kp t_pieces_of.b .nil (passes_call (takes_of rfl rfl rfl rfl) fun _ _ _ _ h => h) (pa_cons (pv 1) (pa_cons (pv 2) (pa_cons pe_int (pa_cons pe_int pa_nil))))))) pss_nil)
      (pss_cons (ps_if (pt_cmpR (r := rEq) op_eq (pv 0) pe_int (nomark _)) (pss_one (ps_ret (pe_call t_options_of.G (by exact hr.mono (by decide)) (by rfl) t_options_of.g t_options_of.kp t_options_of.b .nil (passes_call (takes_of rfl rfl rfl rfl) fun _ _ _ _ h => h) (pa_cons (pv 1) (pa_cons (pv 2) (pa_cons pe_int (pa_cons pe_int pa_nil))))))) pss_nil)
      (pss_one (ps_ret (pe_call t_best_options.G (by exact hr.mono (by decide)) (by rfl) t_best_options.g t_best_options.kp t_best_options.b .nil (passes_call (takes_of rfl rfl rfl rfl) fun _ _ _ _ h => h) (pa_cons (pv 1) (pa_cons (pv 2) (pa_cons pe_int (pa_cons pe_int pa_nil)))))))))))))))))))), ?_⟩
    have st := sta_start (N := ["which", "house", "task"]) ho hR
    refine (?_ : WC ⟨H, less H om, om, [.fz (RD (.int n)), .fz (RHouse C h), .fz (RTask CT t)]⟩ _) _ _ st
    refine s_seq ?_
    refine s_if (t_T (e_op o_eqI (e_var rfl) e_int)) (fun _ => ?_) (fun _ => ?_)
    · exact s_rzRet (rz_g hw (a_cons (e_var rfl) (a_cons (e_var rfl) (a_cons (en_top n_dnewK) (a_cons (e_top e_int) a_nil)))) q2)
    refine s_pass ?_
    try dsimp only
    refine s_seq ?_
    refine s_if (t_T (e_op o_eqI (e_var rfl) e_int)) (fun _ => ?_) (fun _ => ?_)
    · exact s_rzRet (rz_g hw (a_cons (e_var rfl) (a_cons (e_var rfl) (a_cons (e_top e_int) a_nil))) q2)
    refine s_pass ?_
    try dsimp only
    refine s_seq ?_
    refine s_if (t_T (e_op o_eqI (e_var rfl) e_int)) (fun _ => ?_) (fun _ => ?_)
    · exact s_rzRet (rz_g hw (a_cons (e_var rfl) (a_cons (e_var rfl) (a_cons (e_top e_int) (a_cons (e_top e_str) a_nil)))) q2)
    refine s_pass ?_
    try dsimp only
    refine s_seq ?_
    refine s_if (t_T (e_op o_eqI (e_var rfl) e_int)) (fun _ => ?_) (fun _ => ?_)
    · exact s_rzRet (rz_g hw (a_cons (e_var rfl) (a_cons (e_var rfl) (a_cons (e_top e_int) (a_cons (e_top e_str) a_nil)))) q2)
    refine s_pass ?_
    try dsimp only
    refine s_seq ?_
    refine s_if (t_T (e_op o_eqI (e_var rfl) e_int)) (fun _ => ?_) (fun _ => ?_)
    · exact s_rzRet (rz_g hw (a_cons (e_var rfl) (a_cons (e_var rfl) (a_cons (e_top e_int) a_nil))) q2)
    refine s_pass ?_
    try dsimp only
    refine s_seq ?_
    refine s_if (t_T (e_op o_eqI (e_var rfl) e_int)) (fun _ => ?_) (fun _ => ?_)
    · exact s_rzRet (rz_g hw (a_cons (e_var rfl) (a_cons (e_var rfl) (a_cons (e_top e_int) (a_cons (e_top e_int) a_nil)))) q2)
    refine s_pass ?_
    try dsimp only
    refine s_seq ?_
    refine s_if (t_T (e_op o_eqI (e_var rfl) e_int)) (fun _ => ?_) (fun _ => ?_)
    · exact s_rzRet (rz_g hw (a_cons (e_var rfl) (a_cons (e_var rfl) a_nil)) q2)
    refine s_pass ?_
    try dsimp only
    refine s_seq ?_
    refine s_if (t_T (e_op o_eqI (e_var rfl) e_int)) (fun _ => ?_) (fun _ => ?_)
    · exact s_rzRet (rz_g hw (a_cons (e_var rfl) (a_cons (e_var rfl) a_nil)) q2)
    refine s_pass ?_
    try dsimp only
    refine s_seq ?_
    refine s_if (t_T (e_op o_eqI (e_var rfl) e_int)) (fun _ => ?_) (fun _ => ?_)
    · exact s_rzRet (rz_g hw (a_cons (e_var rfl) (a_cons (e_var rfl) a_nil)) q2)
    refine s_pass ?_
    try dsimp only
    refine s_seq ?_
    refine s_if (t_T (e_op o_eqI (e_var rfl) e_int)) (fun _ => ?_) (fun _ => ?_)
    · exact s_rzRet (rz_g hw (a_cons (e_var rfl) (a_cons (e_var rfl) a_nil)) q2)
    refine s_pass ?_
    try dsimp only
    refine s_seq ?_
    refine s_if (t_T (e_op o_eqI (e_var rfl) e_int)) (fun _ => ?_) (fun _ => ?_)
    · exact s_rzRet (rz_g hw (a_cons (e_var rfl) (a_cons (e_var rfl) (a_cons (e_top e_int) (a_cons (e_top e_int) a_nil)))) q2)
    refine s_pass ?_
    try dsimp only
    refine s_seq ?_
    refine s_if (t_T (e_op o_eqI (e_var rfl) e_int)) (fun _ => ?_) (fun _ => ?_)
    · exact s_rzRet (rz_g hw (a_cons (e_var rfl) (a_cons (e_var rfl) (a_cons (e_top e_int) (a_cons (e_top e_int) a_nil)))) q2)
    refine s_pass ?_
    try dsimp only
    refine s_seq ?_
    refine s_if (t_T (e_op o_eqI (e_var rfl) e_int)) (fun _ => ?_) (fun _ => ?_)
    · exact s_rzRet (rz_g hw (a_cons (e_var rfl) (a_cons (e_var rfl) (a_cons (e_top e_int) (a_cons (e_top e_int) a_nil)))) q2)
    refine s_pass ?_
    try dsimp only
    exact s_rzRet (rz_g hw (a_cons (e_var rfl) (a_cons (e_var rfl) (a_cons (e_top e_int) (a_cons (e_top e_int) a_nil)))) q2)
abbrev RsRf (C CT : Addr) : Int × HD × TD × Pl → List Rel := fun a => [RD (.int a.1), RHouse C a.2.1, RTask CT a.2.2.1]
abbrev PRf : Int × HD × TD × Pl → Hp → Prop := fun a _ => wrongP a.2.1.ls a.2.1.gs a.2.2.1.st a.2.2.1.en a.2.2.1.ps = some a.2.2.2
abbrev spRg (C CT : Addr) : Sp := Sps (RsRf C CT) PRf fun a => RD (.tuple [dP a.2.2.2, .bool true])
theorem s_callRg {c : Ct} {ta : TA} {Ex : L2.St → XK} {D : Ends} {n : Int} {h : HD} {t : TD} {r : Pl} (hw : wrongP h.ls h.gs t.st t.en t.ps = some r) (ha : EA true c ta [RD (.int n), RHouse C h, RTask CT t])
    (k : ∀ σ H' d v, σ.length = c.g.length → Kp c.hs H' → H' d = some (.xd [("place", v)]) → (RD (dP r)).p (less H' c.om) v → Ex σ (.ref CP) (some d) H') : WC c (tDrop (tCallS (spLc C CT CP) Ex ta) D) := fun σ H s => ha σ H s _ fun H1 vs k1 r1 =>
  ⟨n, h, t, msk true c σ, r, (s.kp k1).hd, r1, hw, fun H' d v k2 e2 rv => k σ H' d v s.len (s.ks.trans (k1.trans k2)) e2 ((RD (dP r)).mn (less_mono fun _ z => ⟨rfl, .inr z⟩) rv)⟩
theorem ok_lrefused {f fL Pe : Addr} {fd fdL : FuncData} (F : Fun K "_law_refused" "_law_refused" s__law_refused f fd) (gPe : mg "PickError" = some (.ref Pe)) (gCP : mg "InvalidPlace" = some (.ref CP)) (z_isi : mg "isinstance" = none)
    (eP : PySem.W.exmOne K (.ref CP) (.ref CP) = some true) (xP : XfC K CP) (nP : PySem.W.findIn K (.ref CP) "place" = some none) (xC : ExcC K CP) (k1 : PySem.W.kitOne K (.ref CP) (.ref Pe) = some true)
    (GL : FnOk P w K mg base (L2.CX P w) 8 fL fdL ["which", "house", "task"] (spLc C CT CP)) (bL : Binds K fdL ["which", "house", "task"] []) (gL : mg "_law_call" = some (.ref fL)) (kL : PySem.W.keepIn K (.ref fL) = true) :
    FnOk P w K mg base CX0 9 f fd ["which", "house", "task"] (spRg C CT) := by
  refine F.ok sc__law_refused (fun vs H Q E h => ?_) (fun cdv A outer s H vs Q E hr h => ?_)
  · obtain ⟨a, om, ho, hr, _⟩ := h
    exact hr.len
  · obtain ⟨⟨n, h, t, r⟩, om, ho, hR, hw, qq⟩ := h
    have nd := sc__law_refused.nd
    refine ⟨_, (pss_cons (ps_try_next (l := [(.ref CP, some 3, _)]) rfl rfl takes0 (fun W pn xe tk _ =>
        (pss_one (ps_expr (pe_callS GL (by exact hr.mono (by decide)) (by rfl) gL kL bL (fun τ => passAt tk τ) (pa_cons (pv 0) (pa_cons (pv 1) (pa_cons (pv 2) pa_nil)))))))
        (Clauses.named nd rfl rfl ⟨rfl, by decide, .inl gCP⟩ (fun a oe cls d pn hz hf => (pss_one (ps_ret (pe_tup (pa_cons (pe_xf xP nP hz hf (pv 3)) (pa_cons (pe_callB (call_isF hz hf) (by rfl) z_isi (by decide +kernel) (pa_cons (pv 3) (pa_cons (pe_glob (v := .ref _) rfl gPe rfl) pa_nil))) pa_nil)))))) .nil))
      (pss_one (ps_ret pe_non))), ?_⟩
    have st := sta_start (N := ["which", "house", "task", "error"]) ho hR
    refine (?_ : WC ⟨H, less H om, om, [.fz (RD (.int n)), .fz (RHouse C h), .fz (RTask CT t), .any]⟩ _) _ _ st
    replace hw : wrongP h.ls h.gs t.st t.en t.ps = some r := hw
    replace qq : ∀ H' v, Kp H H' → (RD (.tuple [dP r, .bool true])).p (less H' om) v → Q v H' := qq
    refine s_seq ?_
    show WC ⟨H, less H om, om, [.fz (RD (.int n)), .fz (RHouse C h), .fz (RTask CT t), .any]⟩ (tDrop (tCallS _ _ _) _)
    refine s_callRg (r := r) hw (a_cons (e_var rfl) (a_cons (e_var rfl) (a_cons (e_var rfl) a_nil))) fun σ H' d v hl k e rv => ?_
    refine ⟨true, eP, fun _ y ny => ?_, fun z => nomatch z⟩
    have h3 : (σ.set 3 (some (V.ref y)))[3]? = some (some (V.ref y)) := setget (by rw [hl]; show 3 < 4; decide)
    refine ⟨_, h3, rfl, rfl, d, _, v, rfl, e, rfl, ?_⟩
    refine ⟨_, h3, CP, d, _, .ref Pe, .ref Pe, true, rfl, rfl, rfl, e, xC, (fun u z => z), k1, ?_⟩
    refine ⟨by rw [sizeLine_eq]; show 2 ≤ 16777216; decide, fun p np => ?_⟩
    have hd2 : Hd _ om := fun a m => by
      obtain ⟨o, eo, mu⟩ := ho a m
      exact ⟨o, k.at_ _ _ eo (fun ps z => by subst z; exact mu), mu⟩
    obtain ⟨kk, dd⟩ := tup_new (M := om) hd2 np (.cons rv (.cons (.bl true) .nil))
    exact qq _ _ (k.trans kk) dd
end
section
open GxR NdefX PySem.Spec PyProof.Rows
variable {P : Program} {w : World} {K : PySem.W.Frag} {mg : Str → Option Value} {base : Heap} {C CT CP : Addr}
/-- x in a tuple of things -/
def rInTD (K : PySem.W.Frag) : R2 := fun x y H Q => ∃ d ds, Dp K H x d ∧ Dp K H y (.tuple ds) ∧ SeqAt.shaped d = true ∧ SeqAt.shaped (.tuple ds) = true ∧ Q (.bl (ds.any fun z => PyData.eqv z d)) H
theorem op_inTD {X : Cx} (hu : X.A.units + 65 < cLine) : OpR X (compareOp .In) (rInTD X.K) := by
  intro pins s σ H x y v u Q I rx ry h
  obtain ⟨d, ds, hd, he, sd, se, q⟩ := h
  obtain ⟨as, r1⟩ := Dp.reads I d x v hd rx
  obtain ⟨bs, r2⟩ := Dp.reads I (.tuple ds) y u he ry
  exact SeqAt.in_tuple_reads r2 r1 (SeqAt.canLay_of_shaped se) (SeqAt.canLay_of_shaped sd) (room_in_shaped sd hu) ⟨.bl _, H, I, rfl, q⟩
theorem o_inTE {α : Type} [DecidableEq α] {f : α → PyData} {n : Nat} {Po : α → Prop} (h : Enc f n Po) (hn : n ≤ 63) {a : α} {xs : List α} {hd : Decidable (a ∈ xs)} (qa : Po a) (qb : ∀ x ∈ xs, Po x) : O2 (rInTD K) (RD (f a)) (RD (.tuple (xs.map f))) (RD (.bool (@decide (a ∈ xs) hd))) := fun H M x y _ r1 r2 Q q => by
  have hl := enc_tupl h
  refine ⟨f a, xs.map f, (Dt.kp kp_less r1).dp (h.nod a), (Dt.kp kp_less r2).dp (hl.nod xs), h.shaped (by omega) qa, hl.shaped (by omega) qb, q H _ (Kp.refl _) ?_⟩
  rw [any_enc h]
  exact dec_bl _ _ id
def isOddB (st en p : Pl) : Bool := !decide (st = en) && decide (p ∈ [st, en])
abbrev spIo (CT : Addr) : Sp := Sps (fun a : TD × Pl => [RTask CT a.1, RD (dP a.2)]) (fun _ _ => True) fun a => RD (.bool (isOddB a.1.st a.1.en a.2))
theorem ok_isodd {f CIT : Addr} {fd : FuncData} (F : Fun K "is_odd" "is_odd" s_is_odd f fd) (TT : TaskTxt K mg CT CIT) : FnOk P w K mg base CX0 1 f fd ["task", "place"] (spIo CT) := by
  refine fn_ok F sc_is_odd (fun _ => rfl) fun cdv A outer s H E0 hr => ?_
  have nd := sc_is_odd.nd
  refine ⟨_, (pss_one (ps_ret (pe_and (pe_cmpR (r := rNeD K) (op_neD hr.units) (pe_fld (pv 0) rfl) (pe_fld (pv 0) rfl) (nomark _)) (pe_one (pe_cmpR (r := rInTD K) (op_inTD (room65 hr)) (pv 1) (pe_tup (pa_cons (pe_fld (pv 0) rfl) (pa_cons (pe_fld (pv 0) rfl) pa_nil))) (by rfl)))))), ?_⟩
  rintro ⟨t, p⟩ hs om Q _ q
  show WC ⟨hs, less hs om, om, [.fz (RTask CT t), .fz (RD (dP p))]⟩ _
  exact s_ret (e_and (e_op (o_neE (f := dP) (a := t.st) (b := t.en) (hd := inferInstance) enc_P (by decide) ⟨trivial, trivial⟩ ⟨trivial, trivial⟩) (e_fld TT.cl TT.nS fld_start (e_var rfl)) (e_fld TT.cl TT.nE fld_end (e_var rfl)))
    (fun _ => e_op (o_inTE (f := dP) (a := p) (xs := [t.st, t.en]) (hd := inferInstance) enc_P (by decide) ⟨trivial, trivial⟩ (fun _ _ => ⟨trivial, trivial⟩)) (e_var rfl) (e_tup (m_cons (e_fld TT.cl TT.nS fld_start (e_var rfl)) (m_cons (e_fld TT.cl TT.nE fld_end (e_var rfl)) m_nil))))) q
def oddP (st en : Pl) (gap : Int) : List Pl := [st, en].filter fun p => isOddB st en p && decide (p.1 ≤ gap)
def loddL (st en : Pl) (gap : Int) : List Pl := [st, en].filter fun p => !decide (st = en) && decide (p.1 ≤ gap)
theorem odd_eq (st en : Pl) (gap : Int) : oddP st en gap = loddL st en gap := List.filter_congr fun p hp => by
  unfold isOddB
  rw [decide_eq_true hp, Bool.and_true]
theorem lodd_le (st en : Pl) (gap : Int) : (loddL st en gap).length ≤ 2 := List.length_filter_le _ _
abbrev spOa (CT : Addr) : Sp := Sps (fun a : TD × Int => [RTask CT a.1, RD (.int a.2)]) (fun _ _ => True) fun a => RD (.int ((oddP a.1.st a.1.en a.2).length : Nat))
theorem ok_oddat {f fI CIT : Addr} {fd fdI : FuncData} (F : Fun K "odd_at" "odd_at" s_odd_at f fd) (TT : TaskTxt K mg CT CIT) (z_len : mg "len" = none)
    (GI : FnOk P w K mg base CX0 1 fI fdI ["task", "place"] (spIo CT)) (bI : Binds K fdI ["task", "place"] []) (gI : mg "is_odd" = some (.ref fI)) (kI : PySem.W.keepIn K (.ref fI) = true) : FnOk P w K mg base CX0 2 f fd ["task", "gap"] (spOa CT) := by
  refine fn_ok F sc_odd_at (fun _ => rfl) fun cdv A outer s H E0 hr => ?_
  have nd := sc_odd_at.nd
  refine ⟨_, (pss_one (ps_ret (pe_callB call_len (by rfl) z_len (by decide +kernel) (pa_cons (pe_lc (own := [("place", 2)]) (g := gName 2) rfl nd (pi_list (pe_lst (pa_cons (pe_fld (pv 0) rfl) (pa_cons (pe_fld (pv 0) rfl) pa_nil)))) (blkOk_by (N := ["task", "gap", "place"]) (sc := defScope s_odd_at) (by decide +kernel)) (fun _ _ _ _ _ => pg_name (i := 2) nd rfl (.inl rfl))
      (fun _ _ _ _ _ => pts_one (PW.pt (pw_and (pt_val (pe_call GI (by exact hr.mono (by decide)) (by rfl) gI kI bI .nil pass0 (pa_cons (pv 0) (pa_cons (pv 2) pa_nil)))) (pw_and1 (pt_cmpR (r := rI0 fun i j => .bl (decide (i ≤ j))) op_le (pe_ix (r := rIxT K) ix_tup (pv 2) pe_int (fun _ _ => rfl)) (pv 1) (nomark _)))))) (fun _ _ _ _ _ => pv 2)) pa_nil)))), ?_⟩
  rintro ⟨t, gap⟩ hs om Q _ q
  show WC ⟨hs, less hs om, om, [.fz (RTask CT t), .fz (RD (.int gap)), .any]⟩ _
  refine s_ret (e_cb o_lenM (a_cons (n_e (EN.eqL (n_lcM (xs := [t.st, t.en]) (enc := dP) (p := fun p => isOddB t.st t.en p && decide (p.1 ≤ gap)) (h := fun p => p) (encB := dP) (is := [2]) (G := fun p => [.fz (RTask CT t), .fz (RD (.int gap)), .fz (RD (dP p))]) (i_n (n_lstM (xs := [t.st, t.en]) (enc := dP) (m_cons (e_fld TT.cl TT.nS fld_start (e_var rfl)) (m_cons (e_fld TT.cl TT.nE fld_end (e_var rfl)) m_nil)))) rfl (by decide) (fun _ p hp => g_name)
    (fun _ p hp => t_and (t_B (show Pk.E _ _ _ (RD (.bool (isOddB t.st t.en p))) from c_call (sok_sps (Rs := fun a : TD × Pl => [RTask CT a.1, RD (dP a.2)]) (P := fun _ _ => True) (R := fun a => RD (.bool (isOddB a.1.st a.1.en a.2))) (t, p)) (a_cons (e_var rfl) (a_cons (e_var rfl) a_nil)) (fun _ _ => trivial))) (fun _ => t_T (e_op o_cmpI0 (e_op (o_ixT rfl) (e_var rfl) e_int) (e_var rfl)))) (fun _ p hp _ => e_var rfl) (show (2 : Nat) < 16777216 by decide)) (show _ = (oddP t.st t.en gap).map dP by rw [List.map_id']; rfl))) a_nil)) q
abbrev dTK : Pl × Pl × List Pl → PyData := eT3 dP dP (eL dP)
abbrev spLo : Sp := Sps (fun a : (Pl × Pl × List Pl) × Int => [RD (dTK a.1), RD (.int a.2)]) (fun _ _ => True) fun a => RD (.int ((loddL a.1.1 a.1.2.1 a.2).length : Nat))
theorem ok_lodd {f : Addr} {fd : FuncData} (F : Fun K "_law_odd" "_law_odd" s__law_odd f fd) (z_len : mg "len" = none) : FnOk P w K mg base CX0 1 f fd ["task", "gap"] spLo := by
  refine fn_ok F sc__law_odd (fun _ => rfl) fun cdv A outer s H E0 hr => ?_
  have nd := sc__law_odd.nd
  refine ⟨_, (pss_one (ps_ret (pe_callB call_len (by rfl) z_len (by decide +kernel) (pa_cons (pe_lc (own := [("place", 2)]) (g := gName 2) rfl nd (show PI _ _ _ (iTup K (tSl (rSlA K) (tVar 0) tNoPart (tPart (tC (.int 2))))) from pi_tup (pe_slice (show SlR _ (rSlA K) from sl_tupA) (pv 0) po_none (po_some pe_int))) (blkOk_by (N := ["task", "gap", "place"]) (sc := defScope s__law_odd) (by decide +kernel)) (fun _ _ _ _ _ => pg_name (i := 2) nd rfl (.inl rfl))
      (fun _ _ _ _ _ => pts_one (PW.pt (pw_and (pt_cmpR (r := rNeD K) (op_neD hr.units) (pe_ix (r := rIxT K) ix_tup (pv 0) pe_int (fun _ _ => rfl)) (pe_ix (r := rIxT K) ix_tup (pv 0) pe_int (fun _ _ => rfl)) (nomark _)) (pw_and1 (pt_cmpR (r := rI0 fun i j => .bl (decide (i ≤ j))) op_le (pe_ix (r := rIxT K) ix_tup (pv 2) pe_int (fun _ _ => rfl)) (pv 1) (nomark _)))))) (fun _ _ _ _ _ => pv 2)) pa_nil)))), ?_⟩
  rintro ⟨⟨st, en, qs⟩, gap⟩ hs om Q _ q
  show WC ⟨hs, less hs om, om, [.fz (RD (dTK (st, en, qs))), .fz (RD (.int gap)), .any]⟩ _
  refine s_ret (e_cb o_lenM (a_cons (n_e (EN.eqL (n_lcGM (xs := [st, en]) (p := fun p => !decide (st = en) && decide (p.1 ≤ gap)) (fe := fun p => p) (encB := dP) (is := [2]) (G := fun p => [.fz (RD (dTK (st, en, qs))), .fz (RD (.int gap)), .fz (RD (dP p))])
    (w_tup (xs := [st, en]) (f := dP) (Pk.E.eq (e_slT (xs := [dP st, dP en, .list (qs.map dP)]) (enc := fun d => d) (lo := none) (hi := some 2) (e_var rfl) p_none (p_some e_int)) rfl)) rfl (by decide) (fun _ p hp => g_name)
    (fun _ p hp => t_and (t_T (e_op (o_neE (f := dP) (a := st) (b := en) (hd := inferInstance) enc_P (by decide) ⟨trivial, trivial⟩ ⟨trivial, trivial⟩) (e_op (o_ixT rfl) (e_var rfl) e_int) (e_op (o_ixT rfl) (e_var rfl) e_int))) (fun _ => t_T (e_op o_cmpI0 (e_op (o_ixT rfl) (e_var rfl) e_int) (e_var rfl)))) (fun _ p hp _ => e_var rfl) (show (2 : Nat) < 16777216 by decide)) (show _ = (loddL st en gap).map dP by rw [List.map_id']; rfl))) a_nil)) q
def kahead (ls : List Int) (st en : Pl) (a : Int) : List Kd := if a = 0 then [.inl "none"] else kindsB (crossN ls).length ((oddP st en (a - 1)).length : Nat)
abbrev spKn (C CT TH : Addr) : Sp := fun vs H Q E => ∃ (h : HD) (t : TD) (a : Int) (om : Addr → Prop), Hd H om ∧ Rok [RHouse C h, RTask CT t, RD (.int a)] (less H om) vs ∧ wrongP h.ls h.gs t.st t.en t.ps = none ∧ h.ls.length ≤ 2 ∧ TabG (less H om) TH ∧ ∀ H' p o, Kp H H' → H' p = none → (OL ((kahead h.ls t.st t.en a).map dKd)).p (less H' om) o → Q (.ref p) (upd H' p o)
theorem ok_kahead {f fC fK fO TH : Addr} {fd fdC fdK fdO : FuncData} (F : Fun K "kinds_ahead" "kinds_ahead" s_kinds_ahead f fd) (g_NONE : ∃ t : Tok, mg "NONE" = some (.str "none" t)) (z_len : mg "len" = none) (T : HouseTxt K mg C) (Cr : MethD P w K mg base C 1 "crosses" ["self"] (spNums C fun ls _ => crossN ls))
    (GC : FnOk P w K mg base (L2.CX P w) 4 fC fdC ["house", "task"] (spCheck CT C CP)) (bC : Binds K fdC ["house", "task"] []) (gC : mg "check_task" = some (.ref fC)) (kC : PySem.W.keepIn K (.ref fC) = true)
    (GK : FnOk P w K mg base CX0 4 fK fdK ["heights", "odd"] (spKo TH)) (bK : Binds K fdK ["heights", "odd"] []) (gK : mg "kinds_of" = some (.ref fK)) (kK : PySem.W.keepIn K (.ref fK) = true)
    (GO : FnOk P w K mg base CX0 2 fO fdO ["task", "gap"] (spOa CT)) (bO : Binds K fdO ["task", "gap"] []) (gO : mg "odd_at" = some (.ref fO)) (kO : PySem.W.keepIn K (.ref fO) = true) :
    FnOk P w K mg base (L2.CX P w) 5 f fd ["house", "task", "aisle"] (spKn C CT TH) := by
  refine F.okX sc_kinds_ahead (fun vs H Q E h => ?_) (fun cdv A outer s H vs Q E hr h => ?_)
  · obtain ⟨h, t, a, om, ho, hr, _⟩ := h
    exact hr.len
  · obtain ⟨h, t, a, om, ho, hR, hw, l2, tH, q⟩ := h
    have nd := sc_kinds_ahead.nd
    refine ⟨_, (pss_cons (ps_expr (pe_call GC (by exact hr.mono (by decide)) (by rfl) gC kC bC .nil (passes_call (takes_of rfl rfl rfl rfl) fun _ _ _ _ h => h) (pa_cons (pv 0) (pa_cons (pv 1) pa_nil))))
      (pss_cons (ps_if (pt_cmpR (r := rEq) op_eq (pv 2) pe_int (nomark _)) (pss_one (ps_ret (pe_lst (pa_cons (pe_glob (v := .str "none") (by rfl) g_NONE.choose_spec ⟨_, rfl⟩) pa_nil)))) pss_nil)
      (pss_one (ps_ret (pe_call GK (by exact hr.mono (by decide)) (by rfl) gK kK bK .nil pass0 (pa_cons (pe_callB call_len (by rfl) z_len (by decide +kernel) (pa_cons (pe_meth0 (pv 0) T.cl Cr.m Cr.G (by exact hr.mono (by decide)) Cr.b .nil pass0) pa_nil)) (pa_cons (pe_call GO (by exact hr.mono (by decide)) (by rfl) gO kO bO .nil pass0 (pa_cons (pv 1) (pa_cons (pe_op (r := rI0 fun i j => .int (i - j)) op_sub (pv 2) pe_int) pa_nil))) pa_nil))))))), ?_⟩
    have st := sta_start (N := ["house", "task", "aisle"]) ho hR
    refine (?_ : WC ⟨H, less H om, om, [.fz (RHouse C h), .fz (RTask CT t), .fz (RD (.int a))]⟩ _) _ _ st
    refine s_seq ?_
    refine s_expr (c_call (sok_check (h := h) (t := t)) (a_cons (e_var rfl) (a_cons (e_var rfl) a_nil)) (fun _ _ => hw)) ?_
    dsimp only
    refine s_seq ?_
    refine s_if (t_T (e_op o_eqI (e_var rfl) e_int)) (fun z => ?_) (fun z => ?_)
    · have z : a = 0 := of_decide_eq_true z
      have e0 : kahead h.ls t.st t.en a = [.inl "none"] := by unfold kahead; rw [if_pos z]
      rw [e0] at q
      exact s_retNew (n_lstM (xs := ([.inl "none"] : List Kd)) (enc := dKd) (m_cons (show Pk.E true _ _ (RD (dKd (.inl "none"))) from e_str) m_nil)) q
    · have z : ¬ a = 0 := of_decide_eq_false z
      have e0 : kahead h.ls t.st t.en a = kindsB (crossN h.ls).length ((oddP t.st t.en (a - 1)).length : Nat) := by unfold kahead; rw [if_neg z]
      rw [e0] at q
      refine s_pass ?_
      exact s_retNew (n_call (skn_spn (Rs := fun a : Nat × Int => [RD (.int (a.1 : Int)), RD (.int a.2)]) (P := fun a H => a.1 ≤ 3 ∧ TabG H TH) (C := fun a => OL ((kindsB a.1 a.2).map dKd)) ((crossN h.ls).length, ((oddP t.st t.en (a - 1)).length : Nat)))
        (a_cons (e_cb o_lenM (a_cons (c_meth (hi_house (by decide +kernel) (by decide +kernel) (by decide +kernel) (by decide +kernel) (by decide +kernel)) (sok_nums (fun ls _ => crossN ls)) (e_var rfl) a_nil (fun _ _ => trivial)) a_nil))
          (a_cons (show Pk.E _ _ _ (RD (.int ((oddP t.st t.en (a - 1)).length : Nat))) from c_call (sok_sps (Rs := fun a : TD × Int => [RTask CT a.1, RD (.int a.2)]) (P := fun _ _ => True) (R := fun a => RD (.int ((oddP a.1.st a.1.en a.2).length : Nat))) (t, a - 1)) (a_cons (e_var rfl) (a_cons (e_op o_sub (e_var rfl) e_int) a_nil)) (fun _ _ => trivial)) a_nil))
        (fun H kp => ⟨by show (crossN h.ls).length ≤ 3; rw [show (crossN h.ls).length = h.ls.length + 1 by unfold crossN; rw [List.length_map, List.length_range]]; omega, kp.tab _ tH⟩)) q
def lahead (ls : List Int) (st en : Pl) (a : Int) : List Kd := if a = 0 then [.inl "none"] else lkinds (ls.length + 1) ((loddL st en (a - 1)).length : Nat)
theorem ahead_eq {ls : List Int} (h1 : 1 ≤ ls.length) (h2 : ls.length ≤ 2) (st en : Pl) (a : Int) : kahead ls st en a = lahead ls st en a ∧ (lahead ls st en a).length ≤ 36 ∧ ∀ κ ∈ lahead ls st en a, KdOk κ := by
  unfold kahead lahead
  by_cases z : a = 0
  · rw [if_pos z, if_pos z]
    exact ⟨rfl, by decide, fun κ hκ => by rw [List.mem_singleton.mp hκ]; exact .inl rfl⟩
  · rw [if_neg z, if_neg z, odd_eq, show (crossN ls).length = ls.length + 1 by unfold crossN; rw [List.length_map, List.length_range]]
    have l := lodd_le st en (a - 1)
    obtain ⟨j, hj⟩ : ∃ j, (loddL st en (a - 1)).length = j := ⟨_, rfl⟩
    obtain ⟨n, hn⟩ : ∃ n, ls.length + 1 = n := ⟨_, rfl⟩
    rw [hj] at l ⊢
    rw [hn]
    have key : ∃ m, KindF n ((j : Nat) : Int) m ∧ m ≤ 36 := by
      have h3 : j = 0 ∨ j = 1 ∨ j = 2 := by omega
      have h4 : n = 2 ∨ n = 3 := by omega
      rcases h4 with rfl | rfl <;> rcases h3 with rfl | rfl | rfl
      · exact ⟨7, kindF kindT2.1, by decide⟩
      · exact ⟨6, kindF kindT2.2.1, by decide⟩
      · exact ⟨7, kindF kindT2.2.2, by decide⟩
      · exact ⟨25, kindF kindT3.1, by decide⟩
      · exact ⟨34, kindF kindT3.2.1, by decide⟩
      · exact ⟨36, kindF kindT3.2.2, by decide⟩
    obtain ⟨m, KF, hm⟩ := key
    rw [KF.eq]
    exact ⟨rfl, by rw [KF.len]; exact hm, fun κ h => kindsA_ok (by omega) κ (List.mem_filter.mp h).1⟩
abbrev spLa : Sp := SpN (fun a : (List Int × List Int × List (Str × Int × Int)) × (Pl × Pl × List Pl) × Int => [RD (dHT a.1.1 a.1.2.1 a.1.2.2), RD (dTK a.2.1), RD (.int a.2.2)]) (fun a _ => 1 ≤ a.1.1.length ∧ a.1.1.length ≤ 2) fun a => OL ((lahead a.1.1 a.2.1.1 a.2.1.2.1 a.2.2).map dKd)
theorem ok_lahead {f fK fO : Addr} {fd fdK fdO : FuncData} (F : Fun K "_law_ahead" "_law_ahead" s__law_ahead f fd) (z_len : mg "len" = none)
    (GK : FnOk P w K mg base CX0 2 fK fdK ["heights", "odd"] spKk) (bK : Binds K fdK ["heights", "odd"] []) (gK : mg "_law_kinds" = some (.ref fK)) (kK : PySem.W.keepIn K (.ref fK) = true)
    (GO : FnOk P w K mg base CX0 1 fO fdO ["task", "gap"] spLo) (bO : Binds K fdO ["task", "gap"] []) (gO : mg "_law_odd" = some (.ref fO)) (kO : PySem.W.keepIn K (.ref fO) = true) :
    FnOk P w K mg base CX0 3 f fd ["house", "task", "aisle"] spLa := by
  refine fn_okN F sc__law_ahead (fun _ => rfl) fun cdv A outer s H E0 hr => ?_
  have nd := sc__law_ahead.nd
  refine ⟨_, (pss_cons (ps_if (pt_cmpR (r := rEq) op_eq (pv 2) pe_int (nomark _)) (pss_one (ps_ret (pe_lst (pa_cons pe_str pa_nil)))) pss_nil)
      (pss_one (ps_ret (pe_call GK (by exact hr.mono (by decide)) (by rfl) gK kK bK .nil pass0 (pa_cons (pe_op (r := rI0 fun i j => .int (i + j)) op_add (pe_callB call_len (by rfl) z_len (by decide +kernel) (pa_cons (pe_ix (r := rIxT K) ix_tup (pv 0) pe_int (fun _ _ => rfl)) pa_nil)) pe_int) (pa_cons (pe_call GO (by exact hr.mono (by decide)) (by rfl) gO kO bO .nil pass0 (pa_cons (pv 1) (pa_cons (pe_op (r := rI0 fun i j => .int (i - j)) op_sub (pv 2) pe_int) pa_nil))) pa_nil)))))), ?_⟩
  rintro ⟨⟨ls, gs, cs⟩, ⟨st, en, qs⟩, a⟩ hs om Q ⟨l1, l2⟩ q
  show WC ⟨hs, less hs om, om, [.fz (RD (dHT ls gs cs)), .fz (RD (dTK (st, en, qs))), .fz (RD (.int a))]⟩ _
  replace l1 : 1 ≤ ls.length := l1
  replace l2 : ls.length ≤ 2 := l2
  replace q : ∀ H' p o, Kp hs H' → H' p = none → (OL ((lahead ls st en a).map dKd)).p (less H' om) o → Q (.ref p) (upd H' p o) := q
  refine s_seq ?_
  refine s_if (t_T (e_op o_eqI (e_var rfl) e_int)) (fun z => ?_) (fun z => ?_)
  · have z : a = 0 := of_decide_eq_true z
    have e0 : lahead ls st en a = [.inl "none"] := by unfold lahead; rw [if_pos z]
    rw [e0] at q
    exact s_retNew (n_lstM (xs := ([.inl "none"] : List Kd)) (enc := dKd) (m_cons (show Pk.E true _ _ (RD (dKd (.inl "none"))) from e_str) m_nil)) q
  · have z : ¬ a = 0 := of_decide_eq_false z
    have e0 : lahead ls st en a = lkinds (ls.length + 1) ((loddL st en (a - 1)).length : Nat) := by unfold lahead; rw [if_neg z]
    rw [e0] at q
    refine s_pass ?_
    exact s_retNew (n_call (skn_spn (Rs := fun a : Nat × Int => [RD (.int (a.1 : Int)), RD (.int a.2)]) (P := fun a _ => 1 ≤ a.1 ∧ a.1 ≤ 3) (C := fun a => OL ((lkinds a.1 a.2).map dKd)) (ls.length + 1, ((loddL st en (a - 1)).length : Nat)))
      (a_cons (Pk.E.eq (e_op o_add (e_cb (o_lenM (xs := ls) (enc := PyData.int)) (a_cons (e_op (o_ixT rfl) (e_var rfl) e_int) a_nil)) e_int) rfl)
        (a_cons (show Pk.E _ _ _ (RD (.int ((loddL st en (a - 1)).length : Nat))) from c_call (sok_sps (Rs := fun a : (Pl × Pl × List Pl) × Int => [RD (dTK a.1), RD (.int a.2)]) (P := fun _ _ => True) (R := fun a => RD (.int ((loddL a.1.1 a.1.2.1 a.2).length : Nat))) ((st, en, qs), a - 1)) (a_cons (e_var rfl) (a_cons (e_op o_sub (e_var rfl) e_int) a_nil)) (fun _ _ => trivial)) a_nil))
      (fun _ _ => ⟨by show 1 ≤ ls.length + 1; omega, by show ls.length + 1 ≤ 3; omega⟩)) q
end
section
open GxR NdefX PySem.Spec PyProof.Rows
variable {P : Program} {w : World} {K : PySem.W.Frag} {mg : Str → Option Value} {base : Heap}
def minO {α : Type} (lt : α → α → Bool) (q : α) (qs : List α) : α := qs.foldl (fun a y => if lt y a = true then y else a) q
section
variable {α : Type} {enc : α → PyData} {lt : α → α → Bool}
open PySem.W in
theorem minD_o (O : OrdD enc lt) (qs : List α) : ∀ q : α, minD (enc q) (qs.map enc) = enc (minO lt q qs) := by
  unfold minD minO
  induction qs with
  | nil => exact fun _ => rfl
  | cons y qs ih =>
    intro q
    rw [List.map_cons, List.foldl_cons, List.foldl_cons, ← ih, O.lt_eq]
    cases lt y q <;> rfl
open PySem.W in
theorem alikeAll_o (O : OrdD enc lt) (qs : List α) : AlikeAll (qs.map enc) := by
  refine ⟨fun d hd d' hd' => ?_, fun d hd => ?_⟩
  · obtain ⟨p, _, rfl⟩ := List.mem_map.mp hd
    obtain ⟨q, _, rfl⟩ := List.mem_map.mp hd'
    exact O.al p q
  · obtain ⟨p, _, rfl⟩ := List.mem_map.mp hd
    exact O.ne p
theorem depth_o (O : OrdD enc lt) (qs : List α) : PyData.depthAll (qs.map enc) ≤ 8 := by
  induction qs with
  | nil => exact Nat.zero_le _
  | cons q qs ih =>
    show max (enc q).depth (PyData.depthAll (qs.map enc)) ≤ 8
    have h := O.dep q
    omega
theorem readsAll_o {s : Shared} : ∀ {T : List (T3o α)}, (∀ t ∈ T, ∃ as, Reads s.heap t.2.1 (enc t.2.2) as) → ∃ as, ReadsAll s.heap (T.map fun t => t.2.1) (T.map fun t => enc t.2.2) as
  | [], _ => ⟨[], .nil⟩
  | t :: T, h => by
    obtain ⟨as, r⟩ := h t (.head _)
    obtain ⟨bs, rs⟩ := readsAll_o fun q hq => h q (.tail _ hq)
    exact ⟨as ++ bs, .cons r rs⟩
def rMinO (K : PySem.W.Frag) (enc : α → PyData) (lt : α → α → Bool) : List V → Hp → VK → Prop := fun vs H Q => ∃ (l : Addr) (q : α) (qs : List α) (L : List (V × α)), vs = [.ref l] ∧ H l = some (.lst (L.map (·.1))) ∧ L.map (·.2) = q :: qs ∧ (∀ p ∈ L, Dp K H p.1 (enc p.2)) ∧
  ∀ v, (v, minO lt q qs) ∈ L → Q v H
open PySem.W in
theorem cr_minO {X : Cx} (O : OrdD enc lt) (hc : X.calm = true) (hu : X.A.units + 64 < cLine) : CallR X (.builtin "min") (rMinO X.K enc lt) := by
  intro pins s σ H vs us Q I r h
  obtain ⟨l, q, qs, L, rfl, hH, hq, hL, k⟩ := h
  cases r with
  | cons r1 r =>
    cases r
    cases r1
    obtain ⟨z, its, n, rv, hlen, e⟩ := I.lstM hH
    obtain ⟨T, e1, e2, e3⟩ := t3o_of I L its rv hL
    have eq : (T.map fun t => t.2.2) = q :: qs := by
      rw [← hq, ← e1, List.map_map]
      rfl
    obtain ⟨as, hr0⟩ := readsAll_o fun t ht => (e3 t ht).2
    have hr : ReadsAll s.heap its.toArray.toList (enc q :: qs.map enc) as := by
      rw [e2] at hr0
      have e4 : (T.map fun t => enc t.2.2) = enc q :: qs.map enc := by
        rw [show (T.map fun t => enc t.2.2) = (T.map fun t => t.2.2).map enc by rw [List.map_map]; rfl, eq]
        rfl
      rw [e4] at hr0
      simpa using hr0
    have dp := depth_o O (q :: qs)
    refine min_list_data (I.ok.hd hc) ⟨_, e, rfl, ⟨_, rfl⟩⟩ hr (alikeAll_o O (q :: qs)) (by show X.A.units + 1 + PyData.depthAll ((q :: qs).map enc) < cLine; omega) fun i v h' tk bs hv rd kk => ?_
    have hv : its[i]? = some v := by simpa using hv
    rw [← e2, List.getElem?_map, Option.map_eq_some_iff] at hv
    obtain ⟨t, ht, rfl⟩ := hv
    have tm := List.mem_of_getElem? ht
    obtain ⟨tr, cs, tq⟩ := e3 t tm
    have u : enc t.2.2 = enc (minO lt q qs) := by
      rw [minD_o O] at rd
      exact alike_unique _ _ _ _ _ (O.al _ _) (reads_keeps kk tq) rd
    refine ⟨t.1, H, I.kept kk, tr, k t.1 ?_⟩
    have inj : t.2.2 = minO lt q qs := O.inj _ _ u
    rw [← inj, ← e1]
    exact List.mem_map.mpr ⟨t, tm, rfl⟩
theorem e_minO {b : Bool} {c : Ct} {ta : TE} {q : α} {qs : List α} (O : OrdD enc lt) (h : EI c ta ((q :: qs).map enc)) : E b c (tCB (rMinO K enc lt) (tCons ta tNil)) (RD (enc (minO lt q qs))) := E.low fun σ H s Q k =>
  h σ H s _ fun H1 a vs k1 e1 r1 => by
    obtain ⟨L, rfl, e2, hL⟩ := pairs_dt r1
    refine ⟨a, q, qs, L, rfl, e1, e2, fun p hp => (Dt.kp kp_less (hL p hp)).dp (O.nod _), fun v hv => k H1 v k1 ?_⟩
    rw [hb_t]
    exact hL _ hv
end
abbrev ltP2 (a b : Pl) : Bool := if a.1 = b.1 then decide (a.2 < b.2) else decide (a.1 < b.1)
theorem ordP2 : OrdD dP ltP2 := ⟨fun a b => PySem.W.DatumOrd.lt_eq (α := Int × Int) a b, fun a b => PySem.W.DatumOrd.alike (α := Int × Int) a b, fun a => ⟨_, _, rfl⟩, fun a b h => by
  have h : PyData.tuple [.int a.1, .int a.2] = .tuple [.int b.1, .int b.2] := h
  simp only [PyData.tuple.injEq, List.cons.injEq, PyData.int.injEq, and_true] at h
  exact Prod.ext h.1 h.2, fun a => by show (1 : Nat) ≤ 8; decide, fun a => rfl⟩
theorem s_clrO {c : Ct} {i : Nat} {ds : List PyData} {D : Ends} (e : c.g[i]? = some (.own (OL ds))) (q : WC (c.set i (.own (OL []))) D.nx) : WC c (tDrop (tBM0 K "list" rClear (tVar i)) D) := fun σ H s => by
  obtain ⟨p, o, e1, e2, ⟨vs, rfl, a⟩, _⟩ := s.own i _ e
  refine ⟨.ref p, e1, .inl ⟨rfl, vs, SqL.of e2⟩, p, vs, rfl, rfl, e2, ?_⟩
  exact q σ _ (s.mut (C' := OL []) e e1 ⟨_, rfl, .nil⟩).1
theorem x_task {hs h0 : Hp} {g : List Slot} {ta : TA} {E' : XK} {ns : List Int} {a many : Nat} {ls gs : List Int} {cs : List (Str × Int × Int)} (ha : EA true ⟨hs, h0, fun _ => False, g⟩ ta [RD (.list (ns.map PyData.int)), RD (.int (a : Int)), RD (dHT ls gs cs), RD (.int (many : Int))])
    (hp : Small ns ∧ a + 4 + many ≤ ns.length ∧ many ≤ 50 ∧ Valid ls gs cs) (no : noOwn g = true := by rfl) : EX ⟨hs, h0, fun _ => False, g⟩ (tCall (spTk K) [] E' ta) (fun x : Pl × Pl × List Pl => RD (dTK x)) (fun x => DTask ls gs many x.1 x.2.1 x.2.2) := fun σ H s Q q =>
  task_call ha hp no σ H s Q fun H1 H' t va vb l xs st en ps k1 k2 et pa pb nl el px dt => by
    refine q H' _ (st, en, ps) (k1.trans k2) dt ?_
    rw [bas_all no]
    show Dt H' (.ref t) (.tuple [dP st, dP en, .list (ps.map dP)])
    exact .tup et (.cons pa.dt (.cons pb.dt (.cons (.lst el px.dt) .nil)))
def badL (ls gs : List Int) : List Pl := [((gs.length : Int) + 1, 0), (-1, 0), (0, ls.sum + 1), (0, -1), ((gs.length : Int) + 2, ls.sum)]
theorem bad_no {ls gs : List Int} {p : Pl} (h : p ∈ badL ls gs) : isPl ls gs p = false := by
  unfold badL at h
  simp only [List.mem_cons, List.not_mem_nil, or_false] at h
  unfold isPl
  rcases h with rfl | rfl | rfl | rfl | rfl
  · rw [Bool.and_eq_false_iff]; left; rw [Bool.and_eq_false_iff]; right; exact decide_eq_false (by show ¬ ((gs.length : Int) + 1 ≤ gs.length); omega)
  · rw [Bool.and_eq_false_iff]; left; rw [Bool.and_eq_false_iff]; left; exact decide_eq_false (by show ¬ ((0 : Int) ≤ -1); omega)
  · rw [Bool.and_eq_false_iff]; right; rw [Bool.and_eq_false_iff]; right; exact decide_eq_false (by show ¬ (ls.sum + 1 ≤ ls.sum); omega)
  · rw [Bool.and_eq_false_iff]; right; rw [Bool.and_eq_false_iff]; left; exact decide_eq_false (by show ¬ ((0 : Int) ≤ -1); omega)
  · rw [Bool.and_eq_false_iff]; left; rw [Bool.and_eq_false_iff]; right; exact decide_eq_false (by show ¬ ((gs.length : Int) + 2 ≤ gs.length); omega)
theorem cr_no {ls gs : List Int} {p : Pl} (h : isPl ls gs p = false) : isCr ls gs p = false := by
  unfold isCr
  rw [h]
  rfl
theorem wr_st {ls gs : List Int} {st en : Pl} {ps : List Pl} (h : isCr ls gs st = false) : wrongP ls gs st en ps = some st := by
  unfold wrongP
  rw [List.find?_cons, h]
  rfl
theorem wr_en {ls gs : List Int} {st en : Pl} {ps : List Pl} (h1 : isCr ls gs st = true) (h : isCr ls gs en = false) : wrongP ls gs st en ps = some en := by
  unfold wrongP
  rw [List.find?_cons, h1, List.find?_cons, h]
  rfl
theorem find_least {p : Pl → Bool} {m : Pl} : ∀ {L : List Pl}, L.Pairwise lp → m ∈ L → p m = true → (∀ x ∈ L, p x = true → lp m x) → L.find? p = some m
  | [], _, h, _, _ => nomatch h
  | x :: L, pw, hm, hp, hl => by
    obtain ⟨p1, p2⟩ := List.pairwise_cons.mp pw
    rw [List.find?_cons]
    cases hx : p x with
    | true =>
      rcases List.mem_cons.mp hm with z | z
      · rw [z]
      · rw [lp_anti (p1 m z) (hl x (.head _) hx)]
    | false =>
      rcases List.mem_cons.mp hm with z | z
      · rw [z, hx] at hp; cases hp
      · exact find_least p2 z hp fun y hy => hl y (.tail _ hy)
theorem min2_lp (a b : Pl) : (minO ltP2 a [b] = a ∨ minO ltP2 a [b] = b) ∧ lp (minO ltP2 a [b]) a ∧ lp (minO ltP2 a [b]) b := by
  show ((if ltP2 b a = true then b else a) = a ∨ (if ltP2 b a = true then b else a) = b) ∧ lp (if ltP2 b a = true then b else a) a ∧ lp (if ltP2 b a = true then b else a) b
  unfold lp
  by_cases h : ltP2 b a = true
  · rw [if_pos h]
    refine ⟨.inr rfl, ?_, .inr ⟨rfl, Int.le_refl _⟩⟩
    by_cases e : b.1 = a.1
    · unfold ltP2 at h; rw [if_pos e] at h; have := of_decide_eq_true h; exact .inr ⟨e, by omega⟩
    · unfold ltP2 at h; rw [if_neg e] at h; exact .inl (of_decide_eq_true h)
  · rw [if_neg h]
    refine ⟨.inl rfl, .inr ⟨rfl, Int.le_refl _⟩, ?_⟩
    by_cases e : b.1 = a.1
    · unfold ltP2 at h; rw [if_pos e, decide_eq_true_eq] at h; exact .inr ⟨e.symm, by omega⟩
    · unfold ltP2 at h; rw [if_neg e, decide_eq_true_eq] at h; exact .inl (by omega)
theorem wr_pk {ls gs : List Int} {st en : Pl} {ps ws : List Pl} {a b : Pl} (h1 : isCr ls gs st = true) (h2 : isCr ls gs en = true) (hp : ∀ x ∈ ps, isPl ls gs x = true) (ha : isPl ls gs a = false) (hb : isPl ls gs b = false) (hw : ∀ x, x ∈ ws ↔ x = a ∨ x = b) : wrongP ls gs st en (sortP (ps ++ ws)) = some (minO ltP2 a [b]) := by
  unfold wrongP
  have e1 : ([st, en].find? fun p => !isCr ls gs p) = none := by simp [h1, h2]
  rw [e1, Option.none_or]
  obtain ⟨m1, m2, m3⟩ := min2_lp a b
  refine find_least (sortP_pw _) (sortP_mem.mpr (List.mem_append_right _ ((hw _).mpr m1))) ?_ fun x hx hn => ?_
  · rcases m1 with z | z <;> rw [z]
    · rw [ha]; rfl
    · rw [hb]; rfl
  · rcases List.mem_append.mp (sortP_mem.mp hx) with z | z
    · rw [hp x z] at hn; cases hn
    · rcases (hw x).mp z with y | y <;> rw [y]
      · exact m2
      · exact m3
def innerL (ls : List Int) : List Int := (rgI 0 ls.sum.toNat).filter fun h => !decide (h ∈ crossN ls)
theorem inner_no {ls gs : List Int} {h : Int} (hm : h ∈ innerL ls) : isCr ls gs (0, h) = false := by
  have := (List.mem_filter.mp hm).2
  rw [Bool.not_eq_true', decide_eq_false_iff_not] at this
  unfold isCr
  rw [show decide (((0, h) : Pl).2 ∈ crossN ls) = false from decide_eq_false this, Bool.and_false]
/-- the picks of a wrong task -/
structure Jt (ls gs : List Int) (s e : Pl) (qs : List Pl) (d : Option Pl) : Prop where
  nd : qs.Nodup
  le : qs.length ≤ 20
  wr : ∀ x, d = some x → wrongP ls gs s e (sortP qs) = some x
end
section
open GxR NdefX PySem.Spec PyProof.Rows
variable {P : Program} {w : World} {K : PySem.W.Frag} {mg : Str → Option Value} {base : Heap}
abbrev sl27 (K : PySem.W.Frag) (ns ns1 : List Int) (a2 a3 a4 a5 a6 a7 a8 a9 a10 a11 a12 a13 a14 a15 a16 a17 a18 a19 : Slot) : List Slot := [.fz (RScr K ns), .fz (RD (.list (ns1.map PyData.int))), a2, a3, a4, a5, a6, a7, a8, a9, a10, a11, a12, a13, a14, a15, a16, a17, a18, a19]
theorem sok_cross {ls : List Int} : Sok (spCross K) [RD (.list (ls.map PyData.int))] (fun _ => ls.length ≤ 60) (RD (.list ((crossN ls).map PyData.int))) := fun H om vs ho hr hp Q E q => by
  obtain ⟨v, r, rfl, h1, rfl⟩ := hr
  obtain ⟨a, rfl, e⟩ := Dt.nums h1
  refine ⟨a, ls, rfl, SqL.of (less_some e).2, by omega, fun H' p sm np ep => q H' _ (kpS sm) ?_⟩
  have npo : ¬ om p := fun m => by
    obtain ⟨o, eo, _⟩ := ho p m
    rw [np] at eo
    cases eo
  exact .lst (by rw [less_out npo]; exact ep) (DtAll.ofInts _)
theorem ix_mem {α : Type} [Inhabited α] {xs : List α} {i : Int} (h0 : 0 ≤ i) (h1 : i < xs.length) : ix xs i ∈ xs := by
  obtain ⟨j, rfl⟩ : ∃ j : Nat, i = (j : Int) := ⟨i.toNat, by omega⟩
  have hj : j < xs.length := by omega
  have e := List.getElem?_eq_getElem hj
  rw [ix_nat e]
  exact List.getElem_mem hj
theorem ok_law (C CT CIT TL TI TH : Addr) {f fT : Addr} {fd fdT : FuncData} (F : Fun K "law" "law" s_law f fd) (z_int : mg "int" = none) (z_len : mg "len" = none) (z_range : mg "range" = none) (z_sum : mg "sum" = none) (z_min : mg "min" = none) (z_all : mg "all" = none) (MT : Mk K CT fT) (GT : FnOk P w K mg base (L2.CX P w) 2 fT fdT ["self", "start", "end", "picks"] (spTask K CT CIT)) (bT : Binds K fdT ["self", "start", "end", "picks"] []) (mgT : mg "Task" = some (.ref CT))
    (Nu : TopD P w K mg base 2 "_law_numbers" ["script", "many"] (spNumbers K)) (Hs : TopD P w K mg base 4 "_law_house" ["numbers", "at", "many", "most"] (spHs K)) (Tk : TopD P w K mg base 4 "_law_task" ["numbers", "at", "house", "many"] (spTk K)) (Md : TopD P w K mg base 7 "_law_made" ["house", "task"] (spMd C CT TL TI)) (Oa : TopD P w K mg base 2 "odd_at" ["task", "gap"] (spOa CT)) (Lo : TopD P w K mg base 1 "_law_odd" ["task", "gap"] spLo) (Kn : TopN P w K mg base (L2.CX P w) 5 "kinds_ahead" ["house", "task", "aisle"] (spKn C CT TH)) (La : TopD P w K mg base 3 "_law_ahead" ["house", "task", "aisle"] spLa) (Cs : TopD P w K mg base 2 "_law_crosses" ["lengths"] (spCross K)) (Rf : TopD P w K mg base 9 "_law_refused" ["which", "house", "task"] (spRg C CT)) :
    FnOk P w K mg base CX0 10 f fd ["script"] (spLawT K [TL, TI, TH]) := by
  refine fn_okL F sc_law fun cdv A outer s H E0 hr => ?_
  have nd := sc_law.nd
  refine ⟨_, (pss_cons (ps_set (i := 1) nd rfl (.inl rfl) (pe_call Nu.G (by exact hr.mono (by decide)) (by rfl) Nu.g Nu.kp Nu.b .nil pass0 (pa_cons (pv 0) (pa_cons pe_int pa_nil))))
      (pss_cons (ps_set (i := 2) nd rfl (.inr rfl) (pe_call Hs.G (by exact hr.mono (by decide)) (by rfl) Hs.g Hs.kp Hs.b .nil pass0 (pa_cons (pv 1) (pa_cons pe_int (pa_cons pe_int (pa_cons pe_int pa_nil))))))
      (pss_cons (ps_set (i := 3) nd rfl (.inr rfl) (pe_call Tk.G (by exact hr.mono (by decide)) (by rfl) Tk.g Tk.kp Tk.b .nil pass0 (pa_cons (pv 1) (pa_cons pe_int (pa_cons (pv 2) (pa_cons pe_int pa_nil))))))
      (pss_cons (ps_asg (pe_call Md.G (by exact hr.mono (by decide)) (by rfl) Md.g Md.kp Md.b .nil pass0 (pa_cons (pv 2) (pa_cons (pv 3) pa_nil))) (pg_tup rfl (pgs_cons (pg_name (i := 4) nd rfl (.inr rfl)) (pgs_cons (pg_name (i := 5) nd rfl (.inl rfl)) pgs_nil))))
      (pss_cons (ps_for PassesOwn.never rfl (pi_range2 rfl z_range (pa_cons (pe_un un_neg pe_int) (pa_cons (pe_op (r := rI0 fun i j => .int (i + j)) op_add (pe_callB call_len (by rfl) z_len (by decide +kernel) (pa_cons (pe_ix (r := rIxT K) ix_tup (pv 2) pe_int (fun _ _ => rfl)) pa_nil)) pe_int) pa_nil))) (pg_name (i := 6) nd rfl (.inl rfl)) (pss_one (ps_if (pt_cmpR (r := rNe) op_ne (pe_call Oa.G (by exact hr.mono (by decide)) (by rfl) Oa.g Oa.kp Oa.b .nil pass0 (pa_cons (pv 5) (pa_cons (pv 6) pa_nil))) (pe_call Lo.G (by exact hr.mono (by decide)) (by rfl) Lo.g Lo.kp Lo.b .nil pass0 (pa_cons (pv 3) (pa_cons (pv 6) pa_nil))) (nomark _)) (pss_one (ps_ret pe_bl)) pss_nil)))
      (pss_cons (ps_for PassesOwn.never rfl (pi_range1 rfl z_range (pa_cons (pe_op (r := rI0 fun i j => .int (i + j)) op_add (pe_callB call_len (by rfl) z_len (by decide +kernel) (pa_cons (pe_ix (r := rIxT K) ix_tup (pv 2) pe_int (fun _ _ => rfl)) pa_nil)) pe_int) pa_nil)) (pg_name (i := 7) nd rfl (.inl rfl)) (pss_cons (ps_set (i := 8) nd rfl (.inl rfl) (pe_call Kn.G (by exact hr.mono (by decide)) (by rfl) Kn.g Kn.kp Kn.b .nil (passes_call takes0 fun _ _ _ _ h => h) (pa_cons (pv 4) (pa_cons (pv 5) (pa_cons (pv 7) pa_nil)))))
      (pss_cons (ps_if (pt_cmpR (r := rNeD K) (op_neD hr.units) (pv 8) (pe_call La.G (by exact hr.mono (by decide)) (by rfl) La.g La.kp La.b .nil pass0 (pa_cons (pv 2) (pa_cons (pv 3) (pa_cons (pv 7) pa_nil)))) (nomark _)) (pss_one (ps_ret pe_bl)) pss_nil)
      (pss_cons (ps_expr (pe_bm0 PySem.F.plainAttrs_list PySem.F.slot_list_clear PySem.F.type_list_clear mt_clear (pv 8)))
      (pss_one (ps_if (pt_cmpR (r := rNeD K) (op_neD hr.units) (pe_call Kn.G (by exact hr.mono (by decide)) (by rfl) Kn.g Kn.kp Kn.b .nil (passes_call takes0 fun _ _ _ _ h => h) (pa_cons (pv 4) (pa_cons (pv 5) (pa_cons (pv 7) pa_nil)))) (pe_call La.G (by exact hr.mono (by decide)) (by rfl) La.g La.kp La.b .nil pass0 (pa_cons (pv 2) (pa_cons (pv 3) (pa_cons (pv 7) pa_nil)))) (nomark _)) (pss_one (ps_ret pe_bl)) pss_nil))))))
      (pss_cons (ps_set (i := 9) nd rfl (.inl rfl) (pe_callB (cr_sum rfl) (by rfl) z_sum (by decide +kernel) (pa_cons (pe_ix (r := rIxT K) ix_tup (pv 2) pe_int (fun _ _ => rfl)) pa_nil)))
      (pss_cons (ps_set (i := 10) nd rfl (.inl rfl) (pe_lst (pa_cons (pe_tup (pa_cons (pe_op (r := rI0 fun i j => .int (i + j)) op_add (pe_callB call_len (by rfl) z_len (by decide +kernel) (pa_cons (pe_ix (r := rIxT K) ix_tup (pv 2) pe_int (fun _ _ => rfl)) pa_nil)) pe_int) (pa_cons pe_int pa_nil))) (pa_cons (pe_tup (pa_cons (pe_un un_neg pe_int) (pa_cons pe_int pa_nil))) (pa_cons (pe_tup (pa_cons pe_int (pa_cons (pe_op (r := rI0 fun i j => .int (i + j)) op_add (pv 9) pe_int) pa_nil))) (pa_cons (pe_tup (pa_cons pe_int (pa_cons (pe_un un_neg pe_int) pa_nil))) (pa_cons (pe_tup (pa_cons (pe_op (r := rI0 fun i j => .int (i + j)) op_add (pe_callB call_len (by rfl) z_len (by decide +kernel) (pa_cons (pe_ix (r := rIxT K) ix_tup (pv 2) pe_int (fun _ _ => rfl)) pa_nil)) pe_int) (pa_cons (pv 9) pa_nil))) pa_nil)))))))
      (pss_cons (ps_set (i := 11) nd rfl (.inl rfl) (pe_lst (pa_cons (pe_ix (r := rIxL K) ix_list (pv 10) (pe_op (r := rI (fun _ j => 0 < j) fun i j => .int (i % j)) op_mod (pe_callTy (r := fun xs H Q => (∃ i, xs = [.int i] ∧ Q (.int i) H) ∨ ∃ k, xs = [.bl k] ∧ Q (.int (if k then 1 else 0)) H) call_int1 (by rfl) z_int (by decide +kernel) (pa_cons (pe_ix (r := rIxL K) ix_list (pv 1) pe_int (fun _ _ => rfl)) pa_nil)) pe_int) (fun _ _ => rfl)) (pa_cons (pe_ix (r := rIxL K) ix_list (pv 10) (pe_op (r := rI (fun _ j => 0 < j) fun i j => .int (i % j)) op_mod (pe_callTy (r := fun xs H Q => (∃ i, xs = [.int i] ∧ Q (.int i) H) ∨ ∃ k, xs = [.bl k] ∧ Q (.int (if k then 1 else 0)) H) call_int1 (by rfl) z_int (by decide +kernel) (pa_cons (pe_ix (r := rIxL K) ix_list (pv 1) pe_int (fun _ _ => rfl)) pa_nil)) pe_int) (fun _ _ => rfl)) pa_nil))))
      (pss_cons (ps_asg (pv 3) (pg_tup rfl (pgs_cons (pg_name (i := 12) nd rfl (.inl rfl)) (pgs_cons (pg_name (i := 13) nd rfl (.inl rfl)) (pgs_cons (pg_name (i := 14) nd rfl (.inr rfl)) pgs_nil)))))
      (pss_cons (ps_set (i := 15) nd rfl (.inr rfl) pe_non)
      (pss_cons (ps_if (PW.pt (pw_or (pt_cmpR (r := rEq) op_eq (pe_op (r := rI (fun _ j => 0 < j) fun i j => .int (i % j)) op_mod (pe_callTy (r := fun xs H Q => (∃ i, xs = [.int i] ∧ Q (.int i) H) ∨ ∃ k, xs = [.bl k] ∧ Q (.int (if k then 1 else 0)) H) call_int1 (by rfl) z_int (by decide +kernel) (pa_cons (pe_ix (r := rIxL K) ix_list (pv 1) pe_int (fun _ _ => rfl)) pa_nil)) pe_int) pe_int (nomark _)) (pw_or1 (pt_cmpR (r := rEq) op_eq (pe_op (r := rI (fun _ j => 0 < j) fun i j => .int (i % j)) op_mod (pe_callTy (r := fun xs H Q => (∃ i, xs = [.int i] ∧ Q (.int i) H) ∨ ∃ k, xs = [.bl k] ∧ Q (.int (if k then 1 else 0)) H) call_int1 (by rfl) z_int (by decide +kernel) (pa_cons (pe_ix (r := rIxL K) ix_list (pv 1) pe_int (fun _ _ => rfl)) pa_nil)) pe_int) pe_int (nomark _))))) (pss_cons (ps_set (i := 14) nd rfl (.inr rfl) (pe_op op_cat (pv 14) (pe_slice sl_list (pe_lc (own := [("one", 17)]) (g := gName 17) rfl nd (pi_list (pv 11)) (blkOk_by (N := ["script", "numbers", "house", "task", "warehouse", "errand", "gap", "aisle", "told", "top", "bad", "wrong", "start", "end", "picks", "due", "inner", "one", "height", "which"]) (sc := defScope s_law) (by decide +kernel)) (fun _ _ _ _ _ => pg_name (i := 17) nd rfl (.inl rfl)) (fun _ _ _ _ _ => pts_one (pt_cmpR (r := rNotInD K) (op_notInD (room65 hr)) (pv 17) (pv 14) (by rfl))) (fun _ _ _ _ _ => pv 17)) po_none (po_some pe_int))))
      (pss_cons (ps_if (pt_cmpR (r := rEqD K) (op_eqD hr.units) (pe_ix (r := rIxL K) ix_list (pv 11) pe_int (fun _ _ => rfl)) (pe_ix (r := rIxL K) ix_list (pv 11) pe_int (fun _ _ => rfl)) (nomark _)) (pss_one (ps_set (i := 14) nd rfl (.inr rfl) (pe_op op_cat (pe_ix (r := rIxT K) ix_tup (pv 3) pe_int (fun _ _ => rfl)) (pe_slice sl_list (pv 11) po_none (po_some pe_int))))) pss_nil)
      (pss_one (ps_set (i := 15) nd rfl (.inr rfl) (pe_callB (cr_minO ordP2 rfl (by exact hr.units)) (by rfl) z_min (by decide +kernel) (pa_cons (pv 11) pa_nil)))))) pss_nil)
      (pss_cons (ps_if (PW.pt (pw_or (pt_cmpR (r := rEq) op_eq (pe_op (r := rI (fun _ j => 0 < j) fun i j => .int (i % j)) op_mod (pe_callTy (r := fun xs H Q => (∃ i, xs = [.int i] ∧ Q (.int i) H) ∨ ∃ k, xs = [.bl k] ∧ Q (.int (if k then 1 else 0)) H) call_int1 (by rfl) z_int (by decide +kernel) (pa_cons (pe_ix (r := rIxL K) ix_list (pv 1) pe_int (fun _ _ => rfl)) pa_nil)) pe_int) pe_int (nomark _)) (pw_or1 (pt_cmpR (r := rEq) op_eq (pe_op (r := rI (fun _ j => 0 < j) fun i j => .int (i % j)) op_mod (pe_callTy (r := fun xs H Q => (∃ i, xs = [.int i] ∧ Q (.int i) H) ∨ ∃ k, xs = [.bl k] ∧ Q (.int (if k then 1 else 0)) H) call_int1 (by rfl) z_int (by decide +kernel) (pa_cons (pe_ix (r := rIxL K) ix_list (pv 1) pe_int (fun _ _ => rfl)) pa_nil)) pe_int) pe_int (nomark _))))) (pss_cons (ps_set (i := 13) nd rfl (.inl rfl) (pe_ix (r := rIxL K) ix_list (pv 11) pe_int (fun _ _ => rfl)))
      (pss_one (ps_set (i := 15) nd rfl (.inr rfl) (pv 13)))) pss_nil)
      (pss_cons (ps_if (PW.pt (pw_or (pt_cmpR (r := rEq) op_eq (pe_op (r := rI (fun _ j => 0 < j) fun i j => .int (i % j)) op_mod (pe_callTy (r := fun xs H Q => (∃ i, xs = [.int i] ∧ Q (.int i) H) ∨ ∃ k, xs = [.bl k] ∧ Q (.int (if k then 1 else 0)) H) call_int1 (by rfl) z_int (by decide +kernel) (pa_cons (pe_ix (r := rIxL K) ix_list (pv 1) pe_int (fun _ _ => rfl)) pa_nil)) pe_int) pe_int (nomark _)) (pw_or1 (pt_cmpR (r := rEq) op_eq (pe_op (r := rI (fun _ j => 0 < j) fun i j => .int (i % j)) op_mod (pe_callTy (r := fun xs H Q => (∃ i, xs = [.int i] ∧ Q (.int i) H) ∨ ∃ k, xs = [.bl k] ∧ Q (.int (if k then 1 else 0)) H) call_int1 (by rfl) z_int (by decide +kernel) (pa_cons (pe_ix (r := rIxL K) ix_list (pv 1) pe_int (fun _ _ => rfl)) pa_nil)) pe_int) pe_int (nomark _))))) (pss_cons (ps_set (i := 12) nd rfl (.inl rfl) (pe_ix (r := rIxL K) ix_list (pv 11) pe_int (fun _ _ => rfl)))
      (pss_one (ps_set (i := 15) nd rfl (.inr rfl) (pv 12)))) pss_nil)
      (pss_cons (ps_setLc (i := 16) (own := [("height", 18)]) (g := gName 18) rfl nd rfl rfl rfl (pi_range1 rfl z_range (pa_cons (pv 9) pa_nil)) (blkOk_by (N := ["script", "numbers", "house", "task", "warehouse", "errand", "gap", "aisle", "told", "top", "bad", "wrong", "start", "end", "picks", "due", "inner", "one", "height", "which"]) (sc := defScope s_law) (by decide +kernel)) (fun _ _ _ _ _ => pg_name (i := 18) nd rfl (.inl rfl)) (fun _ _ _ _ _ => pts_one (pt_cmpR (r := rNotInD K) (op_notInD (room65 hr)) (pv 18) (pe_call Cs.G (by exact hr.mono (by decide)) (by rfl) Cs.g Cs.kp Cs.b .nil pass0 (pa_cons (pe_ix (r := rIxT K) ix_tup (pv 2) pe_int (fun _ _ => rfl)) pa_nil)) (by rfl))) (fun _ _ _ _ _ => pv 18))
      (pss_cons (ps_if (PW.pt (pw_and (pt_cmpR (r := rEq) op_eq (pe_op (r := rI (fun _ j => 0 < j) fun i j => .int (i % j)) op_mod (pe_callTy (r := fun xs H Q => (∃ i, xs = [.int i] ∧ Q (.int i) H) ∨ ∃ k, xs = [.bl k] ∧ Q (.int (if k then 1 else 0)) H) call_int1 (by rfl) z_int (by decide +kernel) (pa_cons (pe_ix (r := rIxL K) ix_list (pv 1) pe_int (fun _ _ => rfl)) pa_nil)) pe_int) pe_int (nomark _)) (pw_and1 (pt_cmpR (r := rI0 fun i j => .bl (decide (j < i))) op_gt (pe_callB call_len (by rfl) z_len (by decide +kernel) (pa_cons (pv 16) pa_nil)) pe_int (nomark _))))) (pss_cons (ps_set (i := 12) nd rfl (.inl rfl) (pe_tup (pa_cons pe_int (pa_cons (pe_ix (r := rIxL K) ix_list (pv 16) (pe_op (r := rI (fun _ j => 0 < j) fun i j => .int (i % j)) op_mod (pe_callTy (r := fun xs H Q => (∃ i, xs = [.int i] ∧ Q (.int i) H) ∨ ∃ k, xs = [.bl k] ∧ Q (.int (if k then 1 else 0)) H) call_int1 (by rfl) z_int (by decide +kernel) (pa_cons (pe_ix (r := rIxL K) ix_list (pv 1) pe_int (fun _ _ => rfl)) pa_nil)) (pe_callB call_len (by rfl) z_len (by decide +kernel) (pa_cons (pv 16) pa_nil))) (fun _ _ => rfl)) pa_nil))))
      (pss_one (ps_set (i := 15) nd rfl (.inr rfl) (pv 12)))) pss_nil)
      (pss_cons (ps_set (i := 3) nd rfl (.inr rfl) (pe_make MT GT (by exact hr.mono (by decide)) (by rfl) mgT bT .nil (passes_call takes0 fun _ _ _ _ h => h) (pa_cons (pv 12) (pa_cons (pv 13) (pa_cons (pv 14) pa_nil)))))
      (pss_one (ps_ret (pe_callB (cr_all rfl) (by rfl) z_all (by decide +kernel) (pa_cons (pe_lc (own := [("which", 19)]) (g := gName 19) (tt := tYes) rfl nd (pi_range2 rfl z_range (pa_cons (pe_callTy (r := fun xs H Q => (∃ i, xs = [.int i] ∧ Q (.int i) H) ∨ ∃ k, xs = [.bl k] ∧ Q (.int (if k then 1 else 0)) H) call_int1 (by rfl) z_int (by decide +kernel) (pa_cons (pe_cmpR (r := rEq) op_eq (pe_callB call_len (by rfl) z_len (by decide +kernel) (pa_cons (pe_ix (r := rIxT K) ix_tup (pv 2) pe_int (fun _ _ => rfl)) pa_nil)) pe_int (nomark _)) pa_nil)) (pa_cons pe_int pa_nil))) (blkOk_by (N := ["script", "numbers", "house", "task", "warehouse", "errand", "gap", "aisle", "told", "top", "bad", "wrong", "start", "end", "picks", "due", "inner", "one", "height", "which"]) (sc := defScope s_law) (by decide +kernel)) (fun _ _ _ _ _ => pg_name (i := 19) nd rfl (.inl rfl)) (fun _ _ _ _ _ => pts_nil) (fun _ _ _ _ _ => (pe_cmpR (r := rEqD K) (op_eqD hr.units) (pe_call Rf.G (by exact hr.mono (by decide)) (by rfl) Rf.g Rf.kp Rf.b .nil pass0 (pa_cons (pv 19) (pa_cons (pv 4) (pa_cons (pv 3) pa_nil)))) (pe_tup (pa_cons (pv 15) (pa_cons pe_bl pa_nil))) (nomark _)))) pa_nil))))))))))))))))))))), ?_⟩
  intro ns hs Q hns hT q
  show WC ⟨hs, hs, fun _ => False, [.fz (RScr K ns), .any, .any, .any, .any, .any, .any, .any, .any, .any, .any, .any, .any, .any, .any, .any, .any, .any, .any, .any]⟩ _
  have tL := hT TL (by simp)
  have tI := hT TI (by simp)
  have tH := hT TH (by simp)
  refine s_seq ?_
  refine s_setX (x_call0 (skx_numbers (m := 60)) (a_cons (e_var rfl) (a_cons e_int a_nil)) (fun H kp => ⟨hns, by decide⟩)) ?_
  rintro ns1 ⟨n60, sm⟩
  show WC ⟨hs, hs, (fun _ => False), (sl27 K ns ns1 .any .any .any .any .any .any .any .any .any .any .any .any .any .any .any .any .any .any)⟩ _
  dsimp only
  refine s_seq ?_
  refine s_setX (x_call0 (skx_house (a := 0) (many := 6) (most := 6)) (a_cons (e_var rfl) (a_cons e_int (a_cons e_int (a_cons e_int a_nil)))) (fun _ _ => ⟨sm, by omega, by decide, by decide, by decide, by decide⟩)) ?_
  rintro ⟨ls, gs, cs⟩ hd
  show WC ⟨hs, hs, (fun _ => False), (sl27 K ns ns1 (.fz (RD (dHT ls gs cs))) .any .any .any .any .any .any .any .any .any .any .any .any .any .any .any .any .any)⟩ _
  dsimp only
  have le2 : ls.length ≤ 2 := hd.v.1.1.2
  have l1 : 1 ≤ ls.length := hd.v.1.1.1
  have lens : Lens ls := hd.v.lens
  have sp : 1 ≤ ls.sum := lens.pos1 l1
  have s80 : ls.sum ≤ 80 := lens.top le2
  have gl : gs.length < 6 := hd.gl
  refine s_seq ?_
  refine s_setX (x_task (a := 24) (many := 4) (a_cons (e_var rfl) (a_cons e_int (a_cons (e_var rfl) (a_cons e_int a_nil)))) ⟨sm, by omega, by decide, hd.v⟩) ?_
  rintro ⟨st, en, qs⟩ dt
  replace dt : DTask ls gs 4 st en qs := dt
  have q4 := dt.le
  show WC ⟨hs, hs, (fun _ => False), (sl27 K ns ns1 (.fz (RD (dHT ls gs cs))) (.fz (RD (dTK (st, en, qs)))) .any .any .any .any .any .any .any .any .any .any .any .any .any .any .any .any)⟩ _
  dsimp only
  refine s_seq ?_
  refine s_asgX (x_call0 skx_made (a_cons (e_var rfl) (a_cons (e_var rfl) a_nil)) (fun H kp => ⟨hd.v, dt.nd, by omega, kp.tab _ tL, kp.tab _ tI⟩)) (fun _ _ => g_tup2 g_name g_name) ?_
  rintro _ _
  show WC ⟨hs, hs, (fun _ => False), (sl27 K ns ns1 (.fz (RD (dHT ls gs cs))) (.fz (RD (dTK (st, en, qs)))) (.fz (RHouse C ⟨ls, gs, cs⟩)) (.fz (RTask CT ⟨st, en, sortP qs⟩)) .any .any .any .any .any .any .any .any .any .any .any .any .any .any)⟩ _
  dsimp only
  have hw : wrongP ls gs st en (sortP qs) = none := wrong_none dt.cs dt.ce dt.pl
  refine s_seq ?_
  refine s_rng (lo := -1) (n := ((gs.length : Int) + 2 - -1).toNat) (fun i γ => γ = (sl27 K ns ns1 (.fz (RD (dHT ls gs cs))) (.fz (RD (dTK (st, en, qs)))) (.fz (RHouse C ⟨ls, gs, cs⟩)) (.fz (RTask CT ⟨st, en, sortP qs⟩)) .any .any .any .any .any .any .any .any .any .any .any .any .any .any)) (w_rng2 (i := -1) (j := (gs.length : Int) + 2) (e_un o_neg e_int) (e_op o_add (e_cb (o_lenM (xs := gs) (enc := PyData.int)) (a_cons (e_op (o_ixT rfl) (e_var rfl) e_int) a_nil)) e_int) (by omega)) rfl ?_ ?_
  · rintro i γ hi rfl
    refine ⟨_, _, g_name, ?_⟩
    obtain ⟨g, eg⟩ : ∃ g : Int, -1 + (i : Int) = g := ⟨_, rfl⟩
    rw [eg]
    show WC ⟨hs, hs, (fun _ => False), (sl27 K ns ns1 (.fz (RD (dHT ls gs cs))) (.fz (RD (dTK (st, en, qs)))) (.fz (RHouse C ⟨ls, gs, cs⟩)) (.fz (RTask CT ⟨st, en, sortP qs⟩)) (.fz (RD (.int g))) .any .any .any .any .any .any .any .any .any .any .any .any .any)⟩ _
    dsimp only
    refine s_if (t_T (e_op (o_neI (i := ((oddP st en g).length : Nat)) (j := ((loddL st en g).length : Nat)))
      (show Pk.E _ _ _ (RD (.int ((oddP st en g).length : Nat))) from c_call (sok_sps (Rs := fun a : TD × Int => [RTask CT a.1, RD (.int a.2)]) (P := fun _ _ => True) (R := fun a => RD (.int ((oddP a.1.st a.1.en a.2).length : Nat))) (⟨st, en, sortP qs⟩, g)) (a_cons (e_var rfl) (a_cons (e_var rfl) a_nil)) (fun _ _ => trivial))
      (show Pk.E _ _ _ (RD (.int ((loddL st en g).length : Nat))) from c_call (sok_sps (Rs := fun a : (Pl × Pl × List Pl) × Int => [RD (dTK a.1), RD (.int a.2)]) (P := fun _ _ => True) (R := fun a => RD (.int ((loddL a.1.1 a.1.2.1 a.2).length : Nat))) ((st, en, qs), g)) (a_cons (e_var rfl) (a_cons (e_var rfl) a_nil)) (fun _ _ => trivial)))) (fun z => absurd z (by rw [odd_eq]; simp)) (fun _ => ?_)
    refine s_pass ?_
    refine s_drop 6 ?_
    exact s_of rfl
  rintro γ rfl
  dsimp only
  refine s_seq ?_
  refine s_rng (lo := 0) (n := ((gs.length : Int) + 1).toNat) (fun i γ => γ = (sl27 K ns ns1 (.fz (RD (dHT ls gs cs))) (.fz (RD (dTK (st, en, qs)))) (.fz (RHouse C ⟨ls, gs, cs⟩)) (.fz (RTask CT ⟨st, en, sortP qs⟩)) .any .any .any .any .any .any .any .any .any .any .any .any .any .any)) (w_rng1 (j := (gs.length : Int) + 1) (e_op o_add (e_cb (o_lenM (xs := gs) (enc := PyData.int)) (a_cons (e_op (o_ixT rfl) (e_var rfl) e_int) a_nil)) e_int) (by omega)) rfl ?_ ?_
  · rintro i γ hi rfl
    refine ⟨_, _, g_name, ?_⟩
    obtain ⟨a, ea⟩ : ∃ a : Int, 0 + (i : Int) = a := ⟨_, rfl⟩
    rw [ea]
    obtain ⟨ae, al, ao⟩ := ahead_eq l1 le2 st en a
    have eL1 : Enc (eL dKd) 3 (fun xs => ∀ a ∈ xs, OkKd a) := enc_list enc_Kd
    have oke : ∀ κ ∈ lahead ls st en a, OkKd κ := fun κ h => (ao κ h).enc
    have kaR : ∀ {c : Ct} {E' : XK}, c.h0 = hs → c.g[4]? = some (.fz (RHouse C ⟨ls, gs, cs⟩)) → c.g[5]? = some (.fz (RTask CT ⟨st, en, sortP qs⟩)) → c.g[7]? = some (.fz (RD (.int a))) → EN c (tCall (spKn C CT TH) [] E' (tCons (tVar 4) (tCons (tVar 5) (tCons (tVar 7) tNil)))) (OL ((lahead ls st en a).map dKd)) := fun {c E'} hc h4 h5 h7 => by
      rw [← ae]
      exact n_call (Rs := [RHouse C ⟨ls, gs, cs⟩, RTask CT ⟨st, en, sortP qs⟩, RD (.int a)]) (P := fun H => TabG H TH) (fun H om vs ho hR tq Q E k => ⟨⟨ls, gs, cs⟩, ⟨st, en, sortP qs⟩, a, om, ho, hR, hw, le2, tq, k⟩) (a_cons (e_var h4) (a_cons (e_var h5) (a_cons (e_var h7) a_nil))) (fun H kp => by rw [hc] at kp; exact kp.tab _ tH)
    have laR : ∀ {c : Ct}, c.g[2]? = some (.fz (RD (dHT ls gs cs))) → c.g[3]? = some (.fz (RD (dTK (st, en, qs)))) → c.g[7]? = some (.fz (RD (.int a))) → EN c (tCall spLa [] E0 (tCons (tVar 2) (tCons (tVar 3) (tCons (tVar 7) tNil)))) (OL ((lahead ls st en a).map dKd)) := fun h2 h3 h7 =>
      n_call (skn_spn (Rs := fun a : (List Int × List Int × List (Str × Int × Int)) × (Pl × Pl × List Pl) × Int => [RD (dHT a.1.1 a.1.2.1 a.1.2.2), RD (dTK a.2.1), RD (.int a.2.2)]) (P := fun a _ => 1 ≤ a.1.1.length ∧ a.1.1.length ≤ 2) (C := fun a => OL ((lahead a.1.1 a.2.1.1 a.2.1.2.1 a.2.2).map dKd)) ((ls, gs, cs), (st, en, qs), a)) (a_cons (e_var h2) (a_cons (e_var h3) (a_cons (e_var h7) a_nil))) (fun _ _ => ⟨l1, le2⟩)
    show WC ⟨hs, hs, (fun _ => False), (sl27 K ns ns1 (.fz (RD (dHT ls gs cs))) (.fz (RD (dTK (st, en, qs)))) (.fz (RHouse C ⟨ls, gs, cs⟩)) (.fz (RTask CT ⟨st, en, sortP qs⟩)) .any (.fz (RD (.int a))) .any .any .any .any .any .any .any .any .any .any .any .any)⟩ _
    dsimp only
    refine s_seq ?_
    refine s_new (kaR rfl rfl rfl rfl) ?_
    show WC ⟨hs, hs, (fun _ => False), (sl27 K ns ns1 (.fz (RD (dHT ls gs cs))) (.fz (RD (dTK (st, en, qs)))) (.fz (RHouse C ⟨ls, gs, cs⟩)) (.fz (RTask CT ⟨st, en, sortP qs⟩)) .any (.fz (RD (.int a))) (.own (OL ((lahead ls st en a).map dKd))) .any .any .any .any .any .any .any .any .any .any .any)⟩ _
    dsimp only
    refine s_seq ?_
    refine s_if (t_T (e_op (o_neE (f := eL dKd) (a := lahead ls st en a) (b := lahead ls st en a) (hd := inferInstance) eL1 (by decide) oke oke) (e_own rfl) (n_e (laR rfl rfl rfl)))) (fun z => absurd z (by simp)) (fun _ => ?_)
    refine s_pass ?_
    dsimp only
    refine s_seq ?_
    refine s_clrO rfl ?_
    refine s_drop 8 ?_
    show WC ⟨hs, hs, (fun _ => False), (sl27 K ns ns1 (.fz (RD (dHT ls gs cs))) (.fz (RD (dTK (st, en, qs)))) (.fz (RHouse C ⟨ls, gs, cs⟩)) (.fz (RTask CT ⟨st, en, sortP qs⟩)) .any (.fz (RD (.int a))) .any .any .any .any .any .any .any .any .any .any .any .any)⟩ _
    dsimp only
    refine s_if (t_T (e_op (o_neE (f := eL dKd) (a := lahead ls st en a) (b := lahead ls st en a) (hd := inferInstance) eL1 (by decide) oke oke) (n_e (kaR rfl rfl rfl rfl)) (n_e (laR rfl rfl rfl)))) (fun z => absurd z (by simp)) (fun _ => ?_)
    refine s_pass ?_
    refine s_drop 7 ?_
    exact s_of rfl
  rintro γ rfl
  dsimp only
  refine s_seq ?_
  refine s_set (R := RD (.int ls.sum)) (e_cb (o_sum (ns := ls)) (a_cons (e_op (o_ixT rfl) (e_var rfl) e_int) a_nil)) ?_
  show WC ⟨hs, hs, (fun _ => False), (sl27 K ns ns1 (.fz (RD (dHT ls gs cs))) (.fz (RD (dTK (st, en, qs)))) (.fz (RHouse C ⟨ls, gs, cs⟩)) (.fz (RTask CT ⟨st, en, sortP qs⟩)) .any .any .any (.fz (RD (.int ls.sum))) .any .any .any .any .any .any .any .any .any .any)⟩ _
  dsimp only
  refine s_seq ?_
  refine s_set (R := RD (.list ((badL ls gs).map dP))) (n_e (n_lstM (xs := badL ls gs) (enc := dP) (m_cons (e_tup (m_cons (e_op o_add (e_cb (o_lenM (xs := gs) (enc := PyData.int)) (a_cons (e_op (o_ixT rfl) (e_var rfl) e_int) a_nil)) e_int) (m_cons e_int m_nil))) (m_cons (e_tup (m_cons (e_un o_neg e_int) (m_cons e_int m_nil))) (m_cons (e_tup (m_cons e_int (m_cons (e_op o_add (e_var rfl) e_int) m_nil))) (m_cons (e_tup (m_cons e_int (m_cons (e_un o_neg e_int) m_nil))) (m_cons (e_tup (m_cons (e_op o_add (e_cb (o_lenM (xs := gs) (enc := PyData.int)) (a_cons (e_op (o_ixT rfl) (e_var rfl) e_int) a_nil)) e_int) (m_cons (e_var rfl) m_nil))) m_nil))))))) ?_
  show WC ⟨hs, hs, (fun _ => False), (sl27 K ns ns1 (.fz (RD (dHT ls gs cs))) (.fz (RD (dTK (st, en, qs)))) (.fz (RHouse C ⟨ls, gs, cs⟩)) (.fz (RTask CT ⟨st, en, sortP qs⟩)) .any .any .any (.fz (RD (.int ls.sum))) (.fz (RD (.list ((badL ls gs).map dP)))) .any .any .any .any .any .any .any .any .any)⟩ _
  dsimp only
  have rn : ∀ (j : Int), 0 ≤ j ∧ j < 60 → ∀ {c : Ct} {b : Bool}, c.g[1]? = some (.fz (RD (.list (ns1.map PyData.int)))) → E b c (tOp (rIxL K) (tVar 1) (tC (.int j))) (RD (.int (ix ns1 j))) := fun j hj c b h1 => e_op (o_ixL (ix_at (enc := PyData.int) (xs := ns1) (i := j) (by omega))) (e_var h1) e_int
  have bl : (badL ls gs).length = 5 := rfl
  obtain ⟨w0, ew0⟩ : ∃ w0, ix (badL ls gs) (ix ns1 40 % 5) = w0 := ⟨_, rfl⟩
  obtain ⟨w1, ew1⟩ : ∃ w1, ix (badL ls gs) (ix ns1 41 % 5) = w1 := ⟨_, rfl⟩
  have b0 : isPl ls gs w0 = false := by rw [← ew0]; exact bad_no (ix_mem (by omega) (by rw [bl]; omega))
  have b1 : isPl ls gs w1 = false := by rw [← ew1]; exact bad_no (ix_mem (by omega) (by rw [bl]; omega))
  refine s_seq ?_
  refine s_set (R := RD (.list (([w0, w1] : List Pl).map dP))) (n_e (n_lstM (xs := ([w0, w1] : List Pl)) (enc := dP) (m_cons (show Pk.E true _ _ (RD (dP w0)) from by rw [← ew0]; exact e_op (o_ixL (ix_at (enc := dP) (xs := badL ls gs) (by rw [bl]; omega))) (e_var rfl) (e_op (o_mod (by decide)) (e_cb o_int (a_cons (rn 40 (by omega) rfl) a_nil)) e_int))
    (m_cons (show Pk.E true _ _ (RD (dP w1)) from by rw [← ew1]; exact e_op (o_ixL (ix_at (enc := dP) (xs := badL ls gs) (by rw [bl]; omega))) (e_var rfl) (e_op (o_mod (by decide)) (e_cb o_int (a_cons (rn 41 (by omega) rfl) a_nil)) e_int)) m_nil)))) ?_
  show WC ⟨hs, hs, (fun _ => False), (sl27 K ns ns1 (.fz (RD (dHT ls gs cs))) (.fz (RD (dTK (st, en, qs)))) (.fz (RHouse C ⟨ls, gs, cs⟩)) (.fz (RTask CT ⟨st, en, sortP qs⟩)) .any .any .any (.fz (RD (.int ls.sum))) (.fz (RD (.list ((badL ls gs).map dP)))) (.fz (RD (.list (([w0, w1] : List Pl).map dP)))) .any .any .any .any .any .any .any .any)⟩ _
  dsimp only
  refine s_seq ?_
  refine s_asg (R := RD (dTK (st, en, qs))) (e_var rfl) (g_tup (gs_cons g_name (gs_cons g_name (gs_cons g_name gs_nil)))) ?_
  dsimp only
  refine s_seq ?_
  refine s_set (R := RD (eO dP none)) (show Pk.E true _ _ (RD (eO dP none)) from e_non) ?_
  show WC ⟨hs, hs, (fun _ => False), (sl27 K ns ns1 (.fz (RD (dHT ls gs cs))) (.fz (RD (dTK (st, en, qs)))) (.fz (RHouse C ⟨ls, gs, cs⟩)) (.fz (RTask CT ⟨st, en, sortP qs⟩)) .any .any .any (.fz (RD (.int ls.sum))) (.fz (RD (.list ((badL ls gs).map dP)))) (.fz (RD (.list (([w0, w1] : List Pl).map dP)))) (.fz (RD (dP st))) (.fz (RD (dP en))) (.fz (RD (.list (qs.map dP)))) (.fz (RD (eO dP (none : Option Pl)))) .any .any .any .any)⟩ _
  dsimp only
  obtain ⟨x2, ex2⟩ : ∃ x, ix ns1 42 = x := ⟨_, rfl⟩
  obtain ⟨x3, ex3⟩ : ∃ x, ix ns1 43 = x := ⟨_, rfl⟩
  obtain ⟨x4, ex4⟩ : ∃ x, ix ns1 44 = x := ⟨_, rfl⟩
  obtain ⟨x5, ex5⟩ : ∃ x, ix ns1 45 = x := ⟨_, rfl⟩
  have r2 : ∀ {c : Ct} {b : Bool}, c.g[1]? = some (.fz (RD (.list (ns1.map PyData.int)))) → E b c (tOp (rIxL K) (tVar 1) (tC (.int 42))) (RD (.int x2)) := fun h1 => by rw [← ex2]; exact rn 42 (by omega) h1
  have r3 : ∀ {c : Ct} {b : Bool}, c.g[1]? = some (.fz (RD (.list (ns1.map PyData.int)))) → E b c (tOp (rIxL K) (tVar 1) (tC (.int 43))) (RD (.int x3)) := fun h1 => by rw [← ex3]; exact rn 43 (by omega) h1
  have r4 : ∀ {c : Ct} {b : Bool}, c.g[1]? = some (.fz (RD (.list (ns1.map PyData.int)))) → E b c (tOp (rIxL K) (tVar 1) (tC (.int 44))) (RD (.int x4)) := fun h1 => by rw [← ex4]; exact rn 44 (by omega) h1
  have r5 : ∀ {c : Ct} {b : Bool}, c.g[1]? = some (.fz (RD (.list (ns1.map PyData.int)))) → E b c (tOp (rIxL K) (tVar 1) (tC (.int 45))) (RD (.int x5)) := fun h1 => by rw [← ex5]; exact rn 45 (by omega) h1
  have nin : ∀ x, isPl ls gs x = false → x ∉ qs := fun x hx hm => by rw [dt.pl x hm] at hx; cases hx
  refine s_seq ?_
  refine (fun (rest : ∀ (ps : List Pl) (d : Option Pl), Jt ls gs st en ps d → ((x2 % 4 = 3 ∨ x2 % 4 = 0) → d.isSome = true) → WC ⟨hs, hs, (fun _ => False), (sl27 K ns ns1 (.fz (RD (dHT ls gs cs))) (.fz (RD (dTK (st, en, qs)))) (.fz (RHouse C ⟨ls, gs, cs⟩)) (.fz (RTask CT ⟨st, en, sortP qs⟩)) .any .any .any (.fz (RD (.int ls.sum))) (.fz (RD (.list ((badL ls gs).map dP)))) (.fz (RD (.list (([w0, w1] : List Pl).map dP)))) (.fz (RD (dP st))) (.fz (RD (dP en))) (.fz (RD (.list (ps.map dP)))) (.fz (RD (eO dP d))) .any .any .any .any)⟩ _) =>
    s_if (t_or (t_T (e_op (o_eqI (i := x2 % 4) (j := 3)) (e_op (o_mod (by decide)) (e_cb o_int (a_cons (r2 rfl) a_nil)) e_int) e_int)) (fun _ => (t_T (e_op (o_eqI (i := x2 % 4) (j := 0)) (e_op (o_mod (by decide)) (e_cb o_int (a_cons (r2 rfl) a_nil)) e_int) e_int)))) (fun z => ?_) (fun z => s_pass (rest qs none ⟨dt.nd, by omega, fun x e => nomatch e⟩ (fun y => by simp only [Bool.or_eq_false_iff, decide_eq_false_iff_not] at z; omega)))) ?_
  · dsimp only
    refine s_seq ?_
    have ef : ([w0, w1] : List Pl).filter (fun x => !decide (x ∈ qs)) = [w0, w1] := List.filter_eq_self.mpr fun x hx => by
      rw [Bool.not_eq_true', decide_eq_false_iff_not]
      rcases List.mem_cons.mp hx with y | y
      · rw [y]; exact nin _ b0
      · rw [List.mem_singleton.mp y]; exact nin _ b1
    refine s_set (R := RD (.list ((qs ++ [w0, w1]).map dP))) (n_e (n_catM (xs := qs) (ys := [w0, w1]) (i_of (e_var rfl)) (i_n (EN.eqL (n_slM (xs := ([w0, w1] : List Pl)) (enc := dP) (lo := none) (hi := some 2) (i_n (EN.eqL (n_lcM (xs := ([w0, w1] : List Pl)) (enc := dP) (p := fun x => !decide (x ∈ qs)) (h := fun x => x) (encB := dP) (is := [17]) (G := fun x => (sl27 K ns ns1 (.fz (RD (dHT ls gs cs))) (.fz (RD (dTK (st, en, qs)))) (.fz (RHouse C ⟨ls, gs, cs⟩)) (.fz (RTask CT ⟨st, en, sortP qs⟩)) .any .any .any (.fz (RD (.int ls.sum))) (.fz (RD (.list ((badL ls gs).map dP)))) (.fz (RD (.list (([w0, w1] : List Pl).map dP)))) (.fz (RD (dP st))) (.fz (RD (dP en))) (.fz (RD (.list (qs.map dP)))) (.fz (RD (eO dP (none : Option Pl)))) .any (.fz (RD (dP x))) .any .any)) (i_of (e_var rfl)) rfl (by decide) (fun _ x hx => g_name)
      (fun _ x hx => t_T (e_op (o_niE (f := dP) (a := x) (xs := qs) (hd := inferInstance) enc_P (by decide) ⟨trivial, trivial⟩ (fun _ _ => ⟨trivial, trivial⟩)) (e_var rfl) (e_var rfl))) (fun _ x hx _ => e_var rfl) (show (2 : Nat) < 16777216 by decide)) (by rw [List.map_id', ef]))) p_none (p_some e_int)) rfl)) (by show qs.length + 2 ≤ _; omega))) ?_
    show WC ⟨hs, hs, (fun _ => False), (sl27 K ns ns1 (.fz (RD (dHT ls gs cs))) (.fz (RD (dTK (st, en, qs)))) (.fz (RHouse C ⟨ls, gs, cs⟩)) (.fz (RTask CT ⟨st, en, sortP qs⟩)) .any .any .any (.fz (RD (.int ls.sum))) (.fz (RD (.list ((badL ls gs).map dP)))) (.fz (RD (.list (([w0, w1] : List Pl).map dP)))) (.fz (RD (dP st))) (.fz (RD (dP en))) (.fz (RD (.list ((qs ++ [w0, w1]).map dP)))) (.fz (RD (eO dP (none : Option Pl)))) .any .any .any .any)⟩ _
    dsimp only
    have fin : ∀ ws : List Pl, ws.Nodup → ws.length ≤ 2 → (∀ x, x ∈ ws ↔ x = w0 ∨ x = w1) → Jt ls gs st en (qs ++ ws) (some (minO ltP2 w0 [w1])) := fun ws n2 l2 hm => by
      refine ⟨List.nodup_append.mpr ⟨dt.nd, n2, fun x hx y hy e => ?_⟩, by rw [List.length_append]; omega, fun x e => ?_⟩
      · rcases (hm y).mp hy with z | z
        · exact nin w0 b0 (by rw [← z, ← e]; exact hx)
        · exact nin w1 b1 (by rw [← z, ← e]; exact hx)
      · injection e with e
        rw [← e]
        exact wr_pk dt.cs dt.ce dt.pl b0 b1 hm
    refine s_seq ?_
    refine (fun (rest2 : ∀ ps : List Pl, Jt ls gs st en ps (some (minO ltP2 w0 [w1])) → WC ⟨hs, hs, (fun _ => False), (sl27 K ns ns1 (.fz (RD (dHT ls gs cs))) (.fz (RD (dTK (st, en, qs)))) (.fz (RHouse C ⟨ls, gs, cs⟩)) (.fz (RTask CT ⟨st, en, sortP qs⟩)) .any .any .any (.fz (RD (.int ls.sum))) (.fz (RD (.list ((badL ls gs).map dP)))) (.fz (RD (.list (([w0, w1] : List Pl).map dP)))) (.fz (RD (dP st))) (.fz (RD (dP en))) (.fz (RD (.list (ps.map dP)))) (.fz (RD (eO dP (none : Option Pl)))) .any .any .any .any)⟩ _) =>
      s_if (t_T (e_op (o_eqE (f := dP) (a := w0) (b := w1) (hd := inferInstance) enc_P (by decide) ⟨trivial, trivial⟩ ⟨trivial, trivial⟩) (e_op (o_ixL (d := dP w0) rfl) (e_var rfl) e_int) (e_op (o_ixL (d := dP w1) rfl) (e_var rfl) e_int))) (fun y => s_set (R := RD (.list ((qs ++ [w0]).map dP))) (n_e (n_catM (xs := qs) (ys := [w0]) (i_of (e_op (o_ixT (d := .list (qs.map dP)) rfl) (e_var rfl) e_int)) (i_n (EN.eqL (n_slM (xs := ([w0, w1] : List Pl)) (enc := dP) (lo := none) (hi := some 1) (i_of (e_var rfl)) p_none (p_some e_int)) rfl)) (by show qs.length + 1 ≤ _; omega))) (rest2 _ (fin [w0] (by simp) (by show (1 : Nat) ≤ 2; decide) (fun x => by
          have y := of_decide_eq_true y
          rw [List.mem_singleton, ← y]
          exact ⟨.inl, fun z => z.elim id id⟩)))) (fun y => s_pass (rest2 _ (fin [w0, w1] (by
          have y := of_decide_eq_false y
          simpa using y) (by show (2 : Nat) ≤ 2; decide) (fun x => by simp))))) ?_
    intro ps hj
    refine s_set (R := RD (eO dP (some (minO ltP2 w0 [w1])))) (show Pk.E true _ _ (RD (dP (minO ltP2 w0 [w1]))) from e_minO ordP2 (i_of (e_var rfl))) ?_
    exact rest ps _ hj (fun _ => rfl)
  intro ps d hj hs1
  dsimp only
  refine s_seq ?_
  refine (fun (rest : ∀ (e' : Pl) (d' : Option Pl), Jt ls gs st e' ps d' → ((x2 % 4 = 3 ∨ x2 % 4 = 0 ∨ x2 % 4 = 1) → d'.isSome = true) → WC ⟨hs, hs, (fun _ => False), (sl27 K ns ns1 (.fz (RD (dHT ls gs cs))) (.fz (RD (dTK (st, en, qs)))) (.fz (RHouse C ⟨ls, gs, cs⟩)) (.fz (RTask CT ⟨st, en, sortP qs⟩)) .any .any .any (.fz (RD (.int ls.sum))) (.fz (RD (.list ((badL ls gs).map dP)))) (.fz (RD (.list (([w0, w1] : List Pl).map dP)))) (.fz (RD (dP st))) (.fz (RD (dP e'))) (.fz (RD (.list (ps.map dP)))) (.fz (RD (eO dP d'))) .any .any .any .any)⟩ _) =>
    s_if (t_or (t_T (e_op (o_eqI (i := x2 % 4) (j := 1)) (e_op (o_mod (by decide)) (e_cb o_int (a_cons (r2 rfl) a_nil)) e_int) e_int)) (fun _ => (t_T (e_op (o_eqI (i := x3 % 7) (j := 2)) (e_op (o_mod (by decide)) (e_cb o_int (a_cons (r3 rfl) a_nil)) e_int) e_int)))) (fun z => ?_) (fun z => s_pass (rest en d hj (fun y => hs1 (by simp only [Bool.or_eq_false_iff, decide_eq_false_iff_not] at z; omega))))) ?_
  · dsimp only
    refine s_seq ?_
    refine s_set (R := RD (dP w0)) (e_op (o_ixL (d := dP w0) rfl) (e_var rfl) e_int) ?_
    refine s_set (R := RD (eO dP (some w0))) (show Pk.E true _ _ (RD (dP w0)) from e_var rfl) ?_
    exact rest w0 (some w0) ⟨hj.nd, hj.le, fun x e => by injection e with e; rw [← e]; exact wr_en dt.cs (cr_no b0)⟩ (fun _ => rfl)
  intro e' d' hj' hs2
  dsimp only
  refine s_seq ?_
  refine (fun (rest : ∀ (s' : Pl) (d2 : Option Pl), Jt ls gs s' e' ps d2 → d2.isSome = true → WC ⟨hs, hs, (fun _ => False), (sl27 K ns ns1 (.fz (RD (dHT ls gs cs))) (.fz (RD (dTK (st, en, qs)))) (.fz (RHouse C ⟨ls, gs, cs⟩)) (.fz (RTask CT ⟨st, en, sortP qs⟩)) .any .any .any (.fz (RD (.int ls.sum))) (.fz (RD (.list ((badL ls gs).map dP)))) (.fz (RD (.list (([w0, w1] : List Pl).map dP)))) (.fz (RD (dP s'))) (.fz (RD (dP e'))) (.fz (RD (.list (ps.map dP)))) (.fz (RD (eO dP d2))) .any .any .any .any)⟩ _) =>
    s_if (t_or (t_T (e_op (o_eqI (i := x2 % 4) (j := 2)) (e_op (o_mod (by decide)) (e_cb o_int (a_cons (r2 rfl) a_nil)) e_int) e_int)) (fun _ => (t_T (e_op (o_eqI (i := x3 % 7) (j := 3)) (e_op (o_mod (by decide)) (e_cb o_int (a_cons (r3 rfl) a_nil)) e_int) e_int)))) (fun z => ?_) (fun z => s_pass (rest st d' hj' (hs2 (by simp only [Bool.or_eq_false_iff, decide_eq_false_iff_not] at z; omega))))) ?_
  · dsimp only
    refine s_seq ?_
    refine s_set (R := RD (dP w1)) (e_op (o_ixL (d := dP w1) rfl) (e_var rfl) e_int) ?_
    refine s_set (R := RD (eO dP (some w1))) (show Pk.E true _ _ (RD (dP w1)) from e_var rfl) ?_
    exact rest w1 (some w1) ⟨hj'.nd, hj'.le, fun x e => by injection e with e; rw [← e]; exact wr_st (cr_no b1)⟩ rfl
  intro s' d2 hj2 hs3
  dsimp only
  refine s_seq ?_
  have cro : Sok (spCross K) [RD (.list (ls.map PyData.int))] (fun _ => ls.length ≤ 60) (RD (.list ((crossN ls).map PyData.int))) := sok_cross
  refine s_set (R := RD (.list ((innerL ls).map PyData.int))) (n_e (EN.eqL (n_lcRM (lo := 0) (n := ls.sum.toNat) (p := fun h => !decide (h ∈ crossN ls)) (h := fun h => h) (encB := PyData.int) (is := [18]) (G := fun h => (sl27 K ns ns1 (.fz (RD (dHT ls gs cs))) (.fz (RD (dTK (st, en, qs)))) (.fz (RHouse C ⟨ls, gs, cs⟩)) (.fz (RTask CT ⟨st, en, sortP qs⟩)) .any .any .any (.fz (RD (.int ls.sum))) (.fz (RD (.list ((badL ls gs).map dP)))) (.fz (RD (.list (([w0, w1] : List Pl).map dP)))) (.fz (RD (dP s'))) (.fz (RD (dP e'))) (.fz (RD (.list (ps.map dP)))) (.fz (RD (eO dP d2))) .any .any (.fz (RD (.int h))) .any)) (w_rng1 (j := ls.sum) (e_var rfl) (by omega)) rfl (by decide) (fun _ h hh => g_name)
    (fun _ h hh => t_T (e_op (o_niE (f := PyData.int) (a := h) (xs := crossN ls) (hd := inferInstance) enc_int (by decide) trivial (fun _ _ => trivial)) (e_var rfl) (c_call cro (a_cons (e_op (o_ixT rfl) (e_var rfl) e_int) a_nil) (fun _ _ => by omega)))) (fun _ h hh _ => e_var rfl) (by omega)) (by rw [List.map_id']; rfl))) ?_
  show WC ⟨hs, hs, (fun _ => False), (sl27 K ns ns1 (.fz (RD (dHT ls gs cs))) (.fz (RD (dTK (st, en, qs)))) (.fz (RHouse C ⟨ls, gs, cs⟩)) (.fz (RTask CT ⟨st, en, sortP qs⟩)) .any .any .any (.fz (RD (.int ls.sum))) (.fz (RD (.list ((badL ls gs).map dP)))) (.fz (RD (.list (([w0, w1] : List Pl).map dP)))) (.fz (RD (dP s'))) (.fz (RD (dP e'))) (.fz (RD (.list (ps.map dP)))) (.fz (RD (eO dP d2))) (.fz (RD (.list ((innerL ls).map PyData.int)))) .any .any .any)⟩ _
  dsimp only
  refine s_seq ?_
  obtain ⟨inn, einn⟩ : ∃ inn, innerL ls = inn := ⟨_, rfl⟩
  have ino : ∀ h ∈ inn, isCr ls gs (0, h) = false := fun h hh => inner_no (by rw [einn]; exact hh)
  rw [einn]
  refine (fun (rest : ∀ (s2 : Pl) (d3 : Option Pl), Jt ls gs s2 e' ps d3 → d3.isSome = true → WC ⟨hs, hs, (fun _ => False), (sl27 K ns ns1 (.fz (RD (dHT ls gs cs))) (.fz (RD (dTK (st, en, qs)))) (.fz (RHouse C ⟨ls, gs, cs⟩)) (.fz (RTask CT ⟨st, en, sortP qs⟩)) .any .any .any (.fz (RD (.int ls.sum))) (.fz (RD (.list ((badL ls gs).map dP)))) (.fz (RD (.list (([w0, w1] : List Pl).map dP)))) (.fz (RD (dP s2))) (.fz (RD (dP e'))) (.fz (RD (.list (ps.map dP)))) (.fz (RD (eO dP d3))) (.fz (RD (.list (inn.map PyData.int)))) .any .any .any)⟩ _) =>
    s_if (t_and (t_T (e_op (o_eqI (i := x4 % 5) (j := 1)) (e_op (o_mod (by decide)) (e_cb o_int (a_cons (r4 rfl) a_nil)) e_int) e_int)) (fun _ => t_T (e_op (o_cmpI0 (g := fun i j => decide (j < i)) (i := (inn.length : Int)) (j := 0)) (e_cb (o_lenM (xs := inn) (enc := PyData.int)) (a_cons (e_var rfl) a_nil)) e_int))) (fun z => ?_) (fun _ => s_pass (rest s' d2 hj2 hs3))) ?_
  · rw [Bool.and_eq_true, decide_eq_true_eq, decide_eq_true_eq] at z
    have zl := z.2
    have m1 : 0 ≤ x5 % (inn.length : Int) := Int.emod_nonneg _ (by omega)
    have m2 : x5 % (inn.length : Int) < inn.length := Int.emod_lt_of_pos _ zl
    obtain ⟨h, eh⟩ : ∃ h, ix inn (x5 % (inn.length : Int)) = h := ⟨_, rfl⟩
    have hm : h ∈ inn := by rw [← eh]; exact ix_mem m1 m2
    dsimp only
    refine s_seq ?_
    refine s_set (R := RD (dP (0, h))) (e_tup (m_cons e_int (m_cons (show Pk.E true _ _ (RD (.int h)) from by rw [← eh]; exact e_op (o_ixL (ix_at (enc := PyData.int) (xs := inn) (by omega))) (e_var rfl) (e_op (o_mod zl) (e_cb o_int (a_cons (r5 rfl) a_nil)) (e_cb (o_lenM (xs := inn) (enc := PyData.int)) (a_cons (e_var rfl) a_nil)))) m_nil))) ?_
    refine s_set (R := RD (eO dP (some (0, h)))) (show Pk.E true _ _ (RD (dP (0, h))) from e_var rfl) ?_
    exact rest (0, h) (some (0, h)) ⟨hj2.nd, hj2.le, fun x e => by injection e with e; rw [← e]; exact wr_st (ino h hm)⟩ rfl
  intro s2 d3 hj3 hs4
  dsimp only
  obtain ⟨x, ex⟩ := Option.isSome_iff_exists.mp hs4
  subst ex
  have hwx := hj3.wr x rfl
  refine s_seq ?_
  refine s_set (R := RTask CT ⟨s2, e', sortP ps⟩) (e_mkTask (C := CT) (CI := CIT) (st := s2) (en := e') (ps := ps) (by have := hj3.le; omega) hj3.nd (a_cons (e_var rfl) (a_cons (e_var rfl) (a_cons (e_var rfl) a_nil)))) ?_
  show WC ⟨hs, hs, (fun _ => False), (sl27 K ns ns1 (.fz (RD (dHT ls gs cs))) (.fz (RTask CT ⟨s2, e', sortP ps⟩)) (.fz (RHouse C ⟨ls, gs, cs⟩)) (.fz (RTask CT ⟨st, en, sortP qs⟩)) .any .any .any (.fz (RD (.int ls.sum))) (.fz (RD (.list ((badL ls gs).map dP)))) (.fz (RD (.list (([w0, w1] : List Pl).map dP)))) (.fz (RD (dP s2))) (.fz (RD (dP e'))) (.fz (RD (.list (ps.map dP)))) (.fz (RD (eO dP (some x)))) (.fz (RD (.list (inn.map PyData.int)))) .any .any .any)⟩ _
  dsimp only
  have enP : Enc (eT2 dP PyData.bool) 2 (fun p => (True ∧ True) ∧ True) := enc_pair enc_P (enc_bool.up (by decide))
  refine s_ret (Pk.E.eq (e_cb (o_all (bs := ((rgI (if decide ((gs.length : Int) = 0) = true then 1 else 0) (14 - (if decide ((gs.length : Int) = 0) = true then 1 else 0) : Int).toNat).map fun _ => decide (((x, true) : Pl × Bool) = (x, true))))) (a_cons (n_e (n_lcRM1 (lo := (if decide ((gs.length : Int) = 0) = true then 1 else 0)) (n := (14 - (if decide ((gs.length : Int) = 0) = true then 1 else 0) : Int).toNat) (h := fun _ => decide (((x, true) : Pl × Bool) = (x, true))) (encB := PyData.bool) (is := [19]) (G := fun v => (sl27 K ns ns1 (.fz (RD (dHT ls gs cs))) (.fz (RTask CT ⟨s2, e', sortP ps⟩)) (.fz (RHouse C ⟨ls, gs, cs⟩)) (.fz (RTask CT ⟨st, en, sortP qs⟩)) .any .any .any (.fz (RD (.int ls.sum))) (.fz (RD (.list ((badL ls gs).map dP)))) (.fz (RD (.list (([w0, w1] : List Pl).map dP)))) (.fz (RD (dP s2))) (.fz (RD (dP e'))) (.fz (RD (.list (ps.map dP)))) (.fz (RD (eO dP (some x)))) (.fz (RD (.list (inn.map PyData.int)))) .any .any (.fz (RD (.int v)))))
    (w_rng2 (i := (if decide ((gs.length : Int) = 0) = true then 1 else 0)) (j := 14) (e_cb o_intB (a_cons (e_op (o_eqI (i := (gs.length : Int)) (j := 0)) (e_cb (o_lenM (xs := gs) (enc := PyData.int)) (a_cons (e_op (o_ixT rfl) (e_var rfl) e_int) a_nil)) e_int) a_nil)) e_int (by split <;> omega)) rfl (by decide) (fun _ v hv => g_name)
    (fun _ v hv _ => e_op (o_eqE (f := eT2 dP PyData.bool) (a := (x, true)) (b := (x, true)) (hd := inferInstance) enP (by decide) ⟨⟨trivial, trivial⟩, trivial⟩ ⟨⟨trivial, trivial⟩, trivial⟩)
      (show Pk.E _ _ _ (RD (.tuple [dP x, .bool true])) from c_call (sok_sps (Rs := RsRf C CT) (P := PRf) (R := fun a => RD (.tuple [dP a.2.2.2, .bool true])) (v, ⟨ls, gs, cs⟩, ⟨s2, e', sortP ps⟩, x)) (a_cons (e_var rfl) (a_cons (e_var rfl) (a_cons (e_var rfl) a_nil))) (fun _ _ => hwx))
      (show Pk.E _ _ _ (RD (.tuple [dP x, .bool true])) from e_tup (m_cons (show Pk.E _ _ _ (RD (dP x)) from e_var rfl) (m_cons e_bl m_nil)))) (by split <;> omega))) a_nil)) (show _ = PyData.bool true by simp)) fun H' v k r => ?_
  cases r
  exact q H'
end
section
open GxR NdefX PySem.Spec PyProof.Rows
theorem all_mk {l : PySem.W.OpenLaw} {w : World} {K : PySem.W.Frag} {h : Heap} {mg : Str → Option Value} {fa : Addr} {TI TL TH : Addr} (X : K.In h) (G : h.Ns mainGlobals mg) (hfa : mg "law" = some (.ref fa))
    {C : Addr}
    {CI : Addr}
    {tk_LONGEST : Tok}
    {tk_MOST_STRETCHES : Tok}
    {tk_MOST_GAPS : Tok}
    {tk_MOST_CLOSED : Tok}
    {f_House___init__ : Addr}
    {c8_House___init__ : Addr}
    {od_House___init__ an_House___init__ : Option Addr} {sl_House___init__ : Array (Option Value)} {oc_House___init__ kV_House___init__ dc_House___init__ pm_House___init__ ct_House___init__ : Value}
    {f__are_long : Addr}
    {c8__are_long : Addr}
    {od__are_long an__are_long : Option Addr} {sl__are_long : Array (Option Value)} {oc__are_long kV__are_long dc__are_long pm__are_long ct__are_long : Value}
    {f__cross_heights : Addr}
    {od__cross_heights an__cross_heights : Option Addr} {sl__cross_heights : Array (Option Value)} {oc__cross_heights kV__cross_heights dc__cross_heights pm__cross_heights cd__cross_heights ct__cross_heights : Value}
    {f_House_is_link : Addr}
    {od_House_is_link an_House_is_link : Option Addr} {sl_House_is_link : Array (Option Value)} {oc_House_is_link kV_House_is_link dc_House_is_link pm_House_is_link cd_House_is_link ct_House_is_link : Value}
    {f_House_crosses : Addr}
    {od_House_crosses an_House_crosses : Option Addr} {sl_House_crosses : Array (Option Value)} {oc_House_crosses kV_House_crosses dc_House_crosses pm_House_crosses cd_House_crosses ct_House_crosses : Value}
    {f_House_is_place : Addr}
    {od_House_is_place an_House_is_place : Option Addr} {sl_House_is_place : Array (Option Value)} {oc_House_is_place kV_House_is_place dc_House_is_place pm_House_is_place cd_House_is_place ct_House_is_place : Value}
    {f_House_is_cross : Addr}
    {od_House_is_cross an_House_is_cross : Option Addr} {sl_House_is_cross : Array (Option Value)} {oc_House_is_cross kV_House_is_cross dc_House_is_cross pm_House_is_cross cd_House_is_cross ct_House_is_cross : Value}
    {CT : Addr}
    {CIT : Addr}
    {tk_MOST_PICKS : Tok}
    {f_Task___init__ : Addr}
    {od_Task___init__ an_Task___init__ : Option Addr} {sl_Task___init__ : Array (Option Value)} {oc_Task___init__ kV_Task___init__ dc_Task___init__ pm_Task___init__ cd_Task___init__ ct_Task___init__ : Value}
    {p_Task_picks : Addr}
    {r_Task_picks : List Value}
    {f_Task_picks : Addr}
    {od_Task_picks an_Task_picks : Option Addr} {sl_Task_picks : Array (Option Value)} {oc_Task_picks kV_Task_picks dc_Task_picks pm_Task_picks cd_Task_picks ct_Task_picks : Value}
    {CP : Addr}
    {Pe : Addr}
    {nm0 qn0 : Str} {N0 : Addr} {bs0 : List Value} {sn0 : List Str} {sb0 : List Value} {ab0 : Bool} {co0 : Option Bool} {dd0 : Option Addr} {ma0 mb0 mc0 md0 me0 : Option Value}
    {f_iCP : Addr}
    {od_iCP an_iCP : Option Addr} {sl_iCP : Array (Option Value)} {oc_iCP kV_iCP dc_iCP pm_iCP cd_iCP ct_iCP : Value}
    {f_check_task : Addr}
    {od_check_task an_check_task : Option Addr} {sl_check_task : Array (Option Value)} {oc_check_task kV_check_task dc_check_task pm_check_task cd_check_task ct_check_task : Value}
    {f__law_row : Addr}
    {od__law_row an__law_row : Option Addr} {sl__law_row : Array (Option Value)} {oc__law_row kV__law_row dc__law_row pm__law_row cd__law_row ct__law_row : Value}
    {f__law_numbers : Addr}
    {od__law_numbers an__law_numbers : Option Addr} {sl__law_numbers : Array (Option Value)} {oc__law_numbers kV__law_numbers dc__law_numbers pm__law_numbers cd__law_numbers ct__law_numbers : Value}
    {tk_NONE : Tok}
    {tk_DONE : Tok}
    {tk_MOST_ODD : Tok}
    {f__law_crosses : Addr}
    {od__law_crosses an__law_crosses : Option Addr} {sl__law_crosses : Array (Option Value)} {oc__law_crosses kV__law_crosses dc__law_crosses pm__law_crosses cd__law_crosses ct__law_crosses : Value}
    {f__law_link : Addr}
    {od__law_link an__law_link : Option Addr} {sl__law_link : Array (Option Value)} {oc__law_link kV__law_link dc__law_link pm__law_link cd__law_link ct__law_link : Value}
    {f__law_house : Addr}
    {od__law_house an__law_house : Option Addr} {sl__law_house : Array (Option Value)} {oc__law_house kV__law_house dc__law_house pm__law_house cd__law_house ct__law_house : Value}
    {f__law_cross : Addr}
    {od__law_cross an__law_cross : Option Addr} {sl__law_cross : Array (Option Value)} {oc__law_cross kV__law_cross dc__law_cross pm__law_cross cd__law_cross ct__law_cross : Value}
    {f__law_place : Addr}
    {od__law_place an__law_place : Option Addr} {sl__law_place : Array (Option Value)} {oc__law_place kV__law_place dc__law_place pm__law_place cd__law_place ct__law_place : Value}
    {f__law_task : Addr}
    {od__law_task an__law_task : Option Addr} {sl__law_task : Array (Option Value)} {oc__law_task kV__law_task dc__law_task pm__law_task cd__law_task ct__law_task : Value}
    {f__law_made : Addr}
    {od__law_made an__law_made : Option Addr} {sl__law_made : Array (Option Value)} {oc__law_made kV__law_made dc__law_made pm__law_made cd__law_made ct__law_made : Value}
    {f__rows_behind : Addr}
    {od__rows_behind an__rows_behind : Option Addr} {sl__rows_behind : Array (Option Value)} {oc__rows_behind kV__rows_behind dc__rows_behind pm__rows_behind cd__rows_behind ct__rows_behind : Value}
    {f__has_number : Addr}
    {c8__has_number : Addr}
    {od__has_number an__has_number : Option Addr} {sl__has_number : Array (Option Value)} {oc__has_number kV__has_number dc__has_number pm__has_number ct__has_number : Value}
    {f__odd_groups : Addr}
    {od__odd_groups an__odd_groups : Option Addr} {sl__odd_groups : Array (Option Value)} {oc__odd_groups kV__odd_groups dc__odd_groups pm__odd_groups cd__odd_groups ct__odd_groups : Value}
    {f_fits : Addr}
    {od_fits an_fits : Option Addr} {sl_fits : Array (Option Value)} {oc_fits kV_fits dc_fits pm_fits cd_fits ct_fits : Value}
    {f_kinds_of : Addr}
    {od_kinds_of an_kinds_of : Option Addr} {sl_kinds_of : Array (Option Value)} {oc_kinds_of kV_kinds_of dc_kinds_of pm_kinds_of cd_kinds_of ct_kinds_of : Value}
    {f__law_numbered : Addr}
    {od__law_numbered an__law_numbered : Option Addr} {sl__law_numbered : Array (Option Value)} {oc__law_numbered kV__law_numbered dc__law_numbered pm__law_numbered cd__law_numbered ct__law_numbered : Value}
    {f__law_fits : Addr}
    {od__law_fits an__law_fits : Option Addr} {sl__law_fits : Array (Option Value)} {oc__law_fits kV__law_fits dc__law_fits pm__law_fits cd__law_fits ct__law_fits : Value}
    {f__law_rows : Addr}
    {od__law_rows an__law_rows : Option Addr} {sl__law_rows : Array (Option Value)} {oc__law_rows kV__law_rows dc__law_rows pm__law_rows cd__law_rows ct__law_rows : Value}
    {f__law_kinds : Addr}
    {od__law_kinds an__law_kinds : Option Addr} {sl__law_kinds : Array (Option Value)} {oc__law_kinds kV__law_kinds dc__law_kinds pm__law_kinds cd__law_kinds ct__law_kinds : Value}
    {f_is_odd : Addr}
    {od_is_odd an_is_odd : Option Addr} {sl_is_odd : Array (Option Value)} {oc_is_odd kV_is_odd dc_is_odd pm_is_odd cd_is_odd ct_is_odd : Value}
    {f_odd_at : Addr}
    {od_odd_at an_odd_at : Option Addr} {sl_odd_at : Array (Option Value)} {oc_odd_at kV_odd_at dc_odd_at pm_odd_at cd_odd_at ct_odd_at : Value}
    {f__law_odd : Addr}
    {od__law_odd an__law_odd : Option Addr} {sl__law_odd : Array (Option Value)} {oc__law_odd kV__law_odd dc__law_odd pm__law_odd cd__law_odd ct__law_odd : Value}
    {f__law_ahead : Addr}
    {od__law_ahead an__law_ahead : Option Addr} {sl__law_ahead : Array (Option Value)} {oc__law_ahead kV__law_ahead dc__law_ahead pm__law_ahead cd__law_ahead ct__law_ahead : Value}
    {f_kinds_ahead : Addr}
    {od_kinds_ahead an_kinds_ahead : Option Addr} {sl_kinds_ahead : Array (Option Value)} {oc_kinds_ahead kV_kinds_ahead dc_kinds_ahead pm_kinds_ahead cd_kinds_ahead ct_kinds_ahead : Value}
    {f_kind_of : Addr}
    {od_kind_of an_kind_of : Option Addr} {sl_kind_of : Array (Option Value)} {oc_kind_of kV_kind_of dc_kind_of pm_kind_of cd_kind_of ct_kind_of : Value}
    {f_marks_inside : Addr}
    {od_marks_inside an_marks_inside : Option Addr} {sl_marks_inside : Array (Option Value)} {oc_marks_inside kV_marks_inside dc_marks_inside pm_marks_inside cd_marks_inside ct_marks_inside : Value}
    {f_steps : Addr}
    {od_steps an_steps : Option Addr} {sl_steps : Array (Option Value)} {oc_steps kV_steps dc_steps pm_steps cd_steps ct_steps : Value}
    {f_best_steps : Addr}
    {od_best_steps an_best_steps : Option Addr} {sl_best_steps : Array (Option Value)} {oc_best_steps kV_best_steps dc_best_steps pm_best_steps cd_best_steps ct_best_steps : Value}
    {f_lengths_from : Addr}
    {od_lengths_from an_lengths_from : Option Addr} {sl_lengths_from : Array (Option Value)} {oc_lengths_from kV_lengths_from dc_lengths_from pm_lengths_from cd_lengths_from ct_lengths_from : Value}
    {f_flipped_task : Addr}
    {od_flipped_task an_flipped_task : Option Addr} {sl_flipped_task : Array (Option Value)} {oc_flipped_task kV_flipped_task dc_flipped_task pm_flipped_task cd_flipped_task ct_flipped_task : Value}
    {f_swapped_task : Addr}
    {od_swapped_task an_swapped_task : Option Addr} {sl_swapped_task : Array (Option Value)} {oc_swapped_task kV_swapped_task dc_swapped_task pm_swapped_task cd_swapped_task ct_swapped_task : Value}
    {f_table_from : Addr}
    {od_table_from an_table_from : Option Addr} {sl_table_from : Array (Option Value)} {oc_table_from kV_table_from dc_table_from pm_table_from cd_table_from ct_table_from : Value}
    {f__pieces_between : Addr}
    {od__pieces_between an__pieces_between : Option Addr} {sl__pieces_between : Array (Option Value)} {oc__pieces_between kV__pieces_between dc__pieces_between pm__pieces_between cd__pieces_between ct__pieces_between : Value}
    {f_options_between : Addr}
    {od_options_between an_options_between : Option Addr} {sl_options_between : Array (Option Value)} {oc_options_between kV_options_between dc_options_between pm_options_between cd_options_between ct_options_between : Value}
    {f_best_between : Addr}
    {od_best_between an_best_between : Option Addr} {sl_best_between : Array (Option Value)} {oc_best_between kV_best_between dc_best_between pm_best_between cd_best_between ct_best_between : Value}
    {f_table : Addr}
    {od_table an_table : Option Addr} {sl_table : Array (Option Value)} {oc_table kV_table dc_table pm_table cd_table ct_table : Value}
    {f_product_of : Addr}
    {od_product_of an_product_of : Option Addr} {sl_product_of : Array (Option Value)} {oc_product_of kV_product_of dc_product_of pm_product_of cd_product_of ct_product_of : Value}
    {f_least_length : Addr}
    {od_least_length an_least_length : Option Addr} {sl_least_length : Array (Option Value)} {oc_least_length kV_least_length dc_least_length pm_least_length cd_least_length ct_least_length : Value}
    {f_pieces_of : Addr}
    {od_pieces_of an_pieces_of : Option Addr} {sl_pieces_of : Array (Option Value)} {oc_pieces_of kV_pieces_of dc_pieces_of pm_pieces_of cd_pieces_of ct_pieces_of : Value}
    {f_options_of : Addr}
    {od_options_of an_options_of : Option Addr} {sl_options_of : Array (Option Value)} {oc_options_of kV_options_of dc_options_of pm_options_of cd_options_of ct_options_of : Value}
    {f_best_options : Addr}
    {od_best_options an_best_options : Option Addr} {sl_best_options : Array (Option Value)} {oc_best_options kV_best_options dc_best_options pm_best_options cd_best_options ct_best_options : Value}
    {f__law_call : Addr}
    {od__law_call an__law_call : Option Addr} {sl__law_call : Array (Option Value)} {oc__law_call kV__law_call dc__law_call pm__law_call cd__law_call ct__law_call : Value}
    {f__law_refused : Addr}
    {od__law_refused an__law_refused : Option Addr} {sl__law_refused : Array (Option Value)} {oc__law_refused kV__law_refused dc__law_refused pm__law_refused cd__law_refused ct__law_refused : Value}
    {f_law : Addr}
    {od_law an_law : Option Addr} {sl_law : Array (Option Value)} {oc_law kV_law dc_law pm_law cd_law ct_law : Value}
    (a_C : PySem.W.nsIn K mainGlobals "House" = some (some (.ref C)))
    (pg_C : PySem.W.plainGet K C Str.empty = true)
    (hd_C : PySem.W.hasDictIn K C = true)
    (po_C : PySem.W.plainOver K C = true)
    (sa_C : PySem.W.findIn K (.ref C) "__setattr__" = some (some (.builtin "object.__setattr__")))
    (mk_C : PySem.W.makesIn K C = true)
    (kc_C : PySem.W.keepIn K (.ref C) = true)
    (nplengths : PySem.W.findIn K (.ref C) "_lengths" = some none)
    (npgaps : PySem.W.findIn K (.ref C) "_gaps" = some none)
    (npcrosses : PySem.W.findIn K (.ref C) "_crosses" = some none)
    (nptop : PySem.W.findIn K (.ref C) "_top" = some none)
    (npclosed : PySem.W.findIn K (.ref C) "_closed" = some none)
    (a_CI : PySem.W.nsIn K mainGlobals "InvalidHouse" = some (some (.ref CI)))
    (kpCI : PySem.W.keepIn K (.ref CI) = true)
    (sbCI : PySem.W.subIn K (.ref CI) (.type "BaseException") = some true)
    (tyCI : PySem.W.typeIn K (.ref CI) = some (.type "type"))
    (exCI : PySem.W.excIn K CI [.type "ValueError", .type "Exception", .type "BaseException", .type "object"] "ValueError.__new__" = true)
    (c_LONGEST : PySem.W.nsIn K mainGlobals "LONGEST" = some (some (.int 40 tk_LONGEST)))
    (c_MOST_STRETCHES : PySem.W.nsIn K mainGlobals "MOST_STRETCHES" = some (some (.int 2 tk_MOST_STRETCHES)))
    (c_MOST_GAPS : PySem.W.nsIn K mainGlobals "MOST_GAPS" = some (some (.int 11 tk_MOST_GAPS)))
    (c_MOST_CLOSED : PySem.W.nsIn K mainGlobals "MOST_CLOSED" = some (some (.int 200 tk_MOST_CLOSED)))
    (z_abs : PySem.W.nsIn K mainGlobals "abs" = some none)
    (z_all : PySem.W.nsIn K mainGlobals "all" = some none)
    (z_int : PySem.W.nsIn K mainGlobals "int" = some none)
    (z_len : PySem.W.nsIn K mainGlobals "len" = some none)
    (z_list : PySem.W.nsIn K mainGlobals "list" = some none)
    (z_max : PySem.W.nsIn K mainGlobals "max" = some none)
    (z_range : PySem.W.nsIn K mainGlobals "range" = some none)
    (z_sorted : PySem.W.nsIn K mainGlobals "sorted" = some none)
    (z_sum : PySem.W.nsIn K mainGlobals "sum" = some none)
    (a_House___init__ : PySem.W.findIn K (.ref C) "__init__" = some (some (.ref f_House___init__)))
    (i_House___init__ : PySem.W.isFn K (.ref f_House___init__) = true)
    (l_House___init__ : K.lookup f_House___init__ = some ⟨oc_House___init__, od_House___init__, .func (PySem.W.fnOf "__init__" "House.__init__" (defArgs s_House___init__) (defBody s_House___init__) (defScope s_House___init__) .none kV_House___init__ dc_House___init__ pm_House___init__ an_House___init__ (.ref c8_House___init__) ct_House___init__), sl_House___init__⟩)
    (c_House___init__ : PySem.W.codeIn K (.ref c8_House___init__) "House.__init__" = true)
    (k_House___init__ : PySem.W.keepIn K (.ref f_House___init__) = true)
    (a__are_long : PySem.W.nsIn K mainGlobals "_are_long" = some (some (.ref f__are_long)))
    (l__are_long : K.lookup f__are_long = some ⟨oc__are_long, od__are_long, .func (PySem.W.fnOf "_are_long" "_are_long" (defArgs s__are_long) (defBody s__are_long) (defScope s__are_long) .none kV__are_long dc__are_long pm__are_long an__are_long (.ref c8__are_long) ct__are_long), sl__are_long⟩)
    (c__are_long : PySem.W.codeIn K (.ref c8__are_long) "_are_long" = true)
    (k__are_long : PySem.W.keepIn K (.ref f__are_long) = true)
    (a__cross_heights : PySem.W.nsIn K mainGlobals "_cross_heights" = some (some (.ref f__cross_heights)))
    (l__cross_heights : K.lookup f__cross_heights = some ⟨oc__cross_heights, od__cross_heights, .func (PySem.W.fnOf "_cross_heights" "_cross_heights" (defArgs s__cross_heights) (defBody s__cross_heights) (defScope s__cross_heights) .none kV__cross_heights dc__cross_heights pm__cross_heights an__cross_heights cd__cross_heights ct__cross_heights), sl__cross_heights⟩)
    (c__cross_heights : PySem.W.codeIn K cd__cross_heights "_cross_heights" = true)
    (k__cross_heights : PySem.W.keepIn K (.ref f__cross_heights) = true)
    (a_House_is_link : PySem.W.findIn K (.ref C) "is_link" = some (some (.ref f_House_is_link)))
    (i_House_is_link : PySem.W.isFn K (.ref f_House_is_link) = true)
    (l_House_is_link : K.lookup f_House_is_link = some ⟨oc_House_is_link, od_House_is_link, .func (PySem.W.fnOf "is_link" "House.is_link" (defArgs s_House_is_link) (defBody s_House_is_link) (defScope s_House_is_link) .none kV_House_is_link dc_House_is_link pm_House_is_link an_House_is_link cd_House_is_link ct_House_is_link), sl_House_is_link⟩)
    (c_House_is_link : PySem.W.codeIn K cd_House_is_link "House.is_link" = true)
    (k_House_is_link : PySem.W.keepIn K (.ref f_House_is_link) = true)
    (a_House_crosses : PySem.W.findIn K (.ref C) "crosses" = some (some (.ref f_House_crosses)))
    (i_House_crosses : PySem.W.isFn K (.ref f_House_crosses) = true)
    (l_House_crosses : K.lookup f_House_crosses = some ⟨oc_House_crosses, od_House_crosses, .func (PySem.W.fnOf "crosses" "House.crosses" (defArgs s_House_crosses) (defBody s_House_crosses) (defScope s_House_crosses) .none kV_House_crosses dc_House_crosses pm_House_crosses an_House_crosses cd_House_crosses ct_House_crosses), sl_House_crosses⟩)
    (c_House_crosses : PySem.W.codeIn K cd_House_crosses "House.crosses" = true)
    (k_House_crosses : PySem.W.keepIn K (.ref f_House_crosses) = true)
    (a_House_is_place : PySem.W.findIn K (.ref C) "is_place" = some (some (.ref f_House_is_place)))
    (i_House_is_place : PySem.W.isFn K (.ref f_House_is_place) = true)
    (l_House_is_place : K.lookup f_House_is_place = some ⟨oc_House_is_place, od_House_is_place, .func (PySem.W.fnOf "is_place" "House.is_place" (defArgs s_House_is_place) (defBody s_House_is_place) (defScope s_House_is_place) .none kV_House_is_place dc_House_is_place pm_House_is_place an_House_is_place cd_House_is_place ct_House_is_place), sl_House_is_place⟩)
    (c_House_is_place : PySem.W.codeIn K cd_House_is_place "House.is_place" = true)
    (k_House_is_place : PySem.W.keepIn K (.ref f_House_is_place) = true)
    (a_House_is_cross : PySem.W.findIn K (.ref C) "is_cross" = some (some (.ref f_House_is_cross)))
    (i_House_is_cross : PySem.W.isFn K (.ref f_House_is_cross) = true)
    (l_House_is_cross : K.lookup f_House_is_cross = some ⟨oc_House_is_cross, od_House_is_cross, .func (PySem.W.fnOf "is_cross" "House.is_cross" (defArgs s_House_is_cross) (defBody s_House_is_cross) (defScope s_House_is_cross) .none kV_House_is_cross dc_House_is_cross pm_House_is_cross an_House_is_cross cd_House_is_cross ct_House_is_cross), sl_House_is_cross⟩)
    (c_House_is_cross : PySem.W.codeIn K cd_House_is_cross "House.is_cross" = true)
    (k_House_is_cross : PySem.W.keepIn K (.ref f_House_is_cross) = true)
    (a_CT : PySem.W.nsIn K mainGlobals "Task" = some (some (.ref CT)))
    (pg_CT : PySem.W.plainGet K CT Str.empty = true)
    (hd_CT : PySem.W.hasDictIn K CT = true)
    (po_CT : PySem.W.plainOver K CT = true)
    (sa_CT : PySem.W.findIn K (.ref CT) "__setattr__" = some (some (.builtin "object.__setattr__")))
    (mk_CT : PySem.W.makesIn K CT = true)
    (kc_CT : PySem.W.keepIn K (.ref CT) = true)
    (a_CIT : PySem.W.nsIn K mainGlobals "InvalidTask" = some (some (.ref CIT)))
    (kpCIT : PySem.W.keepIn K (.ref CIT) = true)
    (sbCIT : PySem.W.subIn K (.ref CIT) (.type "BaseException") = some true)
    (tyCIT : PySem.W.typeIn K (.ref CIT) = some (.type "type"))
    (exCIT : PySem.W.excIn K CIT [.type "ValueError", .type "Exception", .type "BaseException", .type "object"] "ValueError.__new__" = true)
    (tstart : PySem.W.findIn K (.ref CT) "start" = some none)
    (tend : PySem.W.findIn K (.ref CT) "end" = some none)
    (tppicks : PySem.W.findIn K (.ref CT) "_picks" = some none)
    (c_MOST_PICKS : PySem.W.nsIn K mainGlobals "MOST_PICKS" = some (some (.int 60 tk_MOST_PICKS)))
    (z_set : PySem.W.nsIn K mainGlobals "set" = some none)
    (a_Task___init__ : PySem.W.findIn K (.ref CT) "__init__" = some (some (.ref f_Task___init__)))
    (i_Task___init__ : PySem.W.isFn K (.ref f_Task___init__) = true)
    (l_Task___init__ : K.lookup f_Task___init__ = some ⟨oc_Task___init__, od_Task___init__, .func (PySem.W.fnOf "__init__" "Task.__init__" (defArgs s_Task___init__) (defBody s_Task___init__) (defScope s_Task___init__) .none kV_Task___init__ dc_Task___init__ pm_Task___init__ an_Task___init__ cd_Task___init__ ct_Task___init__), sl_Task___init__⟩)
    (c_Task___init__ : PySem.W.codeIn K cd_Task___init__ "Task.__init__" = true)
    (k_Task___init__ : PySem.W.keepIn K (.ref f_Task___init__) = true)
    (pa_Task_picks : PySem.W.findIn K (.ref CT) "picks" = some (some (.ref p_Task_picks)))
    (pg_Task_picks : PySem.W.specialIn K (.ref p_Task_picks) "__get__" = some (some (.builtin "property.__get__")))
    (pt_Task_picks : PySem.W.takesIn K (.ref p_Task_picks) = some true)
    (pr_Task_picks : PySem.W.recIn K p_Task_picks "property" = some (.ref f_Task_picks :: r_Task_picks))
    (l_Task_picks : K.lookup f_Task_picks = some ⟨oc_Task_picks, od_Task_picks, .func (PySem.W.fnOf "picks" "Task.picks" (defArgs s_Task_picks) (defBody s_Task_picks) (defScope s_Task_picks) .none kV_Task_picks dc_Task_picks pm_Task_picks an_Task_picks cd_Task_picks ct_Task_picks), sl_Task_picks⟩)
    (c_Task_picks : PySem.W.codeIn K cd_Task_picks "Task.picks" = true)
    (k_Task_picks : PySem.W.keepIn K (.ref f_Task_picks) = true)
    (a_CP : PySem.W.nsIn K mainGlobals "InvalidPlace" = some (some (.ref CP)))
    (kpCP : PySem.W.keepIn K (.ref CP) = true)
    (sbCP : PySem.W.subIn K (.ref CP) (.type "BaseException") = some true)
    (tyCP : PySem.W.typeIn K (.ref CP) = some (.type "type"))
    (a_Pe : PySem.W.nsIn K mainGlobals "PickError" = some (some (.ref Pe)))
    (dcCP : PySem.W.hasDictIn K CP = true)
    (ssCP : PySem.W.subIn K (.ref CP) (.ref CP) = some true)
    (xlCP : K.lookup CP = some (excClassObj nm0 qn0 CP N0 bs0 [.ref Pe, .type "ValueError", .type "Exception", .type "BaseException", .type "object"] true sn0 sb0 ab0 co0 dd0 ma0 mb0 mc0 md0 me0 "ValueError.__new__"))
    (saCP : PySem.W.findIn K (.ref CP) "__setattr__" = some (some (.builtin "object.__setattr__")))
    (noCP : PySem.W.findIn K (.ref CP) "place" = some none)
    (gaCP : PySem.W.findIn K (.ref CP) "__getattribute__" = some (some (.builtin "BaseException.__getattribute__")))
    (ggCP : PySem.W.findIn K (.ref CP) "__getattr__" = some none)
    (a_iCP : PySem.W.findIn K (.ref CP) "__init__" = some (some (.ref f_iCP)))
    (tiCP : PySem.W.typeIn K (.ref f_iCP) = some (.type "function"))
    (l_iCP : K.lookup f_iCP = some ⟨oc_iCP, od_iCP, .func (PySem.W.fnOf "__init__" "InvalidPlace.__init__" (defArgs s_InvalidPlace___init__) (defBody s_InvalidPlace___init__) (defScope s_InvalidPlace___init__) .none kV_iCP dc_iCP pm_iCP an_iCP cd_iCP ct_iCP), sl_iCP⟩)
    (c_iCP : PySem.W.codeIn K cd_iCP "InvalidPlace.__init__" = true)
    (k_iCP : PySem.W.keepIn K (.ref f_iCP) = true)
    (a_check_task : PySem.W.nsIn K mainGlobals "check_task" = some (some (.ref f_check_task)))
    (l_check_task : K.lookup f_check_task = some ⟨oc_check_task, od_check_task, .func (PySem.W.fnOf "check_task" "check_task" (defArgs s_check_task) (defBody s_check_task) (defScope s_check_task) .none kV_check_task dc_check_task pm_check_task an_check_task cd_check_task ct_check_task), sl_check_task⟩)
    (c_check_task : PySem.W.codeIn K cd_check_task "check_task" = true)
    (k_check_task : PySem.W.keepIn K (.ref f_check_task) = true)
    (a__law_row : PySem.W.nsIn K mainGlobals "_law_row" = some (some (.ref f__law_row)))
    (l__law_row : K.lookup f__law_row = some ⟨oc__law_row, od__law_row, .func (PySem.W.fnOf "_law_row" "_law_row" (defArgs s__law_row) (defBody s__law_row) (defScope s__law_row) .none kV__law_row dc__law_row pm__law_row an__law_row cd__law_row ct__law_row), sl__law_row⟩)
    (c__law_row : PySem.W.codeIn K cd__law_row "_law_row" = true)
    (k__law_row : PySem.W.keepIn K (.ref f__law_row) = true)
    (a__law_numbers : PySem.W.nsIn K mainGlobals "_law_numbers" = some (some (.ref f__law_numbers)))
    (l__law_numbers : K.lookup f__law_numbers = some ⟨oc__law_numbers, od__law_numbers, .func (PySem.W.fnOf "_law_numbers" "_law_numbers" (defArgs s__law_numbers) (defBody s__law_numbers) (defScope s__law_numbers) .none kV__law_numbers dc__law_numbers pm__law_numbers an__law_numbers cd__law_numbers ct__law_numbers), sl__law_numbers⟩)
    (c__law_numbers : PySem.W.codeIn K cd__law_numbers "_law_numbers" = true)
    (k__law_numbers : PySem.W.keepIn K (.ref f__law_numbers) = true)
    (z_min : PySem.W.nsIn K mainGlobals "min" = some none)
    (z_tuple : PySem.W.nsIn K mainGlobals "tuple" = some none)
    (z_any : PySem.W.nsIn K mainGlobals "any" = some none)
    (z_isinstance : PySem.W.nsIn K mainGlobals "isinstance" = some none)
    (z_str : PySem.W.nsIn K mainGlobals "str" = some none)
    (c_NONE : PySem.W.nsIn K mainGlobals "NONE" = some (some (.str "none" tk_NONE)))
    (c_DONE : PySem.W.nsIn K mainGlobals "DONE" = some (some (.str "done" tk_DONE)))
    (c_MOST_ODD : PySem.W.nsIn K mainGlobals "MOST_ODD" = some (some (.int 2 tk_MOST_ODD)))
    (a__law_crosses : PySem.W.nsIn K mainGlobals "_law_crosses" = some (some (.ref f__law_crosses)))
    (l__law_crosses : K.lookup f__law_crosses = some ⟨oc__law_crosses, od__law_crosses, .func (PySem.W.fnOf "_law_crosses" "_law_crosses" (defArgs s__law_crosses) (defBody s__law_crosses) (defScope s__law_crosses) .none kV__law_crosses dc__law_crosses pm__law_crosses an__law_crosses cd__law_crosses ct__law_crosses), sl__law_crosses⟩)
    (c__law_crosses : PySem.W.codeIn K cd__law_crosses "_law_crosses" = true)
    (k__law_crosses : PySem.W.keepIn K (.ref f__law_crosses) = true)
    (a__law_link : PySem.W.nsIn K mainGlobals "_law_link" = some (some (.ref f__law_link)))
    (l__law_link : K.lookup f__law_link = some ⟨oc__law_link, od__law_link, .func (PySem.W.fnOf "_law_link" "_law_link" (defArgs s__law_link) (defBody s__law_link) (defScope s__law_link) .none kV__law_link dc__law_link pm__law_link an__law_link cd__law_link ct__law_link), sl__law_link⟩)
    (c__law_link : PySem.W.codeIn K cd__law_link "_law_link" = true)
    (k__law_link : PySem.W.keepIn K (.ref f__law_link) = true)
    (a__law_house : PySem.W.nsIn K mainGlobals "_law_house" = some (some (.ref f__law_house)))
    (l__law_house : K.lookup f__law_house = some ⟨oc__law_house, od__law_house, .func (PySem.W.fnOf "_law_house" "_law_house" (defArgs s__law_house) (defBody s__law_house) (defScope s__law_house) .none kV__law_house dc__law_house pm__law_house an__law_house cd__law_house ct__law_house), sl__law_house⟩)
    (c__law_house : PySem.W.codeIn K cd__law_house "_law_house" = true)
    (k__law_house : PySem.W.keepIn K (.ref f__law_house) = true)
    (a__law_cross : PySem.W.nsIn K mainGlobals "_law_cross" = some (some (.ref f__law_cross)))
    (l__law_cross : K.lookup f__law_cross = some ⟨oc__law_cross, od__law_cross, .func (PySem.W.fnOf "_law_cross" "_law_cross" (defArgs s__law_cross) (defBody s__law_cross) (defScope s__law_cross) .none kV__law_cross dc__law_cross pm__law_cross an__law_cross cd__law_cross ct__law_cross), sl__law_cross⟩)
    (c__law_cross : PySem.W.codeIn K cd__law_cross "_law_cross" = true)
    (k__law_cross : PySem.W.keepIn K (.ref f__law_cross) = true)
    (a__law_place : PySem.W.nsIn K mainGlobals "_law_place" = some (some (.ref f__law_place)))
    (l__law_place : K.lookup f__law_place = some ⟨oc__law_place, od__law_place, .func (PySem.W.fnOf "_law_place" "_law_place" (defArgs s__law_place) (defBody s__law_place) (defScope s__law_place) .none kV__law_place dc__law_place pm__law_place an__law_place cd__law_place ct__law_place), sl__law_place⟩)
    (c__law_place : PySem.W.codeIn K cd__law_place "_law_place" = true)
    (k__law_place : PySem.W.keepIn K (.ref f__law_place) = true)
    (a__law_task : PySem.W.nsIn K mainGlobals "_law_task" = some (some (.ref f__law_task)))
    (l__law_task : K.lookup f__law_task = some ⟨oc__law_task, od__law_task, .func (PySem.W.fnOf "_law_task" "_law_task" (defArgs s__law_task) (defBody s__law_task) (defScope s__law_task) .none kV__law_task dc__law_task pm__law_task an__law_task cd__law_task ct__law_task), sl__law_task⟩)
    (c__law_task : PySem.W.codeIn K cd__law_task "_law_task" = true)
    (k__law_task : PySem.W.keepIn K (.ref f__law_task) = true)
    (a__law_made : PySem.W.nsIn K mainGlobals "_law_made" = some (some (.ref f__law_made)))
    (l__law_made : K.lookup f__law_made = some ⟨oc__law_made, od__law_made, .func (PySem.W.fnOf "_law_made" "_law_made" (defArgs s__law_made) (defBody s__law_made) (defScope s__law_made) .none kV__law_made dc__law_made pm__law_made an__law_made cd__law_made ct__law_made), sl__law_made⟩)
    (c__law_made : PySem.W.codeIn K cd__law_made "_law_made" = true)
    (k__law_made : PySem.W.keepIn K (.ref f__law_made) = true)
    (a__rows_behind : PySem.W.nsIn K mainGlobals "_rows_behind" = some (some (.ref f__rows_behind)))
    (l__rows_behind : K.lookup f__rows_behind = some ⟨oc__rows_behind, od__rows_behind, .func (PySem.W.fnOf "_rows_behind" "_rows_behind" (defArgs s__rows_behind) (defBody s__rows_behind) (defScope s__rows_behind) .none kV__rows_behind dc__rows_behind pm__rows_behind an__rows_behind cd__rows_behind ct__rows_behind), sl__rows_behind⟩)
    (c__rows_behind : PySem.W.codeIn K cd__rows_behind "_rows_behind" = true)
    (k__rows_behind : PySem.W.keepIn K (.ref f__rows_behind) = true)
    (a__has_number : PySem.W.nsIn K mainGlobals "_has_number" = some (some (.ref f__has_number)))
    (l__has_number : K.lookup f__has_number = some ⟨oc__has_number, od__has_number, .func (PySem.W.fnOf "_has_number" "_has_number" (defArgs s__has_number) (defBody s__has_number) (defScope s__has_number) .none kV__has_number dc__has_number pm__has_number an__has_number (.ref c8__has_number) ct__has_number), sl__has_number⟩)
    (c__has_number : PySem.W.codeIn K (.ref c8__has_number) "_has_number" = true)
    (k__has_number : PySem.W.keepIn K (.ref f__has_number) = true)
    (a__odd_groups : PySem.W.nsIn K mainGlobals "_odd_groups" = some (some (.ref f__odd_groups)))
    (l__odd_groups : K.lookup f__odd_groups = some ⟨oc__odd_groups, od__odd_groups, .func (PySem.W.fnOf "_odd_groups" "_odd_groups" (defArgs s__odd_groups) (defBody s__odd_groups) (defScope s__odd_groups) .none kV__odd_groups dc__odd_groups pm__odd_groups an__odd_groups cd__odd_groups ct__odd_groups), sl__odd_groups⟩)
    (c__odd_groups : PySem.W.codeIn K cd__odd_groups "_odd_groups" = true)
    (k__odd_groups : PySem.W.keepIn K (.ref f__odd_groups) = true)
    (a_fits : PySem.W.nsIn K mainGlobals "fits" = some (some (.ref f_fits)))
    (l_fits : K.lookup f_fits = some ⟨oc_fits, od_fits, .func (PySem.W.fnOf "fits" "fits" (defArgs s_fits) (defBody s_fits) (defScope s_fits) .none kV_fits dc_fits pm_fits an_fits cd_fits ct_fits), sl_fits⟩)
    (c_fits : PySem.W.codeIn K cd_fits "fits" = true)
    (k_fits : PySem.W.keepIn K (.ref f_fits) = true)
    (a_kinds_of : PySem.W.nsIn K mainGlobals "kinds_of" = some (some (.ref f_kinds_of)))
    (l_kinds_of : K.lookup f_kinds_of = some ⟨oc_kinds_of, od_kinds_of, .func (PySem.W.fnOf "kinds_of" "kinds_of" (defArgs s_kinds_of) (defBody s_kinds_of) (defScope s_kinds_of) .none kV_kinds_of dc_kinds_of pm_kinds_of an_kinds_of cd_kinds_of ct_kinds_of), sl_kinds_of⟩)
    (c_kinds_of : PySem.W.codeIn K cd_kinds_of "kinds_of" = true)
    (k_kinds_of : PySem.W.keepIn K (.ref f_kinds_of) = true)
    (a__law_numbered : PySem.W.nsIn K mainGlobals "_law_numbered" = some (some (.ref f__law_numbered)))
    (l__law_numbered : K.lookup f__law_numbered = some ⟨oc__law_numbered, od__law_numbered, .func (PySem.W.fnOf "_law_numbered" "_law_numbered" (defArgs s__law_numbered) (defBody s__law_numbered) (defScope s__law_numbered) .none kV__law_numbered dc__law_numbered pm__law_numbered an__law_numbered cd__law_numbered ct__law_numbered), sl__law_numbered⟩)
    (c__law_numbered : PySem.W.codeIn K cd__law_numbered "_law_numbered" = true)
    (k__law_numbered : PySem.W.keepIn K (.ref f__law_numbered) = true)
    (a__law_fits : PySem.W.nsIn K mainGlobals "_law_fits" = some (some (.ref f__law_fits)))
    (l__law_fits : K.lookup f__law_fits = some ⟨oc__law_fits, od__law_fits, .func (PySem.W.fnOf "_law_fits" "_law_fits" (defArgs s__law_fits) (defBody s__law_fits) (defScope s__law_fits) .none kV__law_fits dc__law_fits pm__law_fits an__law_fits cd__law_fits ct__law_fits), sl__law_fits⟩)
    (c__law_fits : PySem.W.codeIn K cd__law_fits "_law_fits" = true)
    (k__law_fits : PySem.W.keepIn K (.ref f__law_fits) = true)
    (a__law_rows : PySem.W.nsIn K mainGlobals "_law_rows" = some (some (.ref f__law_rows)))
    (l__law_rows : K.lookup f__law_rows = some ⟨oc__law_rows, od__law_rows, .func (PySem.W.fnOf "_law_rows" "_law_rows" (defArgs s__law_rows) (defBody s__law_rows) (defScope s__law_rows) .none kV__law_rows dc__law_rows pm__law_rows an__law_rows cd__law_rows ct__law_rows), sl__law_rows⟩)
    (c__law_rows : PySem.W.codeIn K cd__law_rows "_law_rows" = true)
    (k__law_rows : PySem.W.keepIn K (.ref f__law_rows) = true)
    (a__law_kinds : PySem.W.nsIn K mainGlobals "_law_kinds" = some (some (.ref f__law_kinds)))
    (l__law_kinds : K.lookup f__law_kinds = some ⟨oc__law_kinds, od__law_kinds, .func (PySem.W.fnOf "_law_kinds" "_law_kinds" (defArgs s__law_kinds) (defBody s__law_kinds) (defScope s__law_kinds) .none kV__law_kinds dc__law_kinds pm__law_kinds an__law_kinds cd__law_kinds ct__law_kinds), sl__law_kinds⟩)
    (c__law_kinds : PySem.W.codeIn K cd__law_kinds "_law_kinds" = true)
    (k__law_kinds : PySem.W.keepIn K (.ref f__law_kinds) = true)
    (a_is_odd : PySem.W.nsIn K mainGlobals "is_odd" = some (some (.ref f_is_odd)))
    (l_is_odd : K.lookup f_is_odd = some ⟨oc_is_odd, od_is_odd, .func (PySem.W.fnOf "is_odd" "is_odd" (defArgs s_is_odd) (defBody s_is_odd) (defScope s_is_odd) .none kV_is_odd dc_is_odd pm_is_odd an_is_odd cd_is_odd ct_is_odd), sl_is_odd⟩)
    (c_is_odd : PySem.W.codeIn K cd_is_odd "is_odd" = true)
    (k_is_odd : PySem.W.keepIn K (.ref f_is_odd) = true)
    (a_odd_at : PySem.W.nsIn K mainGlobals "odd_at" = some (some (.ref f_odd_at)))
    (l_odd_at : K.lookup f_odd_at = some ⟨oc_odd_at, od_odd_at, .func (PySem.W.fnOf "odd_at" "odd_at" (defArgs s_odd_at) (defBody s_odd_at) (defScope s_odd_at) .none kV_odd_at dc_odd_at pm_odd_at an_odd_at cd_odd_at ct_odd_at), sl_odd_at⟩)
    (c_odd_at : PySem.W.codeIn K cd_odd_at "odd_at" = true)
    (k_odd_at : PySem.W.keepIn K (.ref f_odd_at) = true)
    (a__law_odd : PySem.W.nsIn K mainGlobals "_law_odd" = some (some (.ref f__law_odd)))
    (l__law_odd : K.lookup f__law_odd = some ⟨oc__law_odd, od__law_odd, .func (PySem.W.fnOf "_law_odd" "_law_odd" (defArgs s__law_odd) (defBody s__law_odd) (defScope s__law_odd) .none kV__law_odd dc__law_odd pm__law_odd an__law_odd cd__law_odd ct__law_odd), sl__law_odd⟩)
    (c__law_odd : PySem.W.codeIn K cd__law_odd "_law_odd" = true)
    (k__law_odd : PySem.W.keepIn K (.ref f__law_odd) = true)
    (a__law_ahead : PySem.W.nsIn K mainGlobals "_law_ahead" = some (some (.ref f__law_ahead)))
    (l__law_ahead : K.lookup f__law_ahead = some ⟨oc__law_ahead, od__law_ahead, .func (PySem.W.fnOf "_law_ahead" "_law_ahead" (defArgs s__law_ahead) (defBody s__law_ahead) (defScope s__law_ahead) .none kV__law_ahead dc__law_ahead pm__law_ahead an__law_ahead cd__law_ahead ct__law_ahead), sl__law_ahead⟩)
    (c__law_ahead : PySem.W.codeIn K cd__law_ahead "_law_ahead" = true)
    (k__law_ahead : PySem.W.keepIn K (.ref f__law_ahead) = true)
    (a_kinds_ahead : PySem.W.nsIn K mainGlobals "kinds_ahead" = some (some (.ref f_kinds_ahead)))
    (l_kinds_ahead : K.lookup f_kinds_ahead = some ⟨oc_kinds_ahead, od_kinds_ahead, .func (PySem.W.fnOf "kinds_ahead" "kinds_ahead" (defArgs s_kinds_ahead) (defBody s_kinds_ahead) (defScope s_kinds_ahead) .none kV_kinds_ahead dc_kinds_ahead pm_kinds_ahead an_kinds_ahead cd_kinds_ahead ct_kinds_ahead), sl_kinds_ahead⟩)
    (c_kinds_ahead : PySem.W.codeIn K cd_kinds_ahead "kinds_ahead" = true)
    (k_kinds_ahead : PySem.W.keepIn K (.ref f_kinds_ahead) = true)
    (a_kind_of : PySem.W.nsIn K mainGlobals "kind_of" = some (some (.ref f_kind_of)))
    (l_kind_of : K.lookup f_kind_of = some ⟨oc_kind_of, od_kind_of, .func (PySem.W.fnOf "kind_of" "kind_of" (defArgs s_kind_of) (defBody s_kind_of) (defScope s_kind_of) .none kV_kind_of dc_kind_of pm_kind_of an_kind_of cd_kind_of ct_kind_of), sl_kind_of⟩)
    (c_kind_of : PySem.W.codeIn K cd_kind_of "kind_of" = true)
    (k_kind_of : PySem.W.keepIn K (.ref f_kind_of) = true)
    (a_marks_inside : PySem.W.nsIn K mainGlobals "marks_inside" = some (some (.ref f_marks_inside)))
    (l_marks_inside : K.lookup f_marks_inside = some ⟨oc_marks_inside, od_marks_inside, .func (PySem.W.fnOf "marks_inside" "marks_inside" (defArgs s_marks_inside) (defBody s_marks_inside) (defScope s_marks_inside) .none kV_marks_inside dc_marks_inside pm_marks_inside an_marks_inside cd_marks_inside ct_marks_inside), sl_marks_inside⟩)
    (c_marks_inside : PySem.W.codeIn K cd_marks_inside "marks_inside" = true)
    (k_marks_inside : PySem.W.keepIn K (.ref f_marks_inside) = true)
    (a_steps : PySem.W.nsIn K mainGlobals "steps" = some (some (.ref f_steps)))
    (l_steps : K.lookup f_steps = some ⟨oc_steps, od_steps, .func (PySem.W.fnOf "steps" "steps" (defArgs s_steps) (defBody s_steps) (defScope s_steps) .none kV_steps dc_steps pm_steps an_steps cd_steps ct_steps), sl_steps⟩)
    (c_steps : PySem.W.codeIn K cd_steps "steps" = true)
    (k_steps : PySem.W.keepIn K (.ref f_steps) = true)
    (a_best_steps : PySem.W.nsIn K mainGlobals "best_steps" = some (some (.ref f_best_steps)))
    (l_best_steps : K.lookup f_best_steps = some ⟨oc_best_steps, od_best_steps, .func (PySem.W.fnOf "best_steps" "best_steps" (defArgs s_best_steps) (defBody s_best_steps) (defScope s_best_steps) .none kV_best_steps dc_best_steps pm_best_steps an_best_steps cd_best_steps ct_best_steps), sl_best_steps⟩)
    (c_best_steps : PySem.W.codeIn K cd_best_steps "best_steps" = true)
    (k_best_steps : PySem.W.keepIn K (.ref f_best_steps) = true)
    (a_lengths_from : PySem.W.nsIn K mainGlobals "lengths_from" = some (some (.ref f_lengths_from)))
    (l_lengths_from : K.lookup f_lengths_from = some ⟨oc_lengths_from, od_lengths_from, .func (PySem.W.fnOf "lengths_from" "lengths_from" (defArgs s_lengths_from) (defBody s_lengths_from) (defScope s_lengths_from) .none kV_lengths_from dc_lengths_from pm_lengths_from an_lengths_from cd_lengths_from ct_lengths_from), sl_lengths_from⟩)
    (c_lengths_from : PySem.W.codeIn K cd_lengths_from "lengths_from" = true)
    (k_lengths_from : PySem.W.keepIn K (.ref f_lengths_from) = true)
    (a_flipped_task : PySem.W.nsIn K mainGlobals "flipped_task" = some (some (.ref f_flipped_task)))
    (l_flipped_task : K.lookup f_flipped_task = some ⟨oc_flipped_task, od_flipped_task, .func (PySem.W.fnOf "flipped_task" "flipped_task" (defArgs s_flipped_task) (defBody s_flipped_task) (defScope s_flipped_task) .none kV_flipped_task dc_flipped_task pm_flipped_task an_flipped_task cd_flipped_task ct_flipped_task), sl_flipped_task⟩)
    (c_flipped_task : PySem.W.codeIn K cd_flipped_task "flipped_task" = true)
    (k_flipped_task : PySem.W.keepIn K (.ref f_flipped_task) = true)
    (a_swapped_task : PySem.W.nsIn K mainGlobals "swapped_task" = some (some (.ref f_swapped_task)))
    (l_swapped_task : K.lookup f_swapped_task = some ⟨oc_swapped_task, od_swapped_task, .func (PySem.W.fnOf "swapped_task" "swapped_task" (defArgs s_swapped_task) (defBody s_swapped_task) (defScope s_swapped_task) .none kV_swapped_task dc_swapped_task pm_swapped_task an_swapped_task cd_swapped_task ct_swapped_task), sl_swapped_task⟩)
    (c_swapped_task : PySem.W.codeIn K cd_swapped_task "swapped_task" = true)
    (k_swapped_task : PySem.W.keepIn K (.ref f_swapped_task) = true)
    (a_table_from : PySem.W.nsIn K mainGlobals "table_from" = some (some (.ref f_table_from)))
    (l_table_from : K.lookup f_table_from = some ⟨oc_table_from, od_table_from, .func (PySem.W.fnOf "table_from" "table_from" (defArgs s_table_from) (defBody s_table_from) (defScope s_table_from) .none kV_table_from dc_table_from pm_table_from an_table_from cd_table_from ct_table_from), sl_table_from⟩)
    (c_table_from : PySem.W.codeIn K cd_table_from "table_from" = true)
    (k_table_from : PySem.W.keepIn K (.ref f_table_from) = true)
    (a__pieces_between : PySem.W.nsIn K mainGlobals "_pieces_between" = some (some (.ref f__pieces_between)))
    (l__pieces_between : K.lookup f__pieces_between = some ⟨oc__pieces_between, od__pieces_between, .func (PySem.W.fnOf "_pieces_between" "_pieces_between" (defArgs s__pieces_between) (defBody s__pieces_between) (defScope s__pieces_between) .none kV__pieces_between dc__pieces_between pm__pieces_between an__pieces_between cd__pieces_between ct__pieces_between), sl__pieces_between⟩)
    (c__pieces_between : PySem.W.codeIn K cd__pieces_between "_pieces_between" = true)
    (k__pieces_between : PySem.W.keepIn K (.ref f__pieces_between) = true)
    (a_options_between : PySem.W.nsIn K mainGlobals "options_between" = some (some (.ref f_options_between)))
    (l_options_between : K.lookup f_options_between = some ⟨oc_options_between, od_options_between, .func (PySem.W.fnOf "options_between" "options_between" (defArgs s_options_between) (defBody s_options_between) (defScope s_options_between) .none kV_options_between dc_options_between pm_options_between an_options_between cd_options_between ct_options_between), sl_options_between⟩)
    (c_options_between : PySem.W.codeIn K cd_options_between "options_between" = true)
    (k_options_between : PySem.W.keepIn K (.ref f_options_between) = true)
    (a_best_between : PySem.W.nsIn K mainGlobals "best_between" = some (some (.ref f_best_between)))
    (l_best_between : K.lookup f_best_between = some ⟨oc_best_between, od_best_between, .func (PySem.W.fnOf "best_between" "best_between" (defArgs s_best_between) (defBody s_best_between) (defScope s_best_between) .none kV_best_between dc_best_between pm_best_between an_best_between cd_best_between ct_best_between), sl_best_between⟩)
    (c_best_between : PySem.W.codeIn K cd_best_between "best_between" = true)
    (k_best_between : PySem.W.keepIn K (.ref f_best_between) = true)
    (a_table : PySem.W.nsIn K mainGlobals "table" = some (some (.ref f_table)))
    (l_table : K.lookup f_table = some ⟨oc_table, od_table, .func (PySem.W.fnOf "table" "table" (defArgs s_table) (defBody s_table) (defScope s_table) .none kV_table dc_table pm_table an_table cd_table ct_table), sl_table⟩)
    (c_table : PySem.W.codeIn K cd_table "table" = true)
    (k_table : PySem.W.keepIn K (.ref f_table) = true)
    (a_product_of : PySem.W.nsIn K mainGlobals "product_of" = some (some (.ref f_product_of)))
    (l_product_of : K.lookup f_product_of = some ⟨oc_product_of, od_product_of, .func (PySem.W.fnOf "product_of" "product_of" (defArgs s_product_of) (defBody s_product_of) (defScope s_product_of) .none kV_product_of dc_product_of pm_product_of an_product_of cd_product_of ct_product_of), sl_product_of⟩)
    (c_product_of : PySem.W.codeIn K cd_product_of "product_of" = true)
    (k_product_of : PySem.W.keepIn K (.ref f_product_of) = true)
    (a_least_length : PySem.W.nsIn K mainGlobals "least_length" = some (some (.ref f_least_length)))
    (l_least_length : K.lookup f_least_length = some ⟨oc_least_length, od_least_length, .func (PySem.W.fnOf "least_length" "least_length" (defArgs s_least_length) (defBody s_least_length) (defScope s_least_length) .none kV_least_length dc_least_length pm_least_length an_least_length cd_least_length ct_least_length), sl_least_length⟩)
    (c_least_length : PySem.W.codeIn K cd_least_length "least_length" = true)
    (k_least_length : PySem.W.keepIn K (.ref f_least_length) = true)
    (a_pieces_of : PySem.W.nsIn K mainGlobals "pieces_of" = some (some (.ref f_pieces_of)))
    (l_pieces_of : K.lookup f_pieces_of = some ⟨oc_pieces_of, od_pieces_of, .func (PySem.W.fnOf "pieces_of" "pieces_of" (defArgs s_pieces_of) (defBody s_pieces_of) (defScope s_pieces_of) .none kV_pieces_of dc_pieces_of pm_pieces_of an_pieces_of cd_pieces_of ct_pieces_of), sl_pieces_of⟩)
    (c_pieces_of : PySem.W.codeIn K cd_pieces_of "pieces_of" = true)
    (k_pieces_of : PySem.W.keepIn K (.ref f_pieces_of) = true)
    (a_options_of : PySem.W.nsIn K mainGlobals "options_of" = some (some (.ref f_options_of)))
    (l_options_of : K.lookup f_options_of = some ⟨oc_options_of, od_options_of, .func (PySem.W.fnOf "options_of" "options_of" (defArgs s_options_of) (defBody s_options_of) (defScope s_options_of) .none kV_options_of dc_options_of pm_options_of an_options_of cd_options_of ct_options_of), sl_options_of⟩)
    (c_options_of : PySem.W.codeIn K cd_options_of "options_of" = true)
    (k_options_of : PySem.W.keepIn K (.ref f_options_of) = true)
    (a_best_options : PySem.W.nsIn K mainGlobals "best_options" = some (some (.ref f_best_options)))
    (l_best_options : K.lookup f_best_options = some ⟨oc_best_options, od_best_options, .func (PySem.W.fnOf "best_options" "best_options" (defArgs s_best_options) (defBody s_best_options) (defScope s_best_options) .none kV_best_options dc_best_options pm_best_options an_best_options cd_best_options ct_best_options), sl_best_options⟩)
    (c_best_options : PySem.W.codeIn K cd_best_options "best_options" = true)
    (k_best_options : PySem.W.keepIn K (.ref f_best_options) = true)
    (a__law_call : PySem.W.nsIn K mainGlobals "_law_call" = some (some (.ref f__law_call)))
    (l__law_call : K.lookup f__law_call = some ⟨oc__law_call, od__law_call, .func (PySem.W.fnOf "_law_call" "_law_call" (defArgs s__law_call) (defBody s__law_call) (defScope s__law_call) .none kV__law_call dc__law_call pm__law_call an__law_call cd__law_call ct__law_call), sl__law_call⟩)
    (c__law_call : PySem.W.codeIn K cd__law_call "_law_call" = true)
    (k__law_call : PySem.W.keepIn K (.ref f__law_call) = true)
    (acCP : PySem.W.findIn K (.ref CP) "__class__" = some (some (.builtin "object.__class__")))
    (asCP : PySem.W.specialIn K (.builtin "object.__class__") "__get__" = some (some (.builtin "getset_descriptor.__get__")))
    (atCP : PySem.W.takesIn K (.builtin "object.__class__") = some true)
    (amCP : PySem.W.mroIn K CP (.type "object") = some true)
    (kiCPe : PySem.W.kitOne K (.ref CP) (.ref Pe) = some true)
    (a__law_refused : PySem.W.nsIn K mainGlobals "_law_refused" = some (some (.ref f__law_refused)))
    (l__law_refused : K.lookup f__law_refused = some ⟨oc__law_refused, od__law_refused, .func (PySem.W.fnOf "_law_refused" "_law_refused" (defArgs s__law_refused) (defBody s__law_refused) (defScope s__law_refused) .none kV__law_refused dc__law_refused pm__law_refused an__law_refused cd__law_refused ct__law_refused), sl__law_refused⟩)
    (c__law_refused : PySem.W.codeIn K cd__law_refused "_law_refused" = true)
    (k__law_refused : PySem.W.keepIn K (.ref f__law_refused) = true)
    (a_law : PySem.W.nsIn K mainGlobals "law" = some (some (.ref f_law)))
    (l_law : K.lookup f_law = some ⟨oc_law, od_law, .func (PySem.W.fnOf "law" "law" (defArgs s_law) (defBody s_law) (defScope s_law) .none kV_law dc_law pm_law an_law cd_law ct_law), sl_law⟩)
    (c_law : PySem.W.codeIn K cd_law "law" = true)
    (k_law : PySem.W.keepIn K (.ref f_law) = true)
    : ∃ fd : FuncData, (∀ (s : Shared) (v : Value), BindsTo s fd ⟨[v], []⟩ [("script", v)]) ∧
      ∀ base : Heap, K.In base → base.Ns mainGlobals mg → TabB base mg c8_House___init__ TI → TabB base mg c8__are_long TL → TabB base mg c8__has_number TH → FnOk l.prog w (K) mg base CX0 10 fa fd ["script"] (spLawT (K) [TL, TI, TH]) := by
  have e := hfa.symm.trans (PySem.W.mg_of X G a_law)
  cases e
  have g_LONGEST : ∃ t : Tok, mg "LONGEST" = some (.int 40 t) := ⟨tk_LONGEST, PySem.W.mg_of X G c_LONGEST⟩
  have g_MOST_STRETCHES : ∃ t : Tok, mg "MOST_STRETCHES" = some (.int 2 t) := ⟨tk_MOST_STRETCHES, PySem.W.mg_of X G c_MOST_STRETCHES⟩
  have g_MOST_GAPS : ∃ t : Tok, mg "MOST_GAPS" = some (.int 11 t) := ⟨tk_MOST_GAPS, PySem.W.mg_of X G c_MOST_GAPS⟩
  have g_MOST_CLOSED : ∃ t : Tok, mg "MOST_CLOSED" = some (.int 200 t) := ⟨tk_MOST_CLOSED, PySem.W.mg_of X G c_MOST_CLOSED⟩
  have z_abs := PySem.W.mg_none_of X G z_abs
  have z_all := PySem.W.mg_none_of X G z_all
  have z_int := PySem.W.mg_none_of X G z_int
  have z_len := PySem.W.mg_none_of X G z_len
  have z_list := PySem.W.mg_none_of X G z_list
  have z_max := PySem.W.mg_none_of X G z_max
  have z_range := PySem.W.mg_none_of X G z_range
  have z_sorted := PySem.W.mg_none_of X G z_sorted
  have z_sum := PySem.W.mg_none_of X G z_sum
  have g_MOST_PICKS : ∃ t : Tok, mg "MOST_PICKS" = some (.int 60 t) := ⟨tk_MOST_PICKS, PySem.W.mg_of X G c_MOST_PICKS⟩
  have z_set := PySem.W.mg_none_of X G z_set
  have z_min := PySem.W.mg_none_of X G z_min
  have z_tuple := PySem.W.mg_none_of X G z_tuple
  have z_any := PySem.W.mg_none_of X G z_any
  have z_isinstance := PySem.W.mg_none_of X G z_isinstance
  have z_str := PySem.W.mg_none_of X G z_str
  have g_NONE : ∃ t : Tok, mg "NONE" = some (.str "none" t) := ⟨tk_NONE, PySem.W.mg_of X G c_NONE⟩
  have g_DONE : ∃ t : Tok, mg "DONE" = some (.str "done" t) := ⟨tk_DONE, PySem.W.mg_of X G c_DONE⟩
  have g_MOST_ODD : ∃ t : Tok, mg "MOST_ODD" = some (.int 2 t) := ⟨tk_MOST_ODD, PySem.W.mg_of X G c_MOST_ODD⟩
  have F_law := fun_mk (st := s_law) l_law c_law k_law
  refine ⟨PySem.W.fnOf "law" "law" (defArgs s_law) (defBody s_law) (defScope s_law) .none kV_law dc_law pm_law an_law cd_law ct_law, fun s v => .of_eq rfl, fun base _ _ TBTI TBTL TBTH => ?_⟩
  have UCI : ErrTxt K mg CI "InvalidHouse" := { gI := PySem.W.mg_of X G a_CI, kI := kpCI, xI := exCI, bI := sbCI, tI := tyCI }
  have F_House___init__ : FunC K "__init__" "House.__init__" s_House___init__ f_House___init__ c8_House___init__ _ := ⟨⟨_, _, _, _, _, _, _, _, rfl, l_House___init__, c_House___init__⟩, k_House___init__⟩
  have b_House___init__ : Binds K _ ["self", "lengths", "gaps", "closed"] [] := (fun_mk (st := s_House___init__) l_House___init__ c_House___init__ k_House___init__).binds (ps := ["self", "lengths", "gaps", "closed"]) fun _ _ _ _ _ _ us hl => match us, hl with | [_, _, _, _], _ => rfl
  have M_House___init__ : Meth K C "__init__" f_House___init__ := ⟨a_House___init__, i_House___init__, k_House___init__⟩
  have F__are_long : FunC K "_are_long" "_are_long" s__are_long f__are_long c8__are_long _ := ⟨⟨_, _, _, _, _, _, _, _, rfl, l__are_long, c__are_long⟩, k__are_long⟩
  have b__are_long : Binds K _ ["numbers"] [] := (fun_mk (st := s__are_long) l__are_long c__are_long k__are_long).binds (ps := ["numbers"]) fun _ _ _ _ _ _ us hl => match us, hl with | [_], _ => rfl
  have F__cross_heights := fun_mk (st := s__cross_heights) l__cross_heights c__cross_heights k__cross_heights
  have b__cross_heights := F__cross_heights.binds (ps := ["lengths"]) fun _ _ _ _ _ _ us hl => match us, hl with | [_], _ => rfl
  have F_House_is_link := fun_mk (st := s_House_is_link) l_House_is_link c_House_is_link k_House_is_link
  have b_House_is_link := F_House_is_link.binds (ps := ["self", "link"]) fun _ _ _ _ _ _ us hl => match us, hl with | [_, _], _ => rfl
  have M_House_is_link : Meth K C "is_link" f_House_is_link := ⟨a_House_is_link, i_House_is_link, k_House_is_link⟩
  have Y : HouseTop mg := { all := z_all, len := z_len, sum := z_sum, list := z_list, sorted := z_sorted, range := z_range, longest := g_LONGEST, stretches := g_MOST_STRETCHES, mostGaps := g_MOST_GAPS, mostClosed := g_MOST_CLOSED }
  have T : HouseTxt K mg C := { cl := ⟨pg_C, hd_C, po_C, sa_C⟩, nL := nplengths, nG := npgaps, nX := npcrosses, nT := nptop, nC := npclosed }
  let MH : MakeH l.prog w K mg base := { C := C, CI := CI, TL := TL, TI := TI, fI := f_House___init__, fdI := _, M := ⟨mk_C, a_House___init__, i_House___init__, kc_C⟩, GI := ok_house F_House___init__ TBTI Y T UCI F_House_is_link b_House_is_link M_House_is_link F__are_long TBTL b__are_long (PySem.W.mg_of X G a__are_long) F__cross_heights b__cross_heights (PySem.W.mg_of X G a__cross_heights), bI := b_House___init__, mgC := PySem.W.mg_of X G a_C }
  have F_House_crosses := fun_mk (st := s_House_crosses) l_House_crosses c_House_crosses k_House_crosses
  have b_House_crosses := F_House_crosses.binds (ps := ["self"]) fun _ _ _ _ _ _ us hl => match us, hl with | [_], _ => rfl
  have M_House_crosses : Meth K C "crosses" f_House_crosses := ⟨a_House_crosses, i_House_crosses, k_House_crosses⟩
  have m_crosses : MethD l.prog w K mg base C 1 "crosses" ["self"] (spNums C fun ls _ => crossN ls) := ⟨f_House_crosses, _, M_House_crosses, ok_crosses (P := l.prog) (w := w) (mg := mg) (base := base) F_House_crosses Y T, b_House_crosses⟩
  have F_House_is_place := fun_mk (st := s_House_is_place) l_House_is_place c_House_is_place k_House_is_place
  have b_House_is_place := F_House_is_place.binds (ps := ["self", "place"]) fun _ _ _ _ _ _ us hl => match us, hl with | [_, _], _ => rfl
  have M_House_is_place : Meth K C "is_place" f_House_is_place := ⟨a_House_is_place, i_House_is_place, k_House_is_place⟩
  have m_is_place : MethD l.prog w K mg base C 1 "is_place" ["self", "place"] (spPl C isPl) := ⟨f_House_is_place, _, M_House_is_place, ok_is_place (P := l.prog) (w := w) (mg := mg) (base := base) F_House_is_place Y T, b_House_is_place⟩
  have F_House_is_cross := fun_mk (st := s_House_is_cross) l_House_is_cross c_House_is_cross k_House_is_cross
  have b_House_is_cross := F_House_is_cross.binds (ps := ["self", "place"]) fun _ _ _ _ _ _ us hl => match us, hl with | [_, _], _ => rfl
  have M_House_is_cross : Meth K C "is_cross" f_House_is_cross := ⟨a_House_is_cross, i_House_is_cross, k_House_is_cross⟩
  have m_is_cross : MethD l.prog w K mg base C 2 "is_cross" ["self", "place"] (spPl C isCr) := ⟨f_House_is_cross, _, M_House_is_cross, ok_is_cross (P := l.prog) (w := w) (mg := mg) (base := base) F_House_is_cross T m_is_place.G m_is_place.b m_is_place.m, b_House_is_cross⟩
  have UCIT : ErrTxt K mg CIT "InvalidTask" := { gI := PySem.W.mg_of X G a_CIT, kI := kpCIT, xI := exCIT, bI := sbCIT, tI := tyCIT }
  have F_Task___init__ := fun_mk (st := s_Task___init__) l_Task___init__ c_Task___init__ k_Task___init__
  have b_Task___init__ := F_Task___init__.binds (ps := ["self", "start", "end", "picks"]) fun _ _ _ _ _ _ us hl => match us, hl with | [_, _, _, _], _ => rfl
  have M_Task___init__ : Meth K CT "__init__" f_Task___init__ := ⟨a_Task___init__, i_Task___init__, k_Task___init__⟩
  have TT : TaskTxt K mg CT CIT := { cl := ⟨pg_CT, hd_CT, po_CT, sa_CT⟩, nS := tstart, nE := tend, nP := tppicks, mgC := PySem.W.mg_of X G a_CT, len := z_len, set := z_set, sorted := z_sorted, list := z_list, most := g_MOST_PICKS, gI := PySem.W.mg_of X G a_CIT, kI := kpCIT, xI := exCIT, bI := sbCIT, tI := tyCIT }
  have MT : Mk K CT f_Task___init__ := ⟨mk_CT, a_Task___init__, i_Task___init__, kc_CT⟩
  have gTk := ok_task (P := l.prog) (w := w) (mg := mg) (base := base) F_Task___init__ TT
  have F_Task_picks := fun_mk (st := s_Task_picks) l_Task_picks c_Task_picks k_Task_picks
  have b_Task_picks := F_Task_picks.binds (ps := ["self"]) fun _ _ _ _ _ _ us hl => match us, hl with | [_], _ => rfl
  have hp_Task_picks : PropOf K CT "picks" p_Task_picks f_Task_picks := ⟨pa_Task_picks, pg_Task_picks, pt_Task_picks, r_Task_picks, pr_Task_picks⟩
  have p_picks : PropD l.prog w K mg base CT 1 "picks" (spPicks CT) := ⟨f_Task_picks, p_Task_picks, _, hp_Task_picks, ok_picks (P := l.prog) (w := w) (mg := mg) (base := base) F_Task_picks TT, b_Task_picks⟩
  have F_iCP := fun_mk (st := s_InvalidPlace___init__) l_iCP c_iCP k_iCP
  have b_iCP := F_iCP.binds (ps := ["self", "place"]) fun _ _ _ _ _ _ us hl => match us, hl with | [_, _], _ => rfl
  have o_CP : OexC K CP := ⟨⟨nm0, qn0, N0, bs0, _, sn0, sb0, ab0, co0, dd0, ma0, mb0, mc0, md0, me0, xlCP, rfl⟩, saCP, sbCP, tyCP, kpCP⟩
  have UCP : PlcTxt K mg CP f_iCP := { g := PySem.W.mg_of X G a_CP, o := o_CP, n := noCP, i := a_iCP, y := tiCP }
  have F_check_task := fun_mk (st := s_check_task) l_check_task c_check_task k_check_task
  have b_check_task := F_check_task.binds (ps := ["house", "task"]) fun _ _ _ _ _ _ us hl => match us, hl with | [_, _], _ => rfl
  have t_check_task : TopN l.prog w K mg base (L2.CX l.prog w) 4 "check_task" ["house", "task"] (spCheck CT C CP) := ⟨f_check_task, _, ok_check (P := l.prog) (w := w) (mg := mg) (base := base) F_check_task T TT UCP (ok_plcinit F_iCP) b_iCP m_is_place.G m_is_place.b m_is_place.m m_is_cross.G m_is_cross.b m_is_cross.m p_picks.G p_picks.b p_picks.h, b_check_task, PySem.W.mg_of X G a_check_task, k_check_task⟩
  have F__law_row := fun_mk (st := s__law_row) l__law_row c__law_row k__law_row
  have b__law_row := F__law_row.binds (ps := ["cell", "many"]) fun _ _ _ _ _ _ us hl => match us, hl with | [_, _], _ => rfl
  have F__law_numbers := fun_mk (st := s__law_numbers) l__law_numbers c__law_numbers k__law_numbers
  have b__law_numbers := F__law_numbers.binds (ps := ["script", "many"]) fun _ _ _ _ _ _ us hl => match us, hl with | [_, _], _ => rfl
  have D : DrawTxt mg f__law_row := ⟨z_abs, z_int, z_range, z_len, z_max, PySem.W.mg_of X G a__law_row⟩
  have t__law_numbers : TopD l.prog w K mg base 2 "_law_numbers" ["script", "many"] (spNumbers K) := ⟨f__law_numbers, _, ok_numbers F__law_numbers D F__law_row b__law_row, b__law_numbers, PySem.W.mg_of X G a__law_numbers, k__law_numbers⟩
  have F__law_crosses := fun_mk (st := s__law_crosses) l__law_crosses c__law_crosses k__law_crosses
  have b__law_crosses := F__law_crosses.binds (ps := ["lengths"]) fun _ _ _ _ _ _ us hl => match us, hl with | [_], _ => rfl
  have h_cr : TopD l.prog w K mg base 2 "_law_crosses" ["lengths"] (spCross K) := ⟨f__law_crosses, _, ok_lcr (P := l.prog) (w := w) (mg := mg) (base := base) F__law_crosses, b__law_crosses, PySem.W.mg_of X G a__law_crosses, k__law_crosses⟩
  have F__law_link := fun_mk (st := s__law_link) l__law_link c__law_link k__law_link
  have b__law_link := F__law_link.binds (ps := ["lengths", "gaps", "first", "second"]) fun _ _ _ _ _ _ us hl => match us, hl with | [_, _, _, _], _ => rfl
  have h_lk : TopD l.prog w K mg base 3 "_law_link" ["lengths", "gaps", "first", "second"] (spLk) := ⟨f__law_link, _, ok_lwlink (P := l.prog) (w := w) (mg := mg) (base := base) F__law_link z_int z_len z_sum h_cr, b__law_link, PySem.W.mg_of X G a__law_link, k__law_link⟩
  have F__law_house := fun_mk (st := s__law_house) l__law_house c__law_house k__law_house
  have b__law_house := F__law_house.binds (ps := ["numbers", "at", "many", "most"]) fun _ _ _ _ _ _ us hl => match us, hl with | [_, _, _, _], _ => rfl
  have t__law_house : TopD l.prog w K mg base 4 "_law_house" ["numbers", "at", "many", "most"] (spHs K) := ⟨f__law_house, _, ok_lwhouse (P := l.prog) (w := w) (mg := mg) (base := base) F__law_house z_int z_range h_lk, b__law_house, PySem.W.mg_of X G a__law_house, k__law_house⟩
  have F__law_cross := fun_mk (st := s__law_cross) l__law_cross c__law_cross k__law_cross
  have b__law_cross := F__law_cross.binds (ps := ["house", "number"]) fun _ _ _ _ _ _ us hl => match us, hl with | [_, _], _ => rfl
  have h_lc : TopD l.prog w K mg base 3 "_law_cross" ["house", "number"] (spDraw isCr) := ⟨f__law_cross, _, ok_lc (P := l.prog) (w := w) (mg := mg) (base := base) F__law_cross z_int z_len h_cr, b__law_cross, PySem.W.mg_of X G a__law_cross, k__law_cross⟩
  have F__law_place := fun_mk (st := s__law_place) l__law_place c__law_place k__law_place
  have b__law_place := F__law_place.binds (ps := ["house", "number"]) fun _ _ _ _ _ _ us hl => match us, hl with | [_, _], _ => rfl
  have h_lp : TopD l.prog w K mg base 1 "_law_place" ["house", "number"] (spDraw isPl) := ⟨f__law_place, _, ok_lp (P := l.prog) (w := w) (mg := mg) (base := base) F__law_place z_int z_len z_sum, b__law_place, PySem.W.mg_of X G a__law_place, k__law_place⟩
  have F__law_task := fun_mk (st := s__law_task) l__law_task c__law_task k__law_task
  have b__law_task := F__law_task.binds (ps := ["numbers", "at", "house", "many"]) fun _ _ _ _ _ _ us hl => match us, hl with | [_, _, _, _], _ => rfl
  have t__law_task : TopD l.prog w K mg base 4 "_law_task" ["numbers", "at", "house", "many"] (spTk K) := ⟨f__law_task, _, ok_tk (P := l.prog) (w := w) (mg := mg) (base := base) F__law_task z_int z_range h_lc h_lp, b__law_task, PySem.W.mg_of X G a__law_task, k__law_task⟩
  have F__law_made := fun_mk (st := s__law_made) l__law_made c__law_made k__law_made
  have b__law_made := F__law_made.binds (ps := ["house", "task"]) fun _ _ _ _ _ _ us hl => match us, hl with | [_, _], _ => rfl
  have t__law_made : TopD l.prog w K mg base 7 "_law_made" ["house", "task"] (spMd C CT TL TI) := ⟨f__law_made, _, ok_md (P := l.prog) (w := w) (mg := mg) (base := base) F__law_made MH MT gTk b_Task___init__ (PySem.W.mg_of X G a_CT), b__law_made, PySem.W.mg_of X G a__law_made, k__law_made⟩
  have F__rows_behind := fun_mk (st := s__rows_behind) l__rows_behind c__rows_behind k__rows_behind
  have b__rows_behind := F__rows_behind.binds (ps := ["kind"]) fun _ _ _ _ _ _ us hl => match us, hl with | [_], _ => rfl
  have g_rb := ok_rows (P := l.prog) (w := w) (mg := mg) (base := base) F__rows_behind z_max z_range
  have F__has_number : FunC K "_has_number" "_has_number" s__has_number f__has_number c8__has_number _ := ⟨⟨_, _, _, _, _, _, _, _, rfl, l__has_number, c__has_number⟩, k__has_number⟩
  have b__has_number : Binds K _ ["kind"] [] := (fun_mk (st := s__has_number) l__has_number c__has_number k__has_number).binds (ps := ["kind"]) fun _ _ _ _ _ _ us hl => match us, hl with | [_], _ => rfl
  have g_hn := ok_has (P := l.prog) (w := w) (mg := mg) (base := base) F__has_number TBTH z_any
  have F__odd_groups := fun_mk (st := s__odd_groups) l__odd_groups c__odd_groups k__odd_groups
  have b__odd_groups := F__odd_groups.binds (ps := ["kind"]) fun _ _ _ _ _ _ us hl => match us, hl with | [_], _ => rfl
  have g_og := ok_oddg (P := l.prog) (w := w) (mg := mg) (base := base) F__odd_groups z_len
  have F_fits := fun_mk (st := s_fits) l_fits c_fits k_fits
  have b_fits := F_fits.binds (ps := ["kind", "odd"]) fun _ _ _ _ _ _ us hl => match us, hl with | [_, _], _ => rfl
  have t_fits : TopD l.prog w K mg base 2 "fits" ["kind", "odd"] (spFi) := ⟨f_fits, _, ok_fits (P := l.prog) (w := w) (mg := mg) (base := base) F_fits g_NONE g_DONE g_MOST_ODD g_og b__odd_groups (PySem.W.mg_of X G a__odd_groups) k__odd_groups, b_fits, PySem.W.mg_of X G a_fits, k_fits⟩
  have F_kinds_of := fun_mk (st := s_kinds_of) l_kinds_of c_kinds_of k_kinds_of
  have b_kinds_of := F_kinds_of.binds (ps := ["heights", "odd"]) fun _ _ _ _ _ _ us hl => match us, hl with | [_, _], _ => rfl
  have t_kinds_of : TopD l.prog w K mg base 4 "kinds_of" ["heights", "odd"] (spKo TH) := ⟨f_kinds_of, _, ok_kindsof (P := l.prog) (w := w) (mg := mg) (base := base) F_kinds_of z_range g_NONE g_DONE g_rb b__rows_behind (PySem.W.mg_of X G a__rows_behind) k__rows_behind g_hn b__has_number (PySem.W.mg_of X G a__has_number) k__has_number t_fits.G t_fits.b t_fits.g t_fits.kp, b_kinds_of, PySem.W.mg_of X G a_kinds_of, k_kinds_of⟩
  have F__law_numbered := fun_mk (st := s__law_numbered) l__law_numbered c__law_numbered k__law_numbered
  have b__law_numbered := F__law_numbered.binds (ps := ["numbers", "lots"]) fun _ _ _ _ _ _ us hl => match us, hl with | [_, _], _ => rfl
  have t__law_numbered : TopD l.prog w K mg base 1 "_law_numbered" ["numbers", "lots"] (spNu) := ⟨f__law_numbered, _, ok_numbered (P := l.prog) (w := w) (mg := mg) (base := base) F__law_numbered z_len z_range z_tuple, b__law_numbered, PySem.W.mg_of X G a__law_numbered, k__law_numbered⟩
  have F__law_fits := fun_mk (st := s__law_fits) l__law_fits c__law_fits k__law_fits
  have b__law_fits := F__law_fits.binds (ps := ["kind", "odd"]) fun _ _ _ _ _ _ us hl => match us, hl with | [_, _], _ => rfl
  have t__law_fits : TopD l.prog w K mg base 1 "_law_fits" ["kind", "odd"] (spLf) := ⟨f__law_fits, _, ok_lfits (P := l.prog) (w := w) (mg := mg) (base := base) F__law_fits z_range z_int z_sum, b__law_fits, PySem.W.mg_of X G a__law_fits, k__law_fits⟩
  have F__law_rows := fun_mk (st := s__law_rows) l__law_rows c__law_rows k__law_rows
  have b__law_rows := F__law_rows.binds (ps := ["menu", "many"]) fun _ _ _ _ _ _ us hl => match us, hl with | [_, _], _ => rfl
  have t__law_rows : TopD l.prog w K mg base 1 "_law_rows" ["menu", "many"] (spRw) := ⟨f__law_rows, _, ok_lrows (P := l.prog) (w := w) (mg := mg) (base := base) F__law_rows z_range, b__law_rows, PySem.W.mg_of X G a__law_rows, k__law_rows⟩
  have F__law_kinds := fun_mk (st := s__law_kinds) l__law_kinds c__law_kinds k__law_kinds
  have b__law_kinds := F__law_kinds.binds (ps := ["heights", "odd"]) fun _ _ _ _ _ _ us hl => match us, hl with | [_, _], _ => rfl
  have t__law_kinds : TopD l.prog w K mg base 2 "_law_kinds" ["heights", "odd"] (spKk) := ⟨f__law_kinds, _, ok_lkinds (P := l.prog) (w := w) (mg := mg) (base := base) F__law_kinds z_range z_list z_sum z_sorted t__law_rows.G t__law_rows.b t__law_rows.g t__law_rows.kp t__law_numbered.G t__law_numbered.b t__law_numbered.g t__law_numbered.kp t__law_fits.G t__law_fits.b t__law_fits.g t__law_fits.kp, b__law_kinds, PySem.W.mg_of X G a__law_kinds, k__law_kinds⟩
  have F_is_odd := fun_mk (st := s_is_odd) l_is_odd c_is_odd k_is_odd
  have b_is_odd := F_is_odd.binds (ps := ["task", "place"]) fun _ _ _ _ _ _ us hl => match us, hl with | [_, _], _ => rfl
  have t_is_odd : TopD l.prog w K mg base 1 "is_odd" ["task", "place"] (spIo CT) := ⟨f_is_odd, _, ok_isodd (P := l.prog) (w := w) (mg := mg) (base := base) F_is_odd TT, b_is_odd, PySem.W.mg_of X G a_is_odd, k_is_odd⟩
  have F_odd_at := fun_mk (st := s_odd_at) l_odd_at c_odd_at k_odd_at
  have b_odd_at := F_odd_at.binds (ps := ["task", "gap"]) fun _ _ _ _ _ _ us hl => match us, hl with | [_, _], _ => rfl
  have t_odd_at : TopD l.prog w K mg base 2 "odd_at" ["task", "gap"] (spOa CT) := ⟨f_odd_at, _, ok_oddat (P := l.prog) (w := w) (mg := mg) (base := base) F_odd_at TT z_len t_is_odd.G t_is_odd.b t_is_odd.g t_is_odd.kp, b_odd_at, PySem.W.mg_of X G a_odd_at, k_odd_at⟩
  have F__law_odd := fun_mk (st := s__law_odd) l__law_odd c__law_odd k__law_odd
  have b__law_odd := F__law_odd.binds (ps := ["task", "gap"]) fun _ _ _ _ _ _ us hl => match us, hl with | [_, _], _ => rfl
  have t__law_odd : TopD l.prog w K mg base 1 "_law_odd" ["task", "gap"] (spLo) := ⟨f__law_odd, _, ok_lodd (P := l.prog) (w := w) (mg := mg) (base := base) F__law_odd z_len, b__law_odd, PySem.W.mg_of X G a__law_odd, k__law_odd⟩
  have F__law_ahead := fun_mk (st := s__law_ahead) l__law_ahead c__law_ahead k__law_ahead
  have b__law_ahead := F__law_ahead.binds (ps := ["house", "task", "aisle"]) fun _ _ _ _ _ _ us hl => match us, hl with | [_, _, _], _ => rfl
  have t__law_ahead : TopD l.prog w K mg base 3 "_law_ahead" ["house", "task", "aisle"] (spLa) := ⟨f__law_ahead, _, ok_lahead (P := l.prog) (w := w) (mg := mg) (base := base) F__law_ahead z_len t__law_kinds.G t__law_kinds.b t__law_kinds.g t__law_kinds.kp t__law_odd.G t__law_odd.b t__law_odd.g t__law_odd.kp, b__law_ahead, PySem.W.mg_of X G a__law_ahead, k__law_ahead⟩
  have F_kinds_ahead := fun_mk (st := s_kinds_ahead) l_kinds_ahead c_kinds_ahead k_kinds_ahead
  have b_kinds_ahead := F_kinds_ahead.binds (ps := ["house", "task", "aisle"]) fun _ _ _ _ _ _ us hl => match us, hl with | [_, _, _], _ => rfl
  have tn_kinds_ahead : TopN l.prog w K mg base (L2.CX l.prog w) 5 "kinds_ahead" ["house", "task", "aisle"] (spKn C CT TH) := ⟨f_kinds_ahead, _, ok_kahead (P := l.prog) (w := w) (mg := mg) (base := base) F_kinds_ahead g_NONE z_len T m_crosses t_check_task.G t_check_task.b t_check_task.g t_check_task.kp t_kinds_of.G t_kinds_of.b t_kinds_of.g t_kinds_of.kp t_odd_at.G t_odd_at.b t_odd_at.g t_odd_at.kp, b_kinds_ahead, PySem.W.mg_of X G a_kinds_ahead, k_kinds_ahead⟩
  have F_kind_of := fun_mk (st := s_kind_of) l_kind_of c_kind_of k_kind_of
  have b_kind_of := F_kind_of.binds (ps := ["house", "task", "plan", "gap"]) fun _ _ _ _ _ _ us hl => match us, hl with | [_, _, _, _], _ => rfl
  have t_kind_of : TopN l.prog w K mg base (L2.CX l.prog w) 5 "kind_of" ["house", "task", "plan", "gap"] (spG C CT CP 2) := ⟨f_kind_of, _, okg_kind_of (P := l.prog) (w := w) (mg := mg) (base := base) F_kind_of t_check_task.G t_check_task.b t_check_task.g t_check_task.kp, b_kind_of, PySem.W.mg_of X G a_kind_of, k_kind_of⟩
  have F_marks_inside := fun_mk (st := s_marks_inside) l_marks_inside c_marks_inside k_marks_inside
  have b_marks_inside := F_marks_inside.binds (ps := ["house", "task", "aisle", "stretch"]) fun _ _ _ _ _ _ us hl => match us, hl with | [_, _, _, _], _ => rfl
  have t_marks_inside : TopN l.prog w K mg base (L2.CX l.prog w) 5 "marks_inside" ["house", "task", "aisle", "stretch"] (spG C CT CP 2) := ⟨f_marks_inside, _, okg_marks_inside (P := l.prog) (w := w) (mg := mg) (base := base) F_marks_inside t_check_task.G t_check_task.b t_check_task.g t_check_task.kp, b_marks_inside, PySem.W.mg_of X G a_marks_inside, k_marks_inside⟩
  have t_kinds_ahead : TopN l.prog w K mg base (L2.CX l.prog w) 5 "kinds_ahead" ["house", "task", "aisle"] (spG C CT CP 1) := ⟨f_kinds_ahead, _, okg_kinds_ahead (P := l.prog) (w := w) (mg := mg) (base := base) F_kinds_ahead t_check_task.G t_check_task.b t_check_task.g t_check_task.kp, b_kinds_ahead, PySem.W.mg_of X G a_kinds_ahead, k_kinds_ahead⟩
  have F_steps := fun_mk (st := s_steps) l_steps c_steps k_steps
  have b_steps := F_steps.binds (ps := ["house", "task", "aisle", "kind"]) fun _ _ _ _ _ _ us hl => match us, hl with | [_, _, _, _], _ => rfl
  have t_steps : TopN l.prog w K mg base (L2.CX l.prog w) 5 "steps" ["house", "task", "aisle", "kind"] (spG C CT CP 2) := ⟨f_steps, _, okg_steps (P := l.prog) (w := w) (mg := mg) (base := base) F_steps t_check_task.G t_check_task.b t_check_task.g t_check_task.kp, b_steps, PySem.W.mg_of X G a_steps, k_steps⟩
  have F_best_steps := fun_mk (st := s_best_steps) l_best_steps c_best_steps k_best_steps
  have b_best_steps := F_best_steps.binds (ps := ["house", "task", "aisle", "kind"]) fun _ _ _ _ _ _ us hl => match us, hl with | [_, _, _, _], _ => rfl
  have t_best_steps : TopN l.prog w K mg base (L2.CX l.prog w) 5 "best_steps" ["house", "task", "aisle", "kind"] (spG C CT CP 2) := ⟨f_best_steps, _, okg_best_steps (P := l.prog) (w := w) (mg := mg) (base := base) F_best_steps t_check_task.G t_check_task.b t_check_task.g t_check_task.kp, b_best_steps, PySem.W.mg_of X G a_best_steps, k_best_steps⟩
  have F_lengths_from := fun_mk (st := s_lengths_from) l_lengths_from c_lengths_from k_lengths_from
  have b_lengths_from := F_lengths_from.binds (ps := ["house", "task"]) fun _ _ _ _ _ _ us hl => match us, hl with | [_, _], _ => rfl
  have t_lengths_from : TopN l.prog w K mg base (L2.CX l.prog w) 5 "lengths_from" ["house", "task"] (spG C CT CP 0) := ⟨f_lengths_from, _, okg_lengths_from (P := l.prog) (w := w) (mg := mg) (base := base) F_lengths_from t_check_task.G t_check_task.b t_check_task.g t_check_task.kp, b_lengths_from, PySem.W.mg_of X G a_lengths_from, k_lengths_from⟩
  have F_flipped_task := fun_mk (st := s_flipped_task) l_flipped_task c_flipped_task k_flipped_task
  have b_flipped_task := F_flipped_task.binds (ps := ["house", "task"]) fun _ _ _ _ _ _ us hl => match us, hl with | [_, _], _ => rfl
  have t_flipped_task : TopN l.prog w K mg base (L2.CX l.prog w) 5 "flipped_task" ["house", "task"] (spG C CT CP 0) := ⟨f_flipped_task, _, okg_flipped_task (P := l.prog) (w := w) (mg := mg) (base := base) F_flipped_task t_check_task.G t_check_task.b t_check_task.g t_check_task.kp, b_flipped_task, PySem.W.mg_of X G a_flipped_task, k_flipped_task⟩
  have F_swapped_task := fun_mk (st := s_swapped_task) l_swapped_task c_swapped_task k_swapped_task
  have b_swapped_task := F_swapped_task.binds (ps := ["house", "task"]) fun _ _ _ _ _ _ us hl => match us, hl with | [_, _], _ => rfl
  have t_swapped_task : TopN l.prog w K mg base (L2.CX l.prog w) 5 "swapped_task" ["house", "task"] (spG C CT CP 0) := ⟨f_swapped_task, _, okg_swapped_task (P := l.prog) (w := w) (mg := mg) (base := base) F_swapped_task t_check_task.G t_check_task.b t_check_task.g t_check_task.kp, b_swapped_task, PySem.W.mg_of X G a_swapped_task, k_swapped_task⟩
  have F_table_from := fun_mk (st := s_table_from) l_table_from c_table_from k_table_from
  have b_table_from := F_table_from.binds (ps := ["house", "task", "aisle", "kinds"]) fun _ _ _ _ _ _ us hl => match us, hl with | [_, _, _, _], _ => rfl
  have t_table_from : TopN l.prog w K mg base (L2.CX l.prog w) 1 "table_from" ["house", "task", "aisle", "kinds"] (fun _ _ _ _ => False) := ⟨f_table_from, _, okn_table_from (P := l.prog) (w := w) (mg := mg) (base := base) F_table_from, b_table_from, PySem.W.mg_of X G a_table_from, k_table_from⟩
  have F__pieces_between := fun_mk (st := s__pieces_between) l__pieces_between c__pieces_between k__pieces_between
  have b__pieces_between := F__pieces_between.binds (ps := ["house", "stretch", "inside"]) fun _ _ _ _ _ _ us hl => match us, hl with | [_, _, _], _ => rfl
  have t__pieces_between : TopN l.prog w K mg base (L2.CX l.prog w) 1 "_pieces_between" ["house", "stretch", "inside"] (fun _ _ _ _ => False) := ⟨f__pieces_between, _, okn__pieces_between (P := l.prog) (w := w) (mg := mg) (base := base) F__pieces_between, b__pieces_between, PySem.W.mg_of X G a__pieces_between, k__pieces_between⟩
  have F_options_between := fun_mk (st := s_options_between) l_options_between c_options_between k_options_between
  have b_options_between := F_options_between.binds (ps := ["house", "aisle", "stretch", "inside"]) fun _ _ _ _ _ _ us hl => match us, hl with | [_, _, _, _], _ => rfl
  have t_options_between : TopN l.prog w K mg base (L2.CX l.prog w) 1 "options_between" ["house", "aisle", "stretch", "inside"] (fun _ _ _ _ => False) := ⟨f_options_between, _, okn_options_between (P := l.prog) (w := w) (mg := mg) (base := base) F_options_between, b_options_between, PySem.W.mg_of X G a_options_between, k_options_between⟩
  have F_best_between := fun_mk (st := s_best_between) l_best_between c_best_between k_best_between
  have b_best_between := F_best_between.binds (ps := ["house", "aisle", "stretch", "inside"]) fun _ _ _ _ _ _ us hl => match us, hl with | [_, _, _, _], _ => rfl
  have t_best_between : TopN l.prog w K mg base (L2.CX l.prog w) 1 "best_between" ["house", "aisle", "stretch", "inside"] (fun _ _ _ _ => False) := ⟨f_best_between, _, okn_best_between (P := l.prog) (w := w) (mg := mg) (base := base) F_best_between, b_best_between, PySem.W.mg_of X G a_best_between, k_best_between⟩
  have F_table := fun_mk (st := s_table) l_table c_table k_table
  have b_table := F_table.binds (ps := ["house", "task", "aisle"]) fun _ _ _ _ _ _ us hl => match us, hl with | [_, _, _], _ => rfl
  have t_table : TopN l.prog w K mg base (L2.CX l.prog w) 6 "table" ["house", "task", "aisle"] (spG C CT CP 1) := ⟨f_table, _, okg_table (P := l.prog) (w := w) (mg := mg) (base := base) F_table t_kinds_ahead.G t_kinds_ahead.b t_kinds_ahead.g t_kinds_ahead.kp t_table_from.G t_table_from.b t_table_from.g t_table_from.kp, b_table, PySem.W.mg_of X G a_table, k_table⟩
  have F_product_of := fun_mk (st := s_product_of) l_product_of c_product_of k_product_of
  have b_product_of := F_product_of.binds (ps := ["house", "task", "first", "last"]) fun _ _ _ _ _ _ us hl => match us, hl with | [_, _, _, _], _ => rfl
  have t_product_of : TopN l.prog w K mg base (L2.CX l.prog w) 7 "product_of" ["house", "task", "first", "last"] (spG C CT CP 2) := ⟨f_product_of, _, okg_product_of (P := l.prog) (w := w) (mg := mg) (base := base) F_product_of t_table.G t_table.b t_table.g t_table.kp, b_product_of, PySem.W.mg_of X G a_product_of, k_product_of⟩
  have F_least_length := fun_mk (st := s_least_length) l_least_length c_least_length k_least_length
  have b_least_length := F_least_length.binds (ps := ["house", "task"]) fun _ _ _ _ _ _ us hl => match us, hl with | [_, _], _ => rfl
  have t_least_length : TopN l.prog w K mg base (L2.CX l.prog w) 6 "least_length" ["house", "task"] (spG C CT CP 0) := ⟨f_least_length, _, okg_least_length (P := l.prog) (w := w) (mg := mg) (base := base) F_least_length g_DONE t_lengths_from.G t_lengths_from.b t_lengths_from.g t_lengths_from.kp, b_least_length, PySem.W.mg_of X G a_least_length, k_least_length⟩
  have F_pieces_of := fun_mk (st := s_pieces_of) l_pieces_of c_pieces_of k_pieces_of
  have b_pieces_of := F_pieces_of.binds (ps := ["house", "task", "aisle", "stretch"]) fun _ _ _ _ _ _ us hl => match us, hl with | [_, _, _, _], _ => rfl
  have t_pieces_of : TopN l.prog w K mg base (L2.CX l.prog w) 6 "pieces_of" ["house", "task", "aisle", "stretch"] (spG C CT CP 2) := ⟨f_pieces_of, _, okg_pieces_of (P := l.prog) (w := w) (mg := mg) (base := base) F_pieces_of t_marks_inside.G t_marks_inside.b t_marks_inside.g t_marks_inside.kp t__pieces_between.G t__pieces_between.b t__pieces_between.g t__pieces_between.kp, b_pieces_of, PySem.W.mg_of X G a_pieces_of, k_pieces_of⟩
  have F_options_of := fun_mk (st := s_options_of) l_options_of c_options_of k_options_of
  have b_options_of := F_options_of.binds (ps := ["house", "task", "aisle", "stretch"]) fun _ _ _ _ _ _ us hl => match us, hl with | [_, _, _, _], _ => rfl
  have t_options_of : TopN l.prog w K mg base (L2.CX l.prog w) 6 "options_of" ["house", "task", "aisle", "stretch"] (spG C CT CP 2) := ⟨f_options_of, _, okg_options_of (P := l.prog) (w := w) (mg := mg) (base := base) F_options_of t_marks_inside.G t_marks_inside.b t_marks_inside.g t_marks_inside.kp t_options_between.G t_options_between.b t_options_between.g t_options_between.kp, b_options_of, PySem.W.mg_of X G a_options_of, k_options_of⟩
  have F_best_options := fun_mk (st := s_best_options) l_best_options c_best_options k_best_options
  have b_best_options := F_best_options.binds (ps := ["house", "task", "aisle", "stretch"]) fun _ _ _ _ _ _ us hl => match us, hl with | [_, _, _, _], _ => rfl
  have t_best_options : TopN l.prog w K mg base (L2.CX l.prog w) 6 "best_options" ["house", "task", "aisle", "stretch"] (spG C CT CP 2) := ⟨f_best_options, _, okg_best_options (P := l.prog) (w := w) (mg := mg) (base := base) F_best_options t_marks_inside.G t_marks_inside.b t_marks_inside.g t_marks_inside.kp t_best_between.G t_best_between.b t_best_between.g t_best_between.kp, b_best_options, PySem.W.mg_of X G a_best_options, k_best_options⟩
  have F__law_call := fun_mk (st := s__law_call) l__law_call c__law_call k__law_call
  have b__law_call := F__law_call.binds (ps := ["which", "house", "task"]) fun _ _ _ _ _ _ us hl => match us, hl with | [_, _, _], _ => rfl
  have t__law_call : TopN l.prog w K mg base (L2.CX l.prog w) 8 "_law_call" ["which", "house", "task"] (spLc C CT CP) := ⟨f__law_call, _, ok_lcall (P := l.prog) (w := w) (mg := mg) (base := base) F__law_call t_kind_of t_kinds_ahead t_steps t_best_steps t_table t_product_of t_lengths_from t_least_length t_flipped_task t_swapped_task t_marks_inside t_pieces_of t_options_of t_best_options, b__law_call, PySem.W.mg_of X G a__law_call, k__law_call⟩
  have F__law_refused := fun_mk (st := s__law_refused) l__law_refused c__law_refused k__law_refused
  have b__law_refused := F__law_refused.binds (ps := ["which", "house", "task"]) fun _ _ _ _ _ _ us hl => match us, hl with | [_, _, _], _ => rfl
  have t__law_refused : TopD l.prog w K mg base 9 "_law_refused" ["which", "house", "task"] (spRg C CT) := ⟨f__law_refused, _, ok_lrefused (P := l.prog) (w := w) (mg := mg) (base := base) F__law_refused (PySem.W.mg_of X G a_Pe) (PySem.W.mg_of X G a_CP) z_isinstance (PySem.W.exm_ref sbCP dcCP tyCP ssCP) ⟨gaCP, ggCP, sbCP, dcCP⟩ noCP { hg := gaCP, hk := ggCP, hs := sbCP, hd := dcCP, ha := acCP, hn := asCP, ht := atCP, hm := amCP } kiCPe t__law_call.G t__law_call.b t__law_call.g t__law_call.kp, b__law_refused, PySem.W.mg_of X G a__law_refused, k__law_refused⟩
  exact ok_law C CT CIT TL TI TH (P := l.prog) (w := w) (mg := mg) (base := base) F_law z_int z_len z_range z_sum z_min z_all MT gTk b_Task___init__ (PySem.W.mg_of X G a_CT) t__law_numbers t__law_house t__law_task t__law_made t_odd_at t__law_odd tn_kinds_ahead t__law_ahead h_cr t__law_refused
theorem tabB0 {base : Heap} {mg : Str → Option Value} {c P : Addr} (h : LamX.TabB base mg c P) : TabB base mg c P := ⟨h.code, h.bm, h.gP⟩
theorem tabG0 {H : Hp} {P : Addr} (h : H P = some (.tbl #[])) : TabG H P := ⟨#[], h, trivial⟩
theorem walk {l : PySem.W.OpenLaw} {q : Program} {loose : List Str} {XP : (Str → Option Value) → Heap → Prop} {YP : World → Heap → Prop} {d : DefRec} {K : Params → PySem.W.Frag} {c0 c1 c2 TI TL TH : Addr}
    (hn : l.most = some 63) (hdf : d.params.defaults = []) (hY : ∀ (w : World) (h : Heap), YP w h → (K w.params).In h) (hT : ∀ (w : World) (h : Heap), YP w h → ∀ P ∈ [TI, TL, TH], h.get? P = some (PySem.W.tabObj #[]))
    (n0 : ∀ w : World, (K w.params).lookup TI = none) (e0 : ∀ w : World, PySem.W.codeHdIn (K w.params) c0 TI = true)
    (n1 : ∀ w : World, (K w.params).lookup TL = none) (e1 : ∀ w : World, PySem.W.codeHdIn (K w.params) c1 TL = true)
    (n2 : ∀ w : World, (K w.params).lookup TH = none) (e2 : ∀ w : World, PySem.W.codeHdIn (K w.params) c2 TH = true)
    (F : ∀ (w : World) (mg : Str → Option Value) (fa : Addr) (h : Heap), (K w.params).In h → h.Ns mainGlobals mg → mg d.name = some (.ref fa) →
      ∃ fd : FuncData, (∀ (s : Shared) (u : Value), BindsTo s fd ⟨[u], []⟩ [("script", u)]) ∧
        ∀ base : Heap, (K w.params).In base → base.Ns mainGlobals mg → TabB base mg c0 TI → TabB base mg c1 TL → TabB base mg c2 TH → FnOk l.prog w (K w.params) mg base CX0 10 fa fd ["script"] (spLawT (K w.params) [TL, TI, TH])) :
    PySem.W.WalkO q loose XP YP l.row.toRowW d [] (fun f vs => PySem.call f vs) := by
  refine LamX.walk_ofTs (n := 63) (k := 10) (x := "script") (CX := fun _ => CX0) hn (by decide) hdf ⟨rfl, by decide, by decide⟩ hY (fun w mg fa h Y KX G hmg => ?_) (fun _ _ _ _ _ z => z)
  obtain ⟨fd, hb, hF⟩ := F w mg fa h KX G hmg
  refine ⟨fd, [(c0, TI), (c1, TL), (c2, TH)], spLawT (K w.params) [TL, TI, TH], fun p hp => ?_, fun p hp => ?_, fun p hp => ?_, hb, fun H a ns hl _ hS hq => ⟨a, ns, rfl, hq, hl, fun T hT => ?_, fun _ => rfl⟩, fun base b1 b2 T => hF base b1 b2 (tabB0 (T (c0, TI) (by simp))) (tabB0 (T (c1, TL) (by simp))) (tabB0 (T (c2, TH) (by simp)))⟩
  all_goals simp only [List.mem_cons, List.mem_nil_iff, or_false] at *
  · rcases hp with rfl | rfl | rfl
    · exact hT w h Y _ (by simp)
    · exact hT w h Y _ (by simp)
    · exact hT w h Y _ (by simp)
  · rcases hp with rfl | rfl | rfl
    · exact n0 w
    · exact n1 w
    · exact n2 w
  · rcases hp with rfl | rfl | rfl
    · exact PySem.W.codeHd_of_K KX (e0 w)
    · exact PySem.W.codeHd_of_K KX (e1 w)
    · exact PySem.W.codeHd_of_K KX (e2 w)
  · rcases hT with hT | hT | hT
    · rw [hT]; exact tabG0 (hS (c1, TL) (by simp))
    · rw [hT]; exact tabG0 (hS (c0, TI) (by simp))
    · rw [hT]; exact tabG0 (hS (c2, TH) (by simp))
end
end Pk
/-- two names taken: no twins of the two largest constants of the head (their equations are most of the compiled file) -/
def PySem.W.Fast.tw14679944514332601497 : Nat := 0
def PySem.W.Fast.tw9728718098133256202 : Nat := 0
open PySem PySem.W PyProof.Rows
local macro_rules | `(tactic| o_head ($_ $k $a $e)) => `(tactic| o_head (kmHook $k $a $e [594, 742, 238]))
set_option maxRecDepth 100000 in
set_option maxHeartbeats 0 in
theorem PySem.Challenge.cw_pickaisle_k27_odd_places_and_errors_holds : PySem.Challenge.rw_pickaisle_k27_odd_places_and_errors.Holds := by
  w_on; o_law; k_head; (case hw => w_witness2)
  k_fill
  refine Pk.walk (l := PySem.Challenge.rw_pickaisle_k27_odd_places_and_errors) (c0 := 596) (c1 := 746) (c2 := 242) (TI := 594) (TL := 742) (TH := 238) rfl rfl (fun w h Y => km_in_of Y) (fun w h Y P hP => km_tabs_of Y P (by simp only [List.mem_cons, List.not_mem_nil, or_false] at hP ⊢; omega)) (fun w => by kernel_rfl) (fun w => by kernel_rfl) (fun w => by kernel_rfl) (fun w => by kernel_rfl) (fun w => by kernel_rfl) (fun w => by kernel_rfl) ?F
  case F =>
    intro w mg fa h KX G hmg
    refine' Pk.all_mk KX G hmg ?a_C ?pg_C ?hd_C ?po_C ?sa_C ?mk_C ?kc_C ?nplengths ?npgaps ?npcrosses ?nptop ?npclosed ?a_CI ?kpCI ?sbCI ?tyCI ?exCI ?c_LONGEST ?c_MOST_STRETCHES ?c_MOST_GAPS ?c_MOST_CLOSED ?z_abs ?z_all ?z_int ?z_len ?z_list ?z_max ?z_range ?z_sorted ?z_sum ?a_House___init__ ?i_House___init__ ?l_House___init__ ?c_House___init__ ?k_House___init__ ?a__are_long ?l__are_long ?c__are_long ?k__are_long ?a__cross_heights ?l__cross_heights ?c__cross_heights ?k__cross_heights ?a_House_is_link ?i_House_is_link ?l_House_is_link ?c_House_is_link ?k_House_is_link ?a_House_crosses ?i_House_crosses ?l_House_crosses ?c_House_crosses ?k_House_crosses ?a_House_is_place ?i_House_is_place ?l_House_is_place ?c_House_is_place ?k_House_is_place ?a_House_is_cross ?i_House_is_cross ?l_House_is_cross ?c_House_is_cross ?k_House_is_cross ?a_CT ?pg_CT ?hd_CT ?po_CT ?sa_CT ?mk_CT ?kc_CT ?a_CIT ?kpCIT ?sbCIT ?tyCIT ?exCIT ?tstart ?tend ?tppicks ?c_MOST_PICKS ?z_set ?a_Task___init__ ?i_Task___init__ ?l_Task___init__ ?c_Task___init__ ?k_Task___init__ ?pa_Task_picks ?pg_Task_picks ?pt_Task_picks ?pr_Task_picks ?l_Task_picks ?c_Task_picks ?k_Task_picks ?a_CP ?kpCP ?sbCP ?tyCP ?a_Pe ?dcCP ?ssCP ?xlCP ?saCP ?noCP ?gaCP ?ggCP ?a_iCP ?tiCP ?l_iCP ?c_iCP ?k_iCP ?a_check_task ?l_check_task ?c_check_task ?k_check_task ?a__law_row ?l__law_row ?c__law_row ?k__law_row ?a__law_numbers ?l__law_numbers ?c__law_numbers ?k__law_numbers ?z_min ?z_tuple ?z_any ?z_isinstance ?z_str ?c_NONE ?c_DONE ?c_MOST_ODD ?a__law_crosses ?l__law_crosses ?c__law_crosses ?k__law_crosses ?a__law_link ?l__law_link ?c__law_link ?k__law_link ?a__law_house ?l__law_house ?c__law_house ?k__law_house ?a__law_cross ?l__law_cross ?c__law_cross ?k__law_cross ?a__law_place ?l__law_place ?c__law_place ?k__law_place ?a__law_task ?l__law_task ?c__law_task ?k__law_task ?a__law_made ?l__law_made ?c__law_made ?k__law_made ?a__rows_behind ?l__rows_behind ?c__rows_behind ?k__rows_behind ?a__has_number ?l__has_number ?c__has_number ?k__has_number ?a__odd_groups ?l__odd_groups ?c__odd_groups ?k__odd_groups ?a_fits ?l_fits ?c_fits ?k_fits ?a_kinds_of ?l_kinds_of ?c_kinds_of ?k_kinds_of ?a__law_numbered ?l__law_numbered ?c__law_numbered ?k__law_numbered ?a__law_fits ?l__law_fits ?c__law_fits ?k__law_fits ?a__law_rows ?l__law_rows ?c__law_rows ?k__law_rows ?a__law_kinds ?l__law_kinds ?c__law_kinds ?k__law_kinds ?a_is_odd ?l_is_odd ?c_is_odd ?k_is_odd ?a_odd_at ?l_odd_at ?c_odd_at ?k_odd_at ?a__law_odd ?l__law_odd ?c__law_odd ?k__law_odd ?a__law_ahead ?l__law_ahead ?c__law_ahead ?k__law_ahead ?a_kinds_ahead ?l_kinds_ahead ?c_kinds_ahead ?k_kinds_ahead ?a_kind_of ?l_kind_of ?c_kind_of ?k_kind_of ?a_marks_inside ?l_marks_inside ?c_marks_inside ?k_marks_inside ?a_steps ?l_steps ?c_steps ?k_steps ?a_best_steps ?l_best_steps ?c_best_steps ?k_best_steps ?a_lengths_from ?l_lengths_from ?c_lengths_from ?k_lengths_from ?a_flipped_task ?l_flipped_task ?c_flipped_task ?k_flipped_task ?a_swapped_task ?l_swapped_task ?c_swapped_task ?k_swapped_task ?a_table_from ?l_table_from ?c_table_from ?k_table_from ?a__pieces_between ?l__pieces_between ?c__pieces_between ?k__pieces_between ?a_options_between ?l_options_between ?c_options_between ?k_options_between ?a_best_between ?l_best_between ?c_best_between ?k_best_between ?a_table ?l_table ?c_table ?k_table ?a_product_of ?l_product_of ?c_product_of ?k_product_of ?a_least_length ?l_least_length ?c_least_length ?k_least_length ?a_pieces_of ?l_pieces_of ?c_pieces_of ?k_pieces_of ?a_options_of ?l_options_of ?c_options_of ?k_options_of ?a_best_options ?l_best_options ?c_best_options ?k_best_options ?a__law_call ?l__law_call ?c__law_call ?k__law_call ?acCP ?asCP ?atCP ?amCP ?kiCPe ?a__law_refused ?l__law_refused ?c__law_refused ?k__law_refused ?a_law ?l_law ?c_law ?k_law
    (case a_C => k_is)
    (case pg_C => k_is)
    (case hd_C => k_is)
    (case po_C => k_is)
    (case sa_C => k_is)
    (case mk_C => k_is)
    (case kc_C => k_is)
    (case nplengths => k_is)
    (case npgaps => k_is)
    (case npcrosses => k_is)
    (case nptop => k_is)
    (case npclosed => k_is)
    (case a_CI => k_is)
    (case kpCI => k_is)
    (case sbCI => k_is)
    (case tyCI => k_is)
    (case exCI => k_exc)
    (case c_LONGEST => k_is)
    (case c_MOST_STRETCHES => k_is)
    (case c_MOST_GAPS => k_is)
    (case c_MOST_CLOSED => k_is)
    (case z_abs => k_is)
    (case z_all => k_is)
    (case z_int => k_is)
    (case z_len => k_is)
    (case z_list => k_is)
    (case z_max => k_is)
    (case z_range => k_is)
    (case z_sorted => k_is)
    (case z_sum => k_is)
    (case a_House___init__ => k_is)
    (case i_House___init__ => k_is)
    (case l_House___init__ => k_is)
    (case c_House___init__ => k_is)
    (case k_House___init__ => k_is)
    (case a__are_long => k_is)
    (case l__are_long => k_is)
    (case c__are_long => k_is)
    (case k__are_long => k_is)
    (case a__cross_heights => k_is)
    (case l__cross_heights => k_is)
    (case c__cross_heights => k_is)
    (case k__cross_heights => k_is)
    (case a_House_is_link => k_is)
    (case i_House_is_link => k_is)
    (case l_House_is_link => k_is)
    (case c_House_is_link => k_is)
    (case k_House_is_link => k_is)
    (case a_House_crosses => k_is)
    (case i_House_crosses => k_is)
    (case l_House_crosses => k_is)
    (case c_House_crosses => k_is)
    (case k_House_crosses => k_is)
    (case a_House_is_place => k_is)
    (case i_House_is_place => k_is)
    (case l_House_is_place => k_is)
    (case c_House_is_place => k_is)
    (case k_House_is_place => k_is)
    (case a_House_is_cross => k_is)
    (case i_House_is_cross => k_is)
    (case l_House_is_cross => k_is)
    (case c_House_is_cross => k_is)
    (case k_House_is_cross => k_is)
    (case a_CT => k_is)
    (case pg_CT => k_is)
    (case hd_CT => k_is)
    (case po_CT => k_is)
    (case sa_CT => k_is)
    (case mk_CT => k_is)
    (case kc_CT => k_is)
    (case a_CIT => k_is)
    (case kpCIT => k_is)
    (case sbCIT => k_is)
    (case tyCIT => k_is)
    (case exCIT => k_exc)
    (case tstart => k_is)
    (case tend => k_is)
    (case tppicks => k_is)
    (case c_MOST_PICKS => k_is)
    (case z_set => k_is)
    (case a_Task___init__ => k_is)
    (case i_Task___init__ => k_is)
    (case l_Task___init__ => k_is)
    (case c_Task___init__ => k_is)
    (case k_Task___init__ => k_is)
    (case pa_Task_picks => k_is)
    (case pg_Task_picks => k_is)
    (case pt_Task_picks => k_is)
    (case pr_Task_picks => k_is)
    (case l_Task_picks => k_is)
    (case c_Task_picks => k_is)
    (case k_Task_picks => k_is)
    (case a_CP => k_is)
    (case kpCP => k_is)
    (case sbCP => k_is)
    (case tyCP => k_is)
    (case a_Pe => k_is)
    (case dcCP => k_is)
    (case ssCP => first | k_is | rfl)
    (case xlCP => k_is)
    (case saCP => k_is)
    (case noCP => k_is)
    (case gaCP => k_is)
    (case ggCP => k_is)
    (case a_iCP => k_is)
    (case tiCP => k_is)
    (case l_iCP => k_is)
    (case c_iCP => k_is)
    (case k_iCP => k_is)
    (case a_check_task => k_is)
    (case l_check_task => k_is)
    (case c_check_task => k_is)
    (case k_check_task => k_is)
    (case a__law_row => k_is)
    (case l__law_row => k_is)
    (case c__law_row => k_is)
    (case k__law_row => k_is)
    (case a__law_numbers => k_is)
    (case l__law_numbers => k_is)
    (case c__law_numbers => k_is)
    (case k__law_numbers => k_is)
    (case z_min => k_is)
    (case z_tuple => k_is)
    (case z_any => k_is)
    (case z_isinstance => k_is)
    (case z_str => k_is)
    (case c_NONE => k_is)
    (case c_DONE => k_is)
    (case c_MOST_ODD => k_is)
    (case a__law_crosses => k_is)
    (case l__law_crosses => k_is)
    (case c__law_crosses => k_is)
    (case k__law_crosses => k_is)
    (case a__law_link => k_is)
    (case l__law_link => k_is)
    (case c__law_link => k_is)
    (case k__law_link => k_is)
    (case a__law_house => k_is)
    (case l__law_house => k_is)
    (case c__law_house => k_is)
    (case k__law_house => k_is)
    (case a__law_cross => k_is)
    (case l__law_cross => k_is)
    (case c__law_cross => k_is)
    (case k__law_cross => k_is)
    (case a__law_place => k_is)
    (case l__law_place => k_is)
    (case c__law_place => k_is)
    (case k__law_place => k_is)
    (case a__law_task => k_is)
    (case l__law_task => k_is)
    (case c__law_task => k_is)
    (case k__law_task => k_is)
    (case a__law_made => k_is)
    (case l__law_made => k_is)
    (case c__law_made => k_is)
    (case k__law_made => k_is)
    (case a__rows_behind => k_is)
    (case l__rows_behind => k_is)
    (case c__rows_behind => k_is)
    (case k__rows_behind => k_is)
    (case a__has_number => k_is)
    (case l__has_number => k_is)
    (case c__has_number => k_is)
    (case k__has_number => k_is)
    (case a__odd_groups => k_is)
    (case l__odd_groups => k_is)
    (case c__odd_groups => k_is)
    (case k__odd_groups => k_is)
    (case a_fits => k_is)
    (case l_fits => k_is)
    (case c_fits => k_is)
    (case k_fits => k_is)
    (case a_kinds_of => k_is)
    (case l_kinds_of => k_is)
    (case c_kinds_of => k_is)
    (case k_kinds_of => k_is)
    (case a__law_numbered => k_is)
    (case l__law_numbered => k_is)
    (case c__law_numbered => k_is)
    (case k__law_numbered => k_is)
    (case a__law_fits => k_is)
    (case l__law_fits => k_is)
    (case c__law_fits => k_is)
    (case k__law_fits => k_is)
    (case a__law_rows => k_is)
    (case l__law_rows => k_is)
    (case c__law_rows => k_is)
    (case k__law_rows => k_is)
    (case a__law_kinds => k_is)
    (case l__law_kinds => k_is)
    (case c__law_kinds => k_is)
    (case k__law_kinds => k_is)
    (case a_is_odd => k_is)
    (case l_is_odd => k_is)
    (case c_is_odd => k_is)
    (case k_is_odd => k_is)
    (case a_odd_at => k_is)
    (case l_odd_at => k_is)
    (case c_odd_at => k_is)
    (case k_odd_at => k_is)
    (case a__law_odd => k_is)
    (case l__law_odd => k_is)
    (case c__law_odd => k_is)
    (case k__law_odd => k_is)
    (case a__law_ahead => k_is)
    (case l__law_ahead => k_is)
    (case c__law_ahead => k_is)
    (case k__law_ahead => k_is)
    (case a_kinds_ahead => k_is)
    (case l_kinds_ahead => k_is)
    (case c_kinds_ahead => k_is)
    (case k_kinds_ahead => k_is)
    (case a_kind_of => k_is)
    (case l_kind_of => k_is)
    (case c_kind_of => k_is)
    (case k_kind_of => k_is)
    (case a_marks_inside => k_is)
    (case l_marks_inside => k_is)
    (case c_marks_inside => k_is)
    (case k_marks_inside => k_is)
    (case a_steps => k_is)
    (case l_steps => k_is)
    (case c_steps => k_is)
    (case k_steps => k_is)
    (case a_best_steps => k_is)
    (case l_best_steps => k_is)
    (case c_best_steps => k_is)
    (case k_best_steps => k_is)
    (case a_lengths_from => k_is)
    (case l_lengths_from => k_is)
    (case c_lengths_from => k_is)
    (case k_lengths_from => k_is)
    (case a_flipped_task => k_is)
    (case l_flipped_task => k_is)
    (case c_flipped_task => k_is)
    (case k_flipped_task => k_is)
    (case a_swapped_task => k_is)
    (case l_swapped_task => k_is)
    (case c_swapped_task => k_is)
    (case k_swapped_task => k_is)
    (case a_table_from => k_is)
    (case l_table_from => k_is)
    (case c_table_from => k_is)
    (case k_table_from => k_is)
    (case a__pieces_between => k_is)
    (case l__pieces_between => k_is)
    (case c__pieces_between => k_is)
    (case k__pieces_between => k_is)
    (case a_options_between => k_is)
    (case l_options_between => k_is)
    (case c_options_between => k_is)
    (case k_options_between => k_is)
    (case a_best_between => k_is)
    (case l_best_between => k_is)
    (case c_best_between => k_is)
    (case k_best_between => k_is)
    (case a_table => k_is)
    (case l_table => k_is)
    (case c_table => k_is)
    (case k_table => k_is)
    (case a_product_of => k_is)
    (case l_product_of => k_is)
    (case c_product_of => k_is)
    (case k_product_of => k_is)
    (case a_least_length => k_is)
    (case l_least_length => k_is)
    (case c_least_length => k_is)
    (case k_least_length => k_is)
    (case a_pieces_of => k_is)
    (case l_pieces_of => k_is)
    (case c_pieces_of => k_is)
    (case k_pieces_of => k_is)
    (case a_options_of => k_is)
    (case l_options_of => k_is)
    (case c_options_of => k_is)
    (case k_options_of => k_is)
    (case a_best_options => k_is)
    (case l_best_options => k_is)
    (case c_best_options => k_is)
    (case k_best_options => k_is)
    (case a__law_call => k_is)
    (case l__law_call => k_is)
    (case c__law_call => k_is)
    (case k__law_call => k_is)
    (case acCP => k_is)
    (case asCP => k_is)
    (case atCP => k_is)
    (case amCP => k_is)
    (case kiCPe => first | k_is | kernel_rfl)
    (case a__law_refused => k_is)
    (case l__law_refused => k_is)
    (case c__law_refused => k_is)
    (case k__law_refused => k_is)
    (case a_law => k_is)
    (case l_law => k_is)
    (case c_law => k_is)
    (case k_law => k_is)

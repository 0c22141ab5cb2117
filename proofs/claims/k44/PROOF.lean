import PyProof.Rows.All
import Wide.All
import OpenK.AllK
import Wide.FinOn
import KE.KExcIs
import KE.SortData
import KE.KNestM
import PyProof.StrBlock2
import HandS.ForMost
import HandS.Deep
import HandS.TupSets
import HandS.SortRule
import HandS.ForExc
import HandS.ExcInit
import HandS.ExcIs
import HandS.ExcField
import HandS.ExcValue
import HandS.ExcOwn
import HandS.Property
import HandS.CallSlots
import HandS.Style
import HandS.IsInst
import HandS.Codes
import HandS.TupLen
import HandS.Small
import HandS.EndTab
import KE.DataMinMax
import HandS.Dict
import HandS.DictComp
import HandS.Comp
import HandS.Conv
import HandS.Exc
import HandS.GenList
import HandS.Nested
import HandS.AnyAll
import HandS.TryOnly
import HandS.Words
import HandS.WordsExc
import HandS.SetFor
import HandS.Strs
import KE.KDictDisplayH
import HandS.Evl
import HandS.Iter
import KE.KItemsList
import HandS.ListItems
import PyProof.ReprBulk
import PyProof.ReprText
import PyProof.SetRoads
import HandS.Flow
import HandS.WrittenGet
import PySem.Challenge.RW_pickaisle_k44_walks_told_in_short
set_option Elab.async false
set_option linter.all false
set_option maxRecDepth 100000
set_option maxHeartbeats 8000000
open PySem PySem.W PyProof.Rows in
open_top hd for PySem.Challenge.rw_pickaisle_k44_walks_told_in_short
namespace Pk
open PySem L2
/-! ### errors that are held as values -/
/-- at a: an error of the class at D that is held; fs: its own attributes -/
def XvAt (H : Hp) (a D : Addr) (fs : List (Str × V)) : Prop :=
  (H a = some (ExO (.ref D) a) ∧ fs = []) ∨ ∃ d, H a = some (exo a D (some d)) ∧ H d = some (exd d fs)
theorem XvAt.same {H H' : Hp} {a D : Addr} {fs : List (Str × V)} (h : XvAt H a D fs) (k : Same H H') : XvAt H' a D fs := by
  rcases h with ⟨h, e⟩ | ⟨d, h, e⟩
  · exact .inl ⟨k _ _ h, e⟩
  · exact .inr ⟨d, k _ _ h, k _ _ e⟩
section
variable {X : Cx} {pins : List (Addr × Obj)} {σ : St} {H : Hp} {s : Shared}
theorem xv_inst {a D : Addr} {fs : List (Str × V)} (I : Inv X pins σ H s) (h : XvAt H a D fs) :
    ∃ oe od, PySem.W.InstAt s.heap a oe D od ∧ ∀ (f : Str) (v : V), fs.lookup f = some v → ∃ o u, od = some o ∧ PySem.W.lookIn f o = some (some u) ∧ RelV v u := by
  rcases h with ⟨h, rfl⟩ | ⟨d, h, e⟩
  · obtain ⟨⟨oe, vs, ho, hz, hd, h1, _⟩, _, _⟩ := I.hok a _ h
    refine ⟨oe, none, ⟨ho, hz.1, by unfold PySem.W.notCls; rw [hd], by rw [hz.2]; trivial⟩, fun f v l => ?_⟩
    cases l
  · obtain ⟨t1, ho⟩ := exo_at I.hok h
    obtain ⟨mA, hn, hr⟩ := exd_at I.hok e
    obtain ⟨od, hod, hl⟩ := lookIn_ns hn
    refine ⟨_, some od, ⟨ho, rfl, rfl, hod⟩, fun f v l => ?_⟩
    have q := hr f
    rw [l] at q
    obtain ⟨u, hu, ru⟩ := RelO.some_of q
    exact ⟨od, u, rfl, by rw [hl, hu], ru⟩
end
/-- isinstance(e, c), e an error that is held -/
def rIsV (K : PySem.W.Frag) : List V → Hp → VK → Prop := fun xs H Q => ∃ (a D : Addr) (fs : List (Str × V)) (c : V) (cv : Value) (b : Bool),
  xs = [.ref a, c] ∧ XvAt H a D fs ∧ ExcC K D ∧ (∀ u, RelV c u → u = cv) ∧ PySem.W.kitOne K (.ref D) cv = some b ∧ Q (.bl b) H
theorem call_isV {X : Cx} : CallR X (.builtin "isinstance") (rIsV X.K) := by
  intro pins s σ H xs us Q I r h
  obtain ⟨a, D, fs, c, cv, b, rfl, hx, C, hcv, e, q⟩ := h
  cases r with
  | cons rx rr =>
    cases rr with
    | cons rt rr =>
      cases rr
      cases rx
      obtain rfl := hcv _ rt
      obtain ⟨oe, od, J, _⟩ := xv_inst I hx
      have hcl : (PySem.W.clsIn X.K D).isSome = true := by
        obtain ⟨cd, hc, _⟩ := PySem.W.any_some C.hd
        rw [hc]
        rfl
      exact PySem.W.kia_one (PySem.W.kitx_exc hcl C.hg C.hk C.hs C.ha C.hn C.ht C.hm) I.kIn J e (fun z => nomatch z)
        fun tk => ⟨.bl b, H, I.kept (t' := tk) (fun _ _ z => z), rfl, q⟩
/-- e.f, e an error that is held -/
def tXvF (K : PySem.W.Frag) (n : Str) (te : TE) : TE := fun σ H Q => te σ H fun x H1 => ∃ (a C : Addr) (fs : List (Str × V)) (v : V),
  x = .ref a ∧ XvAt H1 a C fs ∧ XfC K C ∧ PySem.W.findIn K (.ref C) n = some none ∧ fs.lookup n = some v ∧ Q v H1
theorem pe_xvF {X : Cx} {e : Expr} {te : TE} {pos : Pos} {n : Str} (he : PE X e te) (hb : attributeBase e n X.env (eval e X.env) = eval e X.env := by rfl) :
    PE X (.Attribute e n pos) (tXvF X.K n te) := by
  refine ⟨fun pins s σ H Q I h => attr_of hb (thn (he.run pins s σ H _ I h) fun u s1 hh => ?_)⟩
  obtain ⟨x, H1, I1, rx, a, C, fs, v, rfl, hx, T, hno, l, q⟩ := hh
  obtain rfl : u = Value.ref a := rx
  obtain ⟨oe, od, J, hf⟩ := xv_inst I1 hx
  obtain ⟨o, u, rfl, hl, ru⟩ := hf n v l
  exact HandSPX.exc_get I1.kIn J T.ga T.gg T.exC (PySem.W.findObj_own T.hdC hno rfl hl) (handed_of ru) ⟨v, H1, I1.tok _, ru, q⟩
/-- C(e, ..) as a value, C an own class of errors whose __init__ keeps sp -/
def tMkV (C : Addr) (sp : Sp) (dvs : List V) (ta : TA) : TE := fun σ H Q => ta σ H fun vs H1 => vs.length ≤ 1000 ∧ ∀ a, H1 a = none →
  sp (.ref a :: (vs ++ dvs)) (upd H1 a (exo a C none)) (fun v H2 => v = .non ∧ Q (.ref a) H2) (fun _ _ _ => False)
section
variable {X : Cx} {e : Expr} {es : List Expr} {te : TE} {ta : TA} {p pos : Pos}
theorem pe_oexV {CX : CXT} {x : Str} {C fI : Addr} {k : Nat} {fd : FuncData} {ps : List Str} {sp : Sp} {ds : List Value} {dvs : List V} (T : OexC X.K C)
    (iC : PySem.W.findIn X.K (.ref C) "__init__" = some (some (.ref fI))) (tI : PySem.W.typeIn X.K (.ref fI) = some (.type "function"))
    (F1 : FnOk X.prog X.w X.K X.mg X.base CX k fI fd ps sp) (hr : Room (k + 1) X.A) (hb : Binds X.K fd ps ds) (hd : Vals dvs ds) (hx : Passes CX X (fun _ _ _ => False)) (hg : Gl X x) (hm : X.mg x = some (.ref C)) (ha : PA X (e :: es) ta)
    (hdb : (x == ("__debug__" : Str)) = false := by decide) (he : starEach (e :: es) X.env = (false, eval e X.env) :: starEach es X.env := by rfl) (hpl : (backTo pos (starEach es X.env)).any (·.1) = false := by rfl) :
    PE X (.Call (.Name x p) (e :: es) [] pos) (tMkV C sp dvs ta) := by
  refine ⟨fun pins s σ H Q I h => ?_⟩
  obtain ⟨nm, qn, N, bs, bm, sn, sb, ab, co, dd, k0, k1, k2, k3, k5, hC, hbm⟩ := T.cls
  refine wpAny_Call_Name_kw (ld_glob I hg hm ?_ hdb)
  refine PySem.W.callWith_K (h₀ := X.base) I.ok.mod.kin T.kC (thn (ha.run pos pins s σ H _ I h) fun us s1 hh => ?_) he hpl
  obtain ⟨vs, H1, I1, r1, hz, q1⟩ := hh
  refine ⟨I1.kIn, ?_⟩
  show wpAny _ _ (call (.ref C) us) _ _ _
  obtain ⟨hp, g, dr, tk, os⟩ := s1
  have hsz : hp.objs.size ≤ hp.objs.size + 1 := Nat.le_add_right _ 1
  have hn : H1 (hp.objs.size + 1) = none := I1.hok.fresh hsz
  have kk : ∀ b o, hp.get? b = some o → ((hp.push (PySem.W.kdv_tup us)).push (PySem.HandSPX.excO C hp.objs.size)).get? b = some o :=
    fun b o z => Heap.get?_push_of_some _ (Heap.get?_push_of_some _ z)
  have hget : ((hp.push (PySem.W.kdv_tup us)).push (PySem.HandSPX.excO C hp.objs.size)).get? (hp.objs.size + 1) = some (PySem.HandSPX.excO C hp.objs.size) := by
    heap_get
  have I2 : Inv X pins σ (upd H1 (hp.objs.size + 1) (exo (hp.objs.size + 1) C none))
      ⟨(hp.push (PySem.W.kdv_tup us)).push (PySem.HandSPX.excO C hp.objs.size), g, dr, tk, os⟩ := I1.laid (t' := tk) kk hsz (exo_ok hget)
  have r2 : Vals (V.ref (hp.objs.size + 1) :: (vs ++ dvs)) (Value.ref (hp.objs.size + 1) :: (us ++ ds)) := .cons rfl (r1.append hd)
  have hq := q1 (hp.objs.size + 1) hn
  have hl : (Value.ref (hp.objs.size + 1) :: us ++ ds).length = ps.length := by
    have z := r2.length
    rw [F1.len _ _ _ _ hq] at z
    exact z.symm
  have hus : us.length ≤ sizeLine := by
    have z := Paired.length r1
    rw [sizeLine_eq]
    omega
  refine wpAny_call (PySem.HandSPX.call_own F.excBase_ValueError (fun Y => PySem.HandSPX.refsVE_contains Y bm hbm) (I1.kIn _ _ hC)
    (PySem.W.looks_findIn I1.kIn iC) (fun self => PySem.W.bind_fn I1.kIn self tI) hus ?_)
  refine codeAny_mono (F1.run _ X.stack _ _ ⟨Value.ref (hp.objs.size + 1) :: us, []⟩ (Value.ref (hp.objs.size + 1) :: (us ++ ds)) _ _
    (fun _ _ _ => False) (hr.make C us []) (I2.env0.make C us []) (hb _ (Value.ref (hp.objs.size + 1) :: us) I2.kIn hl) r2 hq) fun r s' hq' => ?_
  cases r with
  | error er => exact hx pins σ _ _ er s' I2 hq'
  | ok fl =>
    cases fl with
    | ret u =>
      obtain ⟨v, H3, I3, rv, ev, q3⟩ := I2.after hq'
      subst ev
      exact ⟨rv, V.ref (hp.objs.size + 1), H3, I3, rfl, q3⟩
    | next => exact hq'.elim
    | brk => exact hq'.elim
    | cont => exact hq'.elim
end
/-- __init__(self, v): self.f = v, of an own class of errors -/
def spXI (K : PySem.W.Frag) (C : Addr) (f : Str) : Sp := fun vs H Q _ => ∃ (a : Addr) (v : V), vs = [.ref a, v] ∧ OexC K C ∧ PySem.W.findIn K (.ref C) f = some none ∧ H a = some (exo a C none) ∧
  ∀ dx, H dx = none → dx ≠ a → Q .non (upd (upd H dx (exd dx [(f, v)])) a (exo a C (some dx)))
/-- text * n -/
theorem op_rep_str {X : Cx} : OpR X (binaryOp .Mult) (fun x y H Q => ∃ z i, x = .str z ∧ y = .int i ∧ MulOk z i ∧ Q (.str (Txt.mul z i)) H) := by
  intro pins s σ H x y v u Q I rx ry h
  obtain ⟨z, i, rfl, rfl, hc, q⟩ := h
  obtain ⟨t, rfl⟩ := rx
  obtain ⟨t', rfl⟩ := ry
  exact SB.mul hc fun t' k => ⟨.str (Txt.mul z i), H, I.tok _, ⟨_, rfl⟩, q⟩
end Pk

namespace Pk
open PySem L2 PySem.Spec PyProof.Rows GenW GxR NdefX
/-! ### all and any over a generator expression whose element may call -/
/-- the generator's own frame -/
abbrev envG (X : Cx) (sc : Scope) (C : Addr) (cd : Value) : Env := genEnv sc (cloFrom X.env.cells sc.names []) C cd builtinsNs X.env
/-- and its surroundings; s0, H0: ahead of its frame; fp: the iterator's objects -/
abbrev cxG (X : Cx) (N : List Str) (sc : Scope) (B : Around) (s0 : Shared) (H0 : Hp) (cd : Value) (fp : List Addr) : Cx :=
  { X with
    A := B
    N := N
    s_0 := s0
    H_0 := H0
    env := envG X sc s0.heap.objs.size cd
    outer := X.stack
    stack := envG X sc s0.heap.objs.size cd :: X.stack
    ex := fp
    fn := fun _ => false
    calm := true
    pn := []
    xe := fun _ _ => False }
/-- what its scope must keep -/
structure GSc (env : Env) (sc : Scope) : Prop where
  kind : sc.kind = .function
  co : sc.isCoroutine = false
  cell : ∀ y ∈ sc.names, y.2 ≠ .cell
  dot : sc.names.lookup (".0" : Str) = some NameKind.local
  free : ∀ y ∈ sc.names, y.2 = .free → ∃ c, env.cells.lookup y.1 = some c
/-- the free names' slots: fr tells for each name its slot outside, none for an own one -/
def slotsG (fr : List (Option Nat)) (σ : L2.St) : L2.St := fr.map fun o => match o with
  | none => none
  | some j => (σ[j]?).join
structure GFr (X : Cx) (sc : Scope) (N : List Str) (fr : List (Option Nat)) : Prop where
  len : fr.length = N.length
  at_ : ∀ (i : Nat) (y : Str) (j : Nat), N[i]? = some y → fr[i]? = some (some j) → sc.names.lookup y = some .free ∧ X.N[j]? = some y ∧ (X.env.scope.names.lookup y = some .cell ∨ X.env.scope.names.lookup y = some .free)
theorem slotsG_some {fr : List (Option Nat)} {σ : L2.St} {i : Nat} {v : V} (h : (slotsG fr σ)[i]? = some (some v)) : ∃ j, fr[i]? = some (some j) ∧ σ[j]? = some (some v) := by
  unfold slotsG at h
  rw [List.getElem?_map] at h
  cases e : fr[i]? with
  | none => rw [e] at h; cases h
  | some o =>
    rw [e] at h
    cases o with
    | none => simp at h
    | some j =>
      refine ⟨j, rfl, ?_⟩
      have h2 : (σ[j]?).join = some v := by simpa using h
      cases q : σ[j]? with
      | none => rw [q] at h2; cases h2
      | some w => rw [q] at h2; cases w with
        | none => cases h2
        | some v' => cases h2; rfl
section
variable {X : Cx} {pins : List (Addr × Obj)} {σ : L2.St} {H : Hp} {s0 s5 : Shared}
/-- all stands that stood -/
theorem Inv.stood (I : Inv X pins σ H s0) (os : s5.os = s0.os) (k : ∀ b o, s0.heap.get? b = some o → s5.heap.get? b = some o) (hb : AllBare s5.gens) : Inv X pins σ H s5 :=
  I.call' (ch := []) os (Un.kept k) (I.hok.kept k) hb fun b z => absurd z (by simp)
theorem start_gen {N : List Str} {sc : Scope} {B : Around} {cd : Value} {fp : List Addr} {a : Addr} {o : Obj} {m : Str → Option Value}
    {fr : List (Option Nat)} (I : Inv X pins σ H s0) (S : GSc X.env sc) (FR : GFr X sc N fr) (hf : ∀ b ∈ fp, FpOk X pins H b ∧ b < s0.heap.objs.size) (hB : B.handled = none)
    (hfr : B.frames = some (envG X sc s0.heap.objs.size cd :: X.stack)) (os : s5.os = s0.os) (hb : AllBare s5.gens)
    (k : ∀ b u, s0.heap.get? b = some u → s5.heap.get? b = some u) (hn : s5.heap.Ns s0.heap.objs.size m)
    (ha : s0.heap.objs.size < a) (hao : s5.heap.get? a = some o) (hod : ∀ v, o.data ≠ .cell v) :
    Inv (cxG X N sc B s0 H cd fp) [(a, o)] (slotsG fr σ) H s5 := by
  have cm : ∀ {y c}, (cloFrom X.env.cells sc.names []).lookup y = some c → X.env.cells.lookup y = some c := fun {y c} e => clo_cm S.free e
  have nofs : ∀ b ∈ frs X.stack, b < s0.heap.objs.size := fun b hb => by
    rcases List.mem_cons.mp (I.stkSub b hb) with z | z
    · rw [z]; exact I.lt
    · obtain ⟨_, u, hu, _⟩ := I.funs.mem z
      exact Heap.lt_size hu
  refine ⟨⟨I.ok.mod, S.kind, I.ok.glob, rfl, Nat.le_refl _, fun y z c e1 e2 => I.ok.inj y z c (cm e1) (cm e2), fun y hy => ?_, fun y c z => ?_, fun _ => hB, hfr, .inr ⟨rfl, rfl⟩,
      fun b hb => ⟨Nat.ne_of_lt (hf b hb).2, fun y c e z => (hf b hb).1.2.2.2.2.1 y c (cm e) z⟩, I.bs, Nat.le_trans I.ok.bsz I.sz, fun b u e hb => ?_, fun b hb z => ?_, I.stack, I.stkFree⟩,
    os, hb, Un.kept k, ⟨m, hn, fun i y v h1 h2 => ?_⟩, fun y c e => ?_, I.hok.fresh (Nat.le_refl _), fun y c e => I.freeC y c (cm e), fun p hp => ?_, I.hok.kept k, ?_⟩
  · have hy : sc.names.lookup y = some .cell ∨ sc.names.lookup y = some .free := hy
    rcases hy with hy | hy
    · exact absurd rfl (S.cell _ (PySem.mem_of_lookup hy))
    · have hm := PySem.mem_of_lookup hy
      obtain ⟨c, hc⟩ := S.free _ hm rfl
      exact ⟨c, clo_has S.free hm hc⟩
  · exact absurd (show (false : Bool) = true from z) (by decide)
  · rcases (hf b hb).1.2.2.2.1 with z | z
    · exact I.ok.noex b u e z
    · exact absurd (Nat.lt_of_lt_of_le (Heap.lt_size e) (Nat.le_trans I.ok.bsz z)) (Nat.lt_irrefl _)
  · rcases List.mem_cons.mp (I.stkSub b z) with z | z
    · exact (hf b hb).1.2.1 z
    · exact (hf b hb).1.2.2.1 z
  · obtain ⟨j, e1, e2⟩ := slotsG_some h2
    obtain ⟨f1, f2, f3⟩ := FR.at_ i y j h1 e1
    obtain ⟨m0, _, hl⟩ := I.loc
    obtain ⟨u, r, lk⟩ := hl j y v f2 e2 (f3.elim (fun z => .inr (.inl z)) fun z => .inr (.inr z))
    refine fun _ => ⟨u, r, .inr ⟨.inr f1, ?_⟩⟩
    rcases lk with ⟨z, _⟩ | ⟨_, c, hc, hv⟩
    · have z : X.env.scope.names.lookup y = some .local := z
      rcases f3 with q | q <;> rw [q] at z <;> cases z
    · exact ⟨c, clo_has S.free (PySem.mem_of_lookup f1) hc, hv.keeps k⟩
  · obtain ⟨v, hv⟩ := I.cell y c (cm e)
    exact ⟨v, hv.keeps k⟩
  · have hp : p ∈ [(a, o)] := hp
    obtain rfl : p = (a, o) := by simpa using hp
    exact ⟨hao, I.hok.fresh (Nat.le_of_lt ha), Nat.ne_of_gt ha, fun z => absurd (Nat.lt_trans ha (nofs _ z)) (Nat.lt_irrefl _), hod⟩
  · show (slotsG fr σ).length = N.length
    unfold slotsG
    rw [List.length_map]
    exact FR.len
end
end Pk

namespace Pk
open PySem L2 PySem.Spec PyProof.Rows GenW GxR
/-! ### the generator's turns -/
/-- what it hands out; st: the answer at which the asker stops -/
def YG (Y : Cx) (pins : List (Addr × Obj)) (st : Bool) (Q : VK) : Protocol := fun _ _ v s kap =>
  ∃ σ' H' c, v = .bool c ∧ Inv Y pins σ' H' s ∧ (c = st → Q (.bl st) H') ∧
    (c ≠ st → ∀ s2 : Shared, s2.heap = s.heap → s2.os = s.os → AllBare s2.gens → kap (.send .none) s2)
def RG (Y : Cx) (pins : List (Addr × Obj)) (st : Bool) (Q : VK) : GenEnd := fun n s₀ r s₁ =>
  ((r = .ok (.ret .none) ∨ r = .ok .next) ∧ (fun (_ : Nat) (_ t : Shared) => ∃ σ' H', Inv Y pins σ' H' t ∧ Q (.bl (!st)) H') n s₀ s₁) ∨ ∃ e, r = .error e ∧ (fun (_ : Value) (_ : Shared) => False) e s₁
/-- the loop of the promise -/
def Turns (J : It) (g : TG) (te : TE) (st : Bool) (Q : VK) (W : Nat → Nat → L2.St → Hp → Prop) : Prop := ∀ i m σ H, W i m σ H →
  (J.stop i H ∧ Q (.bl (!st)) H) ∨ (J.go i H ∧ ∃ N : L2.St → Hp → Prop, (∀ σ' H', N σ' H' → ∃ m', m' < m ∧ W (i + 1) m' σ' H') ∧
    ∀ x H', J.yld i H x H' → g x σ H' fun σ2 H2 => te σ2 H2 fun y H3 => ∃ c, y = .bl c ∧ if c = st then Q (.bl st) H3 else N σ2 H3)
section
variable {Y : Cx} {A : Around} {tg elt iter : Expr} {sc : Scope} {pos : Pos} {it : Addr} {fp : List Addr} {tn : Nat → Heap → Prop} {J : It} {g : TG} {te : TE} {st : Bool} {Q : VK}
  {W : Nat → Nat → L2.St → Hp → Prop} {pins : List (Addr × Obj)}
theorem seg_turns (hc : Y.calm = true) (hco : Y.env.scope.isCoroutine = false)
    (hA : A.over (.compLoop (.GeneratorExp elt [⟨tg, iter, [], 0⟩] sc pos) 0 (.ref it) .none Y.env) [] = Y.A)
    (T : Turn Y.prog Y.w Y.K tg J fp it tn) (hg : PG Y tg g) (he : PE Y elt te) (hx : ∀ e s, Y.xe e s → False)
    (ff : ∀ b ∈ fp, ∀ H : Hp, H b = none → FpOk Y pins H b) (turn : Turns J g te st Q W) :
    ∀ (m n i : Nat) (σ : L2.St) (H : Hp) (s₀ s : Shared), m < n → Inv Y pins σ H s → tn i s.heap → (∀ b ∈ fp, H b = none) → W i m σ H →
      Seg (model Y.prog Y.w) A (RG Y pins st Q) (YG Y pins st Q) n s₀ (.compLoop (.GeneratorExp elt [⟨tg, iter, [], 0⟩] sc pos) 0 (.ref it) .none Y.env)
        ((model Y.prog Y.w).den (.compLoop (.GeneratorExp elt [⟨tg, iter, [], 0⟩] sc pos) 0 (.ref it) .none Y.env)) [] s := by
  intro m
  induction m using Nat.strongRecOn with
  | _ m ih =>
    intro n i σ H s₀ s hmn I ht hf hw
    have fpo : ∀ {H' : Hp}, (∀ b ∈ fp, H' b = none) → ∀ b ∈ fp, FpOk Y pins H' b := fun q b hb => ff b hb _ (q b hb)
    show Seg _ A _ _ n s₀ _ ((compTurn (.GeneratorExp elt [⟨tg, iter, [], 0⟩] sc pos) 0 (.ref it) .none Y.env).onRaise (leaving Y.env)) [] s
    rw [compTurn_gen, Sem.onRaise_eq_wrap]
    refine seg_bind_wrap (wpAny_standAt ?_)
    rcases turn i m σ H hw with ⟨hstop, q⟩ | ⟨go, N, hN, step⟩
    · refine seg_bind_wrap ?_
      rw [hA]
      refine wpAny_mono (T.done Y rfl rfl rfl hc i pins s σ H (fun _ _ => False) I (fpo hf) ht hstop) (fun r s4 h4 => ?_) fun _ _ e => e.elim
      obtain ⟨rfl, I4⟩ := h4
      exact seg_end (.ok .next) (.inl ⟨.inr rfl, σ, H, I4, q⟩)
    · refine seg_bind_wrap ?_
      rw [hA]
      refine wpAny_mono (T.item Y rfl rfl rfl hc i pins s σ H (fun _ _ => False) I (fpo hf) ht go) (fun r s4 h4 => ?_) fun _ _ e => e.elim
      obtain ⟨u, rfl, h4⟩ := h4
      refine seg_bind_wrap ?_
      rw [hA]
      refine wpAny_mono h4 (fun _ s5 h5 => ?_) fun _ _ e => e.elim
      obtain ⟨x, H5, I5, r5, y5, t5, f5⟩ := h5
      have I5' := I5.pinned (fpo f5) (T.obj _ _ t5)
      refine seg_bind_wrap ?_
      rw [hA]
      refine wpAny_mono (hg.run _ s5 σ H5 x u _ I5' r5 (step x H5 y5)) (fun _ s6 h6 => ?_) fun _ _ e => (hx _ _ e).elim
      obtain ⟨σ6, H6, I6, q6⟩ := h6
      simp only [List.forIn_nil]
      refine seg_bind_wrap (wpAny_pure ?_)
      simp only [if_true]
      have hy : ∀ v, yieldOut Y.env v = yieldValue v := fun v => by simp only [yieldOut, hco, Bool.false_eq_true, if_false]
      simp only [hy]
      rw [Sem.bind_eq_wrap', Sem.bind_eq_wrap', Sem.wrap_wrap, Sem.wrap_wrap]
      refine seg_wrap ?_
      rw [hA]
      refine wpAny_mono (he.run _ s6 σ6 H6 _ I6 q6) (fun y s7 h7 => ?_) fun _ _ e => (hx _ _ e).elim
      obtain ⟨v7, H7, I7, r7, c, rfl, q7⟩ := h7
      obtain rfl : y = .bool c := r7
      have J7 : Inv Y pins σ6 H7 s7 := I7.unpinned
      have t7 : tn (i + 1) s7.heap := T.keep _ _ _ t5 fun b hb o e => (I7.pin (b, o) (List.mem_append_right _ (List.mem_append_right _ (mem_pinsAt hb e)))).1
      have f7 : ∀ b ∈ fp, H7 b = none := fun b hb => by
        obtain ⟨o, e, _⟩ := T.obj _ _ t5 b hb
        exact (I7.pin (b, o) (List.mem_append_right _ (List.mem_append_right _ (mem_pinsAt hb e)))).2.1
      obtain ⟨k, rfl⟩ : ∃ k, n = k + 1 := ⟨n - 1, by omega⟩
      refine seg_at (seg_yield rfl rfl rfl ⟨σ6, H7, c, rfl, J7, fun e => ?_, fun e s2 eh eo eb => ?_⟩)
      · rw [if_pos e] at q7
        exact q7
      · rw [if_neg e] at q7
        obtain ⟨m', hm, w7⟩ := hN σ6 H7 q7
        exact seg_again rfl (ih m' hm k (i + 1) σ6 H7 s2 s2 (by omega) (Inv.stood J7 eo (fun b o z => by rw [eh]; exact z) eb) (by rw [eh]; exact t7) f7 w7)
/-- from its beginning -/
theorem seg_begins (hc : Y.calm = true) (hco : Y.env.scope.isCoroutine = false)
    (hA : A.over (.compLoop (.GeneratorExp elt [⟨tg, iter, [], 0⟩] sc pos) 0 (.ref it) .none Y.env) [] = Y.A)
    (T : Turn Y.prog Y.w Y.K tg J fp it tn) (hg : PG Y tg g) (he : PE Y elt te) (hx : ∀ e s, Y.xe e s → False)
    (ff : ∀ b ∈ fp, ∀ H : Hp, H b = none → FpOk Y pins H b) (turn : Turns J g te st Q W)
    (m n : Nat) (σ : L2.St) (H : Hp) (s₀ s : Shared) (hmn : m < n) (I : Inv Y pins σ H s) (ht : tn 0 s.heap) (hf : ∀ b ∈ fp, H b = none) (hw : W 0 m σ H) :
      Seg (model Y.prog Y.w) A (RG Y pins st Q) (YG Y pins st Q) n s₀ (.compStart (.GeneratorExp elt [⟨tg, iter, [], 0⟩] sc pos) 0 (.ref it) .none Y.env)
        ((model Y.prog Y.w).den (.compStart (.GeneratorExp elt [⟨tg, iter, [], 0⟩] sc pos) 0 (.ref it) .none Y.env)) [] s := by
  have rest := seg_turns hc hco hA T hg he hx ff turn m n 0 σ H s₀ s hmn I ht hf hw
  show Seg _ A _ _ n s₀ _ ((compStart (.GeneratorExp elt [⟨tg, iter, [], 0⟩] sc pos) 0 (.ref it) .none Y.env).onRaise (leaving Y.env)) [] s
  unfold compStart
  rw [Sem.onRaise_eq_wrap]
  show Seg _ A _ _ n s₀ _ ((ask >>= _).wrap _ _ _ _) [] s
  refine seg_bind_wrap (wpAny_askSetting ?_)
  split
  · exact seg_again rfl rest
  · refine seg_bind_wrap (wpAny_rule ?_)
    first
      | exact seg_bind_wrap (wpAny_standAt (seg_bind_wrap (T.self _ 0 s _ _ ht (seg_again rfl rest))))
      | (show Seg _ A _ _ n s₀ _ ((standAt iter.pos >>= _).wrap _ _ _ _) [] s
         exact seg_bind_wrap (wpAny_standAt (seg_bind_wrap (T.self _ 0 s _ _ ht (seg_again rfl rest)))))
end
end Pk

namespace Pk
open PySem L2 PySem.Spec PyProof.Rows GenW GxR
/-! ### who asks: all, any -/
section
variable {Y : Cx} {A : Around} {st : Bool} {Q : VK} {pins : List (Addr × Obj)} {R : Result → Shared → Prop} {a : Addr} {g : Nat}
theorem all_asks (hh : A.handled = none) (hd : A.depth < recursionLimit) (hp : ∀ σ' H' t, Inv Y pins σ' H' t → t.heap.IsGen a g)
    (hend : ∀ σ' H' b t, Inv Y pins σ' H' t → Q (.bl b) H' → R (.ok (.ret (.bool b))) t) :
    ∀ (n : Nat) (s : Shared), s.heap.IsGen a g → s.heap.NoLimit →
      (∃ gs, s.gens[g]? = some gs ∧ gs.Goes (model Y.prog Y.w) A.in1.in1 (RG Y pins false Q) (YG Y pins false Q) n (.send .none) (s.setGen g .running)) →
      codeAny (model Y.prog Y.w) A (.builtin "all.loop" ⟨[.ref a], []⟩) R s := by
  intro n
  induction n with
  | zero =>
    intro s hg hl ⟨gs, hgs, hgo⟩
    refine codeAny_builtin F.entry_all_loop ?_
    rw [Around.under_plainId F.plain_all_loop _]
    show wpAny _ A.in1 (pyNext (.ref a) >>= _) _ _ s
    refine wpAny_bind (next_genG (A := A.in1) hh hl hd hg hgs hgo (fun v s₁ gs' hbare hv => ?_) (fun s₁ hf h' hk => ?_) fun e s₁ he => he.elim)
    · obtain ⟨σ', H', c, rfl, J, h1, h2⟩ := hv
      refine wpAny_bind (wpAny_holding (wpAny_truthy_bool ?_))
      refine wpAny_bind (wpAny_letGo ?_)
      cases c with
      | true => exact (h2 (by decide) _ rfl rfl J.bare).elim
      | false =>
        simp only [Bool.false_eq_true, if_false]
        refine wpAny_bind (wpAny_rule (wpAny_pure ?_))
        exact hend σ' H' false _ (Inv.stood (s5 := s₁.setGen g gs') J rfl (fun _ _ z => z) (allBare_setGen J.bare hbare)) (h1 rfl)
    · obtain ⟨σ', H', J, q⟩ := hf
      refine wpAny_bind (wpAny_rule (wpAny_pure ?_))
      exact hend σ' H' true _ (Inv.stood (s5 := { s₁.setGen g .finished with heap := h' }) J rfl hk (allBare_setGen J.bare rfl)) q
  | succ n ih =>
    intro s hg hl ⟨gs, hgs, hgo⟩
    have hgl : g < s.gens.size := (Array.getElem?_eq_some_iff.mp hgs).1
    refine codeAny_builtin F.entry_all_loop ?_
    rw [Around.under_plainId F.plain_all_loop _]
    show wpAny _ A.in1 (pyNext (.ref a) >>= _) _ _ s
    refine wpAny_bind (wpAny_gsz (n := g + 1) hgl (next_genG (A := A.in1) hh hl hd hg hgs hgo (fun v s₁ gs' hbare hv => ?_) (fun s₁ hf h' hk => ?_) fun e s₁ he => he.elim))
    · intro hsz
      obtain ⟨σ', H', c, rfl, J, h1, h2⟩ := hv
      have J2 : Inv Y pins σ' H' (s₁.setGen g gs') := Inv.stood J rfl (fun _ _ z => z) (allBare_setGen J.bare hbare)
      have hs1 : g < s₁.gens.size := by
        have q : (s₁.setGen g gs').gens.size = s₁.gens.size := setGen_size _ _ _
        have q2 : g + 1 ≤ (s₁.setGen g gs').gens.size := hsz
        omega
      refine wpAny_bind (wpAny_holding (wpAny_truthy_bool ?_))
      refine wpAny_bind (wpAny_letGo ?_)
      cases c with
      | true =>
        simp only [if_true]
        exact wpAny_pure ⟨plainId_quiet F.plain_all_loop _, ih _ (hp _ _ _ J2) J2.nolimit ⟨gs', setGen_at hs1, h2 (by decide) _ rfl rfl (allBare_setGen J2.bare rfl)⟩⟩
      | false =>
        simp only [Bool.false_eq_true, if_false]
        refine wpAny_bind (wpAny_rule (wpAny_pure ?_))
        exact hend σ' H' false _ J2 (h1 rfl)
    · intro hsz
      obtain ⟨σ', H', J, q⟩ := hf
      refine wpAny_bind (wpAny_rule (wpAny_pure ?_))
      exact hend σ' H' true _ (Inv.stood (s5 := { s₁.setGen g .finished with heap := h' }) J rfl hk (allBare_setGen J.bare rfl)) q
theorem any_asks (hh : A.handled = none) (hd : A.depth < recursionLimit) (hp : ∀ σ' H' t, Inv Y pins σ' H' t → t.heap.IsGen a g)
    (hend : ∀ σ' H' b t, Inv Y pins σ' H' t → Q (.bl b) H' → R (.ok (.ret (.bool b))) t) :
    ∀ (n : Nat) (s : Shared), s.heap.IsGen a g → s.heap.NoLimit →
      (∃ gs, s.gens[g]? = some gs ∧ gs.Goes (model Y.prog Y.w) A.in1.in1 (RG Y pins true Q) (YG Y pins true Q) n (.send .none) (s.setGen g .running)) →
      codeAny (model Y.prog Y.w) A (.builtin "any.loop" ⟨[.ref a], []⟩) R s := by
  intro n
  induction n with
  | zero =>
    intro s hg hl ⟨gs, hgs, hgo⟩
    refine codeAny_builtin F.entry_any_loop ?_
    rw [Around.under_plainId F.plain_any_loop _]
    show wpAny _ A.in1 (pyNext (.ref a) >>= _) _ _ s
    refine wpAny_bind (next_genG (A := A.in1) hh hl hd hg hgs hgo (fun v s₁ gs' hbare hv => ?_) (fun s₁ hf h' hk => ?_) fun e s₁ he => he.elim)
    · obtain ⟨σ', H', c, rfl, J, h1, h2⟩ := hv
      refine wpAny_bind (wpAny_holding (wpAny_truthy_bool ?_))
      refine wpAny_bind (wpAny_letGo ?_)
      cases c with
      | false => exact (h2 (by decide) _ rfl rfl J.bare).elim
      | true =>
        simp only [if_true]
        refine wpAny_bind (wpAny_rule (wpAny_pure ?_))
        exact hend σ' H' true _ (Inv.stood (s5 := s₁.setGen g gs') J rfl (fun _ _ z => z) (allBare_setGen J.bare hbare)) (h1 rfl)
    · obtain ⟨σ', H', J, q⟩ := hf
      refine wpAny_bind (wpAny_rule (wpAny_pure ?_))
      exact hend σ' H' false _ (Inv.stood (s5 := { s₁.setGen g .finished with heap := h' }) J rfl hk (allBare_setGen J.bare rfl)) q
  | succ n ih =>
    intro s hg hl ⟨gs, hgs, hgo⟩
    have hgl : g < s.gens.size := (Array.getElem?_eq_some_iff.mp hgs).1
    refine codeAny_builtin F.entry_any_loop ?_
    rw [Around.under_plainId F.plain_any_loop _]
    show wpAny _ A.in1 (pyNext (.ref a) >>= _) _ _ s
    refine wpAny_bind (wpAny_gsz (n := g + 1) hgl (next_genG (A := A.in1) hh hl hd hg hgs hgo (fun v s₁ gs' hbare hv => ?_) (fun s₁ hf h' hk => ?_) fun e s₁ he => he.elim))
    · intro hsz
      obtain ⟨σ', H', c, rfl, J, h1, h2⟩ := hv
      have J2 : Inv Y pins σ' H' (s₁.setGen g gs') := Inv.stood J rfl (fun _ _ z => z) (allBare_setGen J.bare hbare)
      have hs1 : g < s₁.gens.size := by
        have q : (s₁.setGen g gs').gens.size = s₁.gens.size := setGen_size _ _ _
        have q2 : g + 1 ≤ (s₁.setGen g gs').gens.size := hsz
        omega
      refine wpAny_bind (wpAny_holding (wpAny_truthy_bool ?_))
      refine wpAny_bind (wpAny_letGo ?_)
      cases c with
      | false =>
        simp only [Bool.false_eq_true, if_false]
        exact wpAny_pure ⟨plainId_quiet F.plain_any_loop _, ih _ (hp _ _ _ J2) J2.nolimit ⟨gs', setGen_at hs1, h2 (by decide) _ rfl rfl (allBare_setGen J2.bare rfl)⟩⟩
      | true =>
        simp only [if_true]
        refine wpAny_bind (wpAny_rule (wpAny_pure ?_))
        exact hend σ' H' true _ J2 (h1 rfl)
    · intro hsz
      obtain ⟨σ', H', J, q⟩ := hf
      refine wpAny_bind (wpAny_rule (wpAny_pure ?_))
      exact hend σ' H' false _ (Inv.stood (s5 := { s₁.setGen g .finished with heap := h' }) J rfl hk (allBare_setGen J.bare rfl)) q
end
end Pk

namespace Pk
open PySem L2 PySem.Spec PyProof.Rows GenW GxR NdefX
/-! ### the expression -/
/-- where the generator's code runs, asked from A -/
abbrev arG (A : Around) (tg elt iter : Expr) (sc : Scope) (pos : Pos) (it : Addr) (env : Env) : Around :=
  A.in1.in1.over (.compLoop (.GeneratorExp elt [⟨tg, iter, [], 0⟩] sc pos) 0 (.ref it) .none env) []
theorem arG_hd {A : Around} {tg elt iter : Expr} {sc : Scope} {pos : Pos} {it : Addr} {env : Env} (h : A.handled = none) : (arG A tg elt iter sc pos it env).handled = none := h
theorem arG_frames {A : Around} {tg elt iter : Expr} {sc : Scope} {pos : Pos} {it : Addr} {env : Env} {l : List Env} (h : A.frames = some l) : (arG A tg elt iter sc pos it env).frames = some (env :: l) := by
  obtain ⟨hd, d, f, gs, u⟩ := A
  obtain rfl : f = some l := h
  rfl
theorem arG_room {k : Nat} {A : Around} {tg elt iter : Expr} {sc : Scope} {pos : Pos} {it : Addr} {env : Env} (r : Room (k + 1) A) : Room k (arG A tg elt iter sc pos it env) :=
  ⟨r.hd, by have := r.dp; show A.depth + 0 + 1 + 3 * k + 5 < _; omega, by have := r.un; show A.units + 1 + 1 + 0 + 3 + 16 * k + 200 < _; omega⟩
/-- a generator stands at a and has handed out nothing -/
def GReady (X : Cx) (pins : List (Addr × Obj)) (σ : L2.St) (N : List Str) (sc : Scope) (st : Bool) (Q : VK) (a : Addr) (s5 : Shared) : Prop :=
  ∃ (g : Nat) (B : Around) (s0 : Shared) (H0 : Hp) (cd : Value) (fp : List Addr) (ps : List (Addr × Obj)) (n : Nat),
    s5.heap.IsGen a g ∧ s5.heap.NoLimit ∧ (∀ σ' H' t, Inv (cxG X N sc B s0 H0 cd fp) ps σ' H' t → t.heap.IsGen a g) ∧
    (∀ σ' H' t, Inv (cxG X N sc B s0 H0 cd fp) ps σ' H' t → Inv X pins σ H' t) ∧
    ∃ gs, s5.gens[g]? = some gs ∧ gs.Goes (model X.prog X.w) X.A.in1.in1 (RG (cxG X N sc B s0 H0 cd fp) ps st Q) (YG (cxG X N sc B s0 H0 cd fp) ps st Q) n (.send .none) (s5.setGen g .running)
/-- the answer: the element's readings, one after another -/
def tAns (st : Bool) (te : TE) : TS := fun D σ H => te σ H fun y H3 => ∃ c, y = .bl c ∧ if c = st then D.rt (.bl st) H3 else D.nx σ H3
def tGen (P : Addr) (fr : List (Option Nat)) (wi : TI) (g : TG) (te : TE) (st : Bool) : TE := fun σ H Q => wi σ H fun J H1 => TabG H1 P ∧ ∀ H2, Tabbed P H1 H2 →
  ∃ W : Nat → Nat → L2.St → Hp → Prop, (∃ m, W 0 m (slotsG fr σ) H2) ∧ ∀ i m σ H, W i m σ H →
    (J.stop i H ∧ (Ends.mk (fun _ H' => Q (.bl (!st)) H') Q (fun _ _ => False) (fun _ _ => False)).nx σ H) ∨ (J.go i H ∧ ∃ N : L2.St → Hp → Prop, (∀ σ' H', N σ' H' → ∃ m', m' < m ∧ W (i + 1) m' σ' H') ∧
      ∀ x H', J.yld i H x H' → g x σ H' fun σ2 H2 => tAns st te { (Ends.mk (fun _ H' => Q (.bl (!st)) H') Q (fun _ _ => False) (fun _ _ => False)) with nx := N, ct := N, bk := fun _ H' => Q (.bl (!st)) H' } σ2 H2)
section
variable {X : Cx} {pins : List (Addr × Obj)} {σ : L2.St} {H : Hp} {s : Shared}
theorem make_gen {c P : Addr} {tg elt iter : Expr} {gpos : Pos} {sc : Scope} {N : List Str} {fr : List (Option Nat)} {wi : TI} {g : TG} {te : TE} {k : Nat} {st : Bool} {Q : VK} {Q' : Value → Shared → Prop}
    (hr : Room (k + 1) X.A) (TB : TabB X.base X.mg c P) (hcode : X.env.code = .ref c) (S : GSc X.env sc) (FR : GFr X sc N fr) (hi : PI X tg iter wi)
    (hb : ∀ (B : Around) (s0 : Shared) (H0 : Hp) (cd : Value) (fp : List Addr), Room k B → PG (cxG X N sc B s0 H0 cd fp) tg g ∧ PE (cxG X N sc B s0 H0 cd fp) elt te)
    (hs : ∀ v, genFold iter X.env v = pure v) (I : Inv X pins σ H s) (h : tGen P fr wi g te st σ H Q)
    (hQ : ∀ a s5, GReady X pins σ N sc st Q a s5 → Q' (.ref a) s5) :
    wpAny (model X.prog X.w) X.A (eval (.GeneratorExp elt [⟨tg, iter, [], 0⟩] sc gpos) X.env) Q' X.xe s := by
  refine wpAny_GeneratorExp_make S.co (closure_ok S.free) S.cell S.dot S.kind (by have := hr.dp; omega) ?_ hs
  refine thn (hi.run pins s σ H _ I h) fun xv s1 h1 => thn h1 fun itv s2 h2 => ?_
  obtain ⟨it, fp, tn, J, H2, rfl, I2, T, t2, f2, ⟨ps, hP, htr⟩, hW⟩ := h2
  have hPs : s2.heap.get? P = some { cls := .none, data := .fields ps } := I2.hok P _ hP
  have cd : PySem.W.CodeHd s2.heap c P := TB.code.keeps fun b u e => I2.bk b u e
  refine ⟨I2.nolimit, ?_⟩
  have cont : ∀ (code : Value) (h3 : Heap) (tk : Nat) (ps' : Array Value), Heap.ExtBut P s2.heap h3 → s2.heap.objs.size ≤ h3.objs.size → h3.get? P = some { cls := .none, data := .fields ps' } → (∃ more, ps' = ps ++ more) → TriplesOk ps'.toList →
      wpAny (model X.prog X.w) X.A (builtinsFor X.env.globals X.env.builtins) (fun bi s₄ => ∀ h', h'.Ns s₄.heap.objs.size (fun y => if y = ".0" then some (Value.ref it) else none) →
        Heap.SameBut s₄.heap.objs.size (s₄.heap.push { cls := .type "frame", data := .dict #[] }) h' →
          Q' (.ref h'.objs.size) { s₄ with
            gens := s₄.gens.push (.fresh (.compStart (.GeneratorExp elt [⟨tg, iter, [], 0⟩] sc gpos) 0 (.ref it) .none (genEnv sc (cloFrom X.env.cells sc.names []) s₄.heap.objs.size code bi X.env))),
            toks := s₄.toks + 1 + 1 + 1,
            heap := h'.push { cls := .type "generator", data := .fields #[.int s₄.gens.size 0, .str "<genexpr>" (s₄.toks + 1), .str (X.env.qual ++ "<genexpr>") (s₄.toks + 1 + 1)] } }) X.xe { s2 with heap := h3, toks := tk } := by
    intro code h3 tk ps' hx3 hsz hP3 hmore ht3
    obtain ⟨more, rfl⟩ := hmore
    obtain ⟨bm, ob, e1, e2, e3, e4, e5, e6, e7, e8⟩ := TB.bm
    have keep3 : ∀ b u, b ≠ P → s2.heap.get? b = some u → h3.get? b = some u := fun b u z e => hx3 b u z e
    have I3 : Inv X pins σ (upd H2 P (.tbl (ps ++ more))) { s2 with heap := h3, toks := tk } := inv_tab (g' := s2.gens) (d' := s2.drawn) I2 hP keep3 hP3 I2.bare
    have TT : Tabbed P H2 (upd H2 P (.tbl (ps ++ more))) := ⟨⟨ps ++ more, upd_same, ht3⟩, fun b z => upd_ne z⟩
    refine wpAny_builtinsFor (m := X.mg) (by rw [I3.ok.glob]; exact I3.mod.glob.keeps I3.bk) e1 e2 (I3.bk _ _ e5) e6 e7 e8 ?_
    intro h' hn' hs'
    -- the new frame at C, the generator behind it
    have sz' : h'.objs.size = h3.objs.size + 1 := by rw [hs'.1, Heap.size_push]
    have keep' : ∀ b u, h3.get? b = some u → h'.get? b = some u := fun b u e => hs'.extBut b u (Nat.ne_of_lt (Heap.lt_size e)) (Heap.get?_push_of_some _ e)
    obtain ⟨W, ⟨m0, w0⟩, turn⟩ := hW _ TT
    have neP : ∀ b ∈ fp, b ≠ P := fun b hb z => by
      have q := (f2 b hb).1
      rw [z, hP] at q
      cases q
    have ltC : ∀ b ∈ fp, b < h3.objs.size := fun b hb => by
      obtain ⟨u, hu, _⟩ := T.obj _ _ t2 b hb
      exact Nat.lt_of_lt_of_le (Heap.lt_size hu) hsz
    have f3 : ∀ b ∈ fp, FpOk X pins (upd H2 P (.tbl (ps ++ more))) b := fun b hb => ⟨by rw [upd_ne (neP b hb)]; exact (f2 b hb).1, (f2 b hb).2⟩
    have aC : h3.objs.size < h'.objs.size := by rw [sz']; exact Nat.lt_succ_self _
    generalize hgo : ({ cls := .type "generator", data := .fields #[.int s2.gens.size 0, .str "<genexpr>" (tk + 1), .str (X.env.qual ++ "<genexpr>") (tk + 1 + 1)] } : Obj) = genO
    have isg : ∀ {h : Heap}, h.get? h'.objs.size = some genO → h.IsGen h'.objs.size s2.gens.size := fun {h} e => by
      subst hgo
      exact ⟨_, _, _, e, rfl, rfl, rfl⟩
    have atA : (h'.push genO).get? h'.objs.size = some genO := Heap.get?_push_size _ (by subst hgo; rfl)
    have keep5 : ∀ b u, h3.get? b = some u → (h'.push genO).get? b = some u := fun b u e => Heap.get?_push_of_some _ (keep' b u e)
    let B : Around := arG X.A tg elt iter sc gpos it (envG X sc h3.objs.size code)
    have rB : Room k B := arG_room hr
    have nofs : ∀ b ∈ fp, b ∉ frs X.stack := fun b hb z => by
      rcases List.mem_cons.mp (I3.stkSub b z) with q | q
      · exact (f2 b hb).2.1 q
      · exact (f2 b hb).2.2.1 q
    refine hQ _ _ ⟨s2.gens.size, B, { s2 with heap := h3, toks := tk }, upd H2 P (.tbl (ps ++ more)), code, fp, [(h'.objs.size, genO)], m0 + 1, isg atA, I3.nolimit.keeps keep5,
      fun σ' H' t J => isg (J.pin (h'.objs.size, genO) (by simp)).1, fun σ' H' t J => ?_, _, Array.getElem?_push_size .., rfl, ?_⟩
    · exact I3.call' (ch := fp) J.os J.base J.hok J.bare fun b hb => ⟨(f2 b hb).2.2.2.1, (f2 b hb).2.1, (f2 b hb).2.2.2.2.1, (f2 b hb).2.2.2.2.2⟩
    · have I5 := start_gen (N := N) (B := B) (cd := code) (fp := fp) (a := h'.objs.size) (o := genO) I3 S FR (fun b hb => ⟨f3 b hb, ltC b hb⟩) rB.hd (arG_frames I3.ok.frames)
        (s5 := { s2 with gens := s2.gens.push (.fresh (.compStart (.GeneratorExp elt [⟨tg, iter, [], 0⟩] sc gpos) 0 (.ref it) .none (envG X sc h3.objs.size code))), toks := tk + 1 + 1 + 1, heap := h'.push genO })
        rfl (I3.bare.push rfl) keep5 (hn'.push _) aC atA (by subst hgo; intro v z; cases z)
      have I6 := Inv.stood (s5 := Shared.setGen { s2 with gens := s2.gens.push (.fresh (.compStart (.GeneratorExp elt [⟨tg, iter, [], 0⟩] sc gpos) 0 (.ref it) .none (envG X sc h3.objs.size code))), toks := tk + 1 + 1 + 1, heap := h'.push genO } s2.gens.size .running) I5 rfl (fun _ _ e => e) (allBare_setGen I5.bare rfl)
      have hb' := hb B { s2 with heap := h3, toks := tk } (upd H2 P (.tbl (ps ++ more))) code fp rB
      refine seg_begins (Y := cxG X N sc B { s2 with heap := h3, toks := tk } (upd H2 P (.tbl (ps ++ more))) code fp) (A := X.A.in1.in1) (tn := tn) (J := J) rfl S.co rfl T hb'.1 hb'.2 (fun _ _ e => e)
        (fun b hb H' hn => ⟨hn, Nat.ne_of_lt (ltC b hb), nofs b hb, .inl hb, fun y e he => (f2 b hb).2.2.2.2.1 y e (clo_cm S.free he), fun p hp => ?_⟩) turn m0 (m0 + 1) _ _ _ _ (Nat.lt_succ_self _) I6
        (T.keep 0 _ _ t2 fun b hb o e => keep5 b o (keep3 b o (neP b hb) e)) (fun b hb => (f3 b hb).1) w0
      have hp : p ∈ [(h'.objs.size, genO)] := hp
      obtain rfl : p = (h'.objs.size, genO) := by simpa using hp
      exact Nat.ne_of_gt (Nat.lt_trans (ltC b hb) aC)
  cases hf : codeAmong gpos ps.toList with
  | none =>
    refine wpAny_genexprCodeX hcode (cd.code hPs htr) (cd.tab hPs) hf fun c' h' tk hx hge hlt hco' _ htab' _ => ?_
    obtain ⟨o1, vs, f1, tf, fl, tg', inF, tx, tt, op, _, _, _, _, _, _, _, _, _, htr', _⟩ := hco'
    exact cont _ h' tk _ hx (Nat.le_trans hge (Nat.le_of_lt hlt)) htab'.2 ⟨_, rfl⟩ htr'
  | some cv =>
    refine wpAny_genexprCode_hit hcode (cd.code hPs htr) hf ?_
    exact cont cv s2.heap s2.toks ps (Heap.ExtBut.refl _ _) (Nat.le_refl _) hPs ⟨#[], by simp⟩ htr
theorem pe_allG {c P : Addr} {tg elt iter : Expr} {p pos gpos : Pos} {sc : Scope} {N : List Str} {fr : List (Option Nat)} {wi : TI} {g : TG} {te : TE} {k : Nat}
    (hr : Room (k + 1) X.A) (hg : Gl X "all") (hm : X.mg "all" = none) (hbt : bootBuiltins "all" = some (.builtin "all")) (TB : TabB X.base X.mg c P) (hcode : X.env.code = .ref c) (S : GSc X.env sc) (FR : GFr X sc N fr) (hi : PI X tg iter wi)
    (hb : ∀ (B : Around) (s0 : Shared) (H0 : Hp) (cd : Value) (fp : List Addr), Room k B → PG (cxG X N sc B s0 H0 cd fp) tg g ∧ PE (cxG X N sc B s0 H0 cd fp) elt te)
    (hs : ∀ v, genFold iter X.env v = pure v)
    (he : starEach [.GeneratorExp elt [⟨tg, iter, [], 0⟩] sc gpos] X.env = (false, eval (.GeneratorExp elt [⟨tg, iter, [], 0⟩] sc gpos) X.env) :: starEach [] X.env := by rfl) :
    PE X (.Call (.Name "all" p) [.GeneratorExp elt [⟨tg, iter, [], 0⟩] sc gpos] [] pos) (tGen P fr wi g te false) := by
  refine ⟨fun pins s σ H Q I h => ?_⟩
  refine wpAny_Call_Name_kw (ld_blt I hg hm hbt ?_)
  refine PyProof.Rows.callWith_builtin1 ?_ he (by rfl)
  rw [he]
  show wpAny _ X.A (spliced ((false, eval (.GeneratorExp elt [⟨tg, iter, [], 0⟩] sc gpos) X.env) :: backTo pos (starEach [] X.env))) _ _ s
  refine Calls.spliced_cons (make_gen hr TB hcode S FR hi hb hs I h fun a s5 hG => ?_)
  refine Calls.spliced_nil ?_
  obtain ⟨n, B, s0, H0, cd, fp, ps, m, q1, q2, q3, q4, q5⟩ := hG
  refine call_function_tree F.kind_all F.plain_all F.entry_all (F.args_all1 _) ?_
  unfold Builtin.«all»
  refine wpAny_bind (m := oneArg "all" _) (wpAny_pure ?_)
  refine wpAny_bind (wpAny_pyIter_gen q1 ?_)
  refine wpAny_pure ⟨plainId_quiet F.plain_all_loop _, ?_⟩
  exact all_asks (Y := cxG X N sc B s0 H0 cd fp) hr.hd (by have := hr.dp; omega) q3 (fun σ' H' b t J q => ⟨.bl b, H', q4 σ' H' t J, rfl, q⟩) m s5 q1 q2 q5
theorem pe_anyG {c P : Addr} {tg elt iter : Expr} {p pos gpos : Pos} {sc : Scope} {N : List Str} {fr : List (Option Nat)} {wi : TI} {g : TG} {te : TE} {k : Nat}
    (hr : Room (k + 1) X.A) (hg : Gl X "any") (hm : X.mg "any" = none) (hbt : bootBuiltins "any" = some (.builtin "any")) (TB : TabB X.base X.mg c P) (hcode : X.env.code = .ref c) (S : GSc X.env sc) (FR : GFr X sc N fr) (hi : PI X tg iter wi)
    (hb : ∀ (B : Around) (s0 : Shared) (H0 : Hp) (cd : Value) (fp : List Addr), Room k B → PG (cxG X N sc B s0 H0 cd fp) tg g ∧ PE (cxG X N sc B s0 H0 cd fp) elt te)
    (hs : ∀ v, genFold iter X.env v = pure v)
    (he : starEach [.GeneratorExp elt [⟨tg, iter, [], 0⟩] sc gpos] X.env = (false, eval (.GeneratorExp elt [⟨tg, iter, [], 0⟩] sc gpos) X.env) :: starEach [] X.env := by rfl) :
    PE X (.Call (.Name "any" p) [.GeneratorExp elt [⟨tg, iter, [], 0⟩] sc gpos] [] pos) (tGen P fr wi g te true) := by
  refine ⟨fun pins s σ H Q I h => ?_⟩
  refine wpAny_Call_Name_kw (ld_blt I hg hm hbt ?_)
  refine PyProof.Rows.callWith_builtin1 ?_ he (by rfl)
  rw [he]
  show wpAny _ X.A (spliced ((false, eval (.GeneratorExp elt [⟨tg, iter, [], 0⟩] sc gpos) X.env) :: backTo pos (starEach [] X.env))) _ _ s
  refine Calls.spliced_cons (make_gen hr TB hcode S FR hi hb hs I h fun a s5 hG => ?_)
  refine Calls.spliced_nil ?_
  obtain ⟨n, B, s0, H0, cd, fp, ps, m, q1, q2, q3, q4, q5⟩ := hG
  refine call_function_tree F.kind_any F.plain_any F.entry_any (F.args_any1 _) ?_
  unfold Builtin.«any»
  refine wpAny_bind (m := oneArg "any" _) (wpAny_pure ?_)
  refine wpAny_bind (wpAny_pyIter_gen q1 ?_)
  refine wpAny_pure ⟨plainId_quiet F.plain_any_loop _, ?_⟩
  exact any_asks (Y := cxG X N sc B s0 H0 cd fp) hr.hd (by have := hr.dp; omega) q3 (fun σ' H' b t J q => ⟨.bl b, H', q4 σ' H' t J, rfl, q⟩) m s5 q1 q2 q5
end
end Pk

namespace Pk
open PySem L2 PySem.Spec PyProof.Rows
/-! ### a dict comprehension whose keys are tuples -/
section
variable {X : Cx} {pins : List (Addr × Obj)} {σ : L2.St} {H : Hp} {s : Shared}
/-- an entry is laid under a tuple -/
theorem lay_entry {A : Around} {E : Value → Shared → Prop} {D b : Addr} {kvs : List (List Key × V)} {k : List Key} {v : V} {r : Value} {Q : Unit → Shared → Prop}
    (hu : A.units < cLine) (I : Inv X pins σ H s) (hD : H D = some (.dT kvs)) (hb : H b = some (.tup (k.map kV))) (hl : kvs.length < sizeLine) (rv : RelV v r)
    (h : ∀ s', Inv X pins σ (upd H D (.dT (putK kvs k v))) s' → Q () s') : wpAny (model X.prog X.w) A (dictSet D (.ref b) r) Q E s := by
  obtain ⟨le, nd, xs, rel, dd⟩ := dt_of I.hok hD
  have small : xs.length ≤ sizeLine := by rw [← Paired.length rel]; exact le
  have small2 : (putK kvs k v).length ≤ sizeLine := by
    have q := length_putK kvs k v
    omega
  refine wpAny_dictSet_heap (hsz := small) (show (tupleKind (mixKind X.prog X.w)).room A from hu) (key_of I.hok hb) dd fun h2 dd2 same => h _ ?_
  obtain ⟨o, es, ep, ho, p2, p3, p4, _, p5⟩ := dd2
  refine d_write I (by rw [hD]; exact True.intro) same ⟨o, ho⟩ ⟨small2, nd, _, (rel.put k hb rv).keeps fun c ys ec => ?_, o, es, ep, ho, p2, p3, p4, p5⟩
  have cD : c ≠ D := ne_of ec hD fun z => nomatch z
  rw [upd_ne cD]
  exact ec
/-- D: the new dict -/
def tDcT (wi : TI) (g : TG) (tk tv : TE) (vs : List Nat) : TE := fun σ H Q => wi σ H fun J H1 => ∀ D, H1 D = none → ∃ W : Nat → Nat → Hp → Prop, (∃ m, W 0 m (upd H1 D (.dT []))) ∧ ∀ i m H, W i m H →
  (J.stop i H ∧ Q (.ref D) H) ∨ (J.go i H ∧ ∃ Nx : Hp → Prop, (∀ H', Nx H' → ∃ m', m' < m ∧ W (i + 1) m' H') ∧
    ∀ x H', J.yld i H x H' → g x (wipe σ vs) H' fun σ2 H2 => wipe σ2 vs = wipe σ vs ∧ tk σ2 H2 fun y H4 => tv σ2 H4 fun z H5 =>
      ∃ b kvs k, y = .ref b ∧ H5 b = some (.tup (k.map kV)) ∧ H5 D = some (.dT kvs) ∧ kvs.length < sizeLine ∧ Nx (upd H5 D (.dT (putK kvs k z))))
theorem pe_dcT {kx vx tg iter : Expr} {scope : Scope} {own : List (Str × Nat)} {pos : Pos} {wi : TI} {g : TG} {tk tv : TE} (hc : X.calm = true) (hu : X.A.units < cLine) (hN : X.N.Nodup) (hi : PI X tg iter wi) (ok : BlkOk X.N X.env.scope scope own)
    (hb : ∀ (s : Shared) (H : Hp) (C : Addr) (cl : List (Str × Addr)) (fp : List Addr), PG (X.blk s H scope (compEnvC scope cl C X.env) fp) tg g ∧ PE (X.blk s H scope (compEnvC scope cl C X.env) fp) kx tk ∧ PE (X.blk s H scope (compEnvC scope cl C X.env) fp) vx tv)
    (hs : ∀ x, foldedSetIterable iter X.env x = pure x := by intro _; rfl) :
    PE X (.DictComp kx vx [⟨tg, iter, [], 0⟩] scope pos) (tDcT wi g tk tv (own.map (·.2))) := by
  refine ⟨fun pins s σ H Q I h => ?_⟩
  rw [arm_eval_DictComp]
  have caught : ∀ y ∈ scope.names, y.2 = .free → ∃ c, X.env.cells.lookup y.1 = some c := fun y hy e => by
    have q := ok.free y hy e
    exact I.ok.has _ (q.elim .inl .inr)
  refine wpAny_comprehension_free (use := none) rfl hs (closure_ok caught) ok.kind (fun y hy e => by rw [ok.uniq y hy, e]) ?_
  refine thn (hi.run pins s σ H _ I h) fun xv s1 h1 => thn h1 fun itv s2 h2 => ?_
  obtain ⟨it, fp, tn, J, H2, rfl, I2, T, t2, f2, rest⟩ := h2
  refine wpAny_newObj_type (newEnv_comp ?_)
  generalize eD : s2.heap.objs.size = D
  have nD : H2 D = none := I2.hok.fresh (Nat.le_of_eq eD)
  obtain ⟨W, ⟨m0, w0⟩, turn⟩ := rest D nD
  generalize e3 : ({ s2 with heap := s2.heap.push { cls := .type "dict", data := .dict #[] } } : Shared) = s3
  have heap3 : s3.heap = s2.heap.push { cls := .type "dict", data := .dict #[] } := by rw [← e3]
  have I3 : Inv X pins σ (upd H2 D (.dT [])) s3 := by
    rw [← e3]
    refine I2.laid (t' := s2.toks) (fun b o e => Heap.get?_push_of_some _ e) (Nat.le_of_eq eD) ?_
    rw [← eD]
    exact dt_empty s2.heap I2.big
  have old : ∀ b ∈ fp, b < s2.heap.objs.size := fun b hb => by
    obtain ⟨o, e, _⟩ := T.obj _ _ t2 b hb
    exact Heap.lt_size e
  have f3 : ∀ b ∈ fp, FpOk X pins (upd H2 D (.dT [])) b ∧ b < s3.heap.objs.size := fun b hb => by
    have lt := old b hb
    refine ⟨⟨?_, (f2 b hb).2⟩, by rw [heap3, Heap.size_push]; exact Nat.lt_succ_of_lt lt⟩
    rw [upd_ne (by rw [← eD]; exact Nat.ne_of_lt lt)]
    exact (f2 b hb).1
  have t3 : tn 0 s3.heap := T.keep _ _ _ t2 fun b _ o e => by rw [heap3]; exact Heap.get?_push_of_some _ e
  have I4 := block_start I3 ok hN f3
  obtain ⟨pg, pk, pv⟩ := hb s3 (upd H2 D (.dT [])) s3.heap.objs.size (cellsFrom (s3.heap.objs.size + 1) scope.names (cloFrom X.env.cells scope.names [])) fp
  show codeAny _ _ (.compStart (.DictComp kx vx [⟨tg, iter, [], 0⟩] scope pos) 0 (.ref it) (.ref D) (compEnvC scope (cellsFrom (s3.heap.objs.size + 1) scope.names (cloFrom X.env.cells scope.names [])) s3.heap.objs.size X.env))
    (compPost (model X.prog X.w) X.A X.xe none _ (.ref D) s3.heap.objs.size) { s3 with heap := pushCells (s3.heap.push { cls := .type "dict", data := .dict #[] }) scope.names }
  have none3 : ∀ b ∈ fp, (upd H2 D (.dT [])) b = none := fun b hb => (f3 b hb).1.1
  generalize ece : compEnvC scope (cellsFrom (s3.heap.objs.size + 1) scope.names (cloFrom X.env.cells scope.names [])) s3.heap.objs.size X.env = ce at I4 pg pk pv ⊢
  have ceL : ce.locals = s3.heap.objs.size := by subst ece; rfl
  generalize eH3 : upd H2 D (.dT []) = H3 at I3 I4 pg pk pv w0 none3 f3
  generalize e4 : ({ s3 with heap := pushCells (s3.heap.push { cls := .type "dict", data := .dict #[] }) scope.names } : Shared) = s4 at I4 ⊢
  have t4 : tn 0 s4.heap := T.keep _ _ _ t3 fun b _ o e => by rw [← e4]; exact pushCells_keeps _ _ _ _ (Heap.get?_push_of_some _ e)
  have fpo : ∀ {σ' : L2.St} {H' : Hp} {s' : Shared}, Inv (X.blk s3 H3 scope ce fp) [] σ' H' s' → (∀ b ∈ fp, H' b = none) → ∀ b ∈ fp, FpOk (X.blk s3 H3 scope ce fp) [] H' b := fun {σ' H' s'} I' hn b hb =>
    ⟨hn b hb, (I'.ok.exf b hb).1, I'.ok.exfs b hb, .inl hb, fun x c e => (I'.ok.exf b hb).2 x c e, fun p hp => absurd (show p ∈ ([] : List (Addr × Obj)) ++ [] from hp) (by simp)⟩
  have loop : codeAny (model X.prog X.w) X.A (.compLoop (.DictComp kx vx [⟨tg, iter, [], 0⟩] scope pos) 0 (.ref it) (.ref D) ce) (compPost (model X.prog X.w) X.A X.xe none (EP X pins σ Q) (.ref D) s3.heap.objs.size) s4 := by
    refine compLoop_anyD (fun n s' => ∃ i H', Inv (X.blk s3 H3 scope ce fp) [] (wipe σ (own.map (·.2))) H' s' ∧ tn i s'.heap ∧ (∀ b ∈ fp, H' b = none) ∧ W i n H') ?_ m0 ⟨0, H3, I4, t4, none3, w0⟩
    rintro n s5 ⟨i, H5, I5, t5, n5, w5⟩
    rcases turn i n H5 w5 with ⟨hstop, qq⟩ | ⟨go, Nx, hNx, step⟩
    · refine thnF (T.done (X.blk s3 H3 scope ce fp) rfl rfl rfl hc i [] s5 _ H5 (fun _ _ => False) I5 (fpo I5 n5) t5 hstop) fun r s6 h6 => ?_
      obtain ⟨rfl, I6⟩ := h6
      have I7 : Inv X pins σ H5 s6 := I3.call' (ch := fp) I6.os I6.base I6.hok I6.bare fun b hb =>
        have z := (f3 b hb).1.2
        ⟨z.2.2.1, z.1, z.2.2.2.1, z.2.2.2.2⟩
      have nC : H5 s3.heap.objs.size = none := by
        have z : H5 ce.locals = none := I6.free
        rwa [ceL] at z
      obtain ⟨m, hn, _⟩ := I6.loc
      have hn : s6.heap.Ns ce.locals m := hn
      rw [ceL] at hn
      obtain ⟨_, g1, _, g3, g4, g5⟩ := I3.fpOk (Nat.le_refl _) nC
      exact ⟨m, hn, fun h2 sb => ⟨.ref D, H5, I7.turned (t' := s6.toks) (fun b o ne e => (sb.2 b ne).trans e) nC g1 g3 g4 g5, rfl, qq⟩⟩
    · refine thnF (T.item (X.blk s3 H3 scope ce fp) rfl rfl rfl hc i [] s5 _ H5 (fun _ _ => False) I5 (fpo I5 n5) t5 go) fun r s6 h6 => ?_
      obtain ⟨u, rfl, h6⟩ := h6
      refine thnF h6 fun _ s7 ⟨x, H7, I7, r7, y7, t7, n7⟩ => ?_
      have J7 := I7.pinned (fpo I7 n7) (T.obj _ _ t7)
      refine thnF (pg.run _ s7 _ H7 x u _ J7 r7 (step x H7 y7)) fun _ s8 ⟨σ8, H8, I8, ew, q8⟩ => ?_
      simp only [List.forIn_nil]
      refine wpAny_pure ?_
      simp only [if_true]
      refine thnF (pk.run _ s8 σ8 H8 _ I8 q8) fun u1 s10 ⟨yk, H10, I10, r10, q10⟩ => ?_
      refine thnF (pv.run _ s10 σ8 H10 _ I10 q10) fun u2 s11 ⟨yv, H11, I11, r11, b, kvs, k, ek, hb11, hD11, hl11, nx⟩ => ?_
      subst ek
      obtain rfl : u1 = .ref b := r10
      refine lay_entry (X := X.blk s3 H3 scope ce fp) hu I11 hD11 hb11 hl11 r11 fun s12 I12 => ?_
      obtain ⟨m', lt, w'⟩ := hNx _ nx
      have len8 : (wipe σ (own.map (·.2))).length = σ8.length := by rw [← ew, wipe_length]
      have stay : ∀ c ∈ fp, ∀ o, s7.heap.get? c = some o → s12.heap.get? c = some o ∧ (upd H11 D (.dT (putK kvs k yv))) c = none := fun c hc' o e =>
        have z := I12.pin (c, o) (List.mem_append_right _ (List.mem_append_right _ (mem_pinsAt hc' e)))
        ⟨z.1, z.2.1⟩
      refine ⟨m', lt, i + 1, _, (I12.unpinned (pins := [])).weak len8 (fun j v e => ?_), T.keep _ _ _ t7 fun c hc' o e => (stay c hc' o e).1, fun c hc' => ?_, w'⟩
      · rw [← ew] at e
        exact (wipe_some e).1
      · obtain ⟨o, e, _⟩ := T.obj _ _ t7 c hc'
        exact (stay c hc' o e).2
  exact codeAny_compStart_dict loop (T.self X.A 0 _ _ _ t4 loop)
end
end Pk

namespace Pk
open PySem L2
/-! ### places: tuples of two numbers, lists of them -/
abbrev Pl := Int × Int
/-- v is a tuple that holds the place p -/
def Pr (H : Hp) (v : V) (p : Pl) : Prop := ∃ t, v = .ref t ∧ H t = some (.tup [.int p.1, .int p.2])
theorem Pr.same {H H' : Hp} {v : V} {p : Pl} (h : Pr H v p) (k : Same H H') : Pr H' v p := by
  obtain ⟨t, rfl, h⟩ := h
  exact ⟨t, rfl, k _ _ h⟩
inductive Prs (H : Hp) : List V → List Pl → Prop
  | nil : Prs H [] []
  | cons {v : V} {p : Pl} {vs : List V} {ps : List Pl} : Pr H v p → Prs H vs ps → Prs H (v :: vs) (p :: ps)
theorem Prs.same {H H' : Hp} {vs : List V} {ps : List Pl} (h : Prs H vs ps) (k : Same H H') : Prs H' vs ps := by
  induction h with
  | nil => exact .nil
  | cons a _ ih => exact .cons (a.same k) ih
theorem Prs.len {H : Hp} {vs : List V} {ps : List Pl} (h : Prs H vs ps) : vs.length = ps.length := by
  induction h with
  | nil => rfl
  | cons a _ ih => exact congrArg (· + 1) ih
theorem Prs.app {H : Hp} {vs us : List V} {ps qs : List Pl} (h : Prs H vs ps) (k : Prs H us qs) : Prs H (vs ++ us) (ps ++ qs) := by
  induction h with
  | nil => exact k
  | cons a _ ih => exact .cons a ih
theorem Prs.snoc {H : Hp} {vs : List V} {v : V} {ps : List Pl} {p : Pl} (h : Prs H vs ps) (k : Pr H v p) : Prs H (vs ++ [v]) (ps ++ [p]) := h.app (.cons k .nil)
theorem Prs.at {H : Hp} {vs : List V} {ps : List Pl} (h : Prs H vs ps) : ∀ {i : Nat} {v : V}, vs[i]? = some v → ∃ p, ps[i]? = some p ∧ Pr H v p := by
  induction h with
  | nil => intro i v e; cases e
  | cons a _ ih =>
    intro i v e
    cases i with
    | zero => cases e; exact ⟨_, rfl, a⟩
    | succ i => exact ih e
theorem Prs.take {H : Hp} {vs : List V} {ps : List Pl} (h : Prs H vs ps) : ∀ n, Prs H (vs.take n) (ps.take n) := by
  induction h with
  | nil => intro n; cases n <;> exact .nil
  | cons a _ ih => intro n; cases n with
    | zero => exact .nil
    | succ n => exact .cons a (ih n)
theorem Prs.drop {H : Hp} {vs : List V} {ps : List Pl} (h : Prs H vs ps) : ∀ n, Prs H (vs.drop n) (ps.drop n) := by
  induction h with
  | nil => intro n; cases n <;> exact .nil
  | cons a r ih => intro n; cases n with
    | zero => exact .cons a r
    | succ n => exact ih n
theorem Prs.mem {H : Hp} {vs : List V} {ps : List Pl} (h : Prs H vs ps) {v : V} (m : v ∈ vs) : ∃ p ∈ ps, Pr H v p := by
  induction h with
  | nil => cases m
  | cons a _ ih =>
    rcases List.mem_cons.mp m with e | m
    · subst e; exact ⟨_, List.mem_cons_self, a⟩
    · obtain ⟨p, hp, k⟩ := ih m
      exact ⟨p, List.mem_cons_of_mem _ hp, k⟩
theorem Prs.rev {H : Hp} {vs : List V} {ps : List Pl} (h : Prs H vs ps) : Prs H vs.reverse ps.reverse := by
  induction h with
  | nil => exact .nil
  | cons a _ ih => rw [List.reverse_cons, List.reverse_cons]; exact ih.snoc a
/-! ### their data -/
def dP (p : Pl) : PyData := .tuple [.int p.1, .int p.2]
def dL (ps : List Pl) : PyData := .list (ps.map dP)
theorem Pr.dp {K : PySem.W.Frag} {H : Hp} {v : V} {p : Pl} (h : Pr H v p) : Dp K H v (dP p) := by
  obtain ⟨t, rfl, h⟩ := h
  exact .tup (SqT.of h) (.cons (.int _) (.cons (.int _) .nil))
theorem Prs.dps {K : PySem.W.Frag} {H : Hp} {vs : List V} {ps : List Pl} (h : Prs H vs ps) : DpAll K H vs (ps.map dP) := by
  induction h with
  | nil => exact .nil
  | cons a _ ih => exact .cons a.dp ih
theorem Prs.dl {K : PySem.W.Frag} {H : Hp} {l : Addr} {vs : List V} {ps : List Pl} (h : Prs H vs ps) (e : SqL K H l vs) : Dp K H (.ref l) (dL ps) := .lst e h.dps
theorem eqv_int (a b : Int) : PyData.eqv (.int a) (.int b) = decide (a = b) := by
  rw [PyData.eqv]
  rfl
theorem eqv_dP (p q : Pl) : PyData.eqv (dP p) (dP q) = decide (p = q) := by
  obtain ⟨a, b⟩ := p
  obtain ⟨c, d⟩ := q
  show PyData.eqvAll [.int a, .int b] [.int c, .int d] = _
  simp only [PyData.eqvAll, eqv_int, Prod.ext_iff, Bool.and_true, Bool.decide_and]
theorem eqvAll_dP : ∀ ps qs : List Pl, PyData.eqvAll (ps.map dP) (qs.map dP) = decide (ps = qs)
  | [], [] => by simp [PyData.eqvAll]
  | [], _ :: _ => by simp [PyData.eqvAll]
  | _ :: _, [] => by simp [PyData.eqvAll]
  | p :: ps, q :: qs => by
    simp only [List.map_cons, PyData.eqvAll, eqv_dP, eqvAll_dP ps qs, List.cons.injEq]
    by_cases h1 : p = q <;> by_cases h2 : ps = qs <;> simp [h1, h2]
theorem eqv_dL (ps qs : List Pl) : PyData.eqv (dL ps) (dL qs) = decide (ps = qs) := by
  unfold dL
  rw [PyData.eqv, eqvAll_dP]
theorem lay_dPs : ∀ ps : List Pl, PyData.canLayAll0 (ps.map dP) = true
  | [] => rfl
  | _ :: ps => by
    show (true && PyData.canLayAll0 (ps.map dP)) = true
    rw [lay_dPs ps]
    rfl
theorem depth_dPs : ∀ ps : List Pl, PyData.depthAll (ps.map dP) ≤ 1
  | [] => by show 0 ≤ 1; omega
  | _ :: ps => by
    have ih := depth_dPs ps
    show max 1 (PyData.depthAll (ps.map dP)) ≤ 1
    omega
theorem sh_dP (p : Pl) : SeqAt.shaped (dP p) = true := rfl
theorem sh_dL (ps : List Pl) : SeqAt.shaped (dL ps) = true := by
  have h := depth_dPs ps
  unfold SeqAt.shaped dL
  rw [show PyData.canLay0 (.list (ps.map dP)) = PyData.canLayAll0 (ps.map dP) from rfl, lay_dPs]
  refine decide_eq_true ?_
  show PyData.depthAll (ps.map dP) + 1 ≤ 64
  omega
theorem any_dP (ps : List Pl) (p : Pl) : ((ps.map dP).any fun z => PyData.eqv z (dP p)) = decide (p ∈ ps) := by
  induction ps with
  | nil => simp
  | cons q ps ih =>
    rw [List.map_cons, List.any_cons, ih, eqv_dP]
    by_cases h1 : q = p
    · subst h1; simp
    · have h2 : ¬ p = q := fun z => h1 z.symm
      simp [h1, h2]
end Pk

namespace Pk
open PySem L2
/-! ### the order of places, lists in order, each place once -/
def lp (p q : Pl) : Prop := p.1 < q.1 ∨ (p.1 = q.1 ∧ p.2 ≤ q.2)
instance : DecidableRel lp := fun p q => inferInstanceAs (Decidable (p.1 < q.1 ∨ (p.1 = q.1 ∧ p.2 ≤ q.2)))
theorem lp_trans {p q r : Pl} (h : lp p q) (k : lp q r) : lp p r := by unfold lp at *; omega
theorem lp_total (p q : Pl) : lp p q ∨ lp q p := by unfold lp; omega
theorem lp_anti {p q : Pl} (h : lp p q) (k : lp q p) : p = q := by
  unfold lp at *
  exact Prod.ext (by omega) (by omega)
def insP (p : Pl) : List Pl → List Pl
  | [] => [p]
  | q :: r => if lp p q then p :: q :: r else q :: insP p r
def sortP : List Pl → List Pl
  | [] => []
  | p :: r => insP p (sortP r)
theorem insP_perm (p : Pl) : ∀ r, (insP p r).Perm (p :: r)
  | [] => .refl _
  | q :: r => by
    unfold insP
    split
    · exact .refl _
    · exact ((insP_perm p r).cons q).trans (.swap p q r)
theorem sortP_perm : ∀ r, (sortP r).Perm r
  | [] => .nil
  | p :: r => (insP_perm p (sortP r)).trans ((sortP_perm r).cons p)
theorem insP_pw (p : Pl) : ∀ {r}, List.Pairwise lp r → (insP p r).Pairwise lp
  | [], _ => List.pairwise_singleton _ _
  | q :: r, h => by
    unfold insP
    have hq : ∀ {x}, x ∈ r → lp q x := fun m => List.rel_of_pairwise_cons h m
    split
    · rename_i c
      refine List.pairwise_cons.mpr ⟨fun x hx => ?_, h⟩
      rcases List.mem_cons.mp hx with e | hx
      · rw [e]; exact c
      · exact lp_trans c (hq hx)
    · rename_i c
      refine List.pairwise_cons.mpr ⟨fun x hx => ?_, insP_pw p (List.Pairwise.of_cons h)⟩
      rcases List.mem_cons.mp ((insP_perm p r).mem_iff.mp hx) with e | hx
      · rw [e]; exact (lp_total p q).resolve_left c
      · exact hq hx
theorem sortP_pw : ∀ r, (sortP r).Pairwise lp
  | [] => .nil
  | p :: r => insP_pw p (sortP_pw r)
theorem pw_uniq : ∀ {a b : List Pl}, a.Perm b → a.Pairwise lp → b.Pairwise lp → a = b
  | [], b, h, _, _ => h.nil_eq
  | p :: a, [], h, _, _ => absurd h.length_eq (by simp)
  | p :: a, q :: b, h, ha, hb => by
    have e : p = q := by
      rcases List.mem_cons.mp (h.mem_iff.mp List.mem_cons_self) with e | m
      · exact e
      · rcases List.mem_cons.mp (h.mem_iff.mpr List.mem_cons_self) with e | m'
        · exact e.symm
        · exact lp_anti (List.rel_of_pairwise_cons ha m') (List.rel_of_pairwise_cons hb m)
    subst e
    rw [pw_uniq ((List.perm_cons p).mp h) ha.of_cons hb.of_cons]
theorem sortP_of {a b : List Pl} (h : a.Perm b) (ha : a.Pairwise lp) : a = sortP b := pw_uniq (h.trans (sortP_perm b).symm) ha (sortP_pw b)
theorem sortP_congr {a b : List Pl} (h : a.Perm b) : sortP a = sortP b := sortP_of ((sortP_perm a).trans h) (sortP_pw a)
theorem sortP_mem {p : Pl} {r : List Pl} : p ∈ sortP r ↔ p ∈ r := (sortP_perm r).mem_iff
theorem sortP_len (r : List Pl) : (sortP r).length = r.length := (sortP_perm r).length_eq
theorem sortP_nd {r : List Pl} : (sortP r).Nodup ↔ r.Nodup := (sortP_perm r).nodup_iff
theorem sortP_id {r : List Pl} (h : r.Pairwise lp) : sortP r = r := (sortP_of (.refl _) h).symm
theorem sortP_idem (r : List Pl) : sortP (sortP r) = sortP r := sortP_id (sortP_pw r)
/-- each place once -/
def nub : List Pl → List Pl
  | [] => []
  | p :: r => if p ∈ r then nub r else p :: nub r
theorem nub_mem {p : Pl} : ∀ {r : List Pl}, p ∈ nub r ↔ p ∈ r
  | [] => Iff.rfl
  | q :: r => by
    unfold nub
    split
    · rename_i h
      rw [nub_mem (r := r), List.mem_cons]
      exact ⟨.inr, fun k => k.elim (fun e => by rw [e]; exact h) id⟩
    · rw [List.mem_cons, List.mem_cons, nub_mem (r := r)]
theorem nub_nd : ∀ r : List Pl, (nub r).Nodup
  | [] => .nil
  | p :: r => by
    unfold nub
    split
    · exact nub_nd r
    · rename_i h
      exact List.nodup_cons.mpr ⟨fun m => h (nub_mem.mp m), nub_nd r⟩
theorem nub_le : ∀ r : List Pl, (nub r).length ≤ r.length
  | [] => Nat.le_refl _
  | p :: r => by
    unfold nub
    have := nub_le r
    split
    · rw [List.length_cons]; omega
    · rw [List.length_cons, List.length_cons]; omega
theorem nub_lt : ∀ r : List Pl, (nub r).length < r.length ↔ ¬ r.Nodup
  | [] => by simp [nub]
  | p :: r => by
    have ih := nub_lt r
    have hl := nub_le r
    unfold nub
    rw [List.nodup_cons]
    split
    · rename_i h
      rw [List.length_cons]
      exact ⟨fun _ k => k.1 h, fun _ => by omega⟩
    · rename_i h
      rw [List.length_cons, List.length_cons, Nat.add_lt_add_iff_right, ih]
      exact ⟨fun k z => k z.2, fun k z => k ⟨h, z⟩⟩
theorem nub_id : ∀ {r : List Pl}, r.Nodup → nub r = r
  | [], _ => rfl
  | p :: r, h => by
    unfold nub
    rw [if_neg (List.nodup_cons.mp h).1, nub_id (List.nodup_cons.mp h).2]
/-- in order, each once -/
def marksP (r : List Pl) : List Pl := sortP (nub r)
theorem marksP_of {a r : List Pl} (hn : a.Nodup) (hm : ∀ p, p ∈ a ↔ p ∈ r) (ho : a.Pairwise lp) : a = marksP r :=
  sortP_of ((List.perm_ext_iff_of_nodup hn (nub_nd r)).mpr fun p => (hm p).trans nub_mem.symm) ho
theorem marksP_congr {a r : List Pl} (h : ∀ p, p ∈ a ↔ p ∈ r) : marksP a = marksP r :=
  sortP_congr ((List.perm_ext_iff_of_nodup (nub_nd a) (nub_nd r)).mpr fun p => nub_mem.trans ((h p).trans nub_mem.symm))
/-! ### the rules -/
theorem perm_lift {α β : Type} {f : α → β} {us vs : List β} (h : us.Perm vs) : ∀ L : List α, us = L.map f → ∃ L1 : List α, vs = L1.map f ∧ L1.Perm L := by
  induction h with
  | nil =>
    intro L e
    cases L with
    | nil => exact ⟨[], rfl, .nil⟩
    | cons b L => cases e
  | cons x _ ih =>
    intro L e
    cases L with
    | nil => cases e
    | cons b L =>
      injection e with e1 e2
      obtain ⟨L1, e3, p⟩ := ih L e2
      exact ⟨b :: L1, by rw [List.map_cons, e1, e3], p.cons b⟩
  | swap x y l =>
    intro L e
    match L, e with
    | b :: c :: L, e =>
      injection e with e1 e
      injection e with e2 e3
      exact ⟨c :: b :: L, by rw [List.map_cons, List.map_cons, e1, e2, e3], .swap b c L⟩
  | trans _ _ ih1 ih2 =>
    intro L e
    obtain ⟨L1, e1, p1⟩ := ih1 L e
    obtain ⟨L2, e2, p2⟩ := ih2 L1 e1
    exact ⟨L2, e2, p2.trans p1⟩
/-- a set of places stands at a -/
def SetOf (P : Program) (w : World) (H : Hp) (a : Addr) (ps : List Pl) : Prop := ∃ L : List (Addr × List Int), H a = some (SetTO P w a L) ∧
  (∀ x ∈ L, ∃ p ∈ ps, x.2 = [p.1, p.2] ∧ H x.1 = some (.tup [.int p.1, .int p.2])) ∧ ∀ p ∈ ps, [p.1, p.2] ∈ L.map (·.2)
section
variable {X : Cx} {pins : List (Addr × Obj)} {σ : St} {H : Hp} {s : Shared}
def toP (x : Addr × List Int) : Pl := (x.2.getD 0 0, x.2.getD 1 0)
theorem setOf_list {P : Program} {w : World} {a : Addr} {ps : List Pl} {L : List (Addr × List Int)}
    (h1 : ∀ x ∈ L, ∃ p ∈ ps, x.2 = [p.1, p.2] ∧ H x.1 = some (.tup [.int p.1, .int p.2])) (h2 : ∀ p ∈ ps, [p.1, p.2] ∈ L.map (·.2)) (nd : (L.map (·.2)).Nodup) :
    (L.map toP).Nodup ∧ ∀ p, p ∈ L.map toP ↔ p ∈ ps := by
  constructor
  · refine List.pairwise_map.mpr (List.Pairwise.imp_of_mem (fun {x y} hx hy ne e => ?_) (List.pairwise_map.mp nd))
    obtain ⟨p, _, ep, _⟩ := h1 x hx
    obtain ⟨q, _, eq, _⟩ := h1 y hy
    unfold toP at e
    rw [ep, eq] at e
    apply ne
    rw [ep, eq]
    have e1 : p.1 = q.1 := (Prod.mk.inj e).1
    have e2 : p.2 = q.2 := (Prod.mk.inj e).2
    rw [e1, e2]
  · intro p
    constructor
    · intro m
      obtain ⟨x, hx, rfl⟩ := List.mem_map.mp m
      obtain ⟨p, hp, ep, _⟩ := h1 x hx
      unfold toP
      rw [ep]
      exact hp
    · intro m
      obtain ⟨x, hx, e⟩ := List.mem_map.mp (h2 p m)
      refine List.mem_map.mpr ⟨x, hx, ?_⟩
      unfold toP
      rw [e]
      rfl
/-- set(xs), xs a list of places -/
def rSetP (K : PySem.W.Frag) (P : Program) (w : World) : List V → Hp → VK → Prop := fun xs H Q => ∃ (l : Addr) (vs : List V) (ps : List Pl), xs = [.ref l] ∧ SqL K H l vs ∧ Prs H vs ps ∧ ps.length < 64 ∧
  ∀ (H' : Hp) (a : Addr), H a = none → Same H H' → SetOf P w H' a ps → Q (.ref a) H'
theorem prs_ks {K : PySem.W.Frag} {vs : List V} {ps : List Pl} (h : Prs H vs ps) : ∃ ks : List (Addr × List Int), vs = ks.map (fun p => V.ref p.1) ∧ (∀ x ∈ ks, ∃ p ∈ ps, x.2 = [p.1, p.2] ∧ H x.1 = some (.tup [.int p.1, .int p.2])) ∧ ks.map (·.2) = ps.map (fun p => [p.1, p.2]) := by
  induction h with
  | nil => exact ⟨[], rfl, fun x hx => (nomatch hx), rfl⟩
  | @cons v p vs ps a _ ih =>
    obtain ⟨t, rfl, ht⟩ := a
    obtain ⟨ks, e, k, m⟩ := ih
    refine ⟨(t, [p.1, p.2]) :: ks, by rw [e]; rfl, fun x hx => ?_, by rw [List.map_cons, m]; rfl⟩
    rcases List.mem_cons.mp hx with z | z
    · subst z
      exact ⟨p, List.mem_cons_self, rfl, ht⟩
    · obtain ⟨q, hq, r⟩ := k x z
      exact ⟨q, List.mem_cons_of_mem _ hq, r⟩
theorem cr_setP (hc : X.calm = true) (hu : X.A.units + 64 < cLine) : CallR X (.type "set") (rSetP X.K X.prog X.w) := by
  intro pins s σ H xs us Q I r h
  obtain ⟨l, vs, ps, rfl, hl, hp, hn, q⟩ := h
  obtain ⟨ks, rfl, hk, hm⟩ := prs_ks (K := X.K) hp
  refine cr_setOfT hc hu pins s σ H [.ref l] us Q I r ⟨l, ks, rfl, hl, fun x hx => ?_, ?_, fun a L ha h1 h2 => ?_⟩
  · obtain ⟨p, _, e, k⟩ := hk x hx
    rw [e]
    exact SqT.of k
  · have e := congrArg List.length hm
    rw [List.length_map, List.length_map] at e
    omega
  · have sm : Same H (upd H a (SetTO X.prog X.w a L)) := fun b o e => by
      rw [upd_ne (ne_of_none e ha)]
      exact e
    refine q _ a ha sm ⟨L, upd_same, fun x hx => ?_, fun p hp => ?_⟩
    · obtain ⟨p, hp, e, k⟩ := hk x (h1 x hx)
      exact ⟨p, hp, e, sm _ _ k⟩
    · have m : [p.1, p.2] ∈ ks.map (·.2) := by
        rw [hm]
        exact List.mem_map.mpr ⟨p, hp, rfl⟩
      obtain ⟨x, hx, e⟩ := List.mem_map.mp m
      rw [← e]
      exact h2 x hx
/-- len(s), s a set of places -/
theorem call_lenP : CallR X (.builtin "len") (fun xs H Q => ∃ (a : Addr) (ps : List Pl), xs = [.ref a] ∧ SetOf X.prog X.w H a ps ∧ Q (.int (nub ps).length) H) := by
  intro pins s σ H xs us Q I r h
  obtain ⟨a, ps, rfl, ⟨L, ha, h1, h2⟩, q⟩ := h
  rw [Vals.ref1 r]
  have R0 : SetT0 X.prog X.w s.heap a L := (I.hok a _ ha).1
  obtain ⟨es, ep, t, R⟩ := R0.full fun x hx => by
    obtain ⟨p, _, e, k⟩ := h1 x hx
    have z : SqT X.K H x.1 (x.2.map V.int) := by rw [e]; exact SqT.of k
    exact I.isT z
  obtain ⟨o, ho, hex, hd⟩ := R.ob
  obtain ⟨n1, n2⟩ := setOf_list (P := X.prog) (w := X.w) (a := a) h1 h2 R0.ex.choose_spec.choose_spec.choose_spec.2.2.2.1
  have hl : L.length = (nub ps).length := by
    have z : (L.map toP).Perm (nub ps) := (List.perm_ext_iff_of_nodup n1 (nub_nd ps)).mpr fun p => (n2 p).trans nub_mem.symm
    have z2 := z.length_eq
    rw [List.length_map] at z2
    exact z2
  have hsz := R.size
  have hfew := R.few
  refine call_len_set ho hex hd R.fits (by omega) ⟨.int (nub ps).length, H, I.tok _, ⟨_, by rw [hsz, hl]⟩, q⟩
end
end Pk

namespace Pk
open PySem L2 PyProof.Rows
/-! ### sorted(xs), xs a list of places; sorted(s), s a set of places -/
/-- what place a value stands for -/
def plAt (H : Hp) (v : V) : Pl := match v with
  | .ref t => (match H t with
    | some (.tup [.int a, .int b]) => (a, b)
    | _ => (0, 0))
  | _ => (0, 0)
theorem plAt_of {H : Hp} {v : V} {p : Pl} (h : Pr H v p) : plAt H v = p := by
  obtain ⟨t, rfl, h⟩ := h
  show (match H t with
    | some (.tup [.int a, .int b]) => (a, b)
    | _ => (0, 0)) = p
  rw [h]
theorem prs_plAt {H : Hp} {vs : List V} {ps : List Pl} (h : Prs H vs ps) : vs.map (plAt H) = ps := by
  induction h with
  | nil => rfl
  | cons a _ ih => rw [List.map_cons, ih, plAt_of a]
theorem prs_of_mem {H : Hp} : ∀ {ys : List V}, (∀ y ∈ ys, ∃ p, Pr H y p) → Prs H ys (ys.map (plAt H))
  | [], _ => .nil
  | y :: ys, h => by
    obtain ⟨p, hp⟩ := h y List.mem_cons_self
    refine .cons ?_ (prs_of_mem fun z hz => h z (List.mem_cons_of_mem _ hz))
    rw [plAt_of hp]
    exact hp
theorem prs_perm {H : Hp} {xs ys : List V} {ps : List Pl} (h : Prs H xs ps) (m : ys.Perm xs) : Prs H ys (ys.map (plAt H)) ∧ (ys.map (plAt H)).Perm ps := by
  refine ⟨prs_of_mem fun y hy => ?_, ?_⟩
  · obtain ⟨p, _, k⟩ := h.mem (m.mem_iff.mp hy)
    exact ⟨p, k⟩
  · have e := m.map (plAt H)
    rw [prs_plAt h] at e
    exact e
def rSortP (K : PySem.W.Frag) : List V → Hp → VK → Prop := fun vs H Q => ∃ (a : Addr) (xs : List V) (ps : List Pl), vs = [.ref a] ∧ SqL K H a xs ∧ Prs H xs ps ∧
  ∀ (p : Addr) (ys : List V), H p = none → Prs H ys (sortP ps) → Q (.ref p) (upd H p (.lst ys))
section
variable {X : Cx}
theorem call_sortP : CallR X (.builtin "sorted") (rSortP X.K) := by
  intro pins s σ H vs us Q I r h
  obtain ⟨a, xs, ps, rfl, hs, hp, q⟩ := h
  refine cr_sortedPO pins s σ H [.ref a] us Q I r ⟨a, xs, plAt H, rfl, hs, fun x hx => ?_, fun ys p h1 h2 hn => ?_⟩
  · obtain ⟨p, _, t, e, k⟩ := hp.mem hx
    refine ⟨t, e, ?_⟩
    have z : plAt H x = p := plAt_of ⟨t, e, k⟩
    rw [z]
    exact k
  · obtain ⟨k1, k2⟩ := prs_perm hp h2.perm
    have e : ys.map (plAt H) = sortP ps := sortP_of k2 (List.pairwise_map.mpr (List.Pairwise.imp (fun {x y} z => by
      have z1 : SrtO.lexB (plAt H y) (plAt H x) = false := z
      have z2 := SrtO.lexB_no.mp z1
      unfold lp
      omega) h1))
    rw [e] at k1
    exact q p ys hn k1
def rSortS (P : Program) (w : World) : List V → Hp → VK → Prop := fun vs H Q => ∃ (a : Addr) (ps : List Pl), vs = [.ref a] ∧ SetOf P w H a ps ∧
  ∀ (p : Addr) (ys : List V), H p = none → Prs H ys (marksP ps) → Q (.ref p) (upd H p (.lst ys))
theorem eachIs_map {α β : Type} {R : α → β → Prop} (f : β → α) : ∀ {bs : List β}, (∀ b ∈ bs, R (f b) b) → PySem.W.EachIs R (bs.map f) bs
  | [], _ => .nil
  | b :: bs, h => .cons (h b List.mem_cons_self) (eachIs_map f fun c hc => h c (List.mem_cons_of_mem _ hc))
theorem eachIs_back {α β : Type} {f : β → α} : ∀ {out : List α} {bs : List β}, PySem.W.EachIs (fun v b => v = f b) out bs → out = bs.map f
  | _, _, .nil => rfl
  | _, _, .cons e r => by rw [e, eachIs_back r]; rfl
theorem reads_two {h : Heap} {t : Addr} {a b : Int} (k : TS.TupInts h (.ref t) [a, b]) : ∃ as, Reads h (.ref t) (.tuple [.int a, .int b]) as ∧ as = [] := by
  obtain ⟨t', its, e, ⟨o, ho, hc, n, hd⟩, hi⟩ := k
  cases e
  generalize he : its.toList = l at hi
  cases hi with
  | cons _ t1 hi =>
    cases hi with
    | cons _ t2 hi =>
      cases hi
      exact ⟨[], .tuple ho hc hd (by rw [he]; exact .cons (.int _ _) (.cons (.int _ _) .nil)), rfl⟩
section
variable {P : Program} {w : World} {A : Around} {E : Value → Shared → Prop} {s : Shared}
theorem sorted_setP {a : Addr} {L : List (Addr × List Int)} {es : Array (Int × Value)} {ep : Nat} {t : SetTable} {Q : Value → Shared → Prop} (R : SetTR P w s.heap a L es ep t) (hh : A.handled = none) (hu : A.units + 64 < cLine)
    (hxy : ∀ b ∈ L, b.2 = [(toP b).1, (toP b).2])
    (hQ : ∀ (s' : Shared) (p : Addr) (out : Array Value) (c : Nat) (L' : List (Addr × List Int)), (∀ b o, s.heap.get? b = some o → s'.heap.get? b = some o) → s'.gens = s.gens → s'.os = s.os → s.heap.objs.size ≤ p →
      s'.heap.get? p = some (seqObj "list" out c) → out.toList = L'.map (fun q => Value.ref q.1) → L'.Perm L → L'.Pairwise (fun q r => lp (toP q) (toP r)) → Q (.ref p) s') :
    wpAny (model P w) A (call (.builtin "sorted") [.ref a]) Q E s := by
  obtain ⟨so, sho, shex, shd⟩ := R.ob
  have ssz := R.size
  have sfew := R.few
  have hcl : cLine = 10000 ∨ True := .inr trivial
  refine Calls.call_function_entry kind_sorted plain_sorted entry_sorted (args_sorted1 _) ?_
  unfold Builtin.«sorted»
  refine wpAny_bind (m := checkCount "sorted" 1 1 _) (wpAny_pure ?_)
  refine wpAny_bind (collect_set (A := A.in1) hh ⟨so, sho, shex.1, shd⟩ R.fits (by unfold scanBound; omega) R.tab.ris R.led fun s1 vs k1 z1 g1 o1 pm => ?_)
  have hes : es.toList.map (·.2) = L.map fun q => Value.ref q.1 := by
    rw [R.rows]
    unfold rowsOf
    rw [List.map_map]
    rfl
  rw [hes] at pm
  obtain ⟨L1, rfl, p1⟩ := perm_lift pm.symm L rfl
  have hvl : (L1.map fun q : Addr × List Int => Value.ref q.1).length < 64 := by
    rw [List.length_map, p1.length_eq]
    exact sfew
  refine wpAny_bind (wpAny_newList ?_ (by rw [sizeLine_eq]; omega))
  generalize hvs : (L1.map fun q : Addr × List Int => Value.ref q.1) = vs at *
  have hoL : (s1.heap.push (seqObj "list" vs.toArray 0)).get? s1.heap.objs.size = some (seqObj "list" vs.toArray 0) := Heap.get?_push_size _ rfl
  have tk : ∀ q ∈ L1, TS.TupInts (s1.heap.push (seqObj "list" vs.toArray 0)) (.ref q.1) [(toP q).1, (toP q).2] := fun q hq => by
    have hq' := p1.mem_iff.mp hq
    have z : TS.TupInts (s1.heap.push (seqObj "list" vs.toArray 0)) (.ref q.1) q.2 := tupInts_of (P := P) (w := w) (isT_keep (R.tup q hq') fun b u e => Heap.get?_push_of_some _ (k1 b u e))
    rw [hxy q hq'] at z
    exact z
  have er : PySem.W.EachIs (fun v (b : Addr × List Int) => ∃ as, Reads (s1.heap.push (seqObj "list" vs.toArray 0)) v (.tuple [.int (toP b).1, .int (toP b).2]) as ∧ s1.heap.objs.size ∉ as) vs L1 := by
    subst hvs
    refine eachIs_map _ fun b hb => ?_
    obtain ⟨as, k, e⟩ := reads_two (tk b hb)
    exact ⟨as, k, by rw [e]; simp⟩
  have ev : PySem.W.EachIs (fun v (b : Addr × List Int) => v = Value.ref b.1) vs L1 := by
    rw [← hvs]
    exact eachIs_map _ fun b _ => rfl
  refine wpAny_bind (wpAny_holding (PySem.W.list_sort_data (s := { s1 with heap := s1.heap.push (seqObj "list" vs.toArray 0) }) (enc := fun b : Addr × List Int => .tuple [.int (toP b).1, .int (toP b).2]) hoL ev er
    (PySem.W.AllAlike.of fun b b' => by rfl) (PySem.W.Sortable.tuples fun b => ⟨_, _, rfl⟩) ?_ (fun b _ => ?_) fun out ho he => ?_))
  · rw [← hvs, List.length_map] at hvl
    rw [sizeLine_eq]
    omega
  · have z : A.in1.units ≤ A.units + 3 := by
      unfold Around.in1
      simp
    show A.in1.units + 1 + 1 < cLine
    omega
  obtain ⟨c, hc⟩ := sortedHeap_at (vs := vs) (out := out.toArray) hoL
  have eo := eachIs_back he
  refine wpAny_pure ⟨_, rfl, hQ _ s1.heap.objs.size out.toArray c _ (fun b u e => ?_) g1 o1 z1 hc (by rw [List.toList_toArray]; exact eo) ((List.mergeSort_perm _ _).trans p1) ?_⟩
  · have q := k1 b u e
    have hlt := Heap.lt_size q
    show (sortedHeap _ s1.heap.objs.size vs out.toArray).get? b = some u
    rw [sortedHeap_old (Nat.ne_of_lt hlt) (by rw [size_push']; exact Nat.lt_succ_of_lt hlt)]
    exact Heap.get?_push_of_some _ q
  · rw [PySem.W.dataLe_ii]
    have z := List.pairwise_mergeSort (le := fun p q : Addr × List Int => decide ((toP p).1 < (toP q).1 ∨ ((toP p).1 = (toP q).1 ∧ (toP p).2 ≤ (toP q).2)))
      (fun a b c h1 h2 => decide_eq_true (by have k1 := of_decide_eq_true h1; have k2 := of_decide_eq_true h2; omega))
      (fun a b => by
        rw [Bool.or_eq_true, decide_eq_true_eq, decide_eq_true_eq]
        omega) L1
    exact List.Pairwise.imp (fun h => of_decide_eq_true h) z
end
theorem call_sortS (hc : X.calm = true) (hu : X.A.units + 64 < cLine) : CallR X (.builtin "sorted") (rSortS X.prog X.w) := by
  intro pins s σ H vs us Q I r h
  obtain ⟨a, ps, rfl, ⟨L, ha, h1, h2⟩, q⟩ := h
  rw [Vals.ref1 r]
  have R0 : SetT0 X.prog X.w s.heap a L := (I.hok a _ ha).1
  obtain ⟨es, ep, t, R⟩ := R0.full fun x hx => by
    obtain ⟨p, _, e, k⟩ := h1 x hx
    have z : SqT X.K H x.1 (x.2.map V.int) := by rw [e]; exact SqT.of k
    exact I.isT z
  obtain ⟨n1, n2⟩ := setOf_list (P := X.prog) (w := X.w) (a := a) h1 h2 R.nd
  have hxy : ∀ b ∈ L, b.2 = [(toP b).1, (toP b).2] := fun b hb => by
    obtain ⟨p, _, e, _⟩ := h1 b hb
    unfold toP
    rw [e]
    rfl
  refine sorted_setP R (I.ok.hd hc) hu hxy fun s' p out c L' kp kg ko hp hg hout pm pw => ?_
  have few := R.few
  have hl' : L'.length < 64 := by rw [pm.length_eq]; exact few
  have fresh : H p = none := I.hok.fresh hp
  have hz : (L'.map fun q => V.ref q.1).length ≤ sizeLine := by
    rw [List.length_map, sizeLine_eq]
    omega
  have hv : Vals (L'.map fun q => V.ref q.1) out.toList := by
    rw [hout]
    exact vals_of_refs L'
  have J : Inv X pins σ (upd H p (.lst (L'.map fun q => V.ref q.1))) { s with heap := s'.heap, gens := s'.gens, drawn := s'.drawn, toks := s'.toks } :=
    I.call (ch := []) (Un.laid kp hp fresh) (I.hok.laid kp hp ⟨hz, out.toList, c, hv, hg⟩) (by rw [kg]; exact I.bare) (fun _ z => nomatch z)
  have es' : s' = { s with heap := s'.heap, gens := s'.gens, drawn := s'.drawn, toks := s'.toks } := by
    obtain ⟨a1, a2, a3, a4, a5⟩ := s'
    obtain ⟨b1, b2, b3, b4, b5⟩ := s
    cases ko
    rfl
  rw [es']
  refine ⟨.ref p, _, J, rfl, q p _ fresh ?_⟩
  have e : L'.map toP = marksP ps := by
    refine marksP_of ((pm.map toP).nodup_iff.mpr n1) (fun p => ((pm.map toP).mem_iff).trans (n2 p)) (List.pairwise_map.mpr pw)
  rw [← e]
  have all : ∀ M : List (Addr × List Int), (∀ x ∈ M, x ∈ L) → Prs H (M.map fun q => V.ref q.1) (M.map toP) := by
    intro M
    induction M with
    | nil => intro _; exact .nil
    | cons x M ih =>
      intro hm
      obtain ⟨p, _, ep, k⟩ := h1 x (hm x List.mem_cons_self)
      refine .cons ⟨x.1, rfl, ?_⟩ (ih fun y hy => hm y (List.mem_cons_of_mem _ hy))
      rw [k]
      unfold toP
      rw [ep]
      rfl
  exact all L' fun x hx => pm.mem_iff.mp hx
end
end Pk

namespace Pk
open PySem L2 PySem.Spec PyProof.Rows
/-! ### try with several clauses, with and without names -/
/-- the ends of a clause whose name stands in slot i: behind it the slot is empty -/
def asEnds (i : Nat) (D : Ends) : Ends := { nx := fun τ G => D.nx (τ.set i none) G, rt := D.rt, bk := fun τ G => D.bk (τ.set i none) G, ct := fun τ G => D.ct (τ.set i none) G }
abbrev Sui := Addr → Value → Option Addr → TS
/-- what the clauses wish of an error of the body -/
def wNext (K : PySem.W.Frag) (Wo : WX) (D : Ends) : List (Value × Option Nat × Sui) → WX
  | [] => Wo
  | (c, none, ts) :: more => fun cls d τ G => ∃ b, PySem.W.exmOne K cls c = some b ∧ (b = true → ∀ x, G x = none → ts x cls d D τ G) ∧ (b = false → wNext K Wo D more cls d τ G)
  | (c, some i, ts) :: more => fun cls d τ G => ∃ b, PySem.W.exmOne K cls c = some b ∧ (b = true → ∀ x, G x = none → ts x cls d (asEnds i D) (τ.set i (some (.ref x))) G) ∧ (b = false → wNext K Wo D more cls d τ G)
/-- try: the body's reading, its errors wished for as the clauses take them -/
def tTry (K : PySem.W.Frag) (Wo : WX) (l : List (Value × Option Nat × Sui)) (tb : WX → TS) : TS := fun D τ G => tb (wNext K Wo D l) D τ G
inductive Clauses (X : Cx) : List ExceptHandler → List (Value × Option Nat × Sui) → Prop
  | nil : Clauses X [] []
  | plain {x : Str} {c : Value} {ts : Sui} {s0 : Stmt} {su : List Stmt} {p1 p2 : Pos} {hs : List ExceptHandler} {l : List (Value × Option Nat × Sui)} (hc : Names X x c)
      (hsu : ∀ (a : Addr) (oe : Obj) (cls : Value) (d : Option Addr) (pn : List (Addr × Obj)), Zc cls d oe → (∃ vs, oe.data = .fields vs) → PSs (X.suite a ((a, oe) :: pn)) (s0 :: su) (ts a cls d)) (more : Clauses X hs l) :
      Clauses X (.ExceptHandler (some (.Name x p1)) none (s0 :: su) p2 :: hs) ((c, none, ts) :: l)
  | named {x n : Str} {i : Nat} {c : Value} {ts : Sui} {s0 : Stmt} {su : List Stmt} {p1 p2 : Pos} {hs : List ExceptHandler} {l : List (Value × Option Nat × Sui)} (hN : X.N.Nodup) (hi : X.N[i]? = some n) (hn : X.env.kindOf n = some .local) (hc : Names X x c)
      (hsu : ∀ (a : Addr) (oe : Obj) (cls : Value) (d : Option Addr) (pn : List (Addr × Obj)), Zc cls d oe → (∃ vs, oe.data = .fields vs) → PSs (X.suite a ((a, oe) :: pn)) (s0 :: su) (ts a cls d)) (more : Clauses X hs l) :
      Clauses X (.ExceptHandler (some (.Name x p1)) (some n) (s0 :: su) p2 :: hs) ((c, some i, ts) :: l)
section
variable {X : Cx} {body : List Stmt} {c0 : ExceptHandler} {cs : List ExceptHandler} {l : List (Value × Option Nat × Sui)} {pos : Pos} {tb : WX → TS} {Wo : WX}
theorem ps_try_next (hst : X.stack = X.env :: X.outer) (hfm : X.env.frame = some X.env.locals) (tk : Takes X Wo)
    (hbody : ∀ (W : WX) (pn : List (Addr × Obj)) (xe : Value → Shared → Prop), Takes (X.tr pn xe) W → PassesOwn (model X.prog X.w) X.A X.env xe → PSs (X.tr pn xe) body (tb W))
    (hcs : Clauses X (c0 :: cs) l) : PS X (.Try body (c0 :: cs) [] [] pos) (tTry X.K Wo l tb) := by
  refine ⟨fun pins s τ G D I hw => ?_⟩
  have kk := I.ok
  have hfrs : X.A.frames = some (X.env :: X.outer) := by rw [kk.frames, hst]
  let M := model X.prog X.w
  refine wpAny_Try_except ?_
  refine wpAny_mono ((hbody (wNext X.K Wo D l) (X.pn ++ pins) (fun e s₁ => wpAny M X.A (noteFrame e X.env) (fun _ s₂ => wpAny M X.A (setFlight e none) (fun _ s₃ => wpAny M X.A (handleBy e X.env (c0 :: cs)) (SP X pins D) X.xe s₃) X.xe s₂) X.xe s₁)
    (fun u s' xx => ?_) PassesOwn.looking).run [] s τ G D (I.toTry _) hw) (fun fl s1 hsp => ?_) (fun e s1 he => he)
  · obtain ⟨a, B, sI, pins', τ', G', cls, d, rfl, J0, nb, up, sky, na, hos, hag, wish⟩ := xx
    have J : Inv X pins τ' G' sI := J0.ofTry kk
    have sk : Sky B (X.env :: X.outer) a (Zc cls d) X.env.locals s'.heap := hst ▸ sky
    show wpAny M X.A (noteFrame (.ref a) X.env) _ _ _
    refine Sky.land Zc.steady hfrs hfm sk fun h3 fl3 up3 => ?_
    have J3 : Inv X pins τ' G' { s' with heap := h3 } := J.landed nb fl3.1 (up.trans up3) hos hag
    obtain ⟨oe3, vs3, he3, hz3, hd3⟩ := fl3.there
    have nfr : a ∉ frs (X.env :: X.outer) := fun hm => by
      obtain ⟨_, o', e', hnf⟩ := fl3.2.2.1.mem hm
      rw [he3] at e'
      cases e'
      exact hnf _ hd3
    have nL : a ≠ X.env.locals := fun z => nfr (List.mem_filterMap.mpr ⟨X.env, List.mem_cons_self, by rw [hfm, z]⟩)
    have nF : a ∉ X.fs := fun hm => by
      obtain ⟨e, he, q⟩ := List.mem_filterMap.mp hm
      exact nfr (List.mem_filterMap.mpr ⟨e, List.mem_cons_of_mem _ he, q⟩)
    have S3 := J3.suite he3 hd3 na nL nF
    have LT : PySem.W.Looks M h3 (typeOf (.ref a)) cls := fun A Q E s k q => wpAny_typeOf_ref (k _ _ he3) (by rw [hz3.1]; exact q)
    have test : ∀ {x : Str} {c : Value} {p1 : Pos} {Q : Value → Shared → Prop} {E : Value → Shared → Prop}, Names X x c → Q c { s' with heap := h3 } → wpAny M (X.A.mark (some (.ref a))) (eval (.Name x p1) X.env) Q E { s' with heap := h3 } :=
      fun {x c p1 Q E} hc q => by
        obtain ⟨hg, hdbg, hm | ⟨hm, hv, hnn⟩⟩ := hc
        · exact ld_glob (X := X.suite a ((a, oe3) :: (X.pn ++ pins))) S3 hg hm q hdbg
        · exact ld_blt (X := X.suite a ((a, oe3) :: (X.pn ++ pins))) S3 hg hm hv q hnn hdbg
    have each : ∀ {hs : List ExceptHandler} {l' : List (Value × Option Nat × Sui)}, Clauses X hs l' → wNext X.K Wo D l' cls d τ' G' → wpAny M X.A (handleBy (.ref a) X.env hs) (SP X pins D) X.xe { s' with heap := h3 } := by
      intro hs l' hk
      induction hk with
      | nil =>
        intro wish
        refine wpAny_handleBy_nil ?_
        obtain ⟨k1, k2, k3, oe, vs, T, oT, ts', he, hz, hd, hf1, hr⟩ := id fl3
        unfold PySem.passOn
        refine wpAny_bind (wpAny_field he hd hf1 ?_)
        rw [if_neg (show ¬ ((Value.ref T == Value.none) = true) from by simp)]
        have out : wpAny M X.A (setFlight (.ref a) X.env.frame) (fun _ s4 => wpAny M X.A (throw (.ref a) : Sem Flow) (SP X pins D) X.xe s4) X.xe { s' with heap := h3 } := by
          rw [hfm]
          refine HandSPX.setFlight_upZ fl3 fun h4 hh4 up4 => wpAny_throw (tk _ _ ?_)
          exact ⟨a, B, sI, pins, τ', G', cls, d, rfl, J, nb, (up.trans up3).trans up4, .inr (.inr (hst ▸ hh4)), na, hos, hag, wish⟩
        first
          | exact wpAny_bind (wpAny_pure (wpAny_bind out))
          | exact wpAny_bind out
      | plain hc hsu more ih =>
        intro wish
        obtain ⟨b, hb1, yes, no⟩ := wish
        refine wpAny_handleBy_cons (codeAny_handlers_test ?_) (by intro q; cases q)
        refine test hc ((PySem.W.exm_one (M := M) J3.kIn LT hb1).here ?_)
        cases b with
        | false => exact ih (no rfl)
        | true =>
          refine codeAny_handlers_suite (HandSPX.lands_againZ fl3 fun h4 fl4 up4 => ?_)
          have J4 : Inv X pins τ' G' { s' with heap := h4 } := J.landed nb fl4.1 ((up.trans up3).trans up4) hos hag
          obtain ⟨oe4, vs4, he4, hz4, hd4⟩ := fl4.there
          refine wpAny_mono ((hsu a oe4 cls d (X.pn ++ pins) hz4 ⟨_, hd4⟩).run [] _ _ G' _ (J4.suite he4 hd4 na nL nF) (yes rfl a na)) (fun f s6 hsp => ?_) (fun _ _ z => z.elim)
          cases f with
          | ret u =>
            obtain ⟨v6, τ6, G6, S6, r6, q6⟩ := hsp
            exact ⟨v6, τ6, G6, S6.unsuite kk, r6, q6⟩
          | next =>
            obtain ⟨τ6, G6, S6, q6⟩ := hsp
            exact ⟨τ6, G6, S6.unsuite kk, q6⟩
          | brk =>
            obtain ⟨τ6, G6, S6, q6⟩ := hsp
            exact ⟨τ6, G6, S6.unsuite kk, q6⟩
          | cont =>
            obtain ⟨τ6, G6, S6, q6⟩ := hsp
            exact ⟨τ6, G6, S6.unsuite kk, q6⟩
      | named hN hi hn hc hsu more ih =>
        intro wish
        obtain ⟨b, hb1, yes, no⟩ := wish
        refine wpAny_handleBy_cons (codeAny_handlers_test ?_) (by intro q; cases q)
        refine test hc ((PySem.W.exm_one (M := M) J3.kIn LT hb1).here ?_)
        cases b with
        | false => exact ih (no rfl)
        | true =>
          refine codeAny_handlers_suite_as (HandSPX.lands_againZ fl3 fun h4 fl4 up4 => ?_)
          have J4 : Inv X pins τ' G' { s' with heap := h4 } := J.landed nb fl4.1 ((up.trans up3).trans up4) hos hag
          obtain ⟨oe4, vs4, he4, hz4, hd4⟩ := fl4.there
          refine store_ok (X := X.suite a ((a, oe4) :: (X.pn ++ pins))) (v := .ref a) (J4.suite he4 hd4 na nL nF) hN hi (.inl hn) rfl (fun s5 S5 => ?_) (.inr hn)
          refine wpAny_mono ((hsu a oe4 cls d (X.pn ++ pins) hz4 ⟨_, hd4⟩).run [] s5 _ G' _ S5 (yes rfl a na)) (fun f s6 hsp => ?_) (fun _ _ z => z.elim)
          cases f with
          | ret u =>
            obtain ⟨v6, τ6, G6, S6, r6, q6⟩ := hsp
            exact gone_ok (S6.unsuite kk) hN hi hn fun s7 J7 => ⟨v6, _, G6, J7, r6, q6⟩
          | next =>
            obtain ⟨τ6, G6, S6, q6⟩ := hsp
            exact gone_ok (S6.unsuite kk) hN hi hn fun s7 J7 => ⟨_, G6, J7, q6⟩
          | brk =>
            obtain ⟨τ6, G6, S6, q6⟩ := hsp
            exact gone_ok (S6.unsuite kk) hN hi hn fun s7 J7 => ⟨_, G6, J7, q6⟩
          | cont =>
            obtain ⟨τ6, G6, S6, q6⟩ := hsp
            exact gone_ok (S6.unsuite kk) hN hi hn fun s7 J7 => ⟨_, G6, J7, q6⟩
    exact each hcs wish
  · cases fl with
    | ret u =>
      obtain ⟨v, τ', G', J', r, q⟩ := hsp
      exact ⟨v, τ', G', J'.ofTry kk, r, q⟩
    | next =>
      obtain ⟨τ', G', J', q⟩ := hsp
      exact wpAny_execs_nil ⟨τ', G', J'.ofTry kk, q⟩
    | brk =>
      obtain ⟨τ', G', J', q⟩ := hsp
      exact ⟨τ', G', J'.ofTry kk, q⟩
    | cont =>
      obtain ⟨τ', G', J', q⟩ := hsp
      exact ⟨τ', G', J'.ofTry kk, q⟩
end
end Pk

namespace Pk
open PySem L2 PySem.Spec PyProof.Rows
/-! ### calls of methods and of classes whose errors are wished for at the caller's slots -/
section
variable {X : Cx} {CX : CXT} {k : Nat} {C f : Addr} {fd : FuncData} {ps : List Str} {sp : Sp} {E : L2.St → XK} {x m : Str} {p pos apos : Pos} {o e : Expr} {es : List Expr} {ta : TE} {t : TA}
def tMethS (C : Addr) (m : Str) (sp : Sp) (E : L2.St → XK) (ta : TE) (t : TA) : TE := fun τ G Q => ta τ G fun x G1 => ∃ a dx fs, x = .ref a ∧ G1 a = some (.ins C dx fs) ∧ fs.lookup m = none ∧ t τ G1 fun vs G2 => sp (x :: vs) G2 Q (E τ)
theorem pe_methS {pl : Sem Bool} (ho : PE X o ta) (c : Cls X.K C) (hm : Meth X.K C m f) (F : FnOk X.prog X.w X.K X.mg X.base CX k f fd ps sp) (hr : Room k X.A) (hb : Binds X.K fd ps []) (hx : ∀ τ, PassesAt CX X τ (E τ)) (ha : PA X (e :: es) t)
    (h1 : starEach (e :: es) X.env = (false, eval e X.env) :: starEach es X.env := by rfl) (h2 : (backTo pos (starEach es X.env)).any (·.1) = false := by rfl)
    (h3 : eval (.Call (.Attribute o m apos) (e :: es) [] pos) X.env = (do
      let recv ← eval o X.env
      standAt apos.atName
      let (g, first) ← holding [recv] (getMethod recv m pl)
      callWith pos g first (backTo pos (starEach (e :: es) X.env)) (backToKw pos (keywordEach [] X.env))) := by rfl) :
    PE X (.Call (.Attribute o m apos) (e :: es) [] pos) (tMethS C m sp E ta t) := by
  refine ⟨fun pins s τ G Q I h => PySem.W.methodCall_KW (pl := pl) (thn (ho.run pins s τ G _ I h) fun u s1 hh => ?_) h3⟩
  obtain ⟨y, G1, I1, ry, a, dx, fs, rfl, ea, l, q⟩ := hh
  obtain rfl : u = Value.ref a := ry
  refine getmeth_ok I1 ea c hm l (PySem.W.callWith_K (first := [.ref a]) (h₀ := X.base) I.ok.mod.kin hm.kp (thn (ha.run pos pins s1 τ G1 _ I1 q) fun us s2 hh => ?_) h1 h2)
  obtain ⟨vs, G2, I2, r, q2⟩ := hh
  refine ⟨I2.kIn, run_fnSD (dvs := []) (ds := []) (E := E) (us := .ref a :: us) (vs := .ref a :: vs) F hr hb .nil (hx τ) I2 (.cons rfl r) ?_⟩
  rw [List.append_nil]
  exact q2
def tMakeS (C : Addr) (sp : Sp) (E : L2.St → XK) (t : TA) : TE := fun τ G Q => t τ G fun vs G1 => ∀ x dx, G1 x = none → G1 dx = none → dx ≠ x →
  sp (.ref x :: vs) (upd (upd G1 dx (.own x)) x (.ins C dx [])) (fun v G2 => v = .non ∧ Q (.ref x) G2) (E τ)
theorem pe_makeS (M : Mk X.K C f) (F : FnOk X.prog X.w X.K X.mg X.base CX k f fd ps sp) (hr : Room (k + 1) X.A) (hg : Gl X x) (hm : X.mg x = some (.ref C)) (hb : Binds X.K fd ps []) (hx : ∀ τ, PassesAt CX X τ (E τ)) (ha : PA X (e :: es) t)
    (hdb : (x == ("__debug__" : Str)) = false := by decide) (h1 : starEach (e :: es) X.env = (false, eval e X.env) :: starEach es X.env := by rfl) (h2 : (backTo pos (starEach es X.env)).any (·.1) = false := by rfl) :
    PE X (.Call (.Name x p) (e :: es) [] pos) (tMakeS C sp E t) := by
  refine ⟨fun pins s τ G Q I h => wpAny_Call_Name_kw (ld_glob I hg hm ?_ hdb)⟩
  refine PySem.W.callWith_K (h₀ := X.base) I.ok.mod.kin M.kp (thn (ha.run pos pins s τ G _ I h) fun us s1 hh => ?_) h1 h2
  obtain ⟨vs, G1, I1, r, q⟩ := hh
  refine ⟨I1.kIn, ?_⟩
  show wpAny _ _ (call (.ref C) us) _ _ _
  let n := s1.heap.objs.size
  have hq := q (n + 1) n (I1.hok.fresh (Nat.le_succ _)) (I1.hok.fresh (Nat.le_refl _)) (Nat.ne_of_lt (Nat.lt_succ_self _))
  have I2 := Inv.made (C := C) I1
  have r2 : Vals (V.ref (n + 1) :: vs) (Value.ref (n + 1) :: us) := .cons rfl r
  have hl : (Value.ref (n + 1) :: us).length = ps.length := by
    have z := r2.length
    rw [F.len _ _ _ _ hq] at z
    exact z.symm
  have hbb := hb _ (Value.ref (n + 1) :: us) I2.kIn (by rw [List.append_nil]; exact hl)
  rw [List.append_nil] at hbb
  refine wpAny_call (make_map (f := f) I1.kIn M.makes M.init (beq_iff_eq.mp M.fn) (codeAny_mono (F.run _ X.stack _ _ ⟨Value.ref (n + 1) :: us, []⟩ (Value.ref (n + 1) :: us) _ _ (E τ) (hr.make C us []) (I2.env0.make C us []) hbb r2 hq) fun r s' hq' => ?_))
  cases r with
  | error z => exact hx τ pins _ _ z s' I2 hq'
  | ok fl =>
    cases fl with
    | ret u =>
      obtain ⟨v, G', I3, rv, ev, q3⟩ := I2.after hq'
      subst ev
      exact ⟨rv, V.ref (n + 1), G', I3, rfl, q3⟩
    | next => exact hq'.elim
    | brk => exact hq'.elim
    | cont => exact hq'.elim
end
/-! ### what was said of places stays when a list is written anew -/
theorem Pr.over {H : Hp} {m : Addr} {zs ws : List V} {v : V} {p : Pl} (h : Pr H v p) (hm : H m = some (.lst zs)) : Pr (upd H m (.lst ws)) v p := by
  obtain ⟨t, rfl, h⟩ := h
  exact ⟨t, rfl, by rw [upd_ne (ne_of h hm (by intro z; cases z))]; exact h⟩
theorem Prs.over {H : Hp} {m : Addr} {zs ws vs : List V} {ps : List Pl} (h : Prs H vs ps) (hm : H m = some (.lst zs)) : Prs (upd H m (.lst ws)) vs ps := by
  induction h with
  | nil => exact .nil
  | cons a _ ih => exact .cons (a.over hm) ih
theorem Same.over {H0 H : Hp} {m : Addr} {o : HO} (k : Same H0 H) (n : H0 m = none) : Same H0 (upd H m o) := fun b u e => by
  rw [upd_ne (ne_of_none e n)]
  exact k b u e
/-! ### lists of two lists of places -/
def dLL (a b : List Pl) : PyData := .list [dL a, dL b]
theorem eqv_dLL (a b a' b' : List Pl) : PyData.eqv (dLL a b) (dLL a' b') = decide (a = a' ∧ b = b') := by
  show PyData.eqvAll [dL a, dL b] [dL a', dL b'] = _
  simp only [PyData.eqvAll, eqv_dL, Bool.and_true, Bool.decide_and]
theorem sh_dLL (a b : List Pl) : SeqAt.shaped (dLL a b) = true := by
  have h1 := depth_dPs a
  have h2 := depth_dPs b
  have e : PyData.canLay0 (dLL a b) = (PyData.canLayAll0 (a.map dP) && (PyData.canLayAll0 (b.map dP) && true)) := rfl
  unfold SeqAt.shaped
  rw [e, lay_dPs, lay_dPs]
  refine decide_eq_true ?_
  show max (PyData.depthAll (a.map dP) + 1) (max (PyData.depthAll (b.map dP) + 1) 0) + 1 ≤ 64
  omega
def dPP (a b : Pl) : PyData := .tuple [dP a, dP b]
theorem eqv_dPP (a b a' b' : Pl) : PyData.eqv (dPP a b) (dPP a' b') = decide (a = a' ∧ b = b') := by
  show PyData.eqvAll [dP a, dP b] [dP a', dP b'] = _
  simp only [PyData.eqvAll, eqv_dP, Bool.and_true, Bool.decide_and]
theorem sh_dPP (a b : Pl) : SeqAt.shaped (dPP a b) = true := rfl
end Pk

namespace Pk
open PySem L2 PySem.Spec PyProof.Rows
/-! ### tuples of numbers and texts (links are such), lists of them -/
abbrev Tk := List L2.Key
/-- v is a tuple that holds k -/
def Kr (H : Hp) (v : V) (k : Tk) : Prop := ∃ t, v = .ref t ∧ H t = some (.tup (k.map kV))
theorem Kr.same {H H' : Hp} {v : V} {k : Tk} (h : Kr H v k) (z : Same H H') : Kr H' v k := by
  obtain ⟨t, rfl, h⟩ := h
  exact ⟨t, rfl, z _ _ h⟩
theorem Kr.over {H : Hp} {m : Addr} {zs ws : List V} {v : V} {k : Tk} (h : Kr H v k) (hm : H m = some (.lst zs)) : Kr (upd H m (.lst ws)) v k := by
  obtain ⟨t, rfl, h⟩ := h
  refine ⟨t, rfl, ?_⟩
  rw [upd_ne (ne_of h hm fun z => nomatch z)]
  exact h
inductive Krs (H : Hp) : List V → List Tk → Prop
  | nil : Krs H [] []
  | cons {v : V} {k : Tk} {vs : List V} {ks : List Tk} : Kr H v k → Krs H vs ks → Krs H (v :: vs) (k :: ks)
section
variable {H H' : Hp} {vs us : List V} {ks ls : List Tk}
theorem Krs.same (h : Krs H vs ks) (z : Same H H') : Krs H' vs ks := by
  induction h with
  | nil => exact .nil
  | cons a _ ih => exact .cons (a.same z) ih
theorem Krs.over {m : Addr} {zs ws : List V} (h : Krs H vs ks) (hm : H m = some (.lst zs)) : Krs (upd H m (.lst ws)) vs ks := by
  induction h with
  | nil => exact .nil
  | cons a _ ih => exact .cons (a.over hm) ih
theorem Krs.len (h : Krs H vs ks) : vs.length = ks.length := by
  induction h with
  | nil => rfl
  | cons a _ ih => exact congrArg (· + 1) ih
theorem Krs.app (h : Krs H vs ks) (g : Krs H us ls) : Krs H (vs ++ us) (ks ++ ls) := by
  induction h with
  | nil => exact g
  | cons a _ ih => exact .cons a ih
theorem Krs.snoc {v : V} {k : Tk} (h : Krs H vs ks) (g : Kr H v k) : Krs H (vs ++ [v]) (ks ++ [k]) := h.app (.cons g .nil)
theorem Krs.at (h : Krs H vs ks) : ∀ {i : Nat} {v : V}, vs[i]? = some v → ∃ k, ks[i]? = some k ∧ Kr H v k := by
  induction h with
  | nil => intro i v e; cases e
  | cons a _ ih =>
    intro i v e
    cases i with
    | zero => cases e; exact ⟨_, rfl, a⟩
    | succ i => exact ih e
theorem Krs.mem (h : Krs H vs ks) {v : V} (m : v ∈ vs) : ∃ k ∈ ks, Kr H v k := by
  induction h with
  | nil => cases m
  | cons a _ ih =>
    rcases List.mem_cons.mp m with e | m
    · subst e; exact ⟨_, List.mem_cons_self, a⟩
    · obtain ⟨k, hk, q⟩ := ih m
      exact ⟨k, List.mem_cons_of_mem _ hk, q⟩
/-- by their addresses -/
theorem Krs.split (h : Krs H vs ks) : ∃ L : List (Addr × Tk), vs = L.map (fun p => V.ref p.1) ∧ ks = L.map (·.2) ∧ ∀ p ∈ L, H p.1 = some (.tup (p.2.map kV)) := by
  induction h with
  | nil => exact ⟨[], rfl, rfl, fun p z => nomatch z⟩
  | cons a _ ih =>
    obtain ⟨t, rfl, e⟩ := a
    obtain ⟨L, rfl, rfl, q⟩ := ih
    refine ⟨(t, _) :: L, rfl, rfl, fun p hp => ?_⟩
    rcases List.mem_cons.mp hp with rfl | hp
    · exact e
    · exact q p hp
theorem krs_of {L : List (Addr × Tk)} (h : ∀ p ∈ L, H p.1 = some (.tup (p.2.map kV))) : Krs H (L.map fun p => V.ref p.1) (L.map (·.2)) := by
  induction L with
  | nil => exact .nil
  | cons p L ih => exact .cons ⟨p.1, rfl, h p List.mem_cons_self⟩ (ih fun q hq => h q (List.mem_cons_of_mem _ hq))
end
/-! ### their data -/
def kd : L2.Key → PyData
  | .inl i => .int i
  | .inr x => .str x
def dK (k : Tk) : PyData := .tuple (k.map kd)
def dKs (ks : List Tk) : PyData := .list (ks.map dK)
theorem eqv_kd (a b : L2.Key) : PyData.eqv (kd a) (kd b) = decide (a = b) := by
  cases a <;> cases b <;> simp only [kd, PyData.eqv, Sum.inl.injEq, Sum.inr.injEq, reduceCtorEq, decide_false] <;> first | rfl | (simp [PyData.eqv]; done) | skip
theorem eqvAll_kd : ∀ a b : Tk, PyData.eqvAll (a.map kd) (b.map kd) = decide (a = b)
  | [], [] => by simp [PyData.eqvAll]
  | [], _ :: _ => by simp [PyData.eqvAll]
  | _ :: _, [] => by simp [PyData.eqvAll]
  | p :: ps, q :: qs => by
    simp only [List.map_cons, PyData.eqvAll, eqv_kd, eqvAll_kd ps qs, List.cons.injEq]
    by_cases h1 : p = q <;> by_cases h2 : ps = qs <;> simp [h1, h2]
theorem eqv_dK (a b : Tk) : PyData.eqv (dK a) (dK b) = decide (a = b) := by
  unfold dK
  rw [PyData.eqv, eqvAll_kd]
theorem eqvAll_dK : ∀ ps qs : List Tk, PyData.eqvAll (ps.map dK) (qs.map dK) = decide (ps = qs)
  | [], [] => by simp [PyData.eqvAll]
  | [], _ :: _ => by simp [PyData.eqvAll]
  | _ :: _, [] => by simp [PyData.eqvAll]
  | p :: ps, q :: qs => by
    simp only [List.map_cons, PyData.eqvAll, eqv_dK, eqvAll_dK ps qs, List.cons.injEq]
    by_cases h1 : p = q <;> by_cases h2 : ps = qs <;> simp [h1, h2]
theorem eqv_dKs (ps qs : List Tk) : PyData.eqv (dKs ps) (dKs qs) = decide (ps = qs) := by
  unfold dKs
  rw [PyData.eqv, eqvAll_dK]
instance (k : Tk) (ks : List Tk) : Decidable (k ∈ ks) := decidable_of_iff (ks.any (fun q => decide (q = k)) = true) (by simp)
theorem any_dK (ks : List Tk) (k : Tk) : ((ks.map dK).any fun z => PyData.eqv z (dK k)) = decide (k ∈ ks) := by
  induction ks with
  | nil => simp
  | cons q ks ih =>
    rw [List.map_cons, List.any_cons, ih, eqv_dK]
    by_cases h1 : q = k
    · subst h1; simp
    · have h2 : ¬ k = q := fun z => h1 z.symm
      simp [h1, h2]
theorem dp_keys {K : PySem.W.Frag} {H : Hp} : ∀ k : Tk, DpAll K H (k.map kV) (k.map kd)
  | [] => .nil
  | .inl i :: k => .cons (.int i) (dp_keys k)
  | .inr x :: k => .cons (.str x) (dp_keys k)
theorem Kr.dp {K : PySem.W.Frag} {H : Hp} {v : V} {k : Tk} (h : Kr H v k) : Dp K H v (dK k) := by
  obtain ⟨t, rfl, h⟩ := h
  exact .tup (SqT.of h) (dp_keys k)
theorem Krs.dps {K : PySem.W.Frag} {H : Hp} {vs : List V} {ks : List Tk} (h : Krs H vs ks) : DpAll K H vs (ks.map dK) := by
  induction h with
  | nil => exact .nil
  | cons a _ ih => exact .cons a.dp ih
theorem Krs.dl {K : PySem.W.Frag} {H : Hp} {l : Addr} {vs : List V} {ks : List Tk} (h : Krs H vs ks) (e : SqL K H l vs) : Dp K H (.ref l) (dKs ks) := .lst e h.dps
theorem depth_kds : ∀ k : Tk, PyData.depthAll (k.map kd) = 0
  | [] => rfl
  | .inl _ :: k => by
    show max 0 (PyData.depthAll (k.map kd)) = 0
    rw [depth_kds k]
    rfl
  | .inr _ :: k => by
    show max 0 (PyData.depthAll (k.map kd)) = 0
    rw [depth_kds k]
    rfl
/-- its texts are texts -/
def okk (k : Tk) : Bool := PyData.canLayAll0 (k.map kd)
theorem lay_dKs : ∀ ks : List Tk, (∀ k ∈ ks, okk k = true) → PyData.canLayAll0 (ks.map dK) = true
  | [], _ => rfl
  | k :: ks, h => by
    show (PyData.canLayAll0 (k.map kd) && PyData.canLayAll0 (ks.map dK)) = true
    rw [lay_dKs ks fun q hq => h q (List.mem_cons_of_mem _ hq), show PyData.canLayAll0 (k.map kd) = true from h k List.mem_cons_self]
    rfl
theorem depth_dKs : ∀ ks : List Tk, PyData.depthAll (ks.map dK) ≤ 1
  | [] => by show 0 ≤ 1; omega
  | k :: ks => by
    have ih := depth_dKs ks
    show max (PyData.depthAll (k.map kd) + 1) (PyData.depthAll (ks.map dK)) ≤ 1
    rw [depth_kds]
    omega
theorem sh_dK {k : Tk} (h : okk k = true) : SeqAt.shaped (dK k) = true := by
  unfold SeqAt.shaped dK
  rw [show PyData.canLay0 (.tuple (k.map kd)) = PyData.canLayAll0 (k.map kd) from rfl, show PyData.canLayAll0 (k.map kd) = true from h]
  refine decide_eq_true ?_
  show PyData.depthAll (k.map kd) + 1 ≤ 64
  rw [depth_kds]
  omega
theorem sh_dKs {ks : List Tk} (hk : ∀ k ∈ ks, okk k = true) : SeqAt.shaped (dKs ks) = true := by
  unfold SeqAt.shaped dKs
  rw [show PyData.canLay0 (.list (ks.map dK)) = PyData.canLayAll0 (ks.map dK) from rfl, lay_dKs ks hk]
  have h := depth_dKs ks
  refine decide_eq_true ?_
  show PyData.depthAll (ks.map dK) + 1 ≤ 64
  omega
end Pk

namespace Pk
open PySem L2 PySem.Spec PyProof.Rows
/-! ### sorted(xs), xs a list of such tuples; sorted(d), d a dict whose keys they are -/
/-- where the texts stand -/
def shp (k : Tk) : List Bool := k.map fun x => match x with
  | .inl _ => false
  | .inr _ => true
def leK : Tk → Tk → Bool := PySem.W.dataLe false dK
def sortK (ks : List Tk) : List Tk := ks.mergeSort leK
theorem sortK_perm (ks : List Tk) : (sortK ks).Perm ks := List.mergeSort_perm _ _
theorem alike_kd : ∀ a b : Tk, shp a = shp b → PySem.W.alikeAll (a.map kd) (b.map kd) = true
  | [], [], _ => by simp [PySem.W.alikeAll]
  | [], _ :: _, h => by simp [shp] at h
  | _ :: _, [], h => by simp [shp] at h
  | x :: a, y :: b, h => by
    have h2 : shp a = shp b := by
      unfold shp at h ⊢
      simp only [List.map_cons, List.cons.injEq] at h
      exact h.2
    rw [List.map_cons, List.map_cons, PySem.W.alikeAll, alike_kd a b h2]
    unfold shp at h
    simp only [List.map_cons, List.cons.injEq] at h
    cases x <;> cases y <;> simp at h <;> simp [kd, PySem.W.alike]
theorem alike_dK {a b : Tk} (h : shp a = shp b) : PySem.W.alike (dK a) (dK b) = true := by
  unfold dK
  rw [PySem.W.alike]
  exact alike_kd a b h
theorem reads_keys {h : Heap} : ∀ (k : Tk) {its : List Value}, Vals (k.map kV) its → ReadsAll h its (k.map kd) []
  | [], _, .nil => .nil
  | .inl i :: k, _, .cons r t => by
    obtain ⟨u, rfl⟩ := (show ∃ u, _ = Value.int i u from r)
    exact .cons (.int i u) (reads_keys k t)
  | .inr x :: k, _, .cons r t => by
    obtain ⟨u, rfl⟩ := (show ∃ u, _ = Value.str x u from r)
    exact .cons (.str x u) (reads_keys k t)
theorem reads_k {P : Program} {w : World} {H : Hp} {h : Heap} {t : Addr} {k : Tk} (ok : HOk P w H h) (e : H t = some (.tup (k.map kV))) : Reads h (.ref t) (dK k) [] := by
  obtain ⟨_, its, r, o, ho, hc, n, hd⟩ := (show ObjOk P w H h t (.tup (k.map kV)) from ok t _ e)
  exact .tuple ho hc hd (reads_keys k (by simpa using r))
theorem each_map {α β : Type} {R : α → β → Prop} (f : β → α) : ∀ {bs : List β}, (∀ b ∈ bs, R (f b) b) → PySem.W.EachIs R (bs.map f) bs
  | [], _ => .nil
  | b :: bs, h => .cons (h b List.mem_cons_self) (each_map f fun c hc => h c (List.mem_cons_of_mem _ hc))
theorem refs_vals (L : List (Addr × Tk)) : Vals (L.map fun p => V.ref p.1) (L.map fun p => Value.ref p.1) := by
  induction L with
  | nil => exact .nil
  | cons p L ih => exact .cons rfl ih
theorem vals_refs' : ∀ {L : List (Addr × Tk)} {its : List Value}, Vals (L.map fun p => V.ref p.1) its → its = L.map fun p => Value.ref p.1
  | [], _, .nil => rfl
  | p :: L, _, .cons r t => by
    have r : _ = Value.ref p.1 := r
    rw [r, vals_refs' t]
    rfl
theorem sort_pairs (L : List (Addr × Tk)) : (L.mergeSort (PySem.W.dataLe false fun b => dK b.2)).map (·.2) = sortK (L.map (·.2)) := List.map_mergeSort fun a _ b _ => rfl
/-- the order sorts: all alike, none empty -/
def Fit (ks : List Tk) : Prop := ∃ sh : List Bool, sh ≠ [] ∧ ∀ k ∈ ks, shp k = sh
theorem Fit.alike {L : List (Addr × Tk)} (h : Fit (L.map (·.2))) : PySem.W.AllAlike (L.map fun b => dK b.2) := by
  obtain ⟨sh, _, q⟩ := h
  intro d hd d' hd'
  obtain ⟨b, hb, rfl⟩ := List.mem_map.mp hd
  obtain ⟨c, hc, rfl⟩ := List.mem_map.mp hd'
  exact alike_dK ((q _ (List.mem_map_of_mem hb)).trans (q _ (List.mem_map_of_mem hc)).symm)
theorem Fit.sortable {L : List (Addr × Tk)} (h : Fit (L.map (·.2))) : PySem.W.Sortable (L.map fun b => dK b.2) := .inl fun d hd => by
  obtain ⟨sh, q0, q⟩ := h
  obtain ⟨b, hb, rfl⟩ := List.mem_map.mp hd
  have e := q _ (List.mem_map_of_mem hb)
  cases hk : b.2 with
  | nil =>
    have hk2 : (b.2 : Tk) = [] := hk
    rw [show shp ((fun x : Addr × Tk => x.2) b) = shp b.2 from rfl, hk2] at e
    exact absurd e.symm q0
  | cons x r => exact ⟨kd x, r.map kd, rfl⟩
theorem depth_dK (k : Tk) : (dK k).depth = 1 := by
  show PyData.depthAll (k.map kd) + 1 = 1
  rw [depth_kds]
section
variable {X : Cx}
def rSortK (K : PySem.W.Frag) : List V → Hp → VK → Prop := fun vs H Q => ∃ (a : Addr) (xs : List V) (ks : List Tk), vs = [.ref a] ∧ SqL K H a xs ∧ Krs H xs ks ∧ Fit ks ∧
  ∀ (p : Addr) (ys : List V), H p = none → Krs H ys (sortK ks) → Q (.ref p) (upd H p (.lst ys))
theorem call_sortK (hu : X.A.units + 64 < cLine) : CallR X (.builtin "sorted") (rSortK X.K) := by
  intro pins s σ H vs us Q I r h
  obtain ⟨a, xs, ks, rfl, hs, hk, hf, q⟩ := h
  obtain ⟨its, rv, hl, hz⟩ := I.list hs
  rw [Vals.ref1 r]
  obtain ⟨L, rfl, rfl, hL⟩ := hk.split
  have e := vals_refs' rv
  subst e
  refine PySem.W.sorted_data (bs := L) (enc := fun b : Addr × Tk => dK b.2) (R := fun v b => v = Value.ref b.1) hl.isList (each_map _ fun b _ => rfl) (each_map _ fun b hb => ⟨[], reads_k I.hok (hL b hb)⟩) hf.alike hf.sortable
    (by rw [List.length_map] at hz; exact hz) (fun b _ => by show X.A.units + 2 + (dK b.2).depth < cLine; rw [depth_dK]; omega) fun out ho eo => ?_
  have eo2 := eachIs_back eo
  obtain ⟨ep, he'⟩ := PyProof.Rows.sortedAll_at s.heap (L.map fun p => Value.ref p.1) out.toArray
  have hlen : ((L.mergeSort (PySem.W.dataLe false fun b => dK b.2)).map fun p => V.ref p.1).length ≤ sizeLine := by
    rw [List.length_map, (List.mergeSort_perm _ _).length_eq]
    rw [List.length_map] at hz
    exact hz
  refine ⟨.ref _, upd H (s.heap.objs.size + 1) (.lst ((L.mergeSort (PySem.W.dataLe false fun b => dK b.2)).map fun p => V.ref p.1)), I.laid (t' := s.toks) (fun _ _ => PyProof.Rows.sortedAll_old) (Nat.le_succ _)
    ⟨hlen, out, ep, by rw [eo2]; exact refs_vals _, he'⟩, rfl, q _ _ (I.hok.fresh (Nat.le_succ _)) ?_⟩
  rw [← sort_pairs]
  exact krs_of fun p hp => hL p ((List.mergeSort_perm _ _).mem_iff.mp hp)
def rSortDT : List V → Hp → VK → Prop := fun vs H Q => ∃ (a : Addr) (kvs : List (Tk × V)), vs = [.ref a] ∧ Rd H a (.dT kvs) ∧ Fit (kvs.map (·.1)) ∧
  ∀ (p : Addr) (ys : List V), H p = none → Krs H ys (sortK (kvs.map (·.1))) → Q (.ref p) (upd H p (.lst ys))
theorem call_sortDT (hc : X.calm = true) (hu : X.A.units + 64 < cLine) : CallR X (.builtin "sorted") rSortDT := by
  intro pins s σ H vs us Q I r h
  obtain ⟨a, kvs, rfl, hd, hf, q⟩ := h
  rw [Vals.ref1 r]
  obtain ⟨z, lo, es0, pr, o, es, ep, ho, hx, hdt, he, hn⟩ := (show ObjOk X.prog X.w H s.heap a (.dT kvs) from hd.ok I.hok)
  have l1 : es.size = es0.length := size_of_entries he
  have l2 : kvs.length = es0.length := Paired.length pr
  refine Calls.call_function_entry PyProof.Rows.kind_sorted PyProof.Rows.plain_sorted PyProof.Rows.entry_sorted (PyProof.Rows.args_sorted1 _) ?_
  unfold Builtin.«sorted»
  refine wpAny_bind (m := checkCount "sorted" 1 1 _) (wpAny_pure ?_)
  refine wpAny_bind (PySem.W.kdu_collect (A := X.A.in1) (kdl_raw lo hx hdt) (I.ok.hd hc) ho (by omega) fun h' tk acc hk hacc => ?_)
  -- what was collected: the keys' addresses
  have ea : acc.toList = es0.map fun x => Value.ref x.2.1 := by
    have hl : acc.toList.length = es0.length := by rw [Array.length_toList, hacc.1]; exact l1
    refine List.ext_getElem? fun j => ?_
    rw [List.getElem?_map]
    cases hj : acc.toList[j]? with
    | none =>
      have h1 := List.getElem?_eq_none_iff.mp hj
      rw [List.getElem?_eq_none (by omega)]
      rfl
    | some v =>
      obtain ⟨en, hen, hv⟩ := hacc.2 j v (by rw [← Array.getElem?_toList]; exact hj)
      have qe := entry_at he j
      rw [hen] at qe
      cases hb : es0[j]? with
      | none =>
        rw [hb] at qe
        exact nomatch (show some en = none from qe)
      | some b =>
        rw [hb] at qe
        have e2 : en = entryOfKey (tupleKind (mixKind X.prog X.w)) b := Option.some.inj qe
        rw [hv, e2]
        rfl
  obtain ⟨L, eL1, eL2, hL⟩ : ∃ L : List (Addr × Tk), (es0.map fun x => Value.ref x.2.1) = L.map (fun p => Value.ref p.1) ∧ kvs.map (·.1) = L.map (·.2) ∧ ∀ p ∈ L, H p.1 = some (.tup (p.2.map kV)) := by
    clear ea hacc he l1 l2 q hf hd
    induction pr with
    | nil => exact ⟨[], rfl, rfl, fun p z => nomatch z⟩
    | cons h1 _ ih =>
      obtain ⟨L, e1, e2, e3⟩ := ih (by simp at z; omega) (by simp at hn; exact hn.2)
      rename_i p0 q0 _ _ _
      refine ⟨(q0.2.1, p0.1) :: L, by rw [List.map_cons, List.map_cons, e1], by rw [List.map_cons, List.map_cons, e2], fun p hp => ?_⟩
      rcases List.mem_cons.mp hp with rfl | hp
      · exact h1.2.1
      · exact e3 p hp
  rw [eL1] at ea
  rw [eL2] at hf q
  have hlen0 : L.length ≤ sizeLine := by
    have e := congrArg List.length eL2
    rw [List.length_map, List.length_map] at e
    omega
  have I1 : Inv X pins σ H { s with heap := h', toks := tk } := I.kept hk
  rw [ea]
  refine wpAny_bind (wpAny_newList ?_ (by rw [List.length_map]; exact hlen0))
  have hoL : (h'.push (seqObj "list" (L.map fun p => Value.ref p.1).toArray 0)).get? h'.objs.size = some (seqObj "list" (L.map fun p => Value.ref p.1).toArray 0) := Heap.get?_push_size _ rfl
  show wpAny _ _ _ _ _ { s with heap := h'.push (seqObj "list" (L.map fun p => Value.ref p.1).toArray 0), toks := tk }
  have ok2 : HOk X.prog X.w H (h'.push (seqObj "list" (L.map fun p => Value.ref p.1).toArray 0)) := I1.hok.kept fun b u e => Heap.get?_push_of_some _ e
  refine wpAny_bind (wpAny_holding (PySem.W.list_sort_data (s := { s with heap := h'.push (seqObj "list" (L.map fun p => Value.ref p.1).toArray 0), toks := tk }) (bs := L) (enc := fun b : Addr × Tk => dK b.2) (R := fun v b => v = Value.ref b.1)
    hoL (each_map _ fun b _ => rfl) (each_map _ fun b hb => ⟨[], reads_k ok2 (hL b hb), by simp⟩) hf.alike hf.sortable hlen0 (fun b _ => ?_) fun out hout eo => ?_))
  · have z1 : X.A.in1.units ≤ X.A.units + 3 := by
      unfold Around.in1
      simp
    show X.A.in1.units + 1 + (dK b.2).depth < cLine
    rw [depth_dK]
    omega
  have eo2 := eachIs_back eo
  obtain ⟨c, hcc⟩ := PyProof.Rows.sortedHeap_at (vs := L.map fun p => Value.ref p.1) (out := out.toArray) hoL
  have hlen : ((L.mergeSort (PySem.W.dataLe false fun b => dK b.2)).map fun p => V.ref p.1).length ≤ sizeLine := by
    rw [List.length_map, (List.mergeSort_perm _ _).length_eq]
    exact hlen0
  refine wpAny_pure ⟨_, rfl, .ref h'.objs.size, upd H h'.objs.size (.lst ((L.mergeSort (PySem.W.dataLe false fun b => dK b.2)).map fun p => V.ref p.1)), I1.laid (t' := tk) (fun b u e => ?_) (Nat.le_refl _)
    ⟨hlen, out, c, by rw [eo2]; exact refs_vals _, hcc⟩, rfl, q _ _ (I1.hok.fresh (Nat.le_refl _)) ?_⟩
  · have lt : b < h'.objs.size := Heap.lt_size e
    rw [PyProof.Rows.sortedHeap_old (Nat.ne_of_lt lt) (by rw [size_push']; exact Nat.lt_succ_of_lt lt)]
    exact Heap.get?_push_of_some _ e
  · rw [← sort_pairs]
    exact krs_of fun p hp => hL p ((List.mergeSort_perm _ _).mem_iff.mp hp)
end
end Pk

namespace Pk
open PySem L2 PySem.Spec PyProof.Rows GxR NdefX
/-! ### all stands that stood, but tables of code objects may have grown -/
structure Kp (H H' : Hp) : Prop where
  at_ : ∀ b o, H b = some o → (∀ ps, o ≠ .tbl ps) → H' b = some o
  tab : ∀ P, TabG H P → TabG H' P
theorem kpS {H H' : Hp} (h : Same H H') : Kp H H' := ⟨fun b o e _ => h b o e, fun P ⟨ps, e, t⟩ => ⟨ps, h _ _ e, t⟩⟩
theorem Kp.refl (H : Hp) : Kp H H := kpS (Same.refl H)
theorem Kp.trans {H H1 H2 : Hp} (a : Kp H H1) (b : Kp H1 H2) : Kp H H2 := ⟨fun c o e n => b.at_ c o (a.at_ c o e n) n, fun P h => b.tab P (a.tab P h)⟩
theorem Tabbed.kp {P : Addr} {H H' : Hp} (h : Tabbed P H H') (t : TabG H P) : Kp H H' := by
  obtain ⟨ps, e0, t0⟩ := t
  refine ⟨fun b o e n => ?_, fun P' ⟨qs, e, t'⟩ => ?_⟩
  · rw [h.2 b fun z => by rw [z, e0] at e; exact n ps (Option.some.inj e).symm]
    exact e
  · by_cases z : P' = P
    · rw [z]
      exact h.1
    · exact ⟨qs, by rw [h.2 _ z]; exact e, t'⟩
section
variable {H H' : Hp}
theorem Kp.ins (k : Kp H H') {b C dx : Addr} {fs : List (Str × V)} (e : H b = some (.ins C dx fs)) : H' b = some (.ins C dx fs) := k.at_ _ _ e fun _ z => nomatch z
theorem Kp.lst (k : Kp H H') {b : Addr} {xs : List V} (e : H b = some (.lst xs)) : H' b = some (.lst xs) := k.at_ _ _ e fun _ z => nomatch z
theorem Kp.tup (k : Kp H H') {b : Addr} {xs : List V} (e : H b = some (.tup xs)) : H' b = some (.tup xs) := k.at_ _ _ e fun _ z => nomatch z
theorem Kp.dT (k : Kp H H') {b : Addr} {kvs : List (Tk × V)} (e : H b = some (.dT kvs)) : H' b = some (.dT kvs) := k.at_ _ _ e fun _ z => nomatch z
theorem Kp.frz (k : Kp H H') {b : Addr} {o : Obj} {u : HO} (e : H b = some (.frz o u)) : H' b = some (.frz o u) := k.at_ _ _ e fun _ z => nomatch z
theorem Kp.seq {K : PySem.W.Frag} (k : Kp H H') {a : Addr} {xs : List V} (h : SqL K H a xs) : SqL K H' a xs := by
  rcases h with (h | ⟨o, h⟩) | h
  · exact .inl (.inl (k.lst h))
  · exact .inl (.inr ⟨o, k.frz h⟩)
  · exact .inr h
theorem Kp.free (k : Kp H H') {l : Addr} (h : H' l = none) : H l = none ∨ ∃ ps, H l = some (.tbl ps) := by
  cases q : H l with
  | none => exact .inl rfl
  | some o =>
    by_cases t : ∃ ps, o = .tbl ps
    · obtain ⟨ps, rfl⟩ := t
      exact .inr ⟨ps, rfl⟩
    · rw [k.at_ _ _ q fun ps z => t ⟨ps, z⟩] at h
      cases h
theorem Kr.kp {v : V} {x : Tk} (h : Kr H v x) (k : Kp H H') : Kr H' v x := by
  obtain ⟨t, rfl, h⟩ := h
  exact ⟨t, rfl, k.tup h⟩
theorem Krs.kp {vs : List V} {ks : List Tk} (h : Krs H vs ks) (k : Kp H H') : Krs H' vs ks := by
  induction h with
  | nil => exact .nil
  | cons a _ ih => exact .cons (a.kp k) ih
theorem Pr.kp {v : V} {p : Pl} (h : Pr H v p) (k : Kp H H') : Pr H' v p := by
  obtain ⟨t, rfl, h⟩ := h
  exact ⟨t, rfl, k.tup h⟩
theorem Prs.kp {vs : List V} {ps : List Pl} (h : Prs H vs ps) (k : Kp H H') : Prs H' vs ps := by
  induction h with
  | nil => exact .nil
  | cons a _ ih => exact .cons (a.kp k) ih
end
/-! ### a def whose code object is known -/
structure FunC (K : PySem.W.Frag) (x qual : Str) (st : Stmt) (f c : Addr) (fd : FuncData) : Prop where
  ex : ∃ (oc : Value) (od : Option Addr) (kV doc pm : Value) (an : Option Addr) (ct : Value) (osl : Array (Option Value)),
    fd = PySem.W.fnOf x qual (defArgs st) (defBody st) (defScope st) .none kV doc pm an (.ref c) ct ∧ K.lookup f = some ⟨oc, od, .func fd, osl⟩ ∧ PySem.W.codeIn K (.ref c) qual = true
  kp : PySem.W.keepIn K (.ref f) = true
section
variable {P : Program} {w : World} {K : PySem.W.Frag} {mg : Str → Option Value} {base : Heap}
theorem FunC.ok {x qual : Str} {st : Stmt} {f c : Addr} {fd : FuncData} {N ps : List Str} {k : Nat} {sp : Sp} (F : FunC K x qual st f c fd) (S : FnScope N ps (defScope st)) (len : ∀ vs H Q E, sp vs H Q E → vs.length = ps.length)
    (hbody : ∀ (A : Around) (outer : List Env) (s : Shared) (H : Hp) (vs : List V) (Q : VK) (E : XK), Room k (A.deeper (envOfC qual (defScope st) s.heap.objs.size f (.ref c))) → sp vs H Q E →
      ∃ t, PSs (cxOf CX0 P w K mg base N qual (defScope st) f (.ref c) A outer s H E).nox (defBody st) t ∧ t { nx := fun _ H' => Q .non H', rt := Q } (start N vs) H) : FnOk P w K mg base CX0 (k + 1) f fd ps sp := by
  obtain ⟨oc, od, kV, doc, pm, an, ct, osl, rfl, lk, hcd⟩ := F.ex
  refine fn_of lk hcd S len fun A outer s H vs Q E hr h => ?_
  obtain ⟨t, z, q⟩ := hbody A outer s H vs Q E hr h
  exact ⟨t, z.nox, q⟩
theorem FunC.okX {x qual : Str} {st : Stmt} {f c : Addr} {fd : FuncData} {N ps : List Str} {k : Nat} {sp : Sp} (F : FunC K x qual st f c fd) (S : FnScope N ps (defScope st)) (len : ∀ vs H Q E, sp vs H Q E → vs.length = ps.length)
    (hbody : ∀ (A : Around) (outer : List Env) (s : Shared) (H : Hp) (vs : List V) (Q : VK) (E : XK), Room k (A.deeper (envOfC qual (defScope st) s.heap.objs.size f (.ref c))) → sp vs H Q E →
      ∃ t, PSs (cxOf (L2.CX P w) P w K mg base N qual (defScope st) f (.ref c) A outer s H E) (defBody st) t ∧ t { nx := fun _ H' => Q .non H', rt := Q } (start N vs) H) : FnOk P w K mg base (L2.CX P w) (k + 1) f fd ps sp := by
  obtain ⟨oc, od, kV, doc, pm, an, ct, osl, rfl, lk, hcd⟩ := F.ex
  exact fn_of lk hcd S len fun A outer s H vs Q E hr h => hbody A outer s H vs Q E hr h
end
/-! ### a generator expression's scope, by looking -/
def gscC (outer sc : Scope) : Bool := (match sc.kind with | .function => true | _ => false) && !sc.isCoroutine && (match sc.names.lookup (".0" : Str) with | some .local => true | _ => false) &&
  (sc.names.all fun y => match y.2 with
    | .cell => false
    | .free => (match outer.names.lookup y.1 with | some .cell => true | _ => false)
    | _ => true)
theorem gsc_by {env : Env} {outer sc : Scope} (ho : env.scope = outer) (hc : env.cells = cellsFrom (env.locals + 1) env.scope.names []) (h : gscC outer sc = true) : GSc env sc := by
  subst ho
  unfold gscC at h
  simp only [Bool.and_eq_true, List.all_eq_true] at h
  obtain ⟨⟨⟨h1, h2⟩, h3⟩, h4⟩ := h
  refine ⟨?_, by simpa using h2, fun y hy e => ?_, ?_, fun y hy e => ?_⟩
  · split at h1
    · assumption
    · cases h1
  · have q := h4 y hy
    rw [e] at q
    cases q
  · split at h3
    · assumption
    · cases h3
  · have q := h4 y hy
    rw [e] at q
    have q2 : (match env.scope.names.lookup y.1 with | some .cell => true | _ => false) = true := q
    split at q2
    · rename_i z
      rw [hc]
      exact cell_has z
    · cases q2
def gfrC (XN : List Str) (outer sc : Scope) (N : List Str) (fr : List (Option Nat)) : Bool := decide (fr.length = N.length) && ((N.zip fr).all fun p => match p.2 with
  | none => true
  | some j => (match sc.names.lookup p.1 with | some .free => true | _ => false) && decide (XN[j]? = some p.1) && (match outer.names.lookup p.1 with | some .cell => true | _ => false))
theorem gfr_by {X : Cx} {outer sc : Scope} {XN N : List Str} {fr : List (Option Nat)} (ho : X.env.scope = outer) (hn : X.N = XN) (h : gfrC XN outer sc N fr = true) : GFr X sc N fr := by
  subst ho hn
  unfold gfrC at h
  simp only [Bool.and_eq_true, List.all_eq_true, decide_eq_true_eq] at h
  obtain ⟨h1, h2⟩ := h
  refine ⟨h1, fun i y j e1 e2 => ?_⟩
  have m : (y, some j) ∈ N.zip fr := by
    refine List.mem_of_getElem? (i := i) ?_
    rw [List.getElem?_zip_eq_some]
    exact ⟨e1, e2⟩
  have q := h2 _ m
  simp only [Bool.and_eq_true, decide_eq_true_eq] at q
  obtain ⟨⟨q1, q2⟩, q3⟩ := q
  refine ⟨?_, q2, .inl ?_⟩
  · split at q1
    · assumption
    · cases q1
  · split at q3
    · assumption
    · cases q3
end Pk

namespace Pk
open PySem L2 PySem.Spec PyProof.Rows
/-! ### the entries that a dict comprehension over a list lays -/
theorem dcT_list {K : PySem.W.Frag} {a : Addr} {xs : List V} {g : TG} {tk tv : TE} {vs : List Nat} {σ : L2.St} {H1 : Hp} {D : Addr} {Qd : Hp → Prop} (Pv : Nat → Hp → Prop) (h0 : Pv 0 (upd H1 D (.dT []))) (hl : ∀ i H, i ≤ xs.length → Pv i H → SqL K H a xs)
    (hs : ∀ i x H, xs[i]? = some x → Pv i H → g x (wipe σ vs) H fun σ2 H2 => wipe σ2 vs = wipe σ vs ∧ tk σ2 H2 fun y H4 => tv σ2 H4 fun z H5 =>
      ∃ b kvs k, y = .ref b ∧ H5 b = some (.tup (k.map kV)) ∧ H5 D = some (.dT kvs) ∧ kvs.length < sizeLine ∧ Pv (i + 1) (upd H5 D (.dT (putK kvs k z)))) (hd : ∀ H, Pv xs.length H → Qd H) :
    ∃ W : Nat → Nat → Hp → Prop, (∃ m, W 0 m (upd H1 D (.dT []))) ∧ ∀ i m H, W i m H →
      ((Itl K a).stop i H ∧ Qd H) ∨ ((Itl K a).go i H ∧ ∃ Nx : Hp → Prop, (∀ H', Nx H' → ∃ m', m' < m ∧ W (i + 1) m' H') ∧
        ∀ x H', (Itl K a).yld i H x H' → g x (wipe σ vs) H' fun σ2 H2 => wipe σ2 vs = wipe σ vs ∧ tk σ2 H2 fun y H4 => tv σ2 H4 fun z H5 =>
          ∃ b kvs k, y = .ref b ∧ H5 b = some (.tup (k.map kV)) ∧ H5 D = some (.dT kvs) ∧ kvs.length < sizeLine ∧ Nx (upd H5 D (.dT (putK kvs k z)))) := by
  refine ⟨fun i m H => m = xs.length - i ∧ i ≤ xs.length ∧ Pv i H, ⟨xs.length, by simp, Nat.zero_le _, h0⟩, fun i m H w => ?_⟩
  obtain ⟨rfl, le, p⟩ := w
  have q := hl i H le p
  by_cases lt : i < xs.length
  · refine .inr ⟨⟨xs, xs[i], q, List.getElem?_eq_getElem lt⟩, Pv (i + 1), fun H' p' => ⟨xs.length - (i + 1), by omega, rfl, lt, p'⟩, fun x H' y => ?_⟩
    obtain ⟨rfl, y⟩ := y
    exact hs i x _ (y xs q) p
  · obtain rfl : i = xs.length := by omega
    exact .inl ⟨⟨xs, q, Nat.le_refl _⟩, hd H p⟩
theorem snoc_ind {α : Type} {P : List α → Prop} (h0 : P []) (h1 : ∀ l x, P l → P (l ++ [x])) (l : List α) : P l := by
  rw [← List.reverse_reverse l]
  induction l.reverse with
  | nil => exact h0
  | cons x r ih =>
    rw [List.reverse_cons]
    exact h1 _ _ ih
/-- laid one after another -/
def ded (ks : List Tk) : List (Tk × V) := ks.foldl (fun kvs k => putK kvs k (.bl true)) []
theorem ded_snoc (ks : List Tk) (k : Tk) : ded (ks ++ [k]) = putK (ded ks) k (.bl true) := by
  unfold ded
  rw [List.foldl_append]
  rfl
theorem ded_mem : ∀ (ks : List Tk) (k : Tk), (valV (ded ks) k).isSome = decide (k ∈ ks) := by
  intro ks
  refine snoc_ind (P := fun ks : List Tk => ∀ k : Tk, (valV (ded ks) k).isSome = decide (k ∈ ks)) (fun k => by simp [ded, valV_nil]) (fun ks x ih k => ?_) ks
  rw [ded_snoc, valV_put]
  by_cases h : k = x
  · subst h
    simp
  · rw [if_neg h, ih k]
    simp [h]
theorem ded_le (ks : List Tk) : (ded ks).length ≤ ks.length := by
  refine snoc_ind (P := fun ks : List Tk => (ded ks).length ≤ ks.length) (Nat.le_refl _) (fun ks x ih => ?_) ks
  rw [ded_snoc, List.length_append]
  have q := length_putK (ded ks) x (.bl true)
  show _ ≤ ks.length + 1
  omega
theorem putK_old {kvs : List (Tk × V)} {k : Tk} (v : V) (h : (valV kvs k).isSome = true) : (putK kvs k v).length = kvs.length := by
  unfold putK
  rw [if_pos (by rw [valV_any]; exact h), List.length_map]
theorem ded_eq (ks : List Tk) : (ks.Nodup → ded ks = ks.map fun k => (k, V.bl true)) ∧ (¬ ks.Nodup → (ded ks).length < ks.length) := by
  refine snoc_ind (P := fun ks : List Tk => (ks.Nodup → ded ks = ks.map fun k => (k, V.bl true)) ∧ (¬ ks.Nodup → (ded ks).length < ks.length)) ⟨fun _ => rfl, fun h => (h .nil).elim⟩ (fun ks x ih => ?_) ks
  obtain ⟨ih1, ih2⟩ := ih
  have le := ded_le ks
  by_cases hx : x ∈ ks
  · have hv : (valV (ded ks) x).isSome = true := by rw [ded_mem]; exact decide_eq_true hx
    refine ⟨fun h => ?_, fun _ => ?_⟩
    · have z := (List.nodup_append.mp h).2.2 x hx x (by simp)
      exact (z rfl).elim
    · rw [ded_snoc, putK_old _ hv, List.length_append]
      show _ < ks.length + 1
      omega
  · have hv : valV (ded ks) x = none := by
      have q := ded_mem ks x
      rw [decide_eq_false hx] at q
      cases e : valV (ded ks) x with
      | none => rfl
      | some y => rw [e] at q; cases q
    have step : ded (ks ++ [x]) = ded ks ++ [(x, .bl true)] := by rw [ded_snoc, putK_new _ hv]
    refine ⟨fun h => ?_, fun h => ?_⟩
    · rw [step, ih1 (List.nodup_append.mp h).1, List.map_append]
      rfl
    · have hn : ¬ ks.Nodup := fun z => h (List.nodup_append.mpr ⟨z, by simp, fun y hy y' hy' e => by
        rw [List.mem_singleton.mp hy'] at e
        rw [e] at hy
        exact hx hy⟩)
      have q := ih2 hn
      rw [step, List.length_append, List.length_append]
      show (ded ks).length + 1 < ks.length + 1
      omega
theorem ded_keys {ks : List Tk} (h : ks.Nodup) : (ded ks).map (·.1) = ks := by
  rw [(ded_eq ks).1 h, List.map_map]
  exact List.map_id ks
end Pk

namespace Pk
open PySem PySem.Spec PyProof.Rows L2
/-! ### set(xs), xs a list of numbers; its sorted members -/
/-- the set as it is made -/
abbrev nuI (w : World) : Obj := { cls := .type "set", dict := none, data := .set #[] 0 (.fresh 0 0 (!w.params.followText "set-order")) }
/-- what set.__init__ leaves of the numbers -/
def LeftI (w : World) (s : Shared) (ns : List Int) (s2 : Shared) : Prop := ∃ h' tk c, s2 = { s with heap := h', toks := tk } ∧ SetR w h' s.heap.objs.size (fun j => decide (j ∈ ns)) c ∧ c ≤ ns.length ∧ ∀ b o, s.heap.get? b = some o → h'.get? b = some o
section
variable {P : Program} {w : World} {A : Around} {E : Value → Shared → Prop} {s : Shared} {ns : List Int}
theorem wide_ints {l : Addr} {items : Array Value} {Q : Value → Shared → Prop} (hh : A.handled = none) (hl : s.heap.IsList l items) (hit : IntsAre items.toList ns) (few : ns.length + 1 < scanBound)
    (h : ∀ s2, LeftI w s ns s2 → Q (.ref s.heap.objs.size) s2) : wpAny (model P w) A (call (.type "set") [.ref l]) Q E s := by
  have size : items.size = ns.length := by
    rw [← Array.length_toList, IntsAre.length hit]
  obtain ⟨c, tl, mro⟩ := F.called_set.mro
  have made' := F.called_set.made
  have sub' := F.called_set.sub
  have not' := F.called_set.notType
  have can' := F.called_set.canCreate
  have chk' := F.typeCall_set_1 (.ref l)
  refine wpAny_call (codeAny_of_tree ?_)
  show wpAny _ _ (callAny (.type "set") _) _ _ _
  refine wpAny_pure ⟨Code.quiet_builtin _ (by decide +kernel), codeAny_builtin F.entry_type_call ?_⟩
  rw [Around.under_plain (weight_type_call_type "set" [.ref l] []) rfl]
  repeat (any_goals (first | assumption | wp_step))
  refine codeAny_mono (code_set_led1 (.ref l) (E := E) (Q₁ := fun v s1 => v = .ref s.heap.objs.size ∧ s1 = { s with heap := s.heap.push (nuI w) }) ⟨rfl, rfl⟩) fun r s1 hr => ?_
  cases r with
  | error e => exact hr
  | ok fl =>
    cases fl with
    | ret obj =>
      obtain ⟨rfl, rfl⟩ := hr
      have at_ : (s.heap.push (nuI w)).get? s.heap.objs.size = some (nuI w) := Heap.get?_push_size _ rfl
      have isS : Shared.TypeIs { s with heap := s.heap.push (nuI w) } (.ref s.heap.objs.size) "set" := ⟨_, at_, rfl⟩
      have look' := F.called_set.init.lookup
      have bind' := F.called_set.init.bind (.ref s.heap.objs.size)
      repeat (any_goals (first | assumption | wp_step))
      refine codeAny_mono (codeAny_call_builtin (R := wants (fun r s2 => r = .none ∧ LeftI w s ns s2) E) F.called_set.init.plain F.entry_set_init (check_set_init_1 isS ?_)) fun r2 s2 hr2 => ?_
      · obtain ⟨⟨cl, di, da, sl⟩, ho, hc, n0, hd⟩ := hl
        cases (hc : cl = .type "list")
        cases (hd : da = .seq items n0)
        have ho1 := Heap.get?_push_of_some (nuI w) ho
        have il : (s.heap.push (nuI w)).IsList l items := ⟨_, ho1, rfl, n0, rfl⟩
        have a1 := F.sub_list_set
        have a2 := F.sub_list_frozenset
        have a3 : (Value.type "list" == Value.type "dict") = false := by decide
        unfold Builtin.«set.__init__» noKeywords Builtin.Frozenset.updateFrom
        generalize hy : pyIter = Y
        wp_walk
        subst hy
        refine wpAny_pyIter_list il (wpAny_bind (wpAny_runValue ?_))
        have ls : l < s.heap.objs.size := Heap.lt_size ho
        have sz : (s.heap.push (nuI w)).objs.size = s.heap.objs.size + 1 := Heap.size_push ..
        have calm : A.in1.in1.in1.handled = none := by simp [hh]
        have apart : l ≠ (s.heap.push (nuI w)).objs.size := Nat.ne_of_lt (by rw [sz]; exact Nat.lt_succ_of_lt ls)
        refine set_update_ints ((Walks.list calm _ l apart items).toS) s.heap.objs.size ?_ ns size few (fun i v hv => ?_) (items.size - 0) 0 _ (by omega) (Nat.zero_le _) ⟨⟨_, Heap.get?_push_size _ rfl, rfl, rfl⟩, il.push _⟩ ⟨0, Nat.le_refl 0, setR_new_at (Heap.get?_push_of_some _ at_)⟩ fun s3 c3 mv le3 f => ?_
        · rw [sz]
          simp only [List.mem_cons, List.not_mem_nil, or_false, not_or]
          exact ⟨Nat.ne_of_lt (Nat.lt_succ_self _), Nat.ne_of_gt ls⟩
        · have lt : i < ns.length := by
            rw [← size]
            exact (Array.getElem?_eq_some_iff.mp hv).1
          obtain ⟨t, e⟩ := IntsAre.int_at hit i v (by rw [Array.getElem?_toList]; exact hv)
          refine ⟨ns[i], t, List.getElem?_eq_getElem lt, ?_⟩
          rw [e, List.getD_eq_getElem?_getD, List.getElem?_eq_getElem lt]
          rfl
        · obtain ⟨h3, g3, d3, k3, o3⟩ := s3
          cases (mv.gens : g3 = s.gens)
          cases (mv.drawn : d3 = s.drawn)
          cases (mv.os : o3 = s.os)
          rw [size] at le3
          refine wpAny_pure ?_
          refine wpAny_pure ⟨rfl, h3, k3, c3, rfl, f, le3, fun b o z => ?_⟩
          have lb : b < s.heap.objs.size := Heap.lt_size z
          exact mv.heap b o (by rw [sz]; simp only [List.mem_cons, List.not_mem_nil, or_false, not_or]; exact ⟨Nat.ne_of_lt lb, Nat.ne_of_lt (Nat.lt_succ_of_lt lb)⟩) (Heap.get?_push_of_some _ (Heap.get?_push_of_some _ z))
      · cases r2 with
        | error e => exact hr2
        | ok fl2 =>
          cases fl2 with
          | ret r =>
            obtain ⟨rfl, lf⟩ := hr2
            repeat (any_goals (first | assumption | wp_step))
            exact h _ lf
          | _ => exact hr2.elim
    | _ => exact hr.elim
end
/-- set(xs) of at most 60 numbers -/
def rSetI (K : PySem.W.Frag) (w : World) : List V → Hp → VK → Prop := fun xs H Q => ∃ (l : Addr) (ns : List Int), xs = [.ref l] ∧ SqL K H l (ns.map V.int) ∧ ns.length ≤ 60 ∧
  ∀ (a : Addr) (c : Nat), H a = none → c ≤ ns.length → Q (.ref a) (upd H a (SetO w a (fun j => decide (j ∈ ns)) c))
section
variable {X : Cx}
theorem cr_setI (hc : X.calm = true) : CallR X (.type "set") (rSetI X.K X.w) := by
  intro pins s σ H xs us Q I r h
  obtain ⟨l, ns, rfl, hl, hn, q⟩ := h
  rw [Vals.ref1 r]
  obtain ⟨its, rv, pl, hz⟩ := I.list hl
  refine wide_ints (P := X.prog) (w := X.w) (ns := ns) (I.ok.hd hc) pl.isList (by simpa using Vals.ints rv) (by unfold scanBound; omega) ?_
  rintro s2 ⟨h2, tk, c, rfl, f, le, kp⟩
  exact ⟨.ref s.heap.objs.size, upd H s.heap.objs.size (SetO X.w s.heap.objs.size (fun j => decide (j ∈ ns)) c), I.laid (t' := tk) kp (Nat.le_refl _) (setO_new f), rfl, q _ c (I.hok.fresh (Nat.le_refl _)) le⟩
end
/-- ascending lists with the same numbers are the same -/
theorem rise_uniq : ∀ {a b : List Int}, a.Pairwise (· < ·) → b.Pairwise (· < ·) → (∀ k, k ∈ a ↔ k ∈ b) → a = b
  | [], [], _, _, _ => rfl
  | [], y :: b, _, _, h => absurd ((h y).mpr List.mem_cons_self) (by simp)
  | x :: a, [], _, _, h => absurd ((h x).mp List.mem_cons_self) (by simp)
  | x :: a, y :: b, ha, hb, h => by
    have hx := fun {z} (m : z ∈ a) => List.rel_of_pairwise_cons ha m
    have hy := fun {z} (m : z ∈ b) => List.rel_of_pairwise_cons hb m
    have e : x = y := by
      rcases List.mem_cons.mp ((h x).mp List.mem_cons_self) with z | z
      · exact z
      · rcases List.mem_cons.mp ((h y).mpr List.mem_cons_self) with z' | z'
        · exact z'.symm
        · have := hx z'
          have := hy z
          omega
    subst e
    rw [rise_uniq ha.of_cons hb.of_cons fun k => ?_]
    constructor
    · intro m
      rcases List.mem_cons.mp ((h k).mp (List.mem_cons_of_mem _ m)) with z | z
      · have := hx m
        omega
      · exact z
    · intro m
      rcases List.mem_cons.mp ((h k).mpr (List.mem_cons_of_mem _ m)) with z | z
      · have := hy m
        omega
      · exact z
end Pk

namespace Pk
open PySem L2 PySem.Spec PyProof.Rows
/-! ### {k: v}, k a tuple -/
section
variable {X : Cx} {pos : Pos} {k v : Expr} {tk tv : TE}
def tDisp1T (tk tv : TE) : TE := fun σ H Q => ∀ D, H D = none → tk σ (upd H D (.dT [])) fun y H1 => tv σ H1 fun z H2 => ∃ (b : Addr) (c : List L2.Key), y = .ref b ∧ H2 b = some (.tup (c.map kV)) ∧ H2 D = some (.dT []) ∧ Q (.ref D) (upd H2 D (.dT [(c, z)]))
theorem pe_disp1T (hu : X.A.units < cLine) (hk : PE X k tk) (hv : PE X v tv) : PE X (.Dict [some k] [v] pos) (tDisp1T tk tv) := by
  refine ⟨fun pins s σ H Q I q => ?_⟩
  have hn := I.hok.fresh (Nat.le_refl s.heap.objs.size)
  have I1 := I.laid (a := s.heap.objs.size) (o := .dT []) (h' := s.heap.push { cls := .type "dict", data := .dict #[] }) (t' := s.toks) (fun _ _ q => Heap.get?_push_of_some _ q) (Nat.le_refl _) (dt_empty s.heap I.big)
  rw [arm_eval_Dict, zip_pairTrees [some k] [v] X.env pos rfl rfl, dictDisplay_pairs _ (by simp [pairTrees]) (by rw [pairTrees_length _ _ _ _ rfl rfl]; show 1 < 17; decide)]
  refine wpAny_bind (wpAny_standAt (wpAny_bind ?_))
  unfold subDict
  refine wpAny_bind (wpAny_alloc ?_)
  refine wpAny_bind (wpAny_holding ?_)
  rw [if_pos (by rw [pairTrees_length _ _ _ _ rfl rfl]; show 1 ≤ 15; decide)]
  refine wpAny_bind (wpAny_mono ((pps_cons hk hv pps_nil).run pins _ σ _ (fun ps H2 => match ps with
    | [(y, z)] => ∃ (b : Addr) (c : List L2.Key), y = .ref b ∧ H2 b = some (.tup (c.map kV)) ∧ H2 s.heap.objs.size = some (.dT []) ∧ Q (.ref s.heap.objs.size) (upd H2 s.heap.objs.size (.dT [(c, z)]))
    | _ => False) I1 (q _ hn)) (fun ws s2 z => ?_) fun _ _ e => e)
  · obtain ⟨ps, H2, I2, rel, hz⟩ := z
    match ps, hz with
    | [(y, z)], hz =>
    obtain ⟨b, c, rfl, hb, hD, q2⟩ := hz
    obtain ⟨⟨u, r⟩, rfl, ru, rr⟩ : ∃ p : Value × Value, ws = [p] ∧ RelV (.ref b) p.1 ∧ RelV z p.2 := by
      cases rel with
      | cons h t =>
        cases t
        exact ⟨_, rfl, h.1, h.2⟩
    cases (show u = Value.ref b from ru)
    refine wpAny_holding ?_
    refine wpAny_bind ?_
    rw [List.forIn_cons]
    refine wpAny_bind (wpAny_bind (lay_entry hu I2 hD hb (by decide) rr fun s3 I3 => wpAny_pure ?_))
    exact wpAny_pure (wpAny_pure (wpAny_pure (wpAny_pure ⟨.ref s.heap.objs.size, _, I3, rfl, q2⟩)))
end
end Pk

namespace Pk
open PySem L2 PySem.Spec PyProof.Rows GxR NdefX
/-! ### what slots hold, over a heap without what is being changed -/
/-- a relation of a value in a heap, kept as heaps grow -/
structure Rel where
  p : Hp → V → Prop
  mn : ∀ {H H' : Hp} {v : V}, Kp H H' → p H v → p H' v
/-- what an object that is being changed is -/
structure Own where
  p : Hp → HO → Prop
  mn : ∀ {H H' : Hp} {o : HO}, Kp H H' → p H o → p H' o
  ok : ∀ {H : Hp} {o : HO}, p H o → Mut (some o)
inductive Slot where
  | any
  | fz (R : Rel)
  | own (C : Own)
/-- where one stands: the heap at the start, facts of the heap, what is hidden, the slots -/
structure Ct where
  hs : Hp
  h0 : Hp
  om : Addr → Prop
  g : List Slot
abbrev Ct.set (c : Ct) (i : Nat) (s : Slot) : Ct := { c with g := c.g.set i s }
abbrev Ct.at (c : Ct) (g : List Slot) : Ct := { c with g := g }
def isOwn (g : List Slot) (σ : L2.St) (a : Addr) : Prop := ∃ (i : Nat) (C : Own), g[i]? = some (.own C) ∧ σ[i]? = some (some (.ref a))
open Classical in
/-- the heap without these -/
noncomputable def less (H : Hp) (M : Addr → Prop) : Hp := fun a => if M a then none else H a
noncomputable abbrev bas (c : Ct) (σ : L2.St) (H : Hp) : Hp := less H fun a => isOwn c.g σ a ∨ c.om a
theorem less_in {H : Hp} {M : Addr → Prop} {a : Addr} (h : M a) : less H M a = none := if_pos h
theorem less_out {H : Hp} {M : Addr → Prop} {a : Addr} (h : ¬ M a) : less H M a = H a := if_neg h
theorem less_some {H : Hp} {M : Addr → Prop} {a : Addr} {o : HO} (e : less H M a = some o) : ¬ M a ∧ H a = some o := by
  by_cases h : M a
  · rw [less_in h] at e
    cases e
  · rw [less_out h] at e
    exact ⟨h, e⟩
theorem bas_in {c : Ct} {σ : L2.St} {H : Hp} {a : Addr} (h : isOwn c.g σ a ∨ c.om a) : bas c σ H a = none := if_pos h
theorem bas_out {c : Ct} {σ : L2.St} {H : Hp} {a : Addr} (h : ¬ (isOwn c.g σ a ∨ c.om a)) : bas c σ H a = H a := if_neg h
theorem kp_of {H H' : Hp} (h : ∀ b o, H b = some o → H' b = some o) : Kp H H' := kpS h
theorem kp_less {H : Hp} {M : Addr → Prop} : Kp (less H M) H := kp_of fun b o e => (less_some e).2
theorem less_kp {H H' : Hp} {M : Addr → Prop} (k : Kp H H') : Kp (less H M) (less H' M) := by
  refine ⟨fun b o e n => ?_, fun P ⟨ps, e, t⟩ => ?_⟩
  · obtain ⟨h, e⟩ := less_some e
    rw [less_out h]
    exact k.at_ b o e n
  · obtain ⟨h, e⟩ := less_some e
    obtain ⟨qs, e', t'⟩ := k.tab P ⟨ps, e, t⟩
    exact ⟨qs, by rw [less_out h]; exact e', t'⟩
/-- less is hidden: more stands -/
theorem less_mono {H : Hp} {M M' : Addr → Prop} (h : ∀ a, M' a → M a) : Kp (less H M) (less H M') := kp_of fun b o e => by
  obtain ⟨n, e⟩ := less_some e
  rw [less_out fun z => n (h b z)]
  exact e
theorem less_less {H : Hp} {M N : Addr → Prop} : less (less H M) N = less H fun a => N a ∨ M a := by
  funext a
  by_cases h1 : N a
  · rw [less_in h1, less_in (.inl h1)]
  · rw [less_out h1]
    by_cases h2 : M a
    · rw [less_in h2, less_in (.inr h2)]
    · rw [less_out h2, less_out fun z => z.elim h1 h2]
theorem kp_new {H : Hp} {p : Addr} {o : HO} (n : H p = none) : Kp H (upd H p o) := kp_of fun b u e => by
  rw [upd_ne (ne_of_none e n)]
  exact e
/-- new behind the heap at the start -/
def Fre (hs : Hp) (p : Addr) : Prop := (∀ o, hs p = some o → ∃ ps, o = .tbl ps) ∧ ¬ TabG hs p
theorem Fre.of {hs H : Hp} {p : Addr} (k : Kp hs H) (n : H p = none) : Fre hs p := by
  refine ⟨fun o e => ?_, fun t => ?_⟩
  · by_cases z : ∃ ps, o = .tbl ps
    · exact z
    · have := k.at_ p o e fun ps q => z ⟨ps, q⟩
      rw [n] at this
      cases this
  · obtain ⟨ps, e, _⟩ := k.tab p t
    rw [n] at e
    cases e
theorem Fre.upd {hs H : Hp} {p : Addr} {o : HO} (f : Fre hs p) (k : Kp hs H) : Kp hs (upd H p o) := by
  refine ⟨fun b u e n => ?_, fun P t => ?_⟩
  · have hb : b ≠ p := fun z => by
      subst z
      obtain ⟨ps, z⟩ := f.1 u e
      exact n ps z
    rw [upd_ne hb]
    exact k.at_ b u e n
  · have hb : P ≠ p := fun z => by
      subst z
      exact f.2 t
    obtain ⟨qs, e, t'⟩ := k.tab P t
    exact ⟨qs, by rw [upd_ne hb]; exact e, t'⟩
/-- the slots hold what they should -/
structure Sta (c : Ct) (σ : L2.St) (H : Hp) : Prop where
  len : σ.length = c.g.length
  fz : ∀ (i : Nat) (R : Rel), c.g[i]? = some (.fz R) → ∃ v, σ[i]? = some (some v) ∧ R.p (bas c σ H) v
  own : ∀ (i : Nat) (C : Own), c.g[i]? = some (.own C) → ∃ p o, σ[i]? = some (some (.ref p)) ∧ H p = some o ∧ C.p (bas c σ H) o ∧ Fre c.hs p ∧ ¬ c.om p
  ne : ∀ (i j : Nat) (C C' : Own) (p : Addr), c.g[i]? = some (.own C) → c.g[j]? = some (.own C') → σ[i]? = some (some (.ref p)) → σ[j]? = some (some (.ref p)) → i = j
  k0 : Kp c.h0 (bas c σ H)
  ks : Kp c.hs H
  hid : ∀ a, c.om a → ∃ o, H a = some o ∧ Mut (some o)
theorem notTbl {o : HO} (h : Mut (some o)) : ∀ ps, o ≠ .tbl ps := fun ps e => by
  subst e
  exact h
/-- a heap that grows -/
theorem Sta.kp {c : Ct} {σ : L2.St} {H H' : Hp} (h : Sta c σ H) (k : Kp H H') : Sta c σ H' := by
  have kb : Kp (bas c σ H) (bas c σ H') := less_kp k
  refine ⟨h.len, fun i R e => ?_, fun i C e => ?_, h.ne, h.k0.trans kb, h.ks.trans k, fun a z => ?_⟩
  · obtain ⟨v, e1, e2⟩ := h.fz i R e
    exact ⟨v, e1, R.mn kb e2⟩
  · obtain ⟨p, o, e1, e2, e3, e4, e5⟩ := h.own i C e
    exact ⟨p, o, e1, k.at_ p o e2 (notTbl (C.ok e3)), C.mn kb e3, e4, e5⟩
  · obtain ⟨o, e, m⟩ := h.hid a z
    exact ⟨o, k.at_ a o e (notTbl m), m⟩
theorem Sta.kb {c : Ct} {σ : L2.St} {H H' : Hp} (h : Sta c σ H) (k : Kp H H') : Kp (bas c σ H) (bas c σ H') := less_kp k
/-- what is new is not hidden -/
theorem Sta.free {c : Ct} {σ : L2.St} {H : Hp} (h : Sta c σ H) {p : Addr} (n : H p = none) : ¬ (isOwn c.g σ p ∨ c.om p) := by
  rintro (⟨i, C, e1, e2⟩ | z)
  · obtain ⟨q, o, e3, e4, _⟩ := h.own i C e1
    rw [e2] at e3
    cases e3
    rw [n] at e4
    cases e4
  · obtain ⟨o, e, _⟩ := h.hid p z
    rw [n] at e
    cases e
theorem Sta.bnew {c : Ct} {σ : L2.St} {H : Hp} (h : Sta c σ H) {p : Addr} {o : HO} (n : H p = none) : bas c σ (upd H p o) = upd (bas c σ H) p o := by
  funext a
  by_cases e : a = p
  · subst e
    rw [upd_same, bas_out (h.free n), upd_same]
  · rw [upd_ne e]
    by_cases m : isOwn c.g σ a ∨ c.om a
    · rw [bas_in m, bas_in m]
    · rw [bas_out m, bas_out m, upd_ne e]
theorem getset {α : Type} {l : List α} {i j : Nat} {a b : α} (h : (l.set i a)[j]? = some b) : (j = i ∧ b = a) ∨ (j ≠ i ∧ l[j]? = some b) := by
  by_cases e : i = j
  · subst e
    left
    rw [List.getElem?_set] at h
    simp only [if_pos rfl, ite_true] at h
    split at h
    · cases h
      exact ⟨rfl, rfl⟩
    · cases h
  · right
    rw [List.getElem?_set_ne e] at h
    exact ⟨fun z => e z.symm, h⟩
theorem setget {α : Type} {l : List α} {i : Nat} {a : α} (h : i < l.length) : (l.set i a)[i]? = some a := by
  rw [List.getElem?_set]
  simp [h]
/-- a name holds a value that stays -/
theorem Sta.set {c : Ct} {σ : L2.St} {H : Hp} (h : Sta c σ H) {i : Nat} {R : Rel} {v : V} (hi : i < c.g.length) (hv : R.p (bas c σ H) v) :
    Sta (c.set i (.fz R)) (σ.set i (some v)) H ∧ Kp (bas c σ H) (bas (c.set i (.fz R)) (σ.set i (some v)) H) := by
  have back : ∀ {j : Nat} {C : Own}, (c.g.set i (.fz R))[j]? = some (.own C) → j ≠ i ∧ c.g[j]? = some (.own C) := fun {j C} e => by
    rcases getset e with ⟨_, z⟩ | z
    · cases z
    · exact z
  have kb : Kp (bas c σ H) (bas (c.set i (.fz R)) (σ.set i (some v)) H) := less_mono fun a => by
    rintro (⟨j, C, e1, e2⟩ | z)
    · obtain ⟨n, e1⟩ := back e1
      rw [List.getElem?_set_ne fun z => n z.symm] at e2
      exact .inl ⟨j, C, e1, e2⟩
    · exact .inr z
  refine ⟨⟨by rw [List.length_set, List.length_set]; exact h.len, fun j S e => ?_, fun j C e => ?_, fun j k C C' p e1 e2 e3 e4 => ?_, h.k0.trans kb, h.ks, h.hid⟩, kb⟩
  · rcases getset e with ⟨rfl, z⟩ | ⟨n, z⟩
    · cases z
      exact ⟨v, setget (by rw [h.len]; exact hi), R.mn kb hv⟩
    · obtain ⟨u, e1, e2⟩ := h.fz j S z
      exact ⟨u, by rw [List.getElem?_set_ne fun z => n z.symm]; exact e1, S.mn kb e2⟩
  · obtain ⟨n, z⟩ := back e
    obtain ⟨p, o, e1, e2, e3, e4, e5⟩ := h.own j C z
    exact ⟨p, o, by rw [List.getElem?_set_ne fun z => n z.symm]; exact e1, e2, C.mn kb e3, e4, e5⟩
  · obtain ⟨n1, e1⟩ := back e1
    obtain ⟨n2, e2⟩ := back e2
    rw [List.getElem?_set_ne fun z => n1 z.symm] at e3
    rw [List.getElem?_set_ne fun z => n2 z.symm] at e4
    exact h.ne j k C C' p e1 e2 e3 e4
/-- a slot of which nothing more is said -/
theorem Sta.drop {c : Ct} {σ : L2.St} {H : Hp} (h : Sta c σ H) (i : Nat) (o : Option V) : Sta (c.set i .any) (σ.set i o) H ∧ Kp (bas c σ H) (bas (c.set i .any) (σ.set i o) H) := by
  have back : ∀ {j : Nat} {s : Slot}, s ≠ .any → (c.g.set i .any)[j]? = some s → j ≠ i ∧ c.g[j]? = some s := fun {j s} ns e => by
    rcases getset e with ⟨_, z⟩ | z
    · exact absurd z ns
    · exact z
  have kb : Kp (bas c σ H) (bas (c.set i .any) (σ.set i o) H) := less_mono fun a => by
    rintro (⟨j, C, e1, e2⟩ | z)
    · obtain ⟨n, e1⟩ := back (by intro z; cases z) e1
      rw [List.getElem?_set_ne fun z => n z.symm] at e2
      exact .inl ⟨j, C, e1, e2⟩
    · exact .inr z
  refine ⟨⟨by rw [List.length_set, List.length_set]; exact h.len, fun j S e => ?_, fun j C e => ?_, fun j k C C' p e1 e2 e3 e4 => ?_, h.k0.trans kb, h.ks, h.hid⟩, kb⟩
  · obtain ⟨n, z⟩ := back (by intro z; cases z) e
    obtain ⟨u, e1, e2⟩ := h.fz j S z
    exact ⟨u, by rw [List.getElem?_set_ne fun z => n z.symm]; exact e1, S.mn kb e2⟩
  · obtain ⟨n, z⟩ := back (by intro z; cases z) e
    obtain ⟨p, u, e1, e2, e3, e4, e5⟩ := h.own j C z
    exact ⟨p, u, by rw [List.getElem?_set_ne fun z => n z.symm]; exact e1, e2, C.mn kb e3, e4, e5⟩
  · obtain ⟨n1, e1⟩ := back (by intro z; cases z) e1
    obtain ⟨n2, e2⟩ := back (by intro z; cases z) e2
    rw [List.getElem?_set_ne fun z => n1 z.symm] at e3
    rw [List.getElem?_set_ne fun z => n2 z.symm] at e4
    exact h.ne j k C C' p e1 e2 e3 e4
theorem setsame {α : Type} {l : List α} {i : Nat} {a : α} (h : l[i]? = some a) : l.set i a = l := by
  refine List.ext_getElem? fun j => ?_
  by_cases e : i = j
  · subst e
    obtain ⟨hi, _⟩ := List.getElem?_eq_some_iff.mp h
    rw [setget hi, h]
  · rw [List.getElem?_set_ne e]
/-- the slot of a name, weakened -/
theorem Sta.weak {c : Ct} {σ : L2.St} {H : Hp} (h : Sta c σ H) {i : Nat} {R S : Rel} (e : c.g[i]? = some (.fz R)) (k : ∀ H v, R.p H v → S.p H v) : Sta (c.set i (.fz S)) σ H := by
  obtain ⟨v, e1, e2⟩ := h.fz i R e
  have hi : i < c.g.length := (List.getElem?_eq_some_iff.mp e).1
  have := (h.set (R := S) hi (k _ _ e2)).1
  rw [setsame e1] at this
  exact this
/-- a name holds a new object that is going to be changed -/
theorem Sta.new {c : Ct} {σ : L2.St} {H : Hp} (h : Sta c σ H) {i : Nat} {C : Own} {p : Addr} {o : HO} (hi : i < c.g.length) (n : H p = none) (hv : C.p (bas c σ H) o) :
    Sta (c.set i (.own C)) (σ.set i (some (.ref p))) (upd H p o) ∧ Kp (bas c σ H) (bas (c.set i (.own C)) (σ.set i (some (.ref p))) (upd H p o)) := by
  have hf := h.free n
  have kb : Kp (bas c σ H) (bas (c.set i (.own C)) (σ.set i (some (.ref p))) (upd H p o)) := kp_of fun b u e => by
    obtain ⟨nb, e⟩ := less_some e
    have bp : b ≠ p := ne_of_none e n
    rw [bas_out, upd_ne bp]
    · exact e
    · rintro (⟨j, C', e1, e2⟩ | z)
      · by_cases ji : j = i
        · subst ji
          rw [setget (by rw [h.len]; exact hi)] at e2
          cases e2
          exact bp rfl
        · rcases getset e1 with ⟨z, _⟩ | ⟨_, z⟩
          · exact ji z
          · rw [List.getElem?_set_ne fun z => ji z.symm] at e2
            exact nb (.inl ⟨j, C', z, e2⟩)
      · exact nb (.inr z)
  have old : ∀ {j : Nat} {C' : Own} {q : Addr}, c.g[j]? = some (.own C') → σ[j]? = some (some (.ref q)) → q ≠ p := fun {j C' q} e1 e2 z => hf (.inl ⟨j, C', e1, by rw [← z]; exact e2⟩)
  refine ⟨⟨by rw [List.length_set, List.length_set]; exact h.len, fun j S e => ?_, fun j C' e => ?_, fun j k C1 C2 q e1 e2 e3 e4 => ?_, h.k0.trans kb, h.ks.trans (kp_new n), fun a z => ?_⟩, kb⟩
  · rcases getset e with ⟨_, z⟩ | ⟨nj, z⟩
    · cases z
    · obtain ⟨u, e1, e2⟩ := h.fz j S z
      exact ⟨u, by rw [List.getElem?_set_ne fun z => nj z.symm]; exact e1, S.mn kb e2⟩
  · rcases getset e with ⟨rfl, z⟩ | ⟨nj, z⟩
    · cases z
      exact ⟨p, o, setget (by rw [h.len]; exact hi), upd_same, C.mn kb hv, .of h.ks n, fun z => hf (.inr z)⟩
    · obtain ⟨q, u, e1, e2, e3, e4, e5⟩ := h.own j C' z
      exact ⟨q, u, by rw [List.getElem?_set_ne fun z => nj z.symm]; exact e1, by rw [upd_ne (old z e1)]; exact e2, C'.mn kb e3, e4, e5⟩
  · rcases getset e1 with ⟨rfl, z⟩ | ⟨nj, z⟩ <;> rcases getset e2 with ⟨rfl, y⟩ | ⟨nk, y⟩
    · rfl
    · rw [setget (by rw [h.len]; exact hi)] at e3
      cases e3
      rw [List.getElem?_set_ne fun z => nk z.symm] at e4
      exact absurd rfl (old y e4)
    · rw [setget (by rw [h.len]; exact hi)] at e4
      cases e4
      rw [List.getElem?_set_ne fun z => nj z.symm] at e3
      exact absurd rfl (old z e3)
    · rw [List.getElem?_set_ne fun z => nj z.symm] at e3
      rw [List.getElem?_set_ne fun z => nk z.symm] at e4
      exact h.ne j k C1 C2 q z y e3 e4
  · obtain ⟨u, e, m⟩ := h.hid a z
    exact ⟨u, by rw [upd_ne (ne_of_none e n)]; exact e, m⟩
/-- the object at a name is changed -/
theorem Sta.mut {c : Ct} {σ : L2.St} {H : Hp} (h : Sta c σ H) {i : Nat} {C C' : Own} {p : Addr} {o : HO} (e : c.g[i]? = some (.own C)) (es : σ[i]? = some (some (.ref p))) (hv : C'.p (bas c σ H) o) :
    Sta (c.set i (.own C')) σ (upd H p o) ∧ bas (c.set i (.own C')) σ (upd H p o) = bas c σ H := by
  have hi : i < c.g.length := (List.getElem?_eq_some_iff.mp e).1
  obtain ⟨p', o0, e1, e2, e3, e4, e5⟩ := h.own i C e
  rw [es] at e1
  cases e1
  have own' : ∀ a, isOwn (c.g.set i (.own C')) σ a ↔ isOwn c.g σ a := fun a => by
    constructor
    · rintro ⟨j, C1, q1, q2⟩
      rcases getset q1 with ⟨rfl, z⟩ | ⟨_, z⟩
      · exact ⟨j, C, e, q2⟩
      · exact ⟨j, C1, z, q2⟩
    · rintro ⟨j, C1, q1, q2⟩
      by_cases ji : j = i
      · subst ji
        exact ⟨j, C', setget hi, q2⟩
      · exact ⟨j, C1, by rw [List.getElem?_set_ne fun z => ji z.symm]; exact q1, q2⟩
  have hp : isOwn c.g σ p := ⟨i, C, e, es⟩
  have eb : bas (c.set i (.own C')) σ (upd H p o) = bas c σ H := by
    funext a
    by_cases m : isOwn c.g σ a ∨ c.om a
    · rw [bas_in m]
      exact bas_in (c := c.set i (.own C')) (m.elim (fun z => .inl ((own' a).mpr z)) .inr)
    · rw [bas_out m]
      refine (bas_out (c := c.set i (.own C')) fun z => m (z.elim (fun y => .inl ((own' a).mp y)) .inr)).trans (upd_ne ?_)
      intro z
      subst z
      exact m (.inl hp)
  refine ⟨⟨by show _ = (c.g.set i (.own C')).length; rw [List.length_set]; exact h.len, fun j S q => ?_, fun j C1 q => ?_, fun j k C1 C2 q q1 q2 q3 q4 => ?_, by rw [eb]; exact h.k0, e4.upd h.ks, fun a z => ?_⟩, eb⟩
  · rcases getset q with ⟨_, z⟩ | ⟨_, z⟩
    · cases z
    · obtain ⟨u, q1, q2⟩ := h.fz j S z
      exact ⟨u, q1, by rw [eb]; exact q2⟩
  · rcases getset q with ⟨rfl, z⟩ | ⟨nj, z⟩
    · cases z
      exact ⟨p, o, es, upd_same, by rw [eb]; exact hv, e4, e5⟩
    · obtain ⟨q, u, q1, q2, q3, q4, q5⟩ := h.own j C1 z
      refine ⟨q, u, q1, ?_, by rw [eb]; exact q3, q4, q5⟩
      rw [upd_ne fun y => ?_]
      · exact q2
      · subst y
        exact nj (h.ne j i C1 C q z e q1 es)
  · have f : ∀ {j : Nat} {D : Own}, (c.g.set i (.own C'))[j]? = some (.own D) → ∃ D', c.g[j]? = some (.own D') := fun {j D} y => by
      rcases getset y with ⟨rfl, _⟩ | ⟨_, z⟩
      · exact ⟨C, e⟩
      · exact ⟨D, z⟩
    obtain ⟨D1, y1⟩ := f q1
    obtain ⟨D2, y2⟩ := f q2
    exact h.ne j k D1 D2 q y1 y2 q3 q4
  · obtain ⟨u, y, m⟩ := h.hid a z
    refine ⟨u, ?_, m⟩
    rw [upd_ne fun x => ?_]
    · exact y
    · subst x
      exact e5 z
/-- what was changed now stays -/
theorem Sta.fix {c : Ct} {σ : L2.St} {H : Hp} (h : Sta c σ H) {i : Nat} {C : Own} {R : Rel} (e : c.g[i]? = some (.own C)) (k : ∀ B p o, B p = some o → C.p B o → R.p B (.ref p)) :
    Sta (c.set i (.fz R)) σ H ∧ Kp (bas c σ H) (bas (c.set i (.fz R)) σ H) := by
  have hi : i < c.g.length := (List.getElem?_eq_some_iff.mp e).1
  obtain ⟨p, o, e1, e2, e3, e4, e5⟩ := h.own i C e
  have back : ∀ {j : Nat} {C' : Own}, (c.g.set i (.fz R))[j]? = some (.own C') → j ≠ i ∧ c.g[j]? = some (.own C') := fun {j C'} e => by
    rcases getset e with ⟨_, z⟩ | z
    · cases z
    · exact z
  have kb : Kp (bas c σ H) (bas (c.set i (.fz R)) σ H) := less_mono fun a => by
    rintro (⟨j, C', q1, q2⟩ | z)
    · exact .inl ⟨j, C', (back q1).2, q2⟩
    · exact .inr z
  have hb : bas (c.set i (.fz R)) σ H p = some o := by
    rw [bas_out]
    · exact e2
    · rintro (⟨j, C', q1, q2⟩ | z)
      · obtain ⟨n, q1⟩ := back q1
        exact n (h.ne j i C' C p q1 e q2 e1)
      · exact e5 z
  refine ⟨⟨by show _ = (c.g.set i (.fz R)).length; rw [List.length_set]; exact h.len, fun j S q => ?_, fun j C1 q => ?_, fun j k C1 C2 q q1 q2 q3 q4 => h.ne j k C1 C2 q (back q1).2 (back q2).2 q3 q4, h.k0.trans kb, h.ks, h.hid⟩, kb⟩
  · rcases getset q with ⟨rfl, z⟩ | ⟨_, z⟩
    · cases z
      exact ⟨.ref p, e1, k _ _ _ hb (C.mn kb e3)⟩
    · obtain ⟨u, q1, q2⟩ := h.fz j S z
      exact ⟨u, q1, S.mn kb q2⟩
  · obtain ⟨q, u, q1, q2, q3, q4, q5⟩ := h.own j C1 (back q).2
    exact ⟨q, u, q1, q2, C1.mn kb q3, q4, q5⟩
/-- more is known of the heap -/
theorem Sta.h0 {c : Ct} {σ : L2.St} {H : Hp} (h : Sta c σ H) {h1 : Hp} (k : Kp h1 (bas c σ H)) : Sta { c with h0 := h1 } σ H := ⟨h.len, h.fz, h.own, h.ne, k, h.ks, h.hid⟩
end Pk

namespace Pk
open PySem L2 PySem.Spec PyProof.Rows GxR NdefX
/-! ### data that stand in the heap -/
mutual
inductive Dt (H : Hp) : V → PyData → Prop
  | non : Dt H .non .none
  | bl (b : Bool) : Dt H (.bl b) (.bool b)
  | int (i : Int) : Dt H (.int i) (.int i)
  | str (x : Str) : Dt H (.str x) (.str x)
  | lst {a : Addr} {xs : List V} {ds : List PyData} : H a = some (.lst xs) → DtAll H xs ds → Dt H (.ref a) (.list ds)
  | tup {a : Addr} {xs : List V} {ds : List PyData} : H a = some (.tup xs) → DtAll H xs ds → Dt H (.ref a) (.tuple ds)
  | dT {a : Addr} {kvs : List (Tk × V)} {ds : List (PyData × PyData)} : H a = some (.dT kvs) → DtKv H dK kvs ds → Dt H (.ref a) (.dict ds)
  | dK {a : Addr} {kvs : List (L2.Key × V)} {ds : List (PyData × PyData)} : H a = some (.dK kvs) → DtKk H kvs ds → Dt H (.ref a) (.dict ds)
inductive DtAll (H : Hp) : List V → List PyData → Prop
  | nil : DtAll H [] []
  | cons {v : V} {vs : List V} {d : PyData} {ds : List PyData} : Dt H v d → DtAll H vs ds → DtAll H (v :: vs) (d :: ds)
inductive DtKv (H : Hp) : (Tk → PyData) → List (Tk × V) → List (PyData × PyData) → Prop
  | nil {f : Tk → PyData} : DtKv H f [] []
  | cons {f : Tk → PyData} {k : Tk} {v : V} {vs : List (Tk × V)} {d : PyData} {ds : List (PyData × PyData)} : Dt H v d → DtKv H f vs ds → DtKv H f ((k, v) :: vs) ((f k, d) :: ds)
inductive DtKk (H : Hp) : List (L2.Key × V) → List (PyData × PyData) → Prop
  | nil : DtKk H [] []
  | cons {k : L2.Key} {v : V} {vs : List (L2.Key × V)} {d : PyData} {ds : List (PyData × PyData)} : Dt H v d → DtKk H vs ds → DtKk H ((k, v) :: vs) ((kd k, d) :: ds)
end
section
variable {H H' : Hp}
mutual
theorem Dt.kp (k : Kp H H') : ∀ {v : V} {d : PyData}, Dt H v d → Dt H' v d
  | _, _, .non => .non
  | _, _, .bl b => .bl b
  | _, _, .int i => .int i
  | _, _, .str x => .str x
  | _, _, .lst e a => .lst (k.lst e) (DtAll.kp k a)
  | _, _, .tup e a => .tup (k.tup e) (DtAll.kp k a)
  | _, _, .dT e a => .dT (k.dT e) (DtKv.kp k a)
  | _, _, .dK e a => .dK (k.at_ _ _ e fun _ z => nomatch z) (DtKk.kp k a)
theorem DtAll.kp (k : Kp H H') : ∀ {vs : List V} {ds : List PyData}, DtAll H vs ds → DtAll H' vs ds
  | _, _, .nil => .nil
  | _, _, .cons a b => .cons (Dt.kp k a) (DtAll.kp k b)
theorem DtKv.kp (k : Kp H H') : ∀ {f : Tk → PyData} {vs : List (Tk × V)} {ds : List (PyData × PyData)}, DtKv H f vs ds → DtKv H' f vs ds
  | _, _, _, .nil => .nil
  | _, _, _, .cons a b => .cons (Dt.kp k a) (DtKv.kp k b)
theorem DtKk.kp (k : Kp H H') : ∀ {vs : List (L2.Key × V)} {ds : List (PyData × PyData)}, DtKk H vs ds → DtKk H' vs ds
  | _, _, .nil => .nil
  | _, _, .cons a b => .cons (Dt.kp k a) (DtKk.kp k b)
end
end
mutual
/-- data without lists and dicts -/
def flat : PyData → Bool
  | .list _ => false
  | .dict _ => false
  | .tuple ds => flats ds
  | _ => true
def flats : List PyData → Bool
  | [] => true
  | d :: ds => flat d && flats ds
end
section
variable {H : Hp} {M : Addr → Prop} (hM : ∀ a, M a → ∃ o, H a = some o ∧ Mut (some o))
include hM
mutual
theorem Dt.less : ∀ {v : V} {d : PyData}, Dt H v d → flat d = true → Dt (less H M) v d
  | _, _, .non, _ => .non
  | _, _, .bl b, _ => .bl b
  | _, _, .int i, _ => .int i
  | _, _, .str x, _ => .str x
  | _, _, .lst _ _, h => by cases h
  | _, _, .dT _ _, h => by cases h
  | _, _, .dK _ _, h => by cases h
  | _, .tuple ds, .tup (a := a) e q, h => by
    refine .tup ?_ (DtAll.less q h)
    rw [less_out]
    · exact e
    · intro z
      obtain ⟨o, e1, e2⟩ := hM a z
      rw [e] at e1
      cases e1
      exact e2
theorem DtAll.less : ∀ {vs : List V} {ds : List PyData}, DtAll H vs ds → flats ds = true → DtAll (less H M) vs ds
  | _, _, .nil, _ => .nil
  | _, d :: ds, .cons a b, h => by
    have h' : (flat d && flats ds) = true := h
    rw [Bool.and_eq_true] at h'
    exact .cons (Dt.less a h'.1) (DtAll.less b h'.2)
end
end
section
variable {H : Hp} {K : PySem.W.Frag}
mutual
/-- no dict within -/
def nod : PyData → Bool
  | .dict _ => false
  | .tuple ds => nods ds
  | .list ds => nods ds
  | _ => true
def nods : List PyData → Bool
  | [] => true
  | d :: ds => nod d && nods ds
end
mutual
theorem Dt.dp : ∀ {v : V} {d : PyData}, Dt H v d → nod d = true → Dp K H v d
  | _, _, .non, _ => .non
  | _, _, .bl b, _ => .bl b
  | _, _, .int i, _ => .int i
  | _, _, .str x, _ => .str x
  | _, .list ds, .lst e q, h => .lst (SqL.of e) (DtAll.dp q h)
  | _, _, .dT _ _, h => by cases h
  | _, _, .dK _ _, h => by cases h
  | _, .tuple ds, .tup (a := a) e q, h => .tup (SqT.of e) (DtAll.dp q h)
theorem DtAll.dp : ∀ {vs : List V} {ds : List PyData}, DtAll H vs ds → nods ds = true → DpAll K H vs ds
  | _, _, .nil, _ => .nil
  | _, d :: ds, .cons a b, h => by
    have h' : (nod d && nods ds) = true := h
    rw [Bool.and_eq_true] at h'
    exact .cons (Dt.dp a h'.1) (DtAll.dp b h'.2)
end
theorem DtAll.len : ∀ {vs : List V} {ds : List PyData}, DtAll H vs ds → vs.length = ds.length
  | _, _, .nil => rfl
  | _, _, .cons _ b => congrArg (· + 1) b.len
theorem DtAll.app : ∀ {vs us : List V} {ds es : List PyData}, DtAll H vs ds → DtAll H us es → DtAll H (vs ++ us) (ds ++ es)
  | _, _, _, _, .nil, h => h
  | _, _, _, _, .cons a b, h => .cons a (b.app h)
theorem DtAll.at {vs : List V} {ds : List PyData} (h : DtAll H vs ds) : ∀ {i : Nat} {d : PyData}, ds[i]? = some d → ∃ v, vs[i]? = some v ∧ Dt H v d := by
  induction vs generalizing ds with
  | nil => cases h; intro i d e; cases e
  | cons v vs ih =>
    cases h with
    | cons a b =>
      intro i d e
      cases i with
      | zero => cases e; exact ⟨_, rfl, a⟩
      | succ i => exact ih b e
theorem DtAll.at' {vs : List V} {ds : List PyData} (h : DtAll H vs ds) : ∀ {i : Nat} {v : V}, vs[i]? = some v → ∃ d, ds[i]? = some d ∧ Dt H v d := by
  induction vs generalizing ds with
  | nil => intro i d e; cases e
  | cons v vs ih =>
    cases h with
    | cons a b =>
      intro i d e
      cases i with
      | zero => cases e; exact ⟨_, rfl, a⟩
      | succ i => exact ih b e
theorem DtAll.atI {vs : List V} {ds : List PyData} (h : DtAll H vs ds) {i : Int} {d : PyData} (e : L2.atI ds i = some d) : ∃ v, L2.atI vs i = some v ∧ Dt H v d := by
  unfold L2.atI at *
  rw [← h.len] at e
  cases q : ixN vs.length i with
  | none => rw [q] at e; cases e
  | some j => rw [q] at e; exact h.at e
theorem DtAll.take {vs : List V} {ds : List PyData} (h : DtAll H vs ds) : ∀ n, DtAll H (vs.take n) (ds.take n) := by
  induction vs generalizing ds with
  | nil => cases h; intro n; simp only [List.take_nil]; exact .nil
  | cons v vs ih =>
    cases h with
    | cons a b =>
      intro n
      cases n with
      | zero => exact .nil
      | succ n => exact .cons a (ih b n)
theorem DtAll.drop {vs : List V} {ds : List PyData} (h : DtAll H vs ds) : ∀ n, DtAll H (vs.drop n) (ds.drop n) := by
  induction vs generalizing ds with
  | nil => cases h; intro n; simp only [List.drop_nil]; exact .nil
  | cons v vs ih =>
    cases h with
    | cons a b =>
      intro n
      cases n with
      | zero => exact .cons a b
      | succ n => exact ih b n
theorem DtAll.rev {vs : List V} {ds : List PyData} (h : DtAll H vs ds) : DtAll H vs.reverse ds.reverse := by
  induction vs generalizing ds with
  | nil => cases h; exact .nil
  | cons v vs ih =>
    cases h with
    | cons a b => rw [List.reverse_cons, List.reverse_cons]; exact (ih b).app (.cons a .nil)
end
/-- the slice of a list -/
def cutD (xs : List PyData) (lo hi : Option Int) : List PyData := (xs.drop (HT.sIx xs.length 0 lo)).take (HT.sIx xs.length xs.length hi - HT.sIx xs.length 0 lo)
theorem DtAll.cut {H : Hp} {vs : List V} {ds : List PyData} (h : DtAll H vs ds) (lo hi : Option Int) : DtAll H (cutV vs lo hi) (cutD ds lo hi) := by
  unfold cutV cutD
  rw [h.len]
  exact (h.drop _).take _
/-- data of a type, by its picture -/
def RD (d : PyData) : Rel := ⟨fun H v => Dt H v d, fun k h => h.kp k⟩
/-- a list that is being changed -/
def OL (ds : List PyData) : Own := ⟨fun H o => ∃ vs, o = .lst vs ∧ DtAll H vs ds, fun k ⟨vs, e, h⟩ => ⟨vs, e, h.kp k⟩, fun ⟨vs, e, _⟩ => by subst e; exact trivial⟩
theorem OL.fix {ds : List PyData} {B : Hp} {p : Addr} {o : HO} (e : B p = some o) (h : (OL ds).p B o) : (RD (.list ds)).p B (.ref p) := by
  obtain ⟨vs, rfl, h⟩ := h
  exact .lst e h

/-! ### what a reading gives -/
noncomputable def msk (b : Bool) (c : Ct) (σ : L2.St) : Addr → Prop := fun a => b = true ∧ (isOwn c.g σ a ∨ c.om a)
noncomputable abbrev hb (b : Bool) (c : Ct) (σ : L2.St) (H : Hp) : Hp := less H (msk b c σ)
theorem hb_t {c : Ct} {σ : L2.St} {H : Hp} : hb true c σ H = bas c σ H := by
  funext a
  by_cases h : isOwn c.g σ a ∨ c.om a
  · rw [bas_in h]
    exact less_in ⟨rfl, h⟩
  · rw [bas_out h]
    exact less_out fun z => h z.2
theorem hb_f {c : Ct} {σ : L2.St} {H : Hp} : hb false c σ H = H := by
  funext a
  exact less_out fun z => Bool.false_ne_true z.1
theorem hb_kp {b : Bool} {c : Ct} {σ : L2.St} {H H' : Hp} (k : Kp H H') : Kp (hb b c σ H) (hb b c σ H') := less_kp k
theorem bas_hb {b : Bool} {c : Ct} {σ : L2.St} {H : Hp} : Kp (bas c σ H) (hb b c σ H) := less_mono fun _ z => z.2
theorem hb_in {b : Bool} {c : Ct} {σ : L2.St} {H : Hp} : Kp (hb b c σ H) H := kp_less
/-- what is hidden stands, and is of those that may change -/
theorem Sta.hides {c : Ct} {σ : L2.St} {H : Hp} (h : Sta c σ H) {b : Bool} (a : Addr) (m : msk b c σ a) : ∃ o, H a = some o ∧ Mut (some o) := by
  rcases m.2 with ⟨i, C, e1, e2⟩ | z
  · obtain ⟨p, o, e3, e4, e5, _⟩ := h.own i C e1
    rw [e2] at e3
    cases e3
    exact ⟨o, e4, C.ok e5⟩
  · exact h.hid a z
/-- a value's reading: it gives a value as R says, in the heap (false), in the heap without what is being changed (true) -/
def E (b : Bool) (c : Ct) (t : TE) (R : Rel) : Prop := ∀ σ H, Sta c σ H → ∀ Q : VK, (∀ H' v, Kp H H' → R.p (hb b c σ H') v → Q v H') → t σ H Q
def ET (c : Ct) (t : TT) (b : Bool) : Prop := ∀ σ H, Sta c σ H → ∀ Q : Bool → Hp → Prop, (∀ H', Kp H H' → Q b H') → t σ H Q
def Rok : List Rel → Hp → List V → Prop
  | [], _, vs => vs = []
  | R :: Rs, H, vs => ∃ v r, vs = v :: r ∧ R.p H v ∧ Rok Rs H r
theorem Rok.kp {H H' : Hp} (k : Kp H H') : ∀ {Rs : List Rel} {vs : List V}, Rok Rs H vs → Rok Rs H' vs
  | [], _, h => h
  | R :: _, _, ⟨v, r, e, h1, h2⟩ => ⟨v, r, e, R.mn k h1, Rok.kp k h2⟩
def EA (b : Bool) (c : Ct) (t : TA) (Rs : List Rel) : Prop := ∀ σ H, Sta c σ H → ∀ Q : List V → Hp → Prop, (∀ H' vs, Kp H H' → Rok Rs (hb b c σ H') vs → Q vs H') → t σ H Q
/-- a list whose items stay, itself perhaps among what is being changed -/
def EI (c : Ct) (t : TE) (ds : List PyData) : Prop := ∀ σ H, Sta c σ H → ∀ Q : VK, (∀ H' a vs, Kp H H' → H' a = some (.lst vs) → DtAll (bas c σ H') vs ds → Q (.ref a) H') → t σ H Q
section
variable {b : Bool} {c : Ct} {R S : Rel} {t ta tb tc : TE} {d e : PyData}
theorem E.low (h : E true c t R) : E b c t R := fun σ H s Q q => h σ H s Q fun H' v k r => q H' v k (R.mn (by rw [hb_t]; exact bas_hb) r)
theorem E.imp (h : E b c t R) (k : ∀ H v, R.p H v → S.p H v) : E b c t S := fun σ H s Q q => h σ H s Q fun H' v k' r => q H' v k' (k _ _ r)
theorem E.eq (h : E b c t (RD d)) (z : d = e) : E b c t (RD e) := z ▸ h
theorem E.flat (h : E false c t (RD d)) (f : flat d = true) : E b c t (RD d) := fun σ H s Q q => h σ H s Q fun H' v k r => by
  rw [hb_f] at r
  exact q H' v k (Dt.less (fun a m => (s.kp k).hides a m) r f)
theorem ET.eq {t : TT} {a a' : Bool} (h : ET c t a) (z : a = a') : ET c t a' := z ▸ h
theorem e_var {i : Nat} (h : c.g[i]? = some (.fz R)) : E b c (tVar i) R := fun σ H s Q q => by
  obtain ⟨v, e, r⟩ := s.fz i R h
  exact ⟨v, e, q H v (Kp.refl _) (R.mn bas_hb r)⟩
/-- a list that is being changed, read -/
theorem e_own {i : Nat} {ds : List PyData} (h : c.g[i]? = some (.own (OL ds))) : E false c (tVar i) (RD (.list ds)) := fun σ H s Q q => by
  obtain ⟨p, o, e1, e2, ⟨vs, rfl, a⟩, _⟩ := s.own i _ h
  refine ⟨.ref p, e1, q H _ (Kp.refl _) ?_⟩
  rw [hb_f]
  exact .lst e2 (a.kp kp_less)
theorem i_own {i : Nat} {ds : List PyData} (h : c.g[i]? = some (.own (OL ds))) : EI c (tVar i) ds := fun σ H s Q q => by
  obtain ⟨p, o, e1, e2, ⟨vs, rfl, a⟩, _⟩ := s.own i _ h
  exact ⟨.ref p, e1, q H p vs (Kp.refl _) e2 a⟩
theorem i_of {ds : List PyData} (h : E true c t (RD (.list ds))) : EI c t ds := fun σ H s Q q => h σ H s Q fun H' v k r => by
  rw [hb_t] at r
  cases r with
  | lst e a => exact q H' _ _ k (less_some e).2 a
theorem e_int {i : Int} : E b c (tC (.int i)) (RD (.int i)) := fun σ H s Q q => q H _ (Kp.refl _) (.int i)
theorem e_str {x : Str} : E b c (tC (.str x)) (RD (.str x)) := fun σ H s Q q => q H _ (Kp.refl _) (.str x)
theorem e_bl {x : Bool} : E b c (tC (.bl x)) (RD (.bool x)) := fun σ H s Q q => q H _ (Kp.refl _) (.bl x)
theorem e_non : E b c (tC .non) (RD .none) := fun σ H s Q q => q H _ (Kp.refl _) .non
/-- an operation on values: M is hidden from it -/
def Hd (H : Hp) (M : Addr → Prop) : Prop := ∀ a, M a → ∃ o, H a = some o ∧ Mut (some o)
def O2 (r : R2) (R1 R2 R : Rel) : Prop := ∀ H M x y, Hd H M → R1.p (less H M) x → R2.p (less H M) y → ∀ Q : VK, (∀ H' v, Kp H H' → R.p (less H' M) v → Q v H') → r x y H Q
def O1 (r : V → Hp → VK → Prop) (R1 R : Rel) : Prop := ∀ H M x, Hd H M → R1.p (less H M) x → ∀ Q : VK, (∀ H' v, Kp H H' → R.p (less H' M) v → Q v H') → r x H Q
def On (r : List V → Hp → VK → Prop) (Rs : List Rel) (R : Rel) : Prop := ∀ H M vs, Hd H M → Rok Rs (less H M) vs → ∀ Q : VK, (∀ H' v, Kp H H' → R.p (less H' M) v → Q v H') → r vs H Q
theorem e_op {r : R2} {R1 R2 : Rel} (o : O2 r R1 R2 R) (ha : E b c ta R1) (hc : E b c tb R2) : E b c (tOp r ta tb) R := fun σ H s Q q =>
  ha σ H s _ fun H1 x k1 r1 => hc σ H1 (s.kp k1) _ fun H2 y k2 r2 => o H2 (msk b c σ) x y (fun a m => ((s.kp k1).kp k2).hides a m) (R1.mn (hb_kp k2) r1) r2 Q fun H' v k r => q H' v ((k1.trans k2).trans k) r
theorem e_un {r : V → Hp → VK → Prop} {R1 : Rel} (o : O1 r R1 R) (ha : E b c ta R1) : E b c (tUn r ta) R := fun σ H s Q q =>
  ha σ H s _ fun H1 x k1 r1 => o H1 (msk b c σ) x (fun a m => (s.kp k1).hides a m) r1 Q fun H' v k r => q H' v (k1.trans k) r
theorem a_nil : EA b c tNil [] := fun σ H s Q q => q H [] (Kp.refl _) rfl
theorem a_cons {u : TA} {Rs : List Rel} (ha : E b c t R) (hr : EA b c u Rs) : EA b c (tCons t u) (R :: Rs) := fun σ H s Q q =>
  ha σ H s _ fun H1 x k1 r1 => hr σ H1 (s.kp k1) _ fun H2 vs k2 r2 => q H2 _ (k1.trans k2) ⟨x, vs, rfl, R.mn (hb_kp k2) r1, r2⟩
theorem e_cb {r : List V → Hp → VK → Prop} {u : TA} {Rs : List Rel} (o : On r Rs R) (ha : EA b c u Rs) : E b c (tCB r u) R := fun σ H s Q q =>
  ha σ H s _ fun H1 vs k1 r1 => o H1 (msk b c σ) vs (fun a m => (s.kp k1).hides a m) r1 Q fun H' v k r => q H' v (k1.trans k) r
/-! #### numbers -/
theorem o_I0 {g : Int → Int → Int} {i j : Int} : O2 (rI0 fun i j => .int (g i j)) (RD (.int i)) (RD (.int j)) (RD (.int (g i j))) := fun H M x y _ r1 r2 Q q => by
  cases r1
  cases r2
  exact ⟨i, j, rfl, rfl, q H _ (Kp.refl _) (.int _)⟩
theorem o_I {C : Int → Int → Prop} {g : Int → Int → Int} {i j : Int} (h : C i j) : O2 (rI C fun i j => .int (g i j)) (RD (.int i)) (RD (.int j)) (RD (.int (g i j))) := fun H M x y _ r1 r2 Q q => by
  cases r1
  cases r2
  exact ⟨i, j, rfl, rfl, h, q H _ (Kp.refl _) (.int _)⟩
theorem o_add {i j : Int} : O2 (rI0 fun i j => .int (i + j)) (RD (.int i)) (RD (.int j)) (RD (.int (i + j))) := o_I0
theorem o_sub {i j : Int} : O2 (rI0 fun i j => .int (i - j)) (RD (.int i)) (RD (.int j)) (RD (.int (i - j))) := o_I0
theorem o_cmpI0 {g : Int → Int → Bool} {i j : Int} : O2 (rI0 fun i j => .bl (g i j)) (RD (.int i)) (RD (.int j)) (RD (.bool (g i j))) := fun H M x y _ r1 r2 Q q => by
  cases r1
  cases r2
  exact ⟨i, j, rfl, rfl, q H _ (Kp.refl _) (.bl _)⟩
theorem o_U {g : Int → Int} {i : Int} : O1 (rU fun i => .int (g i)) (RD (.int i)) (RD (.int (g i))) := fun H M x _ r1 Q q => by
  cases r1
  exact ⟨i, rfl, q H _ (Kp.refl _) (.int _)⟩
/-- two plain values that are compared -/
def scD : PyData → PyData → Bool
  | .none, .none => true | .int _, .int _ => true | .bool _, .bool _ => true | .str _, .str _ => true
  | .none, .int _ => true | .int _, .none => true | .none, .str _ => true | .str _, .none => true | .int _, .str _ => true | .str _, .int _ => true
  | _, _ => false
def plainV : PyData → V
  | .int i => .int i
  | .bool b => .bl b
  | .str x => .str x
  | _ => .non
theorem sc_vals {H : Hp} {x y : V} {d e : PyData} (h : scD d e = true) (r1 : Dt H x d) (r2 : Dt H y e) : scal x y = true ∧ x = plainV d ∧ y = plainV e := by
  cases r1 <;> cases r2 <;> first | exact ⟨rfl, rfl, rfl⟩ | cases h
theorem o_eq {d e : PyData} (h : scD d e = true) : O2 rEq (RD d) (RD e) (RD (.bool (decide (plainV d = plainV e)))) := fun H M x y _ r1 r2 Q q => by
  obtain ⟨s, rfl, rfl⟩ := sc_vals h r1 r2
  exact ⟨s, q H _ (Kp.refl _) (.bl _)⟩
theorem o_ne {d e : PyData} (h : scD d e = true) : O2 rNe (RD d) (RD e) (RD (.bool (!decide (plainV d = plainV e)))) := fun H M x y _ r1 r2 Q q => by
  obtain ⟨s, rfl, rfl⟩ := sc_vals h r1 r2
  exact ⟨s, q H _ (Kp.refl _) (.bl _)⟩
theorem o_eqI {i j : Int} : O2 rEq (RD (.int i)) (RD (.int j)) (RD (.bool (decide (i = j)))) := fun H M x y _ r1 r2 Q q => by
  cases r1
  cases r2
  refine ⟨rfl, q H _ (Kp.refl _) ?_⟩
  rw [show decide (V.int i = V.int j) = decide (i = j) by simp]
  exact .bl _
theorem o_neI {i j : Int} : O2 rNe (RD (.int i)) (RD (.int j)) (RD (.bool (!decide (i = j)))) := fun H M x y _ r1 r2 Q q => by
  cases r1
  cases r2
  refine ⟨rfl, q H _ (Kp.refl _) ?_⟩
  rw [show decide (V.int i = V.int j) = decide (i = j) by simp]
  exact .bl _
theorem o_eqS {i j : Str} : O2 rEq (RD (.str i)) (RD (.str j)) (RD (.bool (decide (i = j)))) := fun H M x y _ r1 r2 Q q => by
  cases r1
  cases r2
  refine ⟨rfl, q H _ (Kp.refl _) ?_⟩
  rw [show decide (V.str i = V.str j) = decide (i = j) by simp]
  exact .bl _
theorem o_neS {i j : Str} : O2 rNe (RD (.str i)) (RD (.str j)) (RD (.bool (!decide (i = j)))) := fun H M x y _ r1 r2 Q q => by
  cases r1
  cases r2
  refine ⟨rfl, q H _ (Kp.refl _) ?_⟩
  rw [show decide (V.str i = V.str j) = decide (i = j) by simp]
  exact .bl _
def isN : PyData → Bool
  | .none => true
  | _ => false
theorem Dt.nonv {H : Hp} {x : V} {d : PyData} (h : Dt H x d) : decide (x = .non) = isN d := by
  cases h <;> simp [isN]
/-! #### tests -/
theorem t_B {x : Bool} (h : E false c t (RD (.bool x))) : ET c (tB t) x := fun σ H s Q q => h σ H s _ fun H' v k r => by
  cases r
  exact ⟨x, rfl, q H' k⟩
theorem t_T {x : Bool} (h : E false c t (RD (.bool x))) : ET c (tTest t) x := fun σ H s Q q => h σ H s _ fun H' v k r => by
  cases r
  exact ⟨x, rfl, q H' k⟩
theorem t_and {t u : TT} {x y : Bool} (h : ET c t x) (g : x = true → ET c u y) : ET c (tAnd t u) (x && y) := fun σ H s Q q => h σ H s _ fun H1 k1 => by
  cases x with
  | false => rw [if_neg Bool.false_ne_true]; exact q H1 k1
  | true => rw [if_pos rfl]; exact g rfl σ H1 (s.kp k1) Q fun H2 k2 => q H2 (k1.trans k2)
theorem t_or {t u : TT} {x y : Bool} (h : ET c t x) (g : x = false → ET c u y) : ET c (tOr t u) (x || y) := fun σ H s Q q => h σ H s _ fun H1 k1 => by
  cases x with
  | true => rw [if_pos rfl]; exact q H1 k1
  | false => rw [if_neg Bool.false_ne_true]; exact g rfl σ H1 (s.kp k1) Q fun H2 k2 => q H2 (k1.trans k2)
theorem t_not {t : TT} {x : Bool} (h : ET c t x) : ET c (tNot t) (!x) := fun σ H s Q q => h σ H s _ fun H1 k1 => q H1 k1
theorem e_if {tt : TT} {x : Bool} (h : ET c tt x) (ha : x = true → E b c ta R) (hc : x = false → E b c tb R) : E b c (tIf tt ta tb) R := fun σ H s Q q => h σ H s _ fun H1 k1 => by
  cases x with
  | true => rw [if_pos rfl]; exact ha rfl σ H1 (s.kp k1) Q fun H' v k r => q H' v (k1.trans k) r
  | false => rw [if_neg Bool.false_ne_true]; exact hc rfl σ H1 (s.kp k1) Q fun H' v k r => q H' v (k1.trans k) r
theorem e_and {x y : Bool} (h : E false c ta (RD (.bool x))) (g : x = true → E false c tb (RD (.bool y))) : E b c (tAndV ta tb) (RD (.bool (x && y))) := E.flat (fun σ H s Q q => h σ H s _ fun H1 v k1 r => by
  cases r
  refine ⟨x, rfl, ?_⟩
  cases x with
  | false => rw [if_neg Bool.false_ne_true]; exact q H1 _ k1 (.bl _)
  | true => rw [if_pos rfl]; exact g rfl σ H1 (s.kp k1) Q fun H2 v k2 r => q H2 v (k1.trans k2) r) rfl
theorem e_or {x y : Bool} (h : E false c ta (RD (.bool x))) (g : x = false → E false c tb (RD (.bool y))) : E b c (tOrV ta tb) (RD (.bool (x || y))) := E.flat (fun σ H s Q q => h σ H s _ fun H1 v k1 r => by
  cases r
  refine ⟨x, rfl, ?_⟩
  cases x with
  | true => rw [if_pos rfl]; exact q H1 _ k1 (.bl _)
  | false => rw [if_neg Bool.false_ne_true]; exact g rfl σ H1 (s.kp k1) Q fun H2 v k2 r => q H2 v (k1.trans k2) r) rfl
theorem e_not {x : Bool} (h : E false c ta (RD (.bool x))) : E b c (tNotV ta) (RD (.bool (!x))) := E.flat (fun σ H s Q q => h σ H s _ fun H1 v k1 r => by
  cases r
  exact ⟨x, rfl, q H1 _ k1 (.bl _)⟩) rfl
theorem o_isN {d : PyData} : O2 (fun x y H Q => y = .non ∧ Q (.bl (decide (x = .non))) H) (RD d) (RD .none) (RD (.bool (isN d))) := fun H M x y _ r1 r2 Q q => by
  cases r2
  refine ⟨rfl, q H _ (Kp.refl _) ?_⟩
  rw [Dt.nonv r1]
  exact .bl _
theorem o_notN {d : PyData} : O2 (fun x y H Q => y = .non ∧ Q (.bl (!decide (x = .non))) H) (RD d) (RD .none) (RD (.bool (!isN d))) := fun H M x y _ r1 r2 Q q => by
  cases r2
  refine ⟨rfl, q H _ (Kp.refl _) ?_⟩
  rw [Dt.nonv r1]
  exact .bl _
end
end Pk

namespace Pk
open PySem L2 PySem.Spec PyProof.Rows GxR NdefX
/-! ### pictures of types -/
/-- the picture of a type's things: told apart by ==, of depth n at most, laid out where P -/
structure Enc {α : Type} [DecidableEq α] (f : α → PyData) (n : Nat) (P : α → Prop) : Prop where
  eqv : ∀ a b, PyData.eqv (f a) (f b) = decide (a = b)
  lay : ∀ a, P a → (f a).canLay0 = true
  dep : ∀ a, (f a).depth ≤ n
  nod : ∀ a, Pk.nod (f a) = true
theorem layAll {α : Type} {f : α → PyData} {P : α → Prop} (h : ∀ a, P a → (f a).canLay0 = true) : ∀ xs : List α, (∀ a ∈ xs, P a) → PyData.canLayAll0 (xs.map f) = true
  | [], _ => rfl
  | x :: xs, k => by
    show (PyData.canLay0 (f x) && PyData.canLayAll0 (xs.map f)) = true
    rw [h x (k x (.head _)), layAll h xs fun a m => k a (.tail _ m)]
    rfl
theorem depAll {α : Type} {f : α → PyData} {n : Nat} (h : ∀ a, (f a).depth ≤ n) : ∀ xs : List α, PyData.depthAll (xs.map f) ≤ n
  | [] => Nat.zero_le _
  | x :: xs => by
    show max (PyData.depth (f x)) (PyData.depthAll (xs.map f)) ≤ n
    exact Nat.max_le.mpr ⟨h x, depAll h xs⟩
theorem nodAll {α : Type} {f : α → PyData} (h : ∀ a, Pk.nod (f a) = true) : ∀ xs : List α, nods (xs.map f) = true
  | [] => rfl
  | x :: xs => by
    show (Pk.nod (f x) && nods (xs.map f)) = true
    rw [h x, nodAll h xs]
    rfl
theorem eqvAllE {α : Type} [DecidableEq α] {f : α → PyData} (h : ∀ a b, PyData.eqv (f a) (f b) = decide (a = b)) : ∀ xs ys : List α, PyData.eqvAll (xs.map f) (ys.map f) = decide (xs = ys)
  | [], [] => rfl
  | [], _ :: _ => rfl
  | _ :: _, [] => rfl
  | x :: xs, y :: ys => by
    show (PyData.eqv (f x) (f y) && PyData.eqvAll (xs.map f) (ys.map f)) = decide (x :: xs = y :: ys)
    rw [h x y, eqvAllE h xs ys]
    by_cases e : x = y <;> by_cases k : xs = ys <;> simp [e, k]
theorem enc_int : Enc PyData.int 0 (fun _ => True) := ⟨eqv_int, fun _ _ => rfl, fun _ => Nat.zero_le _, fun _ => rfl⟩
theorem enc_str : Enc PyData.str 0 (fun x => PyData.strOk x = true) := ⟨fun a b => by
  show (a == b) = decide (a = b)
  exact Bool.eq_iff_iff.mpr (by simp), fun _ h => h, fun _ => Nat.zero_le _, fun _ => rfl⟩
theorem enc_bool : Enc PyData.bool 0 (fun _ => True) := ⟨fun a b => by
  show (a == b) = decide (a = b)
  cases a <;> cases b <;> rfl, fun _ _ => rfl, fun _ => Nat.zero_le _, fun _ => rfl⟩
section
variable {α β γ : Type} [DecidableEq α] [DecidableEq β] [DecidableEq γ] {f : α → PyData} {g : β → PyData} {k : γ → PyData} {n m l : Nat} {P : α → Prop} {S : β → Prop} {T : γ → Prop}
theorem Enc.up (h : Enc f n P) (e : n ≤ m) : Enc f m P := ⟨h.eqv, h.lay, fun a => Nat.le_trans (h.dep a) e, h.nod⟩
theorem Enc.imp {P' : α → Prop} (h : Enc f n P) (e : ∀ a, P' a → P a) : Enc f n P' := ⟨h.eqv, fun a k => h.lay a (e a k), h.dep, h.nod⟩
theorem enc_list (h : Enc f n P) : Enc (fun xs : List α => .list (xs.map f)) (n + 1) (fun xs => ∀ a ∈ xs, P a) :=
  ⟨fun a b => eqvAllE h.eqv a b, fun xs q => layAll h.lay xs q, fun xs => Nat.succ_le_succ (depAll h.dep xs), fun xs => nodAll h.nod xs⟩
theorem enc_tupl (h : Enc f n P) : Enc (fun xs : List α => .tuple (xs.map f)) (n + 1) (fun xs => ∀ a ∈ xs, P a) :=
  ⟨fun a b => eqvAllE h.eqv a b, fun xs q => layAll h.lay xs q, fun xs => Nat.succ_le_succ (depAll h.dep xs), fun xs => nodAll h.nod xs⟩
theorem enc_pair (h : Enc f n P) (q : Enc g n S) : Enc (fun p : α × β => .tuple [f p.1, g p.2]) (n + 1) (fun p => P p.1 ∧ S p.2) := by
  refine ⟨fun a b => ?_, fun a z => ?_, fun a => ?_, fun a => ?_⟩
  · show (PyData.eqv (f a.1) (f b.1) && (PyData.eqv (g a.2) (g b.2) && true)) = _
    rw [h.eqv, q.eqv, Bool.and_true, Bool.eq_iff_iff]
    simp [Prod.ext_iff]
  · show (PyData.canLay0 (f a.1) && (PyData.canLay0 (g a.2) && true)) = true
    rw [h.lay _ z.1, q.lay _ z.2]
    rfl
  · show max (PyData.depth (f a.1)) (max (PyData.depth (g a.2)) 0) + 1 ≤ n + 1
    have := h.dep a.1
    have := q.dep a.2
    omega
  · show (Pk.nod (f a.1) && (Pk.nod (g a.2) && true)) = true
    rw [h.nod, q.nod]
    rfl
theorem enc_lpair (h : Enc f n P) (q : Enc g n S) : Enc (fun p : α × β => PyData.list [f p.1, g p.2]) (n + 1) (fun p => P p.1 ∧ S p.2) := by
  refine ⟨fun a b => ?_, fun a z => ?_, fun a => ?_, fun a => ?_⟩
  · show (PyData.eqv (f a.1) (f b.1) && (PyData.eqv (g a.2) (g b.2) && true)) = _
    rw [h.eqv, q.eqv, Bool.and_true, Bool.eq_iff_iff]
    simp [Prod.ext_iff]
  · show (PyData.canLay0 (f a.1) && (PyData.canLay0 (g a.2) && true)) = true
    rw [h.lay _ z.1, q.lay _ z.2]
    rfl
  · show max (PyData.depth (f a.1)) (max (PyData.depth (g a.2)) 0) + 1 ≤ n + 1
    have := h.dep a.1
    have := q.dep a.2
    omega
  · show (Pk.nod (f a.1) && (Pk.nod (g a.2) && true)) = true
    rw [h.nod, q.nod]
    rfl
theorem enc_trip (h : Enc f n P) (q : Enc g n S) (r : Enc k n T) : Enc (fun p : α × β × γ => .tuple [f p.1, g p.2.1, k p.2.2]) (n + 1) (fun p => P p.1 ∧ S p.2.1 ∧ T p.2.2) := by
  refine ⟨fun a b => ?_, fun a z => ?_, fun a => ?_, fun a => ?_⟩
  · show (PyData.eqv (f a.1) (f b.1) && (PyData.eqv (g a.2.1) (g b.2.1) && (PyData.eqv (k a.2.2) (k b.2.2) && true))) = _
    rw [h.eqv, q.eqv, r.eqv, Bool.and_true, Bool.eq_iff_iff]
    simp [Prod.ext_iff]
  · show (PyData.canLay0 (f a.1) && (PyData.canLay0 (g a.2.1) && (PyData.canLay0 (k a.2.2) && true))) = true
    rw [h.lay _ z.1, q.lay _ z.2.1, r.lay _ z.2.2]
    rfl
  · show max (PyData.depth (f a.1)) (max (PyData.depth (g a.2.1)) (max (PyData.depth (k a.2.2)) 0)) + 1 ≤ n + 1
    have := h.dep a.1
    have := q.dep a.2.1
    have := r.dep a.2.2
    omega
  · show (Pk.nod (f a.1) && (Pk.nod (g a.2.1) && (Pk.nod (k a.2.2) && true))) = true
    rw [h.nod, q.nod, r.nod]
    rfl
/-- None, or a thing -/
def eO (f : α → PyData) : Option α → PyData
  | none => .none
  | some a => f a
theorem enc_opt (h : Enc f n P) (z : ∀ a, PyData.eqv .none (f a) = false ∧ PyData.eqv (f a) .none = false) : Enc (eO f) n (fun o => ∀ a, o = some a → P a) := by
  refine ⟨fun a b => ?_, fun a q => ?_, fun a => ?_, fun a => ?_⟩
  · cases a with
    | none =>
      cases b with
      | none => rfl
      | some b => show PyData.eqv .none (f b) = _; rw [(z b).1]; simp
    | some a =>
      cases b with
      | none => show PyData.eqv (f a) .none = _; rw [(z a).2]; simp
      | some b => show PyData.eqv (f a) (f b) = _; rw [h.eqv]; simp
  · cases a with
    | none => rfl
    | some a => exact h.lay a (q a rfl)
  · cases a with
    | none => exact Nat.zero_le _
    | some a => exact h.dep a
  · cases a with
    | none => rfl
    | some a => exact h.nod a
theorem Enc.shaped (h : Enc f n P) (hn : n ≤ 64) {a : α} (q : P a) : SeqAt.shaped (f a) = true := by
  unfold SeqAt.shaped
  rw [h.lay a q, Bool.true_and]
  exact decide_eq_true (Nat.le_trans (h.dep a) hn)
theorem dec_bl {p : Prop} (i j : Decidable p) (u : Bool → Bool) {H : Hp} : Dt H (.bl (u (@decide p i))) (.bool (u (@decide p j))) := by
  cases Subsingleton.elim i j
  exact .bl _
theorem t_eq {c : Ct} {tt : TT} {x y : Bool} (h : ET c tt x) (e : x = y) : ET c tt y := e ▸ h
theorem o_eqE {K : PySem.W.Frag} (h : Enc f n P) (hn : n ≤ 64) {a b : α} {hd : Decidable (a = b)} (qa : P a) (qb : P b) : O2 (rEqD K) (RD (f a)) (RD (f b)) (RD (.bool (@decide (a = b) hd))) := fun H M x y _ r1 r2 Q q => by
  refine ⟨f a, f b, (Dt.kp kp_less r1).dp (h.nod a), (Dt.kp kp_less r2).dp (h.nod b), h.shaped hn qa, h.shaped hn qb, q H _ (Kp.refl _) ?_⟩
  rw [h.eqv]
  exact dec_bl _ _ id
theorem o_neE {K : PySem.W.Frag} (h : Enc f n P) (hn : n ≤ 64) {a b : α} {hd : Decidable (a = b)} (qa : P a) (qb : P b) : O2 (rNeD K) (RD (f a)) (RD (f b)) (RD (.bool (!@decide (a = b) hd))) := fun H M x y _ r1 r2 Q q => by
  refine ⟨f a, f b, (Dt.kp kp_less r1).dp (h.nod a), (Dt.kp kp_less r2).dp (h.nod b), h.shaped hn qa, h.shaped hn qb, q H _ (Kp.refl _) ?_⟩
  rw [h.eqv]
  exact dec_bl _ _ not
theorem any_enc (h : Enc f n P) (xs : List α) (a : α) : ((xs.map f).any fun z => PyData.eqv z (f a)) = decide (a ∈ xs) := by
  induction xs with
  | nil => rfl
  | cons x xs ih =>
    rw [List.map_cons, List.any_cons, ih, h.eqv]
    by_cases e : x = a
    · subst e
      simp
    · rw [decide_eq_false e, Bool.false_or, Bool.eq_iff_iff, decide_eq_true_iff, decide_eq_true_iff, List.mem_cons]
      exact ⟨.inr, fun z => z.elim (fun y => absurd y.symm e) id⟩
theorem o_inE {K : PySem.W.Frag} (h : Enc f n P) (hn : n ≤ 63) {a : α} {xs : List α} {hd : Decidable (a ∈ xs)} (qa : P a) (qb : ∀ x ∈ xs, P x) : O2 (rInD K) (RD (f a)) (RD (.list (xs.map f))) (RD (.bool (@decide (a ∈ xs) hd))) := fun H M x y _ r1 r2 Q q => by
  have hl := enc_list h
  refine ⟨f a, xs.map f, (Dt.kp kp_less r1).dp (h.nod a), (Dt.kp kp_less r2).dp (hl.nod xs), h.shaped (by omega) qa, hl.shaped (by omega) qb, q H _ (Kp.refl _) ?_⟩
  rw [any_enc h]
  exact dec_bl _ _ id
theorem o_niE {K : PySem.W.Frag} (h : Enc f n P) (hn : n ≤ 63) {a : α} {xs : List α} {hd : Decidable (a ∈ xs)} (qa : P a) (qb : ∀ x ∈ xs, P x) : O2 (rNotInD K) (RD (f a)) (RD (.list (xs.map f))) (RD (.bool (!@decide (a ∈ xs) hd))) := fun H M x y _ r1 r2 Q q => by
  have hl := enc_list h
  refine ⟨f a, xs.map f, (Dt.kp kp_less r1).dp (h.nod a), (Dt.kp kp_less r2).dp (hl.nod xs), h.shaped (by omega) qa, hl.shaped (by omega) qb, q H _ (Kp.refl _) ?_⟩
  rw [any_enc h]
  exact dec_bl _ _ not
end

/-! ### new objects -/
theorem new_at {H : Hp} {M : Addr → Prop} (h : Hd H M) {p : Addr} {o : HO} (n : H p = none) : less (upd H p o) M = upd (less H M) p o := by
  have np : ¬ M p := fun z => by
    obtain ⟨o, e, _⟩ := h p z
    rw [n] at e
    cases e
  funext a
  by_cases e : a = p
  · subst e
    rw [upd_same, less_out np, upd_same]
  · rw [upd_ne e]
    by_cases m : M a
    · rw [less_in m, less_in m]
    · rw [less_out m, less_out m, upd_ne e]
theorem hb_new {b : Bool} {c : Ct} {σ : L2.St} {H : Hp} (s : Sta c σ H) {p : Addr} {o : HO} (n : H p = none) : hb b c σ (upd H p o) = upd (hb b c σ H) p o := new_at (fun a m => s.hides a m) n
theorem less_none {H : Hp} {M : Addr → Prop} {p : Addr} (n : H p = none) : less H M p = none := by
  by_cases m : M p
  · exact less_in m
  · rw [less_out m]
    exact n
section
variable {b : Bool} {c : Ct} {R S : Rel} {t ta tb tc : TE} {d e : PyData}
/-- a reading gives a new object -/
def EN (c : Ct) (t : TE) (C : Own) : Prop := ∀ σ H, Sta c σ H → ∀ Q : VK, (∀ H' p o, Kp H H' → H' p = none → C.p (bas c σ H') o → Q (.ref p) (upd H' p o)) → t σ H Q
theorem n_e {ds : List PyData} (h : EN c t (OL ds)) : E b c t (RD (.list ds)) := fun σ H s Q q => h σ H s Q fun H' p o k n ⟨vs, e, a⟩ => by
  subst e
  refine q _ _ (k.trans (kp_new n)) ?_
  rw [hb_new (s.kp k) n]
  exact .lst upd_same ((a.kp bas_hb).kp (kp_new (less_none n)))
theorem i_n {ds : List PyData} (h : EN c t (OL ds)) : EI c t ds := i_of (n_e h)
/-- the values of arguments that are data -/
def EM (b : Bool) (c : Ct) (t : TA) (ds : List PyData) : Prop := ∀ σ H, Sta c σ H → ∀ Q : List V → Hp → Prop, (∀ H' vs, Kp H H' → DtAll (hb b c σ H') vs ds → Q vs H') → t σ H Q
theorem m_nil : EM b c tNil [] := fun σ H s Q q => q H [] (Kp.refl _) .nil
theorem m_cons {u : TA} {ds : List PyData} (ha : E b c t (RD d)) (hr : EM b c u ds) : EM b c (tCons t u) (d :: ds) := fun σ H s Q q =>
  ha σ H s _ fun H1 x k1 r1 => hr σ H1 (s.kp k1) _ fun H2 vs k2 r2 => q H2 _ (k1.trans k2) (.cons (Dt.kp (hb_kp k2) r1) r2)
theorem e_tup {u : TA} {ds : List PyData} (h : EM b c u ds) (l : Nat.ble ds.length sizeLine = true := by rfl) : E b c (tTup u) (RD (.tuple ds)) := fun σ H s Q q =>
  h σ H s _ fun H1 vs k1 r1 => ⟨by rw [r1.len]; exact Nat.le_of_ble_eq_true l, fun p n => q _ _ (k1.trans (kp_new n)) (by
    rw [hb_new (s.kp k1) n]
    exact .tup upd_same (r1.kp (kp_new (less_none n))))⟩
theorem n_lst {u : TA} {ds : List PyData} (h : EM true c u ds) (l : Nat.ble ds.length sizeLine = true := by rfl) : EN c (tLst u) (OL ds) := fun σ H s Q q =>
  h σ H s _ fun H1 vs k1 r1 => ⟨by rw [r1.len]; exact Nat.le_of_ble_eq_true l, fun p n => q H1 p _ k1 n ⟨vs, rfl, by rw [← hb_t]; exact r1⟩⟩
theorem e_lst {u : TA} {ds : List PyData} (h : EM true c u ds) (l : Nat.ble ds.length sizeLine = true := by rfl) : E b c (tLst u) (RD (.list ds)) := n_e (n_lst h l)
/-! #### lists and tuples read -/
theorem o_ixL {K : PySem.W.Frag} {ds : List PyData} {i : Int} {d : PyData} (h : atI ds i = some d) : O2 (rIxL K) (RD (.list ds)) (RD (.int i)) (RD d) := fun H M x y _ r1 r2 Q q => by
  cases r2
  cases r1 with
  | lst e a =>
    obtain ⟨v, h1, h2⟩ := a.atI h
    exact ⟨_, _, i, v, rfl, rfl, SqL.of (less_some e).2, h1, q H _ (Kp.refl _) h2⟩
theorem o_ixT {K : PySem.W.Frag} {ds : List PyData} {i : Int} {d : PyData} (h : atI ds i = some d) : O2 (rIxT K) (RD (.tuple ds)) (RD (.int i)) (RD d) := fun H M x y _ r1 r2 Q q => by
  cases r2
  cases r1 with
  | tup e a =>
    obtain ⟨v, h1, h2⟩ := a.atI h
    exact ⟨_, _, i, v, rfl, rfl, SqT.of (less_some e).2, h1, q H _ (Kp.refl _) h2⟩
/-- an item of a list that is being changed -/
theorem e_ixO {K : PySem.W.Frag} {ds : List PyData} {i : Int} (h : EI c ta ds) (hi : E false c tb (RD (.int i))) (z : atI ds i = some d) : E b c (tOp (rIxL K) ta tb) (RD d) := E.low fun σ H s Q q =>
  h σ H s _ fun H1 a vs k1 e1 r1 => hi σ H1 (s.kp k1) _ fun H2 y k2 r2 => by
    cases r2
    obtain ⟨v, h1, h2⟩ := r1.atI z
    exact ⟨a, vs, i, v, rfl, rfl, SqL.of (k2.lst e1), h1, q H2 _ (k1.trans k2) (by rw [hb_t]; exact Dt.kp ((s.kp k1).kb k2) h2)⟩
def EO (c : Ct) (t : TO) (o : Option Int) : Prop := ∀ σ H, Sta c σ H → ∀ Q : Option Int → Hp → Prop, (∀ H', Kp H H' → Q o H') → t σ H Q
theorem p_none : EO c tNoPart none := fun σ H s Q q => q H (Kp.refl _)
theorem p_some {i : Int} (h : E false c t (RD (.int i))) : EO c (tPart t) (some i) := fun σ H s Q q => h σ H s _ fun H1 x k r => by
  cases r
  exact ⟨i, rfl, q H1 k⟩
theorem n_sl {K : PySem.W.Frag} {ds : List PyData} {lo hi : Option Int} {tl th : TO} (h : EI c t ds) (hl : EO c tl lo) (hh : EO c th hi) : EN c (tSl (rSlL K) t tl th) (OL (cutD ds lo hi)) := fun σ H s Q q =>
  h σ H s _ fun H1 a vs k1 e1 r1 => hl σ H1 (s.kp k1) _ fun H2 k2 => hh σ H2 ((s.kp k1).kp k2) _ fun H3 k3 =>
    ⟨a, vs, rfl, SqL.of ((k2.trans k3).lst e1), fun p n => q H3 p _ ((k1.trans k2).trans k3) n ⟨_, rfl, (r1.kp ((s.kp k1).kb (k2.trans k3))).cut lo hi⟩⟩
theorem n_cat {ds es : List PyData} (h : EI c ta ds) (g : EI c tb es) (l : ds.length + es.length ≤ sizeLine) : EN c (tOp rCat ta tb) (OL (ds ++ es)) := fun σ H s Q q =>
  h σ H s _ fun H1 a vs k1 e1 r1 => g σ H1 (s.kp k1) _ fun H2 a2 ws k2 e2 r2 =>
    ⟨a, a2, vs, ws, rfl, rfl, k2.lst e1, e2, by rw [r1.len, r2.len]; exact l, fun p n => q H2 p _ (k1.trans k2) n ⟨_, rfl, (r1.kp ((s.kp k1).kb k2)).app r2⟩⟩
theorem o_lenL {K : PySem.W.Frag} {ds : List PyData} : On (fun xs H Q => ∃ x n, xs = [x] ∧ LenV K x H n ∧ Q (.int n) H) [RD (.list ds)] (RD (.int ds.length)) := fun H M vs _ r Q q => by
  obtain ⟨v, r', rfl, h1, rfl⟩ := r
  cases h1 with
  | lst e a => exact ⟨_, _, rfl, .inl ⟨_, SqL.of (less_some e).2, rfl⟩, by rw [a.len]; exact q H _ (Kp.refl _) (.int _)⟩
theorem o_lenT {K : PySem.W.Frag} {ds : List PyData} : On (fun xs H Q => ∃ x n, xs = [x] ∧ LenV K x H n ∧ Q (.int n) H) [RD (.tuple ds)] (RD (.int ds.length)) := fun H M vs _ r Q q => by
  obtain ⟨v, r', rfl, h1, rfl⟩ := r
  cases h1 with
  | tup e a => exact ⟨_, _, rfl, .inr ⟨_, SqT.of (less_some e).2, rfl⟩, by rw [a.len]; exact q H _ (Kp.refl _) (.int _)⟩
theorem o_lenS {K : PySem.W.Frag} {z : Str} (hz : z.length ≤ sizeLine) : On (fun xs H Q => ∃ x n, xs = [x] ∧ LenV K x H n ∧ Q (.int n) H) [RD (.str z)] (RD (.int z.length)) := fun H M vs _ r Q q => by
  obtain ⟨v, r', rfl, h1, rfl⟩ := r
  cases h1
  exact ⟨_, _, rfl, ⟨hz, rfl⟩, q H _ (Kp.refl _) (.int _)⟩
theorem o_int {i : Int} : On (fun xs H Q => (∃ i, xs = [.int i] ∧ Q (.int i) H) ∨ ∃ k, xs = [.bl k] ∧ Q (.int (if k then 1 else 0)) H) [RD (.int i)] (RD (.int i)) := fun H M vs _ r Q q => by
  obtain ⟨v, r', rfl, h1, rfl⟩ := r
  cases h1
  exact .inl ⟨_, rfl, q H _ (Kp.refl _) (.int _)⟩
theorem o_abs {i : Int} : On (fun xs H Q => ∃ i, xs = [.int i] ∧ Q (.int (if i < 0 then -i else i)) H) [RD (.int i)] (RD (.int (if i < 0 then -i else i))) := fun H M vs _ r Q q => by
  obtain ⟨v, r', rfl, h1, rfl⟩ := r
  cases h1
  exact ⟨_, rfl, q H _ (Kp.refl _) (.int _)⟩
theorem o_max2 {i j : Int} : On (fun xs H Q => ∃ i j, xs = [.int i, .int j] ∧ Q (.int (if j > i then j else i)) H) [RD (.int i), RD (.int j)] (RD (.int (max i j))) := fun H M vs _ r Q q => by
  obtain ⟨v, r', rfl, h1, u, r'', rfl, h2, rfl⟩ := r
  cases h1
  cases h2
  refine ⟨_, _, rfl, q H _ (Kp.refl _) ?_⟩
  rw [show (if j > i then j else i) = max i j by split <;> omega]
  exact .int _
theorem o_min2 {i j : Int} : On (fun xs H Q => ∃ i j, xs = [.int i, .int j] ∧ Q (.int (if j < i then j else i)) H) [RD (.int i), RD (.int j)] (RD (.int (min i j))) := fun H M vs _ r Q q => by
  obtain ⟨v, r', rfl, h1, u, r'', rfl, h2, rfl⟩ := r
  cases h1
  cases h2
  refine ⟨_, _, rfl, q H _ (Kp.refl _) ?_⟩
  rw [show (if j < i then j else i) = min i j by split <;> omega]
  exact .int _
/-- list(..) of a list, of a tuple -/
theorem n_list {K : PySem.W.Frag} {ds : List PyData} (h : EI c t ds) : EN c (tCB (fun xs H Q => ∃ p ys, xs = [.ref p] ∧ (SqL K H p ys ∨ SqT K H p ys) ∧ ∀ l, H l = none → Q (.ref l) (upd H l (.lst ys))) (tCons t tNil)) (OL ds) := fun σ H s Q q =>
  h σ H s _ fun H1 a vs k1 e1 r1 => ⟨a, vs, rfl, .inl (SqL.of e1), fun l n => q H1 l _ k1 n ⟨vs, rfl, r1⟩⟩
theorem n_listT {K : PySem.W.Frag} {ds : List PyData} (h : E true c t (RD (.tuple ds))) : EN c (tCB (fun xs H Q => ∃ p ys, xs = [.ref p] ∧ (SqL K H p ys ∨ SqT K H p ys) ∧ ∀ l, H l = none → Q (.ref l) (upd H l (.lst ys))) (tCons t tNil)) (OL ds) := fun σ H s Q q =>
  h σ H s _ fun H1 v k1 r1 => by
    rw [hb_t] at r1
    cases r1 with
    | tup e a => exact ⟨_, _, rfl, .inr (SqT.of (less_some e).2), fun l n => q H1 l _ k1 n ⟨_, rfl, a⟩⟩
theorem e_tupleL {K : PySem.W.Frag} {ds : List PyData} (h : EI c t ds) : E b c (tCB (fun xs H Q => ∃ p ys, xs = [.ref p] ∧ ((SqL K H p ys ∧ ∀ l, H l = none → Q (.ref l) (upd H l (.tup ys))) ∨ (SqT K H p ys ∧ Q (.ref p) H))) (tCons t tNil)) (RD (.tuple ds)) := E.low fun σ H s Q q =>
  h σ H s _ fun H1 a vs k1 e1 r1 => ⟨a, vs, rfl, .inl ⟨SqL.of e1, fun l n => q _ _ (k1.trans (kp_new n)) (by
    rw [hb_new (s.kp k1) n]
    exact .tup upd_same ((r1.kp bas_hb).kp (kp_new (less_none n))))⟩⟩
end
end Pk

namespace Pk
open PySem L2 PySem.Spec PyProof.Rows GxR NdefX
/-! ### targets -/
def notOwn : Option Slot → Bool
  | some (.own _) => false
  | _ => true
theorem bas_iff {c c' : Ct} {σ σ' : L2.St} {H H' : Hp} (h : ∀ a, (isOwn c.g σ a ∨ c.om a) ↔ (isOwn c'.g σ' a ∨ c'.om a)) (e : ∀ a, ¬ (isOwn c.g σ a ∨ c.om a) → H a = H' a) : bas c σ H = bas c' σ' H' := by
  funext a
  by_cases m : isOwn c.g σ a ∨ c.om a
  · rw [bas_in m, bas_in ((h a).mp m)]
  · rw [bas_out m, bas_out fun z => m ((h a).mpr z)]
    exact e a m
theorem own_set {g : List Slot} {σ : L2.St} {i : Nat} {s : Slot} {o : Option V} (h : notOwn g[i]? = true) (hs : notOwn (some s) = true) (a : Addr) : isOwn (g.set i s) (σ.set i o) a ↔ isOwn g σ a := by
  constructor
  · rintro ⟨j, C, e1, e2⟩
    rcases getset e1 with ⟨_, z⟩ | ⟨n, z⟩
    · rw [← z] at hs
      cases hs
    · rw [List.getElem?_set_ne fun z => n z.symm] at e2
      exact ⟨j, C, z, e2⟩
  · rintro ⟨j, C, e1, e2⟩
    have n : i ≠ j := fun z => by
      subst z
      rw [e1] at h
      cases h
    exact ⟨j, C, by rw [List.getElem?_set_ne n]; exact e1, by rw [List.getElem?_set_ne n]; exact e2⟩
theorem wipe_set {σ : L2.St} {i : Nat} {o : Option V} : ∀ {vs : List Nat}, i ∈ vs → wipe (σ.set i o) vs = wipe σ vs
  | v :: vs, h => by
    show (wipe (σ.set i o) vs).set v none = (wipe σ vs).set v none
    by_cases m : i ∈ vs
    · rw [wipe_set m]
    · have e : i = v := by
        rcases List.mem_cons.mp h with z | z
        · exact z
        · exact absurd z m
      subst e
      have : ∀ (ws : List Nat), i ∉ ws → wipe (σ.set i o) ws = (wipe σ ws).set i o := fun ws => by
        induction ws with
        | nil => intro _; rfl
        | cons w ws ih =>
          intro q
          show (wipe (σ.set i o) ws).set w none = ((wipe σ ws).set w none).set i o
          rw [ih fun z => q (.tail _ z), List.set_comm _ _ (fun z => q (by rw [z]; exact .head _))]
      rw [this vs m, List.set_set]
theorem wipe_wipe {σ : L2.St} : ∀ {vs ws : List Nat}, (∀ i ∈ vs, i ∈ ws) → wipe (wipe σ vs) ws = wipe σ ws
  | [], _, _ => rfl
  | v :: vs, ws, h => by
    show wipe ((wipe σ vs).set v none) ws = wipe σ ws
    rw [wipe_set (h v (.head _)), wipe_wipe fun i m => h i (.tail _ m)]
theorem own_wipe {g : List Slot} {σ : L2.St} : ∀ {vs : List Nat}, (∀ i ∈ vs, g[i]? = some .any) → ∀ a, isOwn g (wipe σ vs) a ↔ isOwn g σ a
  | [], _, _ => Iff.rfl
  | v :: vs, h, a => by
    have e := h v (.head _)
    have := own_set (σ := wipe σ vs) (o := none) (s := .any) (by rw [e]; rfl) rfl a
    rw [setsame e] at this
    exact this.trans (own_wipe (fun i m => h i (.tail _ m)) a)
theorem Sta.wipe {c : Ct} {σ : L2.St} {H : Hp} (s : Sta c σ H) : ∀ {vs : List Nat}, (∀ i ∈ vs, c.g[i]? = some .any) → Sta c (wipe σ vs) H
  | [], _ => s
  | v :: vs, h => by
    have q := ((s.wipe (vs := vs) fun i m => h i (.tail _ m)).drop v none).1
    rw [show c.set v .any = c by unfold Ct.set; rw [setsame (h v (.head _))]] at q
    exact q
/-- a target takes a value: the slots are then g', those at `is` new -/
def EG (c : Ct) (g : TG) (R : Rel) (g' : List Slot) (is : List Nat) : Prop := ∀ σ H v, Sta c σ H → R.p (bas c σ H) v → ∀ Q : L2.St → Hp → Prop,
  (∀ σ', Sta (c.at g') σ' H → (∀ H', bas (c.at g') σ' H' = bas c σ H') → (∀ vs, (∀ i ∈ is, i ∈ vs) → wipe σ' vs = wipe σ vs) → Q σ' H) → g v σ H Q
def EGs (c : Ct) (u : TGs) (ds : List PyData) (g' : List Slot) (is : List Nat) : Prop := ∀ σ H vs, Sta c σ H → DtAll (bas c σ H) vs ds → ∀ Q : L2.St → Hp → Prop,
  (∀ σ', Sta (c.at g') σ' H → (∀ H', bas (c.at g') σ' H' = bas c σ H') → (∀ vs, (∀ i ∈ is, i ∈ vs) → wipe σ' vs = wipe σ vs) → Q σ' H) → u vs σ H Q
section
variable {c : Ct} {R : Rel} {g1 g2 : List Slot} {is js : List Nat} {d : PyData} {ds : List PyData}
theorem g_name {i : Nat} (hi : Nat.blt i c.g.length = true := by rfl) (hn : notOwn c.g[i]? = true := by rfl) : EG c (gName i) R (c.g.set i (.fz R)) [i] := fun σ H v s r Q q => by
  have hi' : i < c.g.length := by simpa using hi
  refine q _ (s.set hi' r).1 (fun H' => ?_) fun vs h => wipe_set (h i (.head _))
  exact bas_iff (fun a => or_congr (own_set hn rfl a) Iff.rfl) fun _ _ => rfl
theorem gs_nil : EGs c gNil [] c.g [] := fun σ H vs s r Q q => by
  cases r
  exact ⟨rfl, q σ s (fun _ => rfl) fun _ _ => rfl⟩
theorem gs_cons {t : TG} {u : TGs} (h : EG c t (RD d) g1 is) (k : EGs (c.at g1) u ds g2 js) : EGs c (gCons t u) (d :: ds) g2 (is ++ js) := fun σ H vs s r Q q => by
  cases r with
  | cons a b =>
    refine ⟨_, _, rfl, h σ H _ s a _ fun σ1 s1 e1 w1 => k σ1 H _ s1 (by rw [e1]; exact b) Q fun σ2 s2 e2 w2 => q σ2 s2 (fun H' => (e2 H').trans (e1 H')) fun vs hv => ?_⟩
    exact (w2 vs fun i m => hv i (List.mem_append_right _ m)).trans (w1 vs fun i m => hv i (List.mem_append_left _ m))
theorem g_tup {K : PySem.W.Frag} {n : Nat} {u : TGs} (h : EGs c u ds g1 is) (e : ds.length = n := by rfl) : EG c (gTup K n u) (RD (.tuple ds)) g1 is := fun σ H v s r Q q => by
  cases r with
  | tup e1 a => exact ⟨_, _, rfl, SqT.of (less_some e1).2, by rw [a.len]; exact e, h σ H _ s a Q q⟩
end

/-! ### comprehensions -/
/-- a new object is hidden -/
theorem Sta.hide {c : Ct} {σ : L2.St} {H : Hp} (s : Sta c σ H) {p : Addr} {o : HO} (n : H p = none) (m : Mut (some o)) :
    Sta ⟨c.hs, c.h0, fun a => c.om a ∨ a = p, c.g⟩ σ (upd H p o) ∧ bas ⟨c.hs, c.h0, fun a => c.om a ∨ a = p, c.g⟩ σ (upd H p o) = bas c σ H := by
  have eb : bas ⟨c.hs, c.h0, fun a => c.om a ∨ a = p, c.g⟩ σ (upd H p o) = bas c σ H := by
    funext a
    by_cases e : a = p
    · subst e
      rw [bas_in (c := ⟨c.hs, c.h0, fun b => c.om b ∨ b = a, c.g⟩) (.inr (.inr rfl)), bas_out (s.free n), n]
    · by_cases z : isOwn c.g σ a ∨ c.om a
      · rw [bas_in z]
        exact bas_in (c := ⟨c.hs, c.h0, fun b => c.om b ∨ b = p, c.g⟩) (z.elim .inl fun y => .inr (.inl y))
      · rw [bas_out z]
        refine (bas_out (c := ⟨c.hs, c.h0, fun b => c.om b ∨ b = p, c.g⟩) fun y => z (y.elim .inl fun x => x.elim .inr fun w => absurd w e)).trans (upd_ne e)
  refine ⟨⟨s.len, fun i R e => by rw [eb]; exact s.fz i R e, fun i C e => ?_, s.ne, by rw [eb]; exact s.k0, s.ks.trans (kp_new n), fun a z => ?_⟩, eb⟩
  · obtain ⟨q, u, e1, e2, e3, e4, e5⟩ := s.own i C e
    have qp : q ≠ p := ne_of_none e2 n
    exact ⟨q, u, e1, by rw [upd_ne qp]; exact e2, by rw [eb]; exact e3, e4, fun y => y.elim e5 qp⟩
  · rcases z with z | z
    · obtain ⟨u, e, k⟩ := s.hid a z
      exact ⟨u, by rw [upd_ne (ne_of_none e n)]; exact e, k⟩
    · subst z
      exact ⟨o, upd_same, m⟩
/-- a hidden object is changed -/
theorem Sta.hmut {c : Ct} {σ : L2.St} {H : Hp} (s : Sta c σ H) {p : Addr} {o : HO} (hp : c.om p) (f : Fre c.hs p) (m : Mut (some o)) : Sta c σ (upd H p o) ∧ bas c σ (upd H p o) = bas c σ H := by
  have eb : bas c σ (upd H p o) = bas c σ H := bas_iff (fun _ => Iff.rfl) fun a z => upd_ne fun e => z (.inr (e ▸ hp))
  refine ⟨⟨s.len, fun i R e => by rw [eb]; exact s.fz i R e, fun i C e => ?_, s.ne, by rw [eb]; exact s.k0, f.upd s.ks, fun a z => ?_⟩, eb⟩
  · obtain ⟨q, u, e1, e2, e3, e4, e5⟩ := s.own i C e
    exact ⟨q, u, e1, by rw [upd_ne fun z => e5 (by rw [z]; exact hp)]; exact e2, by rw [eb]; exact e3, e4, e5⟩
  · obtain ⟨u, e, k⟩ := s.hid a z
    by_cases y : a = p
    · subst y
      exact ⟨o, upd_same, m⟩
    · exact ⟨u, by rw [upd_ne y]; exact e, k⟩
noncomputable def wo (H : Hp) (p : Addr) : Hp := less H fun a => a = p
theorem wo_at {H : Hp} {p : Addr} : wo H p p = none := if_pos rfl
theorem wo_ne {H : Hp} {p a : Addr} (h : ¬ a = p) : wo H p a = H a := if_neg h
theorem wo_some {H : Hp} {p a : Addr} {o : HO} (e : wo H p a = some o) : H a = some o := (less_some e).2
theorem wo_kp {H H' : Hp} {p : Addr} (k : Kp H H') : Kp (wo H p) (wo H' p) := less_kp k
theorem upd_less {H : Hp} {p : Addr} {o : HO} (e : H p = some o) : upd (wo H p) p o = H := by
  funext a
  by_cases z : a = p
  · subst z
    rw [upd_same, e]
  · rw [upd_ne z, wo_ne z]
theorem bas_less {c : Ct} {σ : L2.St} {H : Hp} {p : Addr} : bas c σ (wo H p) = bas ⟨c.hs, c.h0, fun a => c.om a ∨ a = p, c.g⟩ σ H := by
  funext a
  by_cases z : isOwn c.g σ a ∨ c.om a
  · rw [bas_in z]
    exact (bas_in (c := ⟨c.hs, c.h0, fun b => c.om b ∨ b = p, c.g⟩) (z.elim .inl fun y => .inr (.inl y))).symm
  · rw [bas_out z]
    by_cases e : a = p
    · subst e
      rw [wo_at]
      exact (bas_in (c := ⟨c.hs, c.h0, fun b => c.om b ∨ b = a, c.g⟩) (.inr (.inr rfl))).symm
    · rw [wo_ne e]
      exact (bas_out (c := ⟨c.hs, c.h0, fun b => c.om b ∨ b = p, c.g⟩) fun y => z (y.elim .inl fun x => x.elim .inr fun w => absurd w e)).symm
theorem less_upd {H : Hp} {p : Addr} {o : HO} : wo (upd H p o) p = wo H p := by
  funext a
  by_cases z : a = p
  · subst z
    rw [wo_at, wo_at]
  · rw [wo_ne z, wo_ne z, upd_ne z]
/-- what a comprehension keeps -/
structure Kc (c : Ct) (σ : L2.St) (H1 : Hp) (D : Addr) (ds : List PyData) (H : Hp) : Prop where
  ex : ∃ acc, H D = some (.lst acc) ∧ DtAll (bas ⟨c.hs, c.h0, fun a => c.om a ∨ a = D, c.g⟩ σ H) acc ds
  st : Sta ⟨c.hs, c.h0, fun a => c.om a ∨ a = D, c.g⟩ σ H
  kp : Kp H1 (wo H D)
theorem Kc.grow {c : Ct} {σ : L2.St} {H1 H H' : Hp} {D : Addr} {ds : List PyData} (h : Kc c σ H1 D ds H) (k : Kp H H') : Kc c σ H1 D ds H' := by
  obtain ⟨acc, e, a⟩ := h.ex
  exact ⟨⟨acc, k.lst e, a.kp (h.st.kb k)⟩, h.st.kp k, h.kp.trans (wo_kp k)⟩
theorem Kc.put {c : Ct} {σ : L2.St} {H1 H : Hp} {D : Addr} {acc : List V} {ds : List PyData} {y : V} {d : PyData} (h : Kc c σ H1 D ds H) (f : Fre c.hs D) (e : H D = some (.lst acc)) (r : Dt (bas ⟨c.hs, c.h0, fun a => c.om a ∨ a = D, c.g⟩ σ H) y d) :
    Kc c σ H1 D (ds ++ [d]) (upd H D (.lst (acc ++ [y]))) := by
  obtain ⟨acc', e', a⟩ := h.ex
  rw [e] at e'
  cases e'
  obtain ⟨s, eb⟩ := h.st.hmut (p := D) (o := .lst (acc ++ [y])) (.inr rfl) f trivial
  exact ⟨⟨_, upd_same, by rw [eb]; exact a.app (.cons r .nil)⟩, s, by rw [less_upd]; exact h.kp⟩
theorem ft_succ {α : Type} {p : α → Bool} {f : α → PyData} {xs : List α} {i : Nat} {x : α} (h : xs[i]? = some x) : ((xs.take (i + 1)).filter p).map f = ((xs.take i).filter p).map f ++ (if p x = true then [f x] else []) := by
  have hi : i < xs.length := (List.getElem?_eq_some_iff.mp h).1
  have e : xs[i] = x := (List.getElem?_eq_some_iff.mp h).2
  rw [List.take_succ_eq_append_getElem hi, e, List.filter_append, List.map_append]
  congr 1
  cases hp : p x <;> simp [hp]
section
variable {c : Ct} {K : PySem.W.Frag} {α : Type} {xs : List α} {enc : α → PyData} {G : α → List Slot} {is vs : List Nat} {p : α → Bool} {f : α → PyData} {tl te : TE} {tt : TT} {g : TG}
theorem lc_len {xs : List α} {p : α → Bool} {f : α → PyData} {i n : Nat} (h : xs.length ≤ n) : (((xs.take i).filter p).map f).length ≤ n := by
  rw [List.length_map]
  refine Nat.le_trans (List.length_filter_le _ _) (Nat.le_trans ?_ h)
  rw [List.length_take]
  omega
/-- [e for x in xs if t] -/
theorem n_lc (hs : EI c tl (xs.map enc)) (hw : ∀ i ∈ vs, c.g[i]? = some .any) (his : ∀ i ∈ is, i ∈ vs)
    (hg : ∀ om, ∀ x ∈ xs, EG ⟨c.hs, c.h0, om, c.g⟩ g (RD (enc x)) (G x) is) (ht : ∀ om, ∀ x ∈ xs, ET ⟨c.hs, c.h0, om, G x⟩ tt (p x))
    (he : ∀ om, ∀ x ∈ xs, p x = true → E true ⟨c.hs, c.h0, om, G x⟩ te (RD (f x))) (hl : xs.length < sizeLine) : EN c (tLc (iList K tl) g tt te vs) (OL ((xs.filter p).map f)) := fun σ H s Q q => by
  refine hs σ H s _ fun H1 a us k1 e1 r1 => ⟨a, rfl, ⟨us, SqL.of e1⟩, fun D nD => ?_⟩
  have s1 := s.kp k1
  have fD : Fre c.hs D := .of s1.ks nD
  have hul : us.length = xs.length := by rw [r1.len, List.length_map]
  have sw := s1.wipe hw
  have ew : ∀ H', bas c (wipe σ vs) H' = bas c σ H' := fun H' => bas_iff (fun a => or_congr (own_wipe hw a) Iff.rfl) fun _ _ => rfl
  refine lc_list (K := K) (a := a) (xs := us) (fun i H' => Kc c (wipe σ vs) H1 D (((xs.take i).filter p).map f) H') ?_ ?_ ?_ ?_
  · obtain ⟨sh, eb⟩ := sw.hide (o := .lst []) nD trivial
    exact ⟨⟨[], upd_same, by simpa using DtAll.nil⟩, sh, by rw [less_upd]; exact kp_of fun b o e => by rw [wo_ne (ne_of_none e nD)]; exact e⟩
  · intro i H' hi h
    exact SqL.of (wo_some (h.kp.lst e1))
  · intro i v H' hx h
    obtain ⟨d0, hd0, hv⟩ := r1.at' hx
    rw [List.getElem?_map] at hd0
    obtain ⟨x, ex, rfl⟩ := Option.map_eq_some_iff.mp hd0
    have hm : x ∈ xs := List.mem_of_getElem? ex
    have hv' : Dt (bas ⟨c.hs, c.h0, fun b => c.om b ∨ b = D, c.g⟩ (wipe σ vs) H') v (enc x) := by
      rw [← bas_less, ew]
      exact hv.kp (s1.kb h.kp)
    refine hg _ x hm _ H' v h.st hv' _ fun σ2 s2 e2 w2 => ⟨(w2 vs his).trans (wipe_wipe fun _ m => m), ht _ x hm σ2 H' s2 _ fun H3 k3 => ?_⟩
    cases hp : p x with
    | false =>
      rw [if_neg Bool.false_ne_true, ft_succ ex, hp, if_neg Bool.false_ne_true, List.append_nil]
      exact h.grow k3
    | true =>
      rw [if_pos rfl]
      refine he _ x hm hp σ2 H3 (s2.kp k3) _ fun H4 y k4 r4 => ?_
      have h4 := (h.grow k3).grow k4
      obtain ⟨acc, ea, aa⟩ := h4.ex
      refine ⟨acc, ea, ?_, ?_⟩
      · have := lc_len (p := p) (f := f) (i := i) (Nat.le_refl xs.length)
        rw [aa.len]
        omega
      · rw [ft_succ ex, hp, if_pos rfl]
        refine h4.put fD ea ?_
        rw [hb_t] at r4
        rw [← e2]
        exact r4
  · intro H' h
    obtain ⟨acc, ea, aa⟩ := h.ex
    rw [← upd_less ea]
    refine q _ D _ (k1.trans h.kp) wo_at ⟨acc, rfl, ?_⟩
    rw [← ew, bas_less]
    rw [hul, List.take_length] at aa
    exact aa
/-- [e for i in range(..) if t] -/
theorem n_lcR {lo : Int} {n : Nat} {G : Int → List Slot} {p : Int → Bool} {f : Int → PyData} {wi : TI} (hs : ∀ σ H, Sta c σ H → ∀ R : It → Hp → Prop, (∀ H', Kp H H' → R (Itr lo n) H') → wi σ H R) (hw : ∀ i ∈ vs, c.g[i]? = some .any) (his : ∀ i ∈ is, i ∈ vs)
    (hg : ∀ om, ∀ k : Nat, k < n → EG ⟨c.hs, c.h0, om, c.g⟩ g (RD (.int (lo + k))) (G (lo + k)) is) (ht : ∀ om, ∀ k : Nat, k < n → ET ⟨c.hs, c.h0, om, G (lo + k)⟩ tt (p (lo + k)))
    (he : ∀ om, ∀ k : Nat, k < n → p (lo + k) = true → E true ⟨c.hs, c.h0, om, G (lo + k)⟩ te (RD (f (lo + k)))) (hl : n < sizeLine) :
    EN c (tLc wi g tt te vs) (OL ((((List.range n).map fun k : Nat => lo + (k : Int)).filter p).map f)) := fun σ H s Q q => by
  refine hs σ H s _ fun H1 k1 D nD => ?_
  have s1 := s.kp k1
  have fD : Fre c.hs D := .of s1.ks nD
  have sw := s1.wipe hw
  have ew : ∀ H', bas c (wipe σ vs) H' = bas c σ H' := fun H' => bas_iff (fun a => or_congr (own_wipe hw a) Iff.rfl) fun _ _ => rfl
  have at_ : ∀ {i : Nat}, i < n → ((List.range n).map fun k : Nat => lo + (k : Int))[i]? = some (lo + (i : Int)) := fun {i} hi => by
    rw [List.getElem?_map, List.getElem?_range hi]
    rfl
  have hln : ((List.range n).map fun k : Nat => lo + (k : Int)).length = n := by rw [List.length_map, List.length_range]
  generalize hX : ((List.range n).map fun k : Nat => lo + (k : Int)) = X at *
  refine lc_range (lo := lo) (n := n) (fun i H' => Kc c (wipe σ vs) H1 D (((X.take i).filter p).map f) H') ?_ ?_ ?_
  · obtain ⟨sh, eb⟩ := sw.hide (o := .lst []) nD trivial
    exact ⟨⟨[], upd_same, by simpa using DtAll.nil⟩, sh, by rw [less_upd]; exact kp_of fun b o e => by rw [wo_ne (ne_of_none e nD)]; exact e⟩
  · intro i H' hi h
    have ex := at_ hi
    refine hg _ i hi _ H' _ h.st (.int _) _ fun σ2 s2 e2 w2 => ⟨(w2 vs his).trans (wipe_wipe fun _ m => m), ht _ i hi σ2 H' s2 _ fun H3 k3 => ?_⟩
    cases hp : p (lo + (i : Int)) with
    | false =>
      rw [if_neg Bool.false_ne_true, ft_succ ex, hp, if_neg Bool.false_ne_true, List.append_nil]
      exact h.grow k3
    | true =>
      rw [if_pos rfl]
      refine he _ i hi hp σ2 H3 (s2.kp k3) _ fun H4 y k4 r4 => ?_
      have h4 := (h.grow k3).grow k4
      obtain ⟨acc, ea, aa⟩ := h4.ex
      refine ⟨acc, ea, ?_, ?_⟩
      · have := lc_len (xs := X) (p := p) (f := f) (i := i) (n := n) (by omega)
        rw [aa.len]
        omega
      · rw [ft_succ ex, hp, if_pos rfl]
        refine h4.put fD ea ?_
        rw [hb_t] at r4
        rw [← e2]
        exact r4
  · intro H' h
    obtain ⟨acc, ea, aa⟩ := h.ex
    rw [← upd_less ea]
    refine q _ D _ (k1.trans h.kp) wo_at ⟨acc, rfl, ?_⟩
    rw [← ew, bas_less]
    rw [← hln, List.take_length] at aa
    exact aa
end
/-- what a range walks -/
def EW (c : Ct) (wi : TI) (lo : Int) (n : Nat) : Prop := ∀ σ H, Sta c σ H → ∀ R : It → Hp → Prop, (∀ H', Kp H H' → R (Itr lo n) H') → wi σ H R
section
variable {c : Ct} {t ta tb : TE}
theorem w_rng1 {j : Int} (h : E false c t (RD (.int j))) (b : -(2 ^ 62) ≤ j ∧ j < 2 ^ 62) : EW c (iRng1 (tCons t tNil)) 0 j.toNat := fun σ H s R q => h σ H s _ fun H1 v k r => by
  cases r
  exact ⟨j, rfl, b.1, b.2, q H1 k⟩
theorem w_rng2 {i j : Int} (h : E false c ta (RD (.int i))) (g : E false c tb (RD (.int j))) (b : -(2 ^ 62) ≤ i ∧ i < 2 ^ 62 ∧ -(2 ^ 62) ≤ j ∧ j < 2 ^ 62) : EW c (iRng2 (tCons ta (tCons tb tNil))) i (j - i).toNat := fun σ H s R q =>
  h σ H s _ fun H1 v k1 r1 => g σ H1 (s.kp k1) _ fun H2 u k2 r2 => by
    cases r1
    cases r2
    exact ⟨i, j, rfl, b, q H2 (k1.trans k2)⟩
end
end Pk

namespace Pk
open PySem L2 PySem.Spec PyProof.Rows GxR NdefX
/-! ### statements -/
/-- what is wanted holds wherever the slots hold what they should -/
def WC (c : Ct) (k : L2.St → Hp → Prop) : Prop := ∀ σ H, Sta c σ H → k σ H
/-- one of these holds -/
def Nx (c : Ct) (I : List Slot → Prop) : L2.St → Hp → Prop := fun σ H => ∃ g, I g ∧ Sta (c.at g) σ H
section
variable {c : Ct} {R S : Rel} {C : Own} {t te tl : TE} {tt : TT} {g : TG} {i : Nat} {D : Ends} {k : L2.St → Hp → Prop} {a u : TS} {K : PySem.W.Frag}
theorem s_nx {I : List Slot → Prop} (h : I c.g) : WC c (Nx c I) := fun σ H s => ⟨c.g, h, s⟩
theorem s_of {I : List Slot → Prop} {hs h0 : Hp} {om : Addr → Prop} {gs : List Slot} (h : I gs) : WC ⟨hs, h0, om, gs⟩ (Nx ⟨hs, h0, om, []⟩ I) := fun σ H s => ⟨gs, h, s⟩
theorem s_seq (h : WC c (a { D with nx := u D })) : WC c (tSeq a u D) := h
theorem s_pass (h : WC c D.nx) : WC c (tNext D) := h
theorem s_brk (h : WC c D.bk) : WC c (tBreak D) := h
theorem s_ct (h : WC c D.ct) : WC c (tCont D) := h
/-- behind it stands one of these -/
theorem s_cut {I : List Slot → Prop} (h : WC c (a { D with nx := Nx ⟨c.hs, c.h0, c.om, []⟩ I })) (q : ∀ g, I g → WC (c.at g) (u D)) : WC c (C8.tCut a u D) := fun σ H s =>
  ⟨Nx ⟨c.hs, c.h0, c.om, []⟩ I, h σ H s, fun σ' H' ⟨g, hg, s'⟩ => q g hg σ' H' s'⟩
theorem s_set (h : E true c te R) (q : WC (c.set i (.fz R)) D.nx) (hi : Nat.blt i c.g.length = true := by rfl) : WC c (tAsg te (gName i) D) := fun σ H s => h σ H s _ fun H' v kp r => by
  rw [hb_t] at r
  exact q _ H' ((s.kp kp).set (by simpa using hi) r).1
theorem s_new (h : EN c te C) (q : WC (c.set i (.own C)) D.nx) (hi : Nat.blt i c.g.length = true := by rfl) : WC c (tAsg te (gName i) D) := fun σ H s => h σ H s _ fun H' p o kp n r =>
  q _ _ ((s.kp kp).new (by simpa using hi) n r).1
theorem s_asg {g' : List Slot} {is : List Nat} (h : E true c te R) (hg : EG c g R g' is) (q : WC (c.at g') D.nx) : WC c (tAsg te g D) := fun σ H s => h σ H s _ fun H' v kp r => by
  rw [hb_t] at r
  exact hg σ H' v (s.kp kp) r _ fun σ' s' _ _ => q σ' H' s'
theorem s_expr (h : E false c te R) (q : WC c D.nx) : WC c (tDrop te D) := fun σ H s => h σ H s _ fun H' v kp _ => q σ H' (s.kp kp)
theorem s_if {x : Bool} (h : ET c tt x) (ha : x = true → WC c (a D)) (hb : x = false → WC c (u D)) : WC c (tIfS tt a u D) := fun σ H s => h σ H s _ fun H' kp => by
  cases x with
  | true => rw [if_pos rfl]; exact ha rfl σ H' (s.kp kp)
  | false => rw [if_neg Bool.false_ne_true]; exact hb rfl σ H' (s.kp kp)
theorem s_ret (h : E true c te R) (q : ∀ H' v, Kp c.hs H' → R.p (less H' c.om) v → D.rt v H') : WC c (tRet te D) := fun σ H s => h σ H s _ fun H' v kp r => by
  rw [hb_t] at r
  exact q H' v (s.ks.trans kp) (R.mn (less_mono fun _ z => .inr z) r)
theorem s_retN (q : ∀ H', Kp c.hs H' → D.rt .non H') : WC c (tRetN D) := fun σ H s => q H s.ks
theorem s_end (q : ∀ σ H', Kp c.hs H' → D.nx σ H') : WC c D.nx := fun σ H s => q σ H s.ks
theorem s_h0 {hs h0 h1 : Hp} {om : Addr → Prop} {gs : List Slot} (kp : Kp h0 h1) (h : WC ⟨hs, h0, om, gs⟩ k) : WC ⟨hs, h1, om, gs⟩ k := fun σ H s => h σ H (s.h0 (kp.trans s.k0))
/-- what was changed now stays -/
theorem s_fix (e : c.g[i]? = some (.own C)) (z : ∀ B p o, B p = some o → C.p B o → R.p B (.ref p)) (q : WC (c.set i (.fz R)) k) : WC c k := fun σ H s => q σ H (s.fix e z).1
theorem s_fixL {ds : List PyData} (i : Nat) (e : c.g[i]? = some (.own (OL ds))) (q : WC (c.set i (.fz (RD (.list ds)))) k) : WC c k := s_fix e (fun _ _ _ => OL.fix) q
theorem s_weak (i : Nat) (e : c.g[i]? = some (.fz R)) (z : ∀ H v, R.p H v → S.p H v) (q : WC (c.set i (.fz S)) k) : WC c k := fun σ H s => q σ H (s.weak e z)
/-- nothing more is said of a slot -/
theorem s_drop (i : Nat) (q : WC (c.set i .any) k) : WC c k := fun σ H s => by
  cases e : σ[i]? with
  | none =>
    have := (s.drop i none).1
    rw [List.set_eq_of_length_le (List.getElem?_eq_none_iff.mp e)] at this
    exact q σ H this
  | some o =>
    have := (s.drop i o).1
    rw [setsame e] at this
    exact q σ H this
/-- l.append(e), l being changed -/
theorem s_app {d : PyData} {ds : List PyData} (e : c.g[i]? = some (.own (OL ds))) (h : E true c te (RD d)) (l : ds.length < sizeLine) (q : WC (c.set i (.own (OL (ds ++ [d])))) D.nx) :
    WC c (tDrop (tBM K "list" rAppend (tVar i) (tCons te tNil)) D) := fun σ H s => by
  obtain ⟨p, o, e1, e2, ⟨vs, rfl, a⟩, _⟩ := s.own i _ e
  refine ⟨.ref p, e1, .inl ⟨rfl, vs, SqL.of e2⟩, h σ H s _ fun H1 v kp r => ⟨p, vs, v, rfl, rfl, kp.lst e2, by rw [a.len]; exact l, ?_⟩⟩
  rw [hb_t] at r
  exact q σ _ ((s.kp kp).mut (C' := OL (ds ++ [d])) e e1 ⟨_, rfl, (a.kp (s.kb kp)).app (.cons r .nil)⟩).1
end
/-! ### loops -/
section
variable {c : Ct} {tl : TE} {wi : TI} {g : TG} {D : Ends} {tb : TS} {K : PySem.W.Frag} {tt : TT}
abbrev inL (hs h1 : Hp) (om : Addr → Prop) (I : List Slot → Prop) (D : Ends) : Ends := { D with nx := Nx ⟨hs, h1, om, []⟩ I, ct := Nx ⟨hs, h1, om, []⟩ I, bk := D.nx }
theorem s_for {α : Type} {xs : List α} {enc : α → PyData} (I : Nat → List Slot → Prop) (hs : E true c tl (RD (.list (xs.map enc)))) (h0 : I 0 c.g)
    (hb : ∀ h1 i x gs, Kp c.h0 h1 → xs[i]? = some x → I i gs → ∃ g' is, EG ⟨c.hs, h1, c.om, gs⟩ g (RD (enc x)) g' is ∧ WC ⟨c.hs, h1, c.om, g'⟩ (tb (inL c.hs h1 c.om (I (i + 1)) D)))
    (hd : ∀ gs, I xs.length gs → WC (c.at gs) D.nx) : WC c (tFor (iList K tl) g tb D) := fun σ H s => hs σ H s _ fun H1 v k1 r1 => by
  rw [hb_t] at r1
  have s1 := s.kp k1
  cases r1 with
  | @lst a0 vs0 _ e a =>
    refine ⟨a0, rfl, ⟨vs0, SqL.of (less_some e).2⟩, ?_⟩
    have hl := a.len
    rw [List.length_map] at hl
    refine for_list (K := K) (a := a0) (xs := vs0) (fun i σ' H' => Nx ⟨c.hs, bas c σ H1, c.om, []⟩ (I i) σ' H') ⟨c.g, h0, s1.h0 (Kp.refl _)⟩ ?_ ?_ ?_
    · rintro i σ' H' _ ⟨gs, _, s'⟩
      exact SqL.of (less_some (s'.k0.lst e)).2
    · rintro i v σ' H' hv ⟨gs, hi, s'⟩
      obtain ⟨d, hd', rd⟩ := a.at' hv
      rw [List.getElem?_map] at hd'
      obtain ⟨x, ex, rfl⟩ := Option.map_eq_some_iff.mp hd'
      obtain ⟨g', is, hg, hw⟩ := hb (bas c σ H1) i x gs s1.k0 ex hi
      exact hg σ' H' v s' (rd.kp s'.k0) _ fun σ2 s2 _ _ => hw σ2 H' s2
    · rintro σ' H' ⟨gs, hi, s'⟩
      rw [hl] at hi
      exact hd gs hi σ' H' (s'.h0 (s1.k0.trans s'.k0))
theorem s_rng {lo : Int} {n : Nat} (I : Nat → List Slot → Prop) (hs : EW c wi lo n) (h0 : I 0 c.g)
    (hb : ∀ i gs, i < n → I i gs → ∃ g' is, EG (c.at gs) g (RD (.int (lo + (i : Int)))) g' is ∧ WC (c.at g') (tb (inL c.hs c.h0 c.om (I (i + 1)) D)))
    (hd : ∀ gs, I n gs → WC (c.at gs) D.nx) : WC c (tFor wi g tb D) := fun σ H s => hs σ H s _ fun H1 k1 => by
  refine for_range (fun i σ' H' => Nx ⟨c.hs, c.h0, c.om, []⟩ (I i) σ' H') ⟨c.g, h0, s.kp k1⟩ ?_ ?_
  · rintro i σ' H' hi ⟨gs, hg, s'⟩
    obtain ⟨g', is, hg', hw⟩ := hb i gs hi hg
    exact hg' σ' H' _ s' (.int _) _ fun σ2 s2 _ _ => hw σ2 H' s2
  · rintro σ' H' ⟨gs, hg, s'⟩
    exact hd gs hg σ' H' s'
theorem s_while (I : Nat → List Slot → Prop) (m0 : Nat) (h0 : I m0 c.g)
    (hb : ∀ m gs, I m gs → ∃ x, ET (c.at gs) tt x ∧ (x = true → WC (c.at gs) (tb (inL c.hs c.h0 c.om (fun g => ∃ m', m' < m ∧ I m' g) D))) ∧ (x = false → WC (c.at gs) D.nx)) : WC c (tWhile tt tb D) := fun σ H s => by
  refine ⟨fun m σ H => Nx ⟨c.hs, c.h0, c.om, []⟩ (I m) σ H, ⟨m0, c.g, h0, s⟩, ?_⟩
  rintro m σ' H' ⟨gs, hi, s'⟩
  obtain ⟨x, ht, h1, h2⟩ := hb m gs hi
  refine ht σ' H' s' _ fun H2 k2 => ?_
  cases x with
  | true =>
    rw [if_pos rfl]
    exact ⟨_, fun σ3 H3 ⟨g3, ⟨m', lt, i3⟩, s3⟩ => ⟨m', lt, g3, i3, s3⟩, h1 rfl σ' H2 (s'.kp k2)⟩
  | false => rw [if_neg Bool.false_ne_true]; exact h2 rfl σ' H2 (s'.kp k2)
end
/-! ### promises -/
/-- for arguments that are as Rs says, and P: a value as R says -/
def Sps {α : Type} (Rs : α → List Rel) (P : α → Hp → Prop) (R : α → Rel) : Sp := fun vs H Q _ => ∃ (a : α) (om : Addr → Prop), Hd H om ∧ Rok (Rs a) (less H om) vs ∧ P a (less H om) ∧ ∀ H' v, Kp H H' → (R a).p (less H' om) v → Q v H'
/-- a promise serves such arguments -/
def Sok (sp : Sp) (Rs : List Rel) (P : Hp → Prop) (R : Rel) : Prop := ∀ H om vs, Hd H om → Rok Rs (less H om) vs → P (less H om) → ∀ (Q : VK) (E : XK), (∀ H' v, Kp H H' → R.p (less H' om) v → Q v H') → sp vs H Q E
theorem sok_sps {α : Type} {Rs : α → List Rel} {P : α → Hp → Prop} {R : α → Rel} (a : α) : Sok (Sps Rs P R) (Rs a) (P a) (R a) := fun H om vs ho hr hp Q E q => ⟨a, om, ho, hr, hp, q⟩
section
variable {b : Bool} {c : Ct} {R R0 : Rel} {Rs : List Rel} {P : Hp → Prop} {sp : Sp} {te : TE} {ta : TA} {E' : XK} {C : Addr} {m : Str}
theorem Sta.hd {σ : L2.St} {H : Hp} (s : Sta c σ H) : Hd H (msk b c σ) := fun a m => s.hides a m
theorem c_call (hsp : Sok sp Rs P R) (ha : EA b c ta Rs) (hp : ∀ H, Kp c.h0 H → P H) : E b c (tCall sp [] E' ta) R := fun σ H s Q q => ha σ H s _ fun H1 vs k1 r1 => by
  rw [List.append_nil]
  exact hsp H1 (msk b c σ) vs (s.kp k1).hd r1 (hp _ ((s.kp k1).k0.trans bas_hb)) Q E' fun H' v k r => q H' v (k1.trans k) r
theorem c_meth (hi : ∀ H v, R0.p H v → ∃ a dx fs, v = .ref a ∧ H a = some (.ins C dx fs) ∧ fs.lookup m = none) (hsp : Sok sp (R0 :: Rs) P R) (ho : E b c te R0) (ha : EA b c ta Rs) (hp : ∀ H, Kp c.h0 H → P H) : E b c (tMeth C m sp [] E' te ta) R := fun σ H s Q q =>
  ho σ H s _ fun H1 x k1 r1 => by
    obtain ⟨a, dx, fs, rfl, e, l⟩ := hi _ _ r1
    refine ⟨a, dx, fs, rfl, (less_some e).2, l, ha σ H1 (s.kp k1) _ fun H2 vs k2 r2 => ?_⟩
    rw [List.append_nil]
    have s2 := (s.kp k1).kp k2
    exact hsp H2 (msk b c σ) _ s2.hd ⟨_, _, rfl, R0.mn (hb_kp k2) r1, r2⟩ (hp _ (s2.k0.trans bas_hb)) Q E' fun H' v k r => q H' v ((k1.trans k2).trans k) r
theorem c_prop (hi : ∀ H v, R0.p H v → ∃ a dx fs, v = .ref a ∧ H a = some (.ins C dx fs)) (hsp : Sok sp [R0] P R) (ho : E b c te R0) (hp : ∀ H, Kp c.h0 H → P H) : E b c (tProp C sp [] E' te) R := fun σ H s Q q =>
  ho σ H s _ fun H1 x k1 r1 => by
    obtain ⟨a, dx, fs, rfl, e⟩ := hi _ _ r1
    have s1 := s.kp k1
    exact ⟨a, dx, fs, rfl, (less_some e).2, hsp H1 (msk b c σ) _ s1.hd ⟨_, _, rfl, r1, rfl⟩ (hp _ (s1.k0.trans bas_hb)) Q E' fun H' v k r => q H' v (k1.trans k) r⟩
end
/-- the slots at the start of a def -/
def slots0 (Rs : List Rel) (n : Nat) : List Slot := Rs.map .fz ++ List.replicate (n - Rs.length) .any
theorem Rok.len : ∀ {Rs : List Rel} {H : Hp} {vs : List V}, Rok Rs H vs → vs.length = Rs.length
  | [], _, _, h => by rw [show _ = [] from h]; rfl
  | _ :: Rs, _, _, ⟨v, r, e, _, h⟩ => by rw [e]; exact congrArg (· + 1) h.len
theorem Rok.at : ∀ {Rs : List Rel} {H : Hp} {vs : List V}, Rok Rs H vs → ∀ {i : Nat} {R : Rel}, Rs[i]? = some R → ∃ v, vs[i]? = some v ∧ R.p H v
  | [], _, _, _, i, _, e => by simp at e
  | _ :: Rs, _, _, ⟨v, r, rfl, h1, h2⟩, 0, _, e => by cases e; exact ⟨v, rfl, h1⟩
  | _ :: Rs, _, _, ⟨v, r, rfl, h1, h2⟩, i + 1, _, e => h2.at e
theorem no_own {Rs : List Rel} {n : Nat} {i : Nat} {C : Own} : (slots0 Rs n)[i]? ≠ some (.own C) := fun e => by
  unfold slots0 at e
  have m := List.mem_of_getElem? e
  rcases List.mem_append.mp m with z | z
  · obtain ⟨R, _, q⟩ := List.mem_map.mp z
    cases q
  · cases (List.eq_of_mem_replicate z)
theorem sta_start {H : Hp} {om : Addr → Prop} {Rs : List Rel} {N : List Str} {vs : List V} (ho : Hd H om) (h : Rok Rs (less H om) vs) : Sta ⟨H, less H om, om, slots0 Rs N.length⟩ (L2.start N vs) H := by
  have hl := h.len
  have eb : bas ⟨H, less H om, om, slots0 Rs N.length⟩ (L2.start N vs) H = less H om := by
    funext a
    by_cases m : om a
    · rw [less_in m]
      exact bas_in (c := ⟨H, less H om, om, slots0 Rs N.length⟩) (.inr m)
    · rw [less_out m]
      exact bas_out (c := ⟨H, less H om, om, slots0 Rs N.length⟩) fun z => z.elim (fun ⟨i, C, e, _⟩ => no_own e) m
  refine ⟨?_, fun i R e => ?_, fun i C e => absurd e no_own, fun i j C _ _ e => absurd e no_own, by rw [eb]; exact Kp.refl _, Kp.refl _, ho⟩
  · show (vs.map some ++ List.replicate (N.length - vs.length) none).length = (Rs.map Slot.fz ++ List.replicate (N.length - Rs.length) Slot.any).length
    rw [List.length_append, List.length_append, List.length_map, List.length_map, List.length_replicate, List.length_replicate, hl]
  · rw [eb]
    have e : (Rs.map Slot.fz ++ List.replicate (N.length - Rs.length) Slot.any)[i]? = some (.fz R) := e
    by_cases hi : i < Rs.length
    · rw [List.getElem?_append_left (by rw [List.length_map]; exact hi), List.getElem?_map] at e
      obtain ⟨R', e1, e2⟩ := Option.map_eq_some_iff.mp e
      cases e2
      obtain ⟨v, e3, e4⟩ := h.at e1
      refine ⟨v, ?_, e4⟩
      show (vs.map some ++ List.replicate (N.length - vs.length) none)[i]? = _
      rw [List.getElem?_append_left (by rw [List.length_map, hl]; exact hi), List.getElem?_map, e3]
      rfl
    · rw [List.getElem?_append_right (by rw [List.length_map]; omega)] at e
      cases (List.eq_of_mem_replicate (List.mem_of_getElem? e))
section
variable {P : Program} {w : World} {K : PySem.W.Frag} {mg : Str → Option Value} {base : Heap}
/-- a def that keeps such a promise -/
theorem fn_ok {x qual : Str} {st : Stmt} {f : Addr} {fd : FuncData} {N ps : List Str} {k : Nat} {α : Type} {Rs : α → List Rel} {Pr : α → Hp → Prop} {R : α → Rel} (F : Fun K x qual st f fd) (S : FnScope N ps (defScope st)) (hl : ∀ a, (Rs a).length = ps.length)
    (hbody : ∀ (cdv : Value) (A : Around) (outer : List Env) (s : Shared) (H : Hp) (E : XK), Room k (A.deeper (envOfC qual (defScope st) s.heap.objs.size f cdv)) →
      ∃ t, PSs (cxOf CX0 P w K mg base N qual (defScope st) f cdv A outer s H E).nox (defBody st) t ∧ ∀ (a : α) (hs : Hp) (om : Addr → Prop) (Q : VK), Pr a (less hs om) → (∀ H' v, Kp hs H' → (R a).p (less H' om) v → Q v H') → WC ⟨hs, less hs om, om, slots0 (Rs a) N.length⟩ (t { nx := fun _ H' => Q .non H', rt := Q })) :
    FnOk P w K mg base CX0 (k + 1) f fd ps (Sps Rs Pr R) := by
  refine F.ok S (fun vs H Q E h => ?_) (fun cdv A outer s H vs Q E hr h => ?_)
  · obtain ⟨a, om, ho, hr, _⟩ := h
    rw [hr.len, hl]
  · obtain ⟨a, om, ho, hR, hP, q⟩ := h
    obtain ⟨t, ht, hw⟩ := hbody cdv A outer s H E hr
    exact ⟨t, ht, hw a H om Q hP q _ _ (sta_start ho hR)⟩
end
end Pk

namespace Pk
open PySem L2 PySem.Spec PyProof.Rows GxR NdefX
/-! ### the same for lists of a type -/
abbrev eL {α : Type} (f : α → PyData) : List α → PyData := fun xs => .list (xs.map f)
abbrev eH2 {α β : Type} (f : α → PyData) (g : β → PyData) : α × β → PyData := fun p => .list [f p.1, g p.2]
abbrev eTL {α : Type} (f : α → PyData) : List α → PyData := fun xs => .tuple (xs.map f)
abbrev eT2 {α β : Type} (f : α → PyData) (g : β → PyData) : α × β → PyData := fun p => .tuple [f p.1, g p.2]
abbrev eT3 {α β γ : Type} (f : α → PyData) (g : β → PyData) (k : γ → PyData) : α × β × γ → PyData := fun p => .tuple [f p.1, g p.2.1, k p.2.2]
abbrev dLk : Str × Int × Int → PyData := fun c => .tuple [.str c.1, .int c.2.1, .int c.2.2]
theorem enc_P : Enc dP 1 (fun p : Pl => True ∧ True) := enc_pair enc_int enc_int
theorem enc_Lk : Enc dLk 1 (fun c : Str × Int × Int => PyData.strOk c.1 = true ∧ True ∧ True) := enc_trip enc_str enc_int enc_int
theorem enc_T2 {α β : Type} [DecidableEq α] [DecidableEq β] {f : α → PyData} {g : β → PyData} {n m : Nat} {P : α → Prop} {S : β → Prop} (h : Enc f n P) (q : Enc g m S) : Enc (eT2 f g) (max n m + 1) (fun p => P p.1 ∧ S p.2) :=
  enc_pair (h.up (Nat.le_max_left n m)) (q.up (Nat.le_max_right n m))
theorem enc_H2 {α β : Type} [DecidableEq α] [DecidableEq β] {f : α → PyData} {g : β → PyData} {n m : Nat} {P : α → Prop} {S : β → Prop} (h : Enc f n P) (q : Enc g m S) : Enc (eH2 f g) (max n m + 1) (fun p => P p.1 ∧ S p.2) :=
  enc_lpair (h.up (Nat.le_max_left n m)) (q.up (Nat.le_max_right n m))
theorem enc_T3 {α β γ : Type} [DecidableEq α] [DecidableEq β] [DecidableEq γ] {f : α → PyData} {g : β → PyData} {k : γ → PyData} {n m l : Nat} {P : α → Prop} {S : β → Prop} {T : γ → Prop} (h : Enc f n P) (q : Enc g m S) (r : Enc k l T) : Enc (eT3 f g k) (max (max n m) l + 1) (fun p => P p.1 ∧ S p.2.1 ∧ T p.2.2) :=
  enc_trip (h.up (by omega)) (q.up (by omega)) (r.up (by omega))
/-- the item at i, counted from the end if i is negative -/
def ix {α : Type} [Inhabited α] (xs : List α) (i : Int) : α := (atI xs i).getD default
theorem atI_in {α : Type} {xs : List α} {i : Int} (h : -(xs.length : Int) ≤ i ∧ i < xs.length) : ∃ a, atI xs i = some a := by
  unfold atI ixN
  by_cases h0 : 0 ≤ i
  · rw [if_pos h0, if_pos h.2]
    show ∃ a, xs[i.toNat]? = some a
    exact ⟨_, List.getElem?_eq_getElem (by omega)⟩
  · rw [if_neg h0, if_pos h.1]
    show ∃ a, xs[(i + xs.length).toNat]? = some a
    exact ⟨_, List.getElem?_eq_getElem (by omega)⟩
theorem atI_map {α β : Type} (f : α → β) (xs : List α) (i : Int) : atI (xs.map f) i = (atI xs i).map f := by
  unfold atI
  rw [List.length_map]
  cases ixN xs.length i with
  | none => rfl
  | some j => exact List.getElem?_map ..
theorem ix_some {α : Type} [Inhabited α] {xs : List α} {i : Int} (h : -(xs.length : Int) ≤ i ∧ i < xs.length) : atI xs i = some (ix xs i) := by
  obtain ⟨a, e⟩ := atI_in h
  unfold ix
  rw [e]
  rfl
theorem ix_at {α : Type} [Inhabited α] {enc : α → PyData} {xs : List α} {i : Int} (h : -(xs.length : Int) ≤ i ∧ i < xs.length) : atI (xs.map enc) i = some (enc (ix xs i)) := by
  rw [atI_map, ix_some h]
  rfl
theorem ix_nat {α : Type} [Inhabited α] {xs : List α} {j : Nat} {a : α} (h : xs[j]? = some a) : ix xs (j : Int) = a := by
  unfold ix
  rw [atI_nat h]
  rfl
theorem ix_last {α : Type} [Inhabited α] (xs : List α) (a : α) : ix (xs ++ [a]) (-1) = a := by
  unfold ix
  rw [atI_last]
  rfl
theorem ix_pos {α : Type} [Inhabited α] {xs : List α} {i : Int} (h0 : 0 ≤ i) (h : i.toNat < xs.length) : ix xs i = xs[i.toNat] := by
  have := ix_nat (xs := xs) (j := i.toNat) (List.getElem?_eq_getElem h)
  rw [show ((i.toNat : Nat) : Int) = i by omega] at this
  exact this
def cutL {α : Type} (xs : List α) (lo hi : Option Int) : List α := (xs.drop (HT.sIx xs.length 0 lo)).take (HT.sIx xs.length xs.length hi - HT.sIx xs.length 0 lo)
theorem cutD_map {α : Type} (f : α → PyData) (xs : List α) (lo hi : Option Int) : cutD (xs.map f) lo hi = (cutL xs lo hi).map f := by
  unfold cutD cutL
  rw [List.length_map, List.map_take, List.map_drop]
def rgI (lo : Int) (n : Nat) : List Int := (List.range n).map fun k : Nat => lo + (k : Int)
section
variable {b : Bool} {c : Ct} {α β γ : Type} {t ta tb tc te tl : TE} {K : PySem.W.Frag} {R S : Rel} {d e : PyData}
theorem EN.eqL {ds es : List PyData} (h : EN c t (OL ds)) (e : ds = es) : EN c t (OL es) := e ▸ h
theorem n_catM {xs ys : List α} {enc : α → PyData} (h : EI c ta (xs.map enc)) (g : EI c tb (ys.map enc)) (l : xs.length + ys.length ≤ 16777216) : EN c (tOp rCat ta tb) (OL ((xs ++ ys).map enc)) :=
  (n_cat h g (by rw [List.length_map, List.length_map]; exact l)).eqL (List.map_append ..).symm
theorem n_lstM {xs : List α} {enc : α → PyData} {u : TA} (h : EM true c u (xs.map enc)) (l : Nat.ble (xs.map enc).length sizeLine = true := by rfl) : EN c (tLst u) (OL (xs.map enc)) := n_lst h l
theorem n_slM {xs : List α} {enc : α → PyData} {lo hi : Option Int} {tl th : TO} (h : EI c t (xs.map enc)) (hl : EO c tl lo) (hh : EO c th hi) : EN c (tSl (rSlL K) t tl th) (OL ((cutL xs lo hi).map enc)) :=
  (n_sl h hl hh).eqL (cutD_map _ _ _ _)
theorem o_lenM {xs : List α} {enc : α → PyData} : On (fun xs H Q => ∃ x n, xs = [x] ∧ LenV K x H n ∧ Q (.int n) H) [RD (.list (xs.map enc))] (RD (.int xs.length)) := by
  have := o_lenL (K := K) (ds := xs.map enc)
  rw [List.length_map] at this
  exact this
theorem t_yes : ET c tYes true := fun σ H s Q q => q H (Kp.refl _)
theorem t_truL {xs : List α} {enc : α → PyData} (h : EI c t (xs.map enc)) : ET c (fun σ H Q => t σ H fun x H' => ∃ k, TruV K x H' k ∧ Q k H') (!xs.isEmpty) := fun σ H s Q q => h σ H s _ fun H1 a vs k1 e1 r1 => by
  refine ⟨!vs.isEmpty, .inl ⟨vs, SqL.of e1, rfl⟩, ?_⟩
  have hl := r1.len
  rw [List.length_map] at hl
  rw [show (!vs.isEmpty) = !xs.isEmpty by cases vs <;> cases xs <;> first | rfl | cases hl]
  exact q H1 k1
theorem e_chain {r r' : R2} {R1 R2 R3 : Rel} {x y : Bool} (o : O2 r R1 R2 (RD (.bool x))) (o' : O2 r' R2 R3 (RD (.bool y))) (ha : E b c ta R1) (hb' : E b c tb R2) (hc : x = true → E b c tc R3) : E b c (tChain r r' ta tb tc) (RD (.bool (x && y))) := fun σ H s Q q =>
  ha σ H s _ fun H1 v1 k1 r1 => hb' σ H1 (s.kp k1) _ fun H2 v2 k2 r2 => o H2 (msk b c σ) v1 v2 ((s.kp k1).kp k2).hd (R1.mn (hb_kp k2) r1) r2 _ fun H3 v3 k3 r3 => by
    cases r3
    refine ⟨x, rfl, ?_⟩
    have s3 := ((s.kp k1).kp k2).kp k3
    cases x with
    | false => rw [if_neg Bool.false_ne_true]; exact q H3 _ ((k1.trans k2).trans k3) (.bl _)
    | true =>
      rw [if_pos rfl]
      refine hc rfl σ H3 s3 _ fun H4 v4 k4 r4 => o' H4 (msk b c σ) v2 v4 (s3.kp k4).hd (R2.mn (hb_kp (k3.trans k4)) r2) r4 Q fun H5 v5 k5 r5 => q H5 v5 ((((k1.trans k2).trans k3).trans k4).trans k5) r5
theorem e_ite {tt : TT} {x : Bool} {enc : α → PyData} {u v : α} (h : ET c tt x) (ha : x = true → E b c ta (RD (enc u))) (hc : x = false → E b c tb (RD (enc v))) : E b c (tIf tt ta tb) (RD (enc (if x = true then u else v))) := by
  refine e_if h (fun z => ?_) fun z => ?_
  · rw [if_pos z]; exact ha z
  · rw [if_neg (by rw [z]; exact Bool.false_ne_true)]; exact hc z
theorem mulL {i j : Int} (h1 : -(2 ^ 64) < i) (h2 : i < 2 ^ 64) : CMul i j := .inl ⟨h1, h2⟩
theorem mulR {i j : Int} (h1 : -(2 ^ 64) < j) (h2 : j < 2 ^ 64) : CMul i j := .inr ⟨h1, h2⟩
theorem o_mul {i j : Int} (h : CMul i j) : O2 (rI CMul fun i j => .int (i * j)) (RD (.int i)) (RD (.int j)) (RD (.int (i * j))) := o_I h
theorem o_mod {i j : Int} (h : 0 < j) : O2 (rI (fun _ j => 0 < j) fun i j => .int (i % j)) (RD (.int i)) (RD (.int j)) (RD (.int (i % j))) := o_I (C := fun _ j => 0 < j) h
theorem o_div {i j : Int} (h : 0 < j ∧ j < 1073741824) : O2 (rI CDiv fun i j => .int (i / j)) (RD (.int i)) (RD (.int j)) (RD (.int (i / j))) := o_I h
theorem o_neg {i : Int} : O1 (rU fun i => .int (-i)) (RD (.int i)) (RD (.int (-i))) := o_U
theorem o_cats {x y : Str} (h : x.length + y.length ≤ sizeLine) : O2 (fun x y H Q => ∃ i j, x = .str i ∧ y = .str j ∧ i.length + j.length ≤ sizeLine ∧ Q (.str (i ++ j)) H) (RD (.str x)) (RD (.str y)) (RD (.str (x ++ y))) := fun H M u v _ r1 r2 Q q => by
  cases r1
  cases r2
  exact ⟨x, y, rfl, rfl, h, q H _ (Kp.refl _) (.str _)⟩
theorem DtAll.bls {H : Hp} : ∀ {vs : List V} {bs : List Bool}, DtAll H vs (bs.map PyData.bool) → vs = bs.map V.bl
  | [], [], _ => rfl
  | [], _ :: _, h => by cases h
  | _ :: _, [], h => by cases h
  | v :: vs, x :: bs, .cons a r => by
    cases a
    rw [r.bls]
    rfl
theorem DtAll.ints {H : Hp} : ∀ {vs : List V} {ns : List Int}, DtAll H vs (ns.map PyData.int) → vs = ns.map V.int
  | [], [], _ => rfl
  | [], _ :: _, h => by cases h
  | _ :: _, [], h => by cases h
  | v :: vs, x :: ns, .cons a r => by
    cases a
    rw [r.ints]
    rfl
theorem DtAll.ofInts {H : Hp} : ∀ ns : List Int, DtAll H (ns.map V.int) (ns.map PyData.int)
  | [] => .nil
  | n :: ns => .cons (.int n) (DtAll.ofInts ns)
theorem DtAll.ofBls {H : Hp} : ∀ ns : List Bool, DtAll H (ns.map V.bl) (ns.map PyData.bool)
  | [] => .nil
  | n :: ns => .cons (.bl n) (DtAll.ofBls ns)
theorem o_all {bs : List Bool} : On (rAll K) [RD (.list (bs.map PyData.bool))] (RD (.bool (bs.all id))) := fun H M vs _ r Q q => by
  obtain ⟨v, r', rfl, h1, rfl⟩ := r
  cases h1 with
  | lst e a => exact ⟨_, bs, rfl, by rw [← a.bls]; exact SqL.of (less_some e).2, q H _ (Kp.refl _) (.bl _)⟩
theorem o_any {bs : List Bool} : On (rAny K) [RD (.list (bs.map PyData.bool))] (RD (.bool (bs.any id))) := fun H M vs _ r Q q => by
  obtain ⟨v, r', rfl, h1, rfl⟩ := r
  cases h1 with
  | lst e a => exact ⟨_, bs, rfl, by rw [← a.bls]; exact SqL.of (less_some e).2, q H _ (Kp.refl _) (.bl _)⟩
theorem o_sum {ns : List Int} : On (rSum K) [RD (.list (ns.map PyData.int))] (RD (.int ns.sum)) := fun H M vs _ r Q q => by
  obtain ⟨v, r', rfl, h1, rfl⟩ := r
  cases h1 with
  | lst e a => exact ⟨_, ns, rfl, by rw [← a.ints]; exact SqL.of (less_some e).2, q H _ (Kp.refl _) (.int _)⟩
/-! #### comprehensions -/
section
variable {xs : List α} {enc : α → PyData} {G : α → List Slot} {is vs : List Nat} {p : α → Bool} {h : α → β} {encB : β → PyData} {tt : TT} {g : TG}
def anyAt (g : List Slot) (vs : List Nat) : Bool := vs.all fun i => match g[i]? with
  | some .any => true
  | _ => false
theorem anyAt_of {g : List Slot} {vs : List Nat} (h : anyAt g vs = true) : ∀ i ∈ vs, g[i]? = some .any := fun i m => by
  have := List.all_eq_true.mp h i m
  cases e : g[i]? with
  | none => rw [e] at this; cases this
  | some s =>
    rw [e] at this
    cases s with
    | any => rfl
    | fz R => cases this
    | own C => cases this
theorem n_lcM (hs : EI c tl (xs.map enc)) (hw : anyAt c.g vs = true) (his : ∀ i ∈ is, i ∈ vs)
    (hg : ∀ om, ∀ x, x ∈ xs → EG ⟨c.hs, c.h0, om, c.g⟩ g (RD (enc x)) (G x) is) (ht : ∀ om, ∀ x, x ∈ xs → ET ⟨c.hs, c.h0, om, G x⟩ tt (p x))
    (he : ∀ om, ∀ x, x ∈ xs → p x = true → E true ⟨c.hs, c.h0, om, G x⟩ te (RD (encB (h x)))) (hl : xs.length < 16777216) : EN c (tLc (iList K tl) g tt te vs) (OL (((xs.filter p).map h).map encB)) :=
  (n_lc (f := fun x => encB (h x)) hs (anyAt_of hw) his (fun om x m => hg om x m) (fun om x m => ht om x m) (fun om x m q => he om x m q) hl).eqL (by rw [List.map_map]; rfl)
theorem n_lcM1 (hs : EI c tl (xs.map enc)) (hw : anyAt c.g vs = true) (his : ∀ i ∈ is, i ∈ vs)
    (hg : ∀ om, ∀ x, x ∈ xs → EG ⟨c.hs, c.h0, om, c.g⟩ g (RD (enc x)) (G x) is)
    (he : ∀ om, ∀ x, x ∈ xs → True → E true ⟨c.hs, c.h0, om, G x⟩ te (RD (encB (h x)))) (hl : xs.length < 16777216) : EN c (tLc (iList K tl) g tYes te vs) (OL ((xs.map h).map encB)) :=
  (n_lcM (p := fun _ => true) hs hw his hg (fun _ _ _ => t_yes) (fun om x m _ => he om x m trivial) hl).eqL (by rw [List.filter_eq_self.mpr (fun _ _ => rfl)])
end
section
variable {lo : Int} {n : Nat} {G : Int → List Slot} {is vs : List Nat} {p : Int → Bool} {h : Int → β} {encB : β → PyData} {tt : TT} {g : TG} {wi : TI}
theorem rgI_mem {k : Int} : k ∈ rgI lo n ↔ lo ≤ k ∧ k < lo + n := by
  unfold rgI
  rw [List.mem_map]
  constructor
  · rintro ⟨j, hj, rfl⟩
    have := List.mem_range.mp hj
    omega
  · rintro ⟨h1, h2⟩
    exact ⟨(k - lo).toNat, List.mem_range.mpr (by omega), by omega⟩
theorem n_lcRM (hs : EW c wi lo n) (hw : anyAt c.g vs = true) (his : ∀ i ∈ is, i ∈ vs)
    (hg : ∀ om, ∀ k : Int, (lo ≤ k ∧ k < lo + n) → EG ⟨c.hs, c.h0, om, c.g⟩ g (RD (.int k)) (G k) is) (ht : ∀ om, ∀ k : Int, (lo ≤ k ∧ k < lo + n) → ET ⟨c.hs, c.h0, om, G k⟩ tt (p k))
    (he : ∀ om, ∀ k : Int, (lo ≤ k ∧ k < lo + n) → p k = true → E true ⟨c.hs, c.h0, om, G k⟩ te (RD (encB (h k)))) (hl : n < 16777216) : EN c (tLc wi g tt te vs) (OL ((((rgI lo n).filter p).map h).map encB)) :=
  (n_lcR (f := fun x => encB (h x)) hs (anyAt_of hw) his (fun om k m => hg om _ (by omega)) (fun om k m => ht om _ (by omega)) (fun om k m q => he om _ (by omega) q) hl).eqL (by rw [List.map_map]; rfl)
theorem n_lcRM1 (hs : EW c wi lo n) (hw : anyAt c.g vs = true) (his : ∀ i ∈ is, i ∈ vs)
    (hg : ∀ om, ∀ k : Int, (lo ≤ k ∧ k < lo + n) → EG ⟨c.hs, c.h0, om, c.g⟩ g (RD (.int k)) (G k) is)
    (he : ∀ om, ∀ k : Int, (lo ≤ k ∧ k < lo + n) → True → E true ⟨c.hs, c.h0, om, G k⟩ te (RD (encB (h k)))) (hl : n < 16777216) : EN c (tLc wi g tYes te vs) (OL (((rgI lo n).map h).map encB)) :=
  (n_lcRM (p := fun _ => true) hs hw his hg (fun _ _ _ => t_yes) (fun om x m _ => he om x m trivial) hl).eqL (by rw [List.filter_eq_self.mpr (fun _ _ => rfl)])
end
/-! #### statements -/
theorem s_appM {i : Nat} {D : Ends} {xs : List α} {enc : α → PyData} {a : α} (e : c.g[i]? = some (.own (OL (xs.map enc)))) (h : E true c te (RD (enc a))) (l : xs.length < 16777216) (q : WC (c.set i (.own (OL ((xs ++ [a]).map enc)))) D.nx) :
    WC c (tDrop (tBM K "list" rAppend (tVar i) (tCons te tNil)) D) := s_app e h (by rw [List.length_map]; exact l) (by rw [List.map_append] at q; exact q)
theorem s_fixM {i : Nat} {xs : List α} {enc : α → PyData} {k : L2.St → Hp → Prop} (e : c.g[i]? = some (.own (OL (xs.map enc)))) (q : WC (c.set i (.fz (RD (.list (xs.map enc))))) k) : WC c k := s_fixL i e q
end
end Pk

namespace Pk
open PySem PySem.Spec PyProof.Rows L2
/-! ### list(zip(xs, ys)) -/
abbrev zObj (f0 : Value) (g : Bool) (TI TO : Addr) : Obj := { cls := .type "zip", dict := none, data := .fields #[f0, .bool g, .bool false, .ref TI, .ref TO], slots := #[] }
/-- a zip in the midst of its walk; the tuple that it gave last still stands -/
structure ZS (h : Heap) (z TI TO i1 i2 l1 l2 : Addr) (i : Nat) (xs ys : Array Value) : Prop where
  ob : h.get? z = some (zObj .none false TI TO) ∨ ∃ (T : Addr) (o : Obj) (g : Bool), h.get? z = some (zObj (rawInt T) g TI TO) ∧ h.get? T = some o ∧ T ≠ z ∧ T ≠ TO ∧ T ≠ i1 ∧ T ≠ i2
  ti : IsPair h TI (.ref i1) (.ref i2)
  to_ : ∃ a b, IsPair h TO a b
  it1 : h.IsListIter i1 l1 i
  it2 : h.IsListIter i2 l2 i
  ls1 : h.IsList l1 xs
  ls2 : h.IsList l2 ys
def Keeps4 (z TO i1 i2 : Addr) (h h' : Heap) : Prop := ∀ c o, c ≠ z → c ≠ TO → c ≠ i1 → c ≠ i2 → h.get? c = some o → h'.get? c = some o
section
variable {P : Program} {w : World} {A : Around} {E : Value → Shared → Prop} {s : Shared} {z TI TO i1 i2 l1 l2 : Addr} {i : Nat} {xs ys : Array Value}
theorem pair_in {h h' : Heap} {T : Addr} {a b : Value} (e : IsPair h T a b) (k : ∀ o, h.get? T = some o → h'.get? T = some o) : IsPair h' T a b := k _ e
theorem own_taken {T : Addr} {o : Obj} {g : Bool} {R : Bool → Shared → Prop} (ez : s.heap.get? z = some (zObj (rawInt T) g TI TO)) (eT : s.heap.get? T = some o)
    (fin : ∀ h1, h1.get? z = some (zObj (rawInt T) true TI TO) → Heap.SameBut z s.heap h1 → R false { s with heap := h1 }) : wpAny (model P w) A (Builtin.SmallTypes.ownedTupleIsFree (.ref z)) R E s := by
  unfold Builtin.SmallTypes.ownedTupleIsFree
  refine wpAny_bind (wpAny_field ez rfl (x := rawInt T) rfl ?_)
  show wpAny _ _ (loadIfAlive ((T : Int).toNat) >>= _) _ _ _
  rw [Int.toNat_natCast]
  refine wpAny_bind (PySem.W.kdx_alive eT ?_)
  simp only [Option.isNone_some, Bool.false_eq_true, if_false]
  refine wpAny_bind (wpAny_field ez rfl (x := .bool g) rfl ?_)
  cases g with
  | true =>
    rw [if_neg (by decide)]
    exact wpAny_pure (fin s.heap ez (Heap.SameBut.refl _ _))
  | false =>
    rw [if_pos (by decide)]
    refine wpAny_bind (wpAny_setField_rec ez (by show 1 < 5; decide) fun h1 e1 sb => wpAny_pure (fin h1 ?_ sb))
    exact e1
/-- the next pair, by a tuple of its own -/
theorem zip_go {T : Addr} {o : Obj} {g : Bool} {x y : Value} {Q : Value → Shared → Prop} (D : ZipApart z TI TO i1 i2 l1 l2) (ez : s.heap.get? z = some (zObj (rawInt T) g TI TO)) (eT : s.heap.get? T = some o)
    (eI : IsPair s.heap TI (.ref i1) (.ref i2)) (g1 : s.heap.IsListIter i1 l1 i) (g2 : s.heap.IsListIter i2 l2 i) (q1 : s.heap.IsList l1 xs) (q2 : s.heap.IsList l2 ys) (ex : xs[i]? = some x) (ey : ys[i]? = some y)
    (fin : ∀ h', h'.get? z = some (zObj (rawInt T) true TI TO) → h'.IsListIter i1 l1 (i + 1) → h'.IsListIter i2 l2 (i + 1) → IsPair h' s.heap.objs.size x y → h'.objs.size = s.heap.objs.size + 1 →
      (∀ c u, c ≠ z → c ≠ i1 → c ≠ i2 → s.heap.get? c = some u → h'.get? c = some u) → Q (.ref s.heap.objs.size) { s with heap := h' }) :
    wpAny (model P w) A (Builtin.«zip.__next__» ⟨[.ref z], []⟩) (fun r s' => ∃ v, r = .done (.ret v) ∧ Q v s') E s := by
  refine wpAny_bind (m := PySem.field (.ref z) 2) (wpAny_field ez rfl (x := .bool false) rfl ?_)
  refine wpAny_bind (m := PySem.field (.ref z) 3) (wpAny_field ez rfl (x := .ref TI) rfl ?_)
  refine wpAny_bind (wpAny_seqItems eI rfl ?_)
  refine wpAny_bind (m := Builtin.SmallTypes.ownedTupleIsFree (.ref z)) (own_taken ez eT fun h1 e1 sb => ?_)
  simp only [Bool.false_eq_true, if_false, List.forIn_toArray, List.forIn_cons, List.forIn_nil]
  refine wpAny_bind (wpAny_bind (wpAny_bind (wpAny_holding ?_)))
  refine wpAny_bind (m := Builtin.SmallTypes.nextOf (.ref i1)) (wpAny_nextOf_list_item (s := { s with heap := h1 }) (g1.extBut sb.extBut D.i1z) (q1.extBut sb.extBut D.l1z) ex fun h2 g12 sb2 => wpAny_pure (wpAny_pure ?_))
  refine wpAny_bind (wpAny_bind (wpAny_holding ?_))
  refine wpAny_bind (m := Builtin.SmallTypes.nextOf (.ref i2)) (wpAny_nextOf_list_item (s := { s with heap := h2 }) ((g2.extBut sb.extBut D.i2z).extBut sb2.extBut D.i12.symm) ((q2.extBut sb.extBut D.l2z).extBut sb2.extBut D.l2i1) ey fun h3 g23 sb3 => wpAny_pure (wpAny_pure (wpAny_pure ?_)))
  have hz3 : h3.objs.size = s.heap.objs.size := by rw [sb3.1, sb2.1, sb.1]
  refine wpAny_bind (wpAny_newTuple ?_ (by show 2 ≤ sizeLine; decide))
  refine wpAny_pure ⟨_, rfl, ?_⟩
  show Q (.ref h3.objs.size) _
  rw [hz3]
  refine fin _ (Heap.get?_push_of_some _ (sb3.extBut _ _ D.i2z.symm (sb2.extBut _ _ D.i1z.symm e1))) ((g12.extBut sb3.extBut D.i12).at fun o e => Heap.get?_push_of_some _ e) (g23.at fun o e => Heap.get?_push_of_some _ e) ?_ ?_ fun c u n0 n1 n2 e => Heap.get?_push_of_some _ (sb3.extBut _ _ n2 (sb2.extBut _ _ n1 (sb.extBut _ _ n0 e)))
  · show (h3.push _).get? s.heap.objs.size = _
    rw [← hz3]
    exact Heap.get?_push_size _ rfl
  · rw [Heap.size_push, hz3]
theorem zip_stop {T : Addr} {o : Obj} {g : Bool} {Q : PySem.Fin → Shared → Prop} (hh : A.handled = none) (D : ZipApart z TI TO i1 i2 l1 l2) (ez : s.heap.get? z = some (zObj (rawInt T) g TI TO)) (eT : s.heap.get? T = some o)
    (eI : IsPair s.heap TI (.ref i1) (.ref i2)) (g1 : s.heap.IsListIter i1 l1 i) (g2 : s.heap.IsListIter i2 l2 i) (q1 : s.heap.IsList l1 xs) (q2 : s.heap.IsList l2 ys) (stop : xs[i]? = none ∨ ys[i]? = none)
    (fin : ∀ h' e, (∀ c u, c ≠ z → c ≠ i1 → c ≠ i2 → s.heap.get? c = some u → h'.get? c = some u) → (∃ o, h'.get? e = some o ∧ o.cls = .type "StopIteration") → E (.ref e) { s with heap := h' }) :
    wpAny (model P w) A (Builtin.«zip.__next__» ⟨[.ref z], []⟩) Q E s := by
  refine wpAny_bind (m := PySem.field (.ref z) 2) (wpAny_field ez rfl (x := .bool false) rfl ?_)
  refine wpAny_bind (m := PySem.field (.ref z) 3) (wpAny_field ez rfl (x := .ref TI) rfl ?_)
  refine wpAny_bind (wpAny_seqItems eI rfl ?_)
  refine wpAny_bind (m := Builtin.SmallTypes.ownedTupleIsFree (.ref z)) (own_taken ez eT fun h1 e1 sb => ?_)
  simp only [Bool.false_eq_true, if_false, List.forIn_toArray, List.forIn_cons, List.forIn_nil]
  refine wpAny_bind (wpAny_bind (wpAny_bind (wpAny_holding ?_)))
  cases ex : xs[i]? with
  | none =>
    refine wpAny_bind (m := Builtin.SmallTypes.nextOf (.ref i1)) (wpAny_nextOf_list_end (s := { s with heap := h1 }) hh (g1.extBut sb.extBut D.i1z) (q1.extBut sb.extBut D.l1z) ex fun h2 e sb2 he => fin h2 e (fun c u n0 n1 _ q => sb2 _ _ n1 (sb.extBut _ _ n0 q)) he)
  | some x =>
    have ey : ys[i]? = none := stop.elim (fun z => by rw [ex] at z; cases z) id
    refine wpAny_bind (m := Builtin.SmallTypes.nextOf (.ref i1)) (wpAny_nextOf_list_item (s := { s with heap := h1 }) (g1.extBut sb.extBut D.i1z) (q1.extBut sb.extBut D.l1z) ex fun h2 g12 sb2 => wpAny_pure (wpAny_pure ?_))
    refine wpAny_bind (wpAny_bind (wpAny_holding ?_))
    exact wpAny_bind (m := Builtin.SmallTypes.nextOf (.ref i2)) (wpAny_nextOf_list_end (s := { s with heap := h2 }) hh ((g2.extBut sb.extBut D.i2z).extBut sb2.extBut D.i12.symm) ((q2.extBut sb.extBut D.l2z).extBut sb2.extBut D.l2i1) ey fun h3 e sb3 he => fin h3 e (fun c u n0 n1 n2 q => sb3 _ _ n2 (sb2.extBut _ _ n1 (sb.extBut _ _ n0 q))) he)
theorem ZS.over {h h' : Heap} {n : Addr} (S : ZS h z TI TO i1 i2 l1 l2 i xs ys) (k : ∀ b u, b ≠ n → h.get? b = some u → h'.get? b = some u) (nz : z ≠ n) (nI : TI ≠ n) (nO : TO ≠ n) (n1 : i1 ≠ n) (n2 : i2 ≠ n) (m1 : l1 ≠ n) (m2 : l2 ≠ n)
    (nT : ∀ (T : Addr) (g : Bool), h.get? z = some (zObj (rawInt T) g TI TO) → T ≠ n) : ZS h' z TI TO i1 i2 l1 l2 i xs ys := by
  refine ⟨?_, k _ _ nI S.ti, ?_, S.it1.at fun o e => k _ o n1 e, S.it2.at fun o e => k _ o n2 e, S.ls1.at fun o e => k _ o m1 e, S.ls2.at fun o e => k _ o m2 e⟩
  · rcases S.ob with e | ⟨T, o, g, e, q, r⟩
    · exact .inl (k _ _ nz e)
    · exact .inr ⟨T, o, g, k _ _ nz e, k _ _ (nT T g e) q, r⟩
  · obtain ⟨a, b, e⟩ := S.to_
    exact ⟨a, b, k _ _ nO e⟩
/-- a pair comes -/
theorem zs_item {x y : Value} {Q : Option Value → Shared → Prop} (D : ZipApart z TI TO i1 i2 l1 l2) (S : ZS s.heap z TI TO i1 i2 l1 l2 i xs ys) (ex : xs[i]? = some x) (ey : ys[i]? = some y)
    (fin : ∀ h', ZS h' z TI TO i1 i2 l1 l2 (i + 1) xs ys → (∀ (T : Addr) (g : Bool), h'.get? z = some (zObj (rawInt T) g TI TO) → T = s.heap.objs.size ∨ ∃ g, s.heap.get? z = some (zObj (rawInt T) g TI TO)) → IsPair h' s.heap.objs.size x y → h'.objs.size = s.heap.objs.size + 1 → Keeps4 z TO i1 i2 s.heap h' → Q (some (.ref s.heap.objs.size)) { s with heap := h' }) :
    wpAny (model P w) A (pyNext (.ref z)) Q E s := by
  have lt : ∀ {c : Addr} {u : Obj}, s.heap.get? c = some u → s.heap.objs.size ≠ c := fun e => Nat.ne_of_gt (Heap.lt_size e)
  obtain ⟨a, b, eO⟩ := S.to_
  rcases S.ob with ez | ⟨T, o, g, ez, eT, nz, nO, n1, n2⟩
  · refine wpAny_pyNext_zip_item D ez S.ti eO S.it1 S.it2 S.ls1 S.ls2 ex ey fun h' a1 a2 a3 a4 a5 a6 a7 => fin h' ⟨.inr ⟨_, _, false, a1, a5, lt ez, lt eO, ?_, ?_⟩, a7 _ _ D.TIz D.TITO D.TIi1 D.TIi2 S.ti, ⟨_, _, a2⟩, a3, a4, S.ls1.at fun o e => a7 _ o D.l1z D.l1TO D.l1i1 D.l1i2 e, S.ls2.at fun o e => a7 _ o D.l2z D.l2TO D.l2i1 D.l2i2 e⟩ (fun T g e => .inl ?_) a5 a6 a7
    · obtain ⟨_, e, _⟩ := S.it1
      exact lt e
    · obtain ⟨_, e, _⟩ := S.it2
      exact lt e
    · rw [a1] at e
      have q := congrArg Obj.data (Option.some.inj e)
      injection q with q
      have q2 := congrArg (fun v : Array Value => v[0]?) q
      simp [rawInt] at q2
      exact (Int.ofNat.inj q2).symm
  · have hT : s.TypeIs (.ref z) "zip" := ⟨_, ez, rfl⟩
    unfold pyNext
    refine wpAny_bind (wpAny_attempt (wpAny_callSpecial?_slot (name := Str.ofString "__next__") hT F.slot_zip_next (wpAny_call_entry F.slot_zip_next hT F.entry_zip_next (zip_go D ez eT S.ti S.it1 S.it2 S.ls1 S.ls2 ex ey fun h' b1 b2 b3 b4 b5 b6 => wpAny_pure ?_) (F.args_zip_next_1 _))))
    refine fin h' ⟨.inr ⟨T, o, true, b1, b6 _ _ nz n1 n2 eT, nz, nO, n1, n2⟩, b6 _ _ D.TIz D.TIi1 D.TIi2 S.ti, ⟨a, b, b6 _ _ D.TOz D.TOi1 D.TOi2 eO⟩, b2, b3, S.ls1.at fun o e => b6 _ o D.l1z D.l1i1 D.l1i2 e, S.ls2.at fun o e => b6 _ o D.l2z D.l2i1 D.l2i2 e⟩ (fun T' g' e => .inr ?_) b4 b5 fun c u c1 _ c3 c4 e => b6 c u c1 c3 c4 e
    rw [b1] at e
    have q := congrArg Obj.data (Option.some.inj e)
    injection q with q
    have q2 := congrArg (fun v : Array Value => v[0]?) q
    simp [rawInt] at q2
    have : T = T' := Int.ofNat.inj q2
    subst this
    exact ⟨g, ez⟩
theorem zs_done {Q : Option Value → Shared → Prop} (hh : A.handled = none) (D : ZipApart z TI TO i1 i2 l1 l2) (S : ZS s.heap z TI TO i1 i2 l1 l2 i xs ys) (stop : xs[i]? = none ∨ ys[i]? = none)
    (fin : ∀ h', Keeps4 z TO i1 i2 s.heap h' → Q none { s with heap := h' }) : wpAny (model P w) A (pyNext (.ref z)) Q E s := by
  obtain ⟨a, b, eO⟩ := S.to_
  rcases S.ob with ez | ⟨T, o, g, ez, eT, nz, nO, n1, n2⟩
  · exact wpAny_pyNext_zip_end hh D ez S.ti eO S.it1 S.it2 S.ls1 S.ls2 stop fun h' k => fin h' k
  · have hT : s.TypeIs (.ref z) "zip" := ⟨_, ez, rfl⟩
    unfold pyNext
    refine wpAny_bind (wpAny_attempt (wpAny_callSpecial?_slot (name := Str.ofString "__next__") hT F.slot_zip_next (wpAny_call_entry F.slot_zip_next hT F.entry_zip_next (zip_stop hh D ez eT S.ti S.it1 S.it2 S.ls1 S.ls2 stop fun h' e k he => ?_) (F.args_zip_next_1 _))))
    obtain ⟨u, hu, hc⟩ := he
    refine wpAny_bind (wpAny_isInstance (T := "StopIteration") (b := true) ⟨u, hu, hc⟩ isSubtype_stop ?_)
    exact wpAny_pure (fin _ fun c u c1 _ c3 c4 e => k c u c1 c3 c4 e)
/-- the pairs that were laid -/
structure Laid (h : Heap) (lo : Addr) (xs ys : Array Value) (as : List Addr) : Prop where
  rise : as.Pairwise (· < ·)
  above : ∀ a ∈ as, lo < a
  prs : ∀ (j : Nat) (a : Addr), as[j]? = some a → ∃ x y, xs[j]? = some x ∧ ys[j]? = some y ∧ IsPair h a x y
theorem Laid.there {h : Heap} {lo : Addr} {as : List Addr} (L : Laid h lo xs ys as) {a : Addr} (ha : a ∈ as) : a < h.objs.size := by
  obtain ⟨j, hj⟩ := List.mem_iff_getElem?.mp ha
  obtain ⟨_, _, _, _, e⟩ := L.prs j a hj
  exact Heap.lt_size e
abbrev lObj (acc : Array Value) (c : Nat) : Obj := { cls := .type "list", dict := none, data := .seq acc c, slots := #[] }
section
variable {R : Result → Shared → Prop} {S : Addr}
theorem zl_loop (hh : A.handled = none) (D : ZipApart z TI TO i1 i2 l1 l2) (nS : S ≠ z ∧ S ≠ TI ∧ S ≠ TO ∧ S ≠ i1 ∧ S ≠ i2 ∧ S ≠ l1 ∧ S ≠ l2) (zlt : z < S ∧ TO < S ∧ i1 < S ∧ i2 < S) (sz : xs.size = ys.size) (hn : xs.size ≤ sizeLine) (res : Value) {h0 : Heap}
    (fin : ∀ h' acc c as, (∀ b o, b ≠ S → b ≠ z → b ≠ TO → b ≠ i1 → b ≠ i2 → h0.get? b = some o → h'.get? b = some o) → h'.get? S = some (lObj acc c) → as.length = xs.size → Laid h' S xs ys as → acc.toList = as.map Value.ref → R (.ok (.ret res)) { s with heap := h' }) :
    ∀ (k i : Nat) (h : Heap) (c : Nat) (acc : Array Value) (as : List Addr), xs.size - i = k → i ≤ xs.size → ZS h z TI TO i1 i2 l1 l2 i xs ys → (∀ (T : Addr) (g : Bool), h.get? z = some (zObj (rawInt T) g TI TO) → S < T) → (∀ b o, b ≠ S → b ≠ z → b ≠ TO → b ≠ i1 → b ≠ i2 → h0.get? b = some o → h.get? b = some o) →
      h.get? S = some (lObj acc c) → acc.toList = as.map Value.ref → as.length = i → Laid h S xs ys as → codeAny (model P w) A (.builtin "list.extend.loop" ⟨[.ref S, .ref z, res], []⟩) R { s with heap := h } := by
  obtain ⟨s1, s2, s3, s4, s5, s6, s7⟩ := nS
  intro k
  induction k with
  | zero =>
    intro i h c acc as hk hi hZ hT keep eS ea el L
    have ei : i = xs.size := by omega
    refine codeAny_builtin PySem.F.entry_extend_loop ?_
    rw [Around.under_plainId PySem.F.plain_extend_loop _]
    refine wpAny_bind (m := pyNext (.ref z)) (zs_done (s := { s with heap := h }) (A := A.in1) hh D hZ (.inl (Array.getElem?_eq_none (by omega))) fun h' k4 => ?_)
    refine wpAny_pure (fin h' acc c as (fun b o b1 b2 b3 b4 b5 e => k4 b o b2 b3 b4 b5 (keep b o b1 b2 b3 b4 b5 e)) (k4 S _ s1 s3 s4 s5 eS) (by omega) ⟨L.rise, L.above, fun j a hj => ?_⟩ ea)
    obtain ⟨x, y, e1, e2, e3⟩ := L.prs j a hj
    have := L.above a (List.mem_of_getElem? hj)
    exact ⟨x, y, e1, e2, k4 a _ (Nat.ne_of_gt (Nat.lt_trans zlt.1 this)) (Nat.ne_of_gt (Nat.lt_trans zlt.2.1 this)) (Nat.ne_of_gt (Nat.lt_trans zlt.2.2.1 this)) (Nat.ne_of_gt (Nat.lt_trans zlt.2.2.2 this)) e3⟩
  | succ k ih =>
    intro i h c acc as hk hi hZ hT keep eS ea el L
    have lt : i < xs.size := by omega
    have ex : xs[i]? = some xs[i] := Array.getElem?_eq_getElem lt
    have ey : ys[i]? = some (ys[i]'(by omega)) := Array.getElem?_eq_getElem (by omega)
    have hsz : acc.size = i := by rw [← Array.length_toList, ea, List.length_map, el]
    have Slt : S < h.objs.size := Heap.lt_size eS
    refine codeAny_builtin PySem.F.entry_extend_loop ?_
    rw [Around.under_plainId PySem.F.plain_extend_loop _]
    refine wpAny_bind (m := pyNext (.ref z)) (zs_item (s := { s with heap := h }) D hZ ex ey fun h' hZ' hT' hp hsz' k4 => ?_)
    dsimp only at hT' hp hsz' k4 ⊢
    have eS' := k4 S _ s1 s3 s4 s5 eS
    have up : ∀ b o, b ≠ S → h'.get? b = some o → (h'.update S (Obj.mapSeq (·.push (Value.ref h.objs.size)))).get? b = some o := fun b o hb e => (Heap.get?_update_other _ _ (Ne.symm hb)).trans e
    have last : ∀ (T : Addr) (g : Bool), h'.get? z = some (zObj (rawInt T) g TI TO) → S < T := fun T g e => by
      rcases hT' T g e with q | ⟨g', q⟩
      · rw [q]
        exact Slt
      · exact hT T g' q
    refine wpAny_bind (m := updateSeq S (·.push (Value.ref h.objs.size))) ?_
    refine wpAny_updateSeq eS' rfl (wpAny_pure ⟨plainId_quiet PySem.F.plain_extend_loop _, ih (i + 1) _ _ (acc.push (Value.ref h.objs.size)) (as ++ [h.objs.size]) (by omega) lt
      (hZ'.over up s1.symm s2.symm s3.symm s4.symm s5.symm s6.symm s7.symm fun T g e => Nat.ne_of_gt (last T g e)) (fun T g e => ?_) (fun b o b1 b2 b3 b4 b5 e => up b o b1 (k4 b o b2 b3 b4 b5 (keep b o b1 b2 b3 b4 b5 e))) (Heap.get?_update_self _ eS' rfl)
      (by rw [Array.toList_push, ea, List.map_append]; rfl) (by rw [List.length_append, el]; rfl) ⟨?_, ?_, ?_⟩⟩) (by rw [hsz]; omega) (by show (acc.push _).size ≤ sizeLine + 1; rw [Array.size_push, hsz]; omega)
    · have := hZ'.ob
      rw [Heap.get?_update_other _ _ s1] at e
      exact last T g e
    · refine List.pairwise_append.mpr ⟨L.rise, List.pairwise_singleton _ _, fun a ha b hb => ?_⟩
      rw [List.mem_singleton.mp hb]
      exact L.there ha
    · intro a ha
      rcases List.mem_append.mp ha with ha | ha
      · exact L.above a ha
      · rw [List.mem_singleton.mp ha]
        exact Slt
    · intro j b hj
      rcases Nat.lt_trichotomy j as.length with q | q | q
      · rw [List.getElem?_append_left q] at hj
        obtain ⟨x, y, e1, e2, e3⟩ := L.prs j b hj
        have hb := L.above b (List.mem_of_getElem? hj)
        exact ⟨x, y, e1, e2, up b _ (Nat.ne_of_gt hb) (k4 b _ (Nat.ne_of_gt (Nat.lt_trans zlt.1 hb)) (Nat.ne_of_gt (Nat.lt_trans zlt.2.1 hb)) (Nat.ne_of_gt (Nat.lt_trans zlt.2.2.1 hb)) (Nat.ne_of_gt (Nat.lt_trans zlt.2.2.2 hb)) e3)⟩
      · subst q
        have hb : h.objs.size = b := by simpa using hj
        subst hb
        exact ⟨_, _, by rw [el]; exact ex, by rw [el]; exact ey, up _ _ (Nat.ne_of_gt Slt) hp⟩
      · rw [List.getElem?_eq_none (by rw [List.length_append, List.length_singleton]; omega)] at hj
        cases hj
theorem zip_nolen : typeLookup (.type "zip") "__len__" = pure none := by rw [typeLookup_type, builtinLookup_eq_fast]; kernel_rfl
theorem zip_nohint : typeLookup (.type "zip") "__length_hint__" = pure none := by rw [typeLookup_type, builtinLookup_eq_fast]; kernel_rfl
theorem ZS.type {h : Heap} (S : ZS h z TI TO i1 i2 l1 l2 i xs ys) : ∃ o, h.get? z = some o ∧ o.cls = .type "zip" := by
  rcases S.ob with e | ⟨T, o, g, e, _⟩
  · exact ⟨_, e, rfl⟩
  · exact ⟨_, e, rfl⟩
/-- a fresh zip -/
structure Z0 (h : Heap) (z TI TO i1 i2 l1 l2 : Addr) (xs ys : Array Value) : Prop where
  ob : h.get? z = some (zObj .none false TI TO)
  zs : ZS h z TI TO i1 i2 l1 l2 0 xs ys
theorem Z0.over {h h' : Heap} {n : Addr} (S : Z0 h z TI TO i1 i2 l1 l2 xs ys) (k : ∀ b u, b ≠ n → h.get? b = some u → h'.get? b = some u) (nz : z ≠ n) (nI : TI ≠ n) (nO : TO ≠ n) (n1 : i1 ≠ n) (n2 : i2 ≠ n) (m1 : l1 ≠ n) (m2 : l2 ≠ n) : Z0 h' z TI TO i1 i2 l1 l2 xs ys := by
  refine ⟨k _ _ nz S.ob, S.zs.over k nz nI nO n1 n2 m1 m2 fun T g e => ?_⟩
  rw [S.ob] at e
  have q := congrArg Obj.data (Option.some.inj e)
  injection q with q
  have q2 := congrArg (fun v : Array Value => v[0]?) q
  simp [rawInt] at q2
abbrev AftZ (S : Addr) (z TO i1 i2 : Addr) (h0 h' : Heap) : Prop := ∀ b o, b ≠ S → b ≠ z → b ≠ TO → b ≠ i1 → b ≠ i2 → h0.get? b = some o → h'.get? b = some o
theorem zl_extend (hh : A.handled = none) (D : ZipApart z TI TO i1 i2 l1 l2) (nS : S ≠ z ∧ S ≠ TI ∧ S ≠ TO ∧ S ≠ i1 ∧ S ≠ i2 ∧ S ≠ l1 ∧ S ≠ l2) (zlt : z < S ∧ TO < S ∧ i1 < S ∧ i2 < S) (sz : xs.size = ys.size) (hn : xs.size ≤ sizeLine) (res : Value) {c : Nat}
    (Z : Z0 s.heap z TI TO i1 i2 l1 l2 xs ys) (eS : s.heap.get? S = some { cls := .type "list", data := .seq #[] c })
    (fin : ∀ h' acc c as, AftZ S z TO i1 i2 s.heap h' → h'.get? S = some (lObj acc c) → as.length = xs.size → Laid h' S xs ys as → acc.toList = as.map Value.ref → R (.ok (.ret res)) { s with heap := h' }) :
    wpAny (model P w) A.in1 (Builtin.List.listExtendWith (.ref S) (.ref z) res)
      (fun r s' => match r with | .done f => R (.ok f) s' | .again c' => c'.quiet = true ∧ codeAny (model P w) A c' R s') (fun e s' => R (.error e) s') s := by
  have hT : s.TypeIs (.ref z) "zip" := Z.zs.type
  have hoth : ∀ b o, b ≠ S → s.heap.get? b = some o → ((s.heap.update S (Obj.mapSeq (·.push Value.none))).update S (Obj.mapSeq (·.pop))).get? b = some o := fun b o hb e => (Heap.get?_update_other _ _ (Ne.symm hb)).trans ((Heap.get?_update_other _ _ (Ne.symm hb)).trans e)
  unfold Builtin.List.listExtendWith
  refine wpAny_bind (wpAny_typeOf hT ?_)
  rw [show Builtin.List.listSameRef (.ref S) (.ref z) = false by simp [Builtin.List.listSameRef, nS.1]]
  rw [show (Value.type "zip" == Value.type "list") = false by decide, show (Value.type "zip" == Value.type "tuple") = false by decide]
  simp only [Bool.or_false, Bool.false_eq_true, if_false]
  refine wpAny_bind (wpAny_pyIter_zip Z.ob ?_)
  refine wpAny_bind (wpAny_holding ?_)
  unfold Builtin.List.listLengthHint
  refine wpAny_bind (wpAny_specialOf hT zip_nolen ?_)
  refine wpAny_bind (m := specialOf (Value.ref z) (Str.ofString "__length_hint__")) (wpAny_specialOf hT zip_nohint ?_)
  refine wpAny_pure ?_
  refine wpAny_bind (m := rule "list.extend.makes-room") (wpAny_rule ?_)
  refine wpAny_bind (m := Builtin.List.listTouch (.ref S)) ?_
  refine wpAny_bind (m := updateSeq S (·.push .none)) (wpAny_updateSeq eS rfl ?_)
  have eS2 := Heap.get?_update_self (Obj.mapSeq (·.push Value.none)) eS rfl
  refine wpAny_updateSeq (hz := by seq_fits) eS2 rfl ?_
  have eS3 := Heap.get?_update_self (Obj.mapSeq (·.pop)) eS2 rfl
  obtain ⟨s1, s2, s3, s4, s5, s6, s7⟩ := nS
  have Z3 := Z.over hoth s1.symm s2.symm s3.symm s4.symm s5.symm s6.symm s7.symm
  refine wpAny_pure ⟨plainId_quiet PySem.F.plain_extend_loop _, zl_loop (s := s) (h0 := s.heap) hh D ⟨s1, s2, s3, s4, s5, s6, s7⟩ zlt sz hn res (fun h' acc c as k e1 e2 L e3 => fin h' acc c as k e1 e2 L e3) xs.size 0 _ _ #[] [] (Nat.sub_zero _) (Nat.zero_le _) Z3.zs
    (fun T g e => ?_) (fun b o b1 _ _ _ _ e => hoth b o b1 e) eS3 rfl rfl ⟨List.Pairwise.nil, (fun _ ha => nomatch ha), fun j a hj => by simp at hj⟩⟩
  rw [Z3.ob] at e
  have q := congrArg Obj.data (Option.some.inj e)
  injection q with q
  have q2 := congrArg (fun v : Array Value => v[0]?) q
  simp [rawInt] at q2
theorem zl_call {Q : Value → Shared → Prop} (hh : A.handled = none) (D : ZipApart z TI TO i1 i2 l1 l2) (sz : xs.size = ys.size) (hn : xs.size ≤ sizeLine) (Z : Z0 s.heap z TI TO i1 i2 l1 l2 xs ys)
    (fin : ∀ h' acc c as, (∀ b o, b ≠ z → b ≠ TO → b ≠ i1 → b ≠ i2 → s.heap.get? b = some o → h'.get? b = some o) → h'.get? s.heap.objs.size = some (lObj acc c) → as.length = xs.size → Laid h' s.heap.objs.size xs ys as → acc.toList = as.map Value.ref → Q (.ref s.heap.objs.size) { s with heap := h' }) :
    wpAny (model P w) A (call (.type "list") [.ref z]) Q E s := by
  have below : ∀ {c : Addr}, (∃ o, s.heap.get? c = some o) → c < s.heap.objs.size := fun ⟨_, e⟩ => Heap.lt_size e
  have bz := below ⟨_, Z.ob⟩
  have bI := below ⟨_, Z.zs.ti⟩
  have bO : TO < s.heap.objs.size := by
    obtain ⟨_, _, e⟩ := Z.zs.to_
    exact below ⟨_, e⟩
  have b1 : i1 < s.heap.objs.size := by
    obtain ⟨o, e, _⟩ := Z.zs.it1
    exact below ⟨_, e⟩
  have b2 : i2 < s.heap.objs.size := by
    obtain ⟨o, e, _⟩ := Z.zs.it2
    exact below ⟨_, e⟩
  have c1 : l1 < s.heap.objs.size := by
    obtain ⟨o, e, _⟩ := Z.zs.ls1
    exact below ⟨_, e⟩
  have c2 : l2 < s.heap.objs.size := by
    obtain ⟨o, e, _⟩ := Z.zs.ls2
    exact below ⟨_, e⟩
  refine callType_codes (Q₁ := fun v s1 => v = .ref s.heap.objs.size ∧ s1 = { s with heap := s.heap.push { cls := .type "list", data := .seq #[] } }) PySem.F.called_list (PySem.F.typeCall_list_1 _) PySem.F.entry_list_init (code_list_new _ ⟨rfl, rfl⟩) fun v s1 hv => ?_
  obtain ⟨rfl, rfl⟩ := hv
  have eS : (s.heap.push { cls := .type "list", data := .seq #[] }).get? s.heap.objs.size = some { cls := .type "list", data := .seq #[] } := Heap.get?_push_size _ rfl
  refine ⟨⟨_, eS, rfl⟩, PySem.F.args_list_init_2 _ _, ?_⟩
  refine wpAny_bind (m := Builtin.List.listItems (.ref s.heap.objs.size)) ?_
  unfold Builtin.List.listItems
  refine wpAny_bind (wpAny_seqItems eS rfl (wpAny_pure ?_))
  refine wpAny_bind (m := updateSeq s.heap.objs.size (fun _ => #[])) (wpAny_updateSeq eS rfl ?_)
  have eS2 := Heap.get?_update_self (Obj.mapSeq (fun _ => (#[] : Array Value))) eS rfl
  refine wpAny_bind (m := letGo (#[] : Array Value).toList.reverse) (wpAny_letGo ?_)
  have upn : ∀ b o, b ≠ s.heap.objs.size → s.heap.get? b = some o → ((s.heap.push { cls := .type "list", data := .seq #[] }).update s.heap.objs.size (Obj.mapSeq (fun _ => (#[] : Array Value)))).get? b = some o := fun b o hb e => (Heap.get?_update_other _ _ (Ne.symm hb)).trans (Heap.get?_push_of_some _ e)
  refine zl_extend (A := A.in1) hh D ⟨Nat.ne_of_gt bz, Nat.ne_of_gt bI, Nat.ne_of_gt bO, Nat.ne_of_gt b1, Nat.ne_of_gt b2, Nat.ne_of_gt c1, Nat.ne_of_gt c2⟩ ⟨bz, bO, b1, b2⟩ sz hn .none (Z.over upn (Nat.ne_of_lt bz) (Nat.ne_of_lt bI) (Nat.ne_of_lt bO) (Nat.ne_of_lt b1) (Nat.ne_of_lt b2) (Nat.ne_of_lt c1) (Nat.ne_of_lt c2)) eS2 fun h' acc c as k e1 e2 L e3 => ?_
  exact ⟨rfl, fin h' acc c as (fun b o n1 n2 n3 n4 e => k b o (Nat.ne_of_lt (Heap.lt_size e)) n1 n2 n3 n4 (upn b o (Nat.ne_of_lt (Heap.lt_size e)) e)) e1 e2 L e3⟩
end
end
end Pk
namespace Pk
open PySem PySem.Spec PyProof.Rows L2 GxR NdefX
/-- the heap with the list at p and its pairs at as -/
def zipHp (H : Hp) (p : Addr) (as : List Addr) (xs ys : List V) : Hp := fun b => if b = p then some (.lst (as.map V.ref)) else match as.findIdx? (· == b) with
  | some j => match xs[j]?, ys[j]? with
    | some x, some y => some (.tup [x, y])
    | _, _ => H b
  | none => H b
theorem zipHp_p {H : Hp} {p : Addr} {as : List Addr} {xs ys : List V} : zipHp H p as xs ys p = some (.lst (as.map V.ref)) := if_pos rfl
theorem idx_of {as : List Addr} (nd : as.Pairwise (· < ·)) {j : Nat} {t : Addr} (h : as[j]? = some t) : as.findIdx? (· == t) = some j := by
  obtain ⟨hj, e⟩ := List.getElem?_eq_some_iff.mp h
  rw [List.findIdx?_eq_some_iff_getElem]
  refine ⟨hj, by simp [e], fun k hk z => ?_⟩
  have lt := List.pairwise_iff_getElem.mp nd k j (by omega) hj hk
  have z' : as[k] = t := by simpa using z
  rw [z', e] at lt
  exact Nat.lt_irrefl _ lt
theorem zipHp_off {H : Hp} {p b : Addr} {as : List Addr} {xs ys : List V} (h1 : b ≠ p) (h2 : b ∉ as) : zipHp H p as xs ys b = H b := by
  unfold zipHp
  rw [if_neg h1, List.findIdx?_eq_none_iff.mpr fun x hx => by simpa using fun z => h2 (by rw [← z]; exact hx)]
theorem zipHp_at {H : Hp} {p t : Addr} {as : List Addr} {xs ys : List V} {j : Nat} {x y : V} (nd : as.Pairwise (· < ·)) (np : t ≠ p) (ht : as[j]? = some t) (hx : xs[j]? = some x) (hy : ys[j]? = some y) : zipHp H p as xs ys t = some (.tup [x, y]) := by
  unfold zipHp
  rw [if_neg np, idx_of nd ht]
  simp only [hx, hy]
def tListZip (K : PySem.W.Frag) (ta : TA) : TE := fun σ H Q => ta σ H fun vs H1 => ∃ a b xs ys, vs = [.ref a, .ref b] ∧ SqL K H1 a xs ∧ SqL K H1 b ys ∧ xs.length = ys.length ∧
  ∀ (p : Addr) (as : List Addr), H1 p = none → (∀ t ∈ as, H1 t = none ∧ t ≠ p) → as.Pairwise (· < ·) → as.length = xs.length → Q (.ref p) (zipHp H1 p as xs ys)
theorem pe_listZip {X : Cx} {e e2 : Expr} {ta : TA} {p pz pos zpos : Pos} (hc : X.calm = true) (hg : Gl X "list") (hm : X.mg "list" = none) (zg : Gl X "zip") (zm : X.mg "zip" = none) (ha : PA X [e, e2] ta)
    (hs : starEach [e, e2] X.env = (false, eval e X.env) :: starEach [e2] X.env := by rfl) (hpl : (backTo zpos (starEach [e2] X.env)).any (·.1) = false := by rfl)
    (na : starEach [.Call (.Name "zip" pz) [e, e2] [] zpos] X.env = (false, eval (.Call (.Name "zip" pz) [e, e2] [] zpos) X.env) :: starEach [] X.env := by rfl) :
    PE X (.Call (.Name "list" p) [.Call (.Name "zip" pz) [e, e2] [] zpos] [] pos) (tListZip X.K ta) := by
  refine ⟨fun pins s σ H Q I h => ?_⟩
  refine Call_ (ld_blt I hg hm boot_list (PyProof.Rows.callWith_type1 (args_cons ?_ na) na))
  refine Call_ (ld_blt I zg zm PyProof.Rows.boot_zip (PyProof.Rows.callWith_type1 (thn (ha.run zpos pins s σ H _ I h) fun us s1 ⟨vs, H1, I1, r1, a, b, xs, ys, ev, qx, qy, sz, q⟩ => ?_) hs hpl))
  subst ev
  cases r1 with
  | cons r rr =>
    cases rr with
    | cons r' rr =>
      cases rr
      cases r
      cases r'
      obtain ⟨ix, vx, px, zx⟩ := I1.list qx
      obtain ⟨iy, vy, py, zy⟩ := I1.list qy
      have lx := vx.length
      have ly := vy.length
      refine call_zip_2 px.isList py.isList fun h' z1 z2 z3 z4 z5 hz hk => args_nil ?_
      have I2 : Inv X pins σ H1 { s1 with heap := h' } := I1.kept (t' := s1.toks) hk
      have Z : Z0 h' (s1.heap.objs.size + 4) (s1.heap.objs.size + 2) (s1.heap.objs.size + 3) s1.heap.objs.size (s1.heap.objs.size + 1) a b ix.toArray iy.toArray := ⟨z1, ⟨.inl z1, z2, ⟨_, _, z3⟩, z4, z5, px.isList.at fun o e => hk _ o e, py.isList.at fun o e => hk _ o e⟩⟩
      refine zl_call (s := { s1 with heap := h' }) (I1.ok.hd hc) (PySem.W.ktu_apart s1.heap.objs.size a b px.lt py.lt) (by simp only [List.size_toArray]; omega) (by simp only [List.size_toArray]; omega) Z fun h2 acc c as k eS el L ea => ?_
      dsimp only at k eS el L ea ⊢
      rw [List.size_toArray] at el
      have fresh : ∀ {t : Addr}, s1.heap.objs.size ≤ t → H1 t = none := fun h => I1.hok.fresh h
      have up : s1.heap.objs.size ≤ h'.objs.size := by rw [hz]; exact Nat.le_add_right _ _
      have old : ∀ c o, s1.heap.get? c = some o → h2.get? c = some o := fun c o e => by
        have lt := Heap.lt_size e
        exact k c o (Nat.ne_of_lt (Nat.lt_of_lt_of_le lt (Nat.le_add_right _ _))) (Nat.ne_of_lt (Nat.lt_of_lt_of_le lt (Nat.le_add_right _ _))) (Nat.ne_of_lt lt) (Nat.ne_of_lt (Nat.lt_of_lt_of_le lt (Nat.le_add_right _ _))) (hk c o e)
      have high : ∀ t ∈ as, s1.heap.objs.size ≤ t := fun t ht => Nat.le_trans up (Nat.le_of_lt (L.above t ht))
      have asp : ∀ t ∈ as, t ≠ h'.objs.size := fun t ht => Nat.ne_of_gt (L.above t ht)
      have low : ∀ {c : Addr} {o : Obj}, s1.heap.get? c = some o → c ≠ h'.objs.size ∧ c ∉ as := fun e => ⟨Nat.ne_of_lt (Nat.lt_of_lt_of_le (Heap.lt_size e) up), fun z => absurd (Heap.lt_size e) (Nat.not_lt.mpr (high _ z))⟩
      have kpH : ∀ c u, H1 c = some u → zipHp H1 h'.objs.size as xs ys c = some u := fun c u e => by
        have lt := (I1.hok c u e).lt
        rw [zipHp_off (Nat.ne_of_lt (Nat.lt_of_lt_of_le lt up)) fun z => absurd lt (Nat.not_lt.mpr (high _ z))]
        exact e
      refine ⟨.ref h'.objs.size, zipHp H1 h'.objs.size as xs ys, ?_, rfl, q _ as (fresh up) (fun t ht => ⟨fresh (high t ht), asp t ht⟩) L.rise (by omega)⟩
      refine I1.call' (s' := { s1 with heap := h2 }) (ch := []) rfl ⟨fun c o e _ _ _ => old c o e, fun c o e _ _ _ => ⟨o.slots, old c o e⟩, fun c o e n _ => ?_, fun c o e _ => ⟨o, old c o e⟩, fun c ws e => kpH c _ e, fun c o u e => kpH c _ e, fun c ps e => ⟨#[], by rw [kpH c _ e]; simp⟩⟩ (fun c u e => ?_) I1.bare fun c z => by simp at z
      · obtain ⟨n1, n2⟩ := low e
        rw [zipHp_off n1 n2]
        exact n
      · by_cases e1 : c = h'.objs.size
        · subst e1
          rw [zipHp_p] at e
          cases e
          refine ⟨by rw [List.length_map]; omega, acc.toList, c, by rw [ea]; exact LiI.vals_refs as, ?_⟩
          rw [Array.toArray_toList]
          exact eS
        · by_cases e2 : c ∈ as
          · obtain ⟨j, hj⟩ := List.mem_iff_getElem?.mp e2
            obtain ⟨u1, u2, f1, f2, f3⟩ := L.prs j c hj
            have hjl := (List.getElem?_eq_some_iff.mp hj).1
            obtain ⟨x, hx⟩ : ∃ x, xs[j]? = some x := ⟨_, List.getElem?_eq_getElem (by omega)⟩
            obtain ⟨y, hy⟩ : ∃ y, ys[j]? = some y := ⟨_, List.getElem?_eq_getElem (by omega)⟩
            rw [zipHp_at L.rise e1 hj hx hy] at e
            cases e
            obtain ⟨w1, g1, rx⟩ := vx.get hx
            obtain ⟨w2, g2, ry⟩ := vy.get hy
            have f1' : ix[j]? = some u1 := by simpa using f1
            have f2' : iy[j]? = some u2 := by simpa using f2
            rw [g1] at f1'
            cases f1'
            rw [g2] at f2'
            cases f2'
            exact ⟨by show 2 ≤ sizeLine; decide, [u1, u2], .cons rx (.cons ry .nil), ⟨_, f3, rfl, _, rfl⟩⟩
          · rw [zipHp_off e1 e2] at e
            exact (I1.hok c u e).stay (fun d v _ y => old d v y) (fun d y => kpH d _ y) fun d ws y => kpH d _ y
end Pk
namespace Pk
open PySem PySem.Spec PyProof.Rows L2 GxR NdefX
theorem zipHp_kp {H : Hp} {p : Addr} {as : List Addr} {xs ys : List V} (n : H p = none) (h : ∀ t ∈ as, H t = none ∧ t ≠ p) : Kp H (zipHp H p as xs ys) := kp_of fun b o e => by
  rw [zipHp_off (ne_of_none e n) fun z => by rw [(h b z).1] at e; cases e]
  exact e
theorem DtAll.zip {H : Hp} : ∀ {ts : List Addr} {ds es : List PyData}, ts.length = ds.length → es.length = ds.length → (∀ (j : Nat) (t : Addr) (d e : PyData), ts[j]? = some t → ds[j]? = some d → es[j]? = some e → ∃ x y, H t = some (.tup [x, y]) ∧ Dt H x d ∧ Dt H y e) → DtAll H (ts.map V.ref) ((ds.zip es).map fun p => .tuple [p.1, p.2])
  | [], [], [], _, _, _ => .nil
  | [], _ :: _, _, h, _, _ => by cases h
  | _ :: _, [], _, h, _, _ => by cases h
  | _, [], _ :: _, _, h, _ => by cases h
  | _, _ :: _, [], _, h, _ => by cases h
  | t :: ts, d :: ds, e :: es, h1, h2, f => by
    obtain ⟨x, y, q, r1, r2⟩ := f 0 t d e rfl rfl rfl
    exact .cons (.tup q (.cons r1 (.cons r2 .nil))) (DtAll.zip (Nat.succ.inj h1) (Nat.succ.inj h2) fun j t' d' e' a b c => f (j + 1) t' d' e' a b c)
section
variable {b : Bool} {c : Ct} {ta tb : TE} {K : PySem.W.Frag}
/-- list(zip(xs, ys)), as long as one another -/
theorem n_zip {ds es : List PyData} (h : EI c ta ds) (g : EI c tb es) (l : ds.length = es.length) : EN c (tListZip K (tCons ta (tCons tb tNil))) (OL ((ds.zip es).map fun p => .tuple [p.1, p.2])) := fun σ H s Q q =>
  h σ H s _ fun H1 a1 vs k1 e1 r1 => g σ H1 (s.kp k1) _ fun H2 a2 us k2 e2 r2 => by
    have s2 := (s.kp k1).kp k2
    refine ⟨a1, a2, vs, us, rfl, SqL.of (k2.lst e1), SqL.of e2, by rw [r1.len, r2.len]; exact l, fun p as np ha pw al => ?_⟩
    have r1' := r1.kp ((s.kp k1).kb k2)
    -- the pairs alone
    have kA : Kp H2 (wo (zipHp H2 p as vs us) p) := kp_of fun b o e => by
      rw [wo_ne (ne_of_none e np)]
      exact (zipHp_off (ne_of_none e np) fun z => by rw [(ha b z).1] at e; cases e).trans e
    have := q _ p (.lst (as.map V.ref)) ((k1.trans k2).trans kA) wo_at ⟨_, rfl, ?_⟩
    · rw [upd_less zipHp_p] at this
      exact this
    · have kB := s2.kb kA
      refine DtAll.zip (by rw [al, r1.len]) l.symm fun j t d e ht hd he => ?_
      obtain ⟨x, hx, rx⟩ := r1'.at hd
      obtain ⟨y, hy, ry⟩ := r2.at he
      have hm := List.mem_of_getElem? ht
      refine ⟨x, y, ?_, rx.kp kB, ry.kp kB⟩
      have tn : H2 t = none := (ha t hm).1
      rw [bas_out (s2.free tn), wo_ne (ha t hm).2]
      exact zipHp_at pw (ha t hm).2 ht hx hy
theorem n_zipM {α β : Type} {xs : List α} {ys : List β} {f : α → PyData} {g : β → PyData} (h : EI c ta (xs.map f)) (k : EI c tb (ys.map g)) (l : xs.length = ys.length) : EN c (tListZip K (tCons ta (tCons tb tNil))) (OL ((xs.zip ys).map (eT2 f g))) :=
  (n_zip h k (by rw [List.length_map, List.length_map]; exact l)).eqL (by rw [List.zip_map, List.map_map]; rfl)
end
end Pk

namespace Pk
open PySem L2 PySem.Spec PyProof.Rows GxR NdefX
/-! ### any(..), all(..) of a generator expression -/
/-- the slots of the generator's frame -/
def gslots (fr : List (Option Nat)) (g : List Slot) : List Slot := fr.map fun o => match o with
  | none => .any
  | some j => match g[j]? with
    | some (.fz R) => .fz R
    | _ => .any
theorem gslots_fz {fr : List (Option Nat)} {g : List Slot} {i : Nat} {R : Rel} (h : (gslots fr g)[i]? = some (.fz R)) : ∃ j, fr[i]? = some (some j) ∧ g[j]? = some (.fz R) := by
  unfold gslots at h
  rw [List.getElem?_map] at h
  obtain ⟨o, e1, e2⟩ := Option.map_eq_some_iff.mp h
  cases o with
  | none => cases e2
  | some j =>
    refine ⟨j, e1, ?_⟩
    dsimp only at e2
    cases q : g[j]? with
    | none => rw [q] at e2; cases e2
    | some s =>
      rw [q] at e2
      cases s with
      | any => cases e2
      | fz S => cases e2; rfl
      | own C => cases e2
theorem gslots_own {fr : List (Option Nat)} {g : List Slot} {i : Nat} {C : Own} : (gslots fr g)[i]? ≠ some (.own C) := fun h => by
  unfold gslots at h
  rw [List.getElem?_map] at h
  obtain ⟨o, e1, e2⟩ := Option.map_eq_some_iff.mp h
  cases o with
  | none => cases e2
  | some j =>
    dsimp only at e2
    cases q : g[j]? with
    | none => rw [q] at e2; cases e2
    | some s =>
      rw [q] at e2
      cases s <;> cases e2
abbrev omG (c : Ct) (σ : L2.St) : Addr → Prop := fun a => isOwn c.g σ a ∨ c.om a
theorem sta_gen {c : Ct} {σ : L2.St} {H : Hp} (s : Sta c σ H) (fr : List (Option Nat)) : Sta ⟨c.hs, c.h0, omG c σ, gslots fr c.g⟩ (slotsG fr σ) H ∧ bas ⟨c.hs, c.h0, omG c σ, gslots fr c.g⟩ (slotsG fr σ) H = bas c σ H := by
  have eb : bas ⟨c.hs, c.h0, omG c σ, gslots fr c.g⟩ (slotsG fr σ) H = bas c σ H :=
    bas_iff (fun a => ⟨fun z => z.elim (fun ⟨i, C, e, _⟩ => absurd e gslots_own) id, fun z => .inr z⟩) fun _ _ => rfl
  refine ⟨⟨by show (fr.map _).length = (fr.map _).length; rw [List.length_map, List.length_map], fun i R e => ?_, fun i C e => absurd e gslots_own, fun i j C _ _ e => absurd e gslots_own, by rw [eb]; exact s.k0, s.ks, fun a z => ?_⟩, eb⟩
  · obtain ⟨j, e1, e2⟩ := gslots_fz e
    obtain ⟨v, e3, e4⟩ := s.fz j R e2
    refine ⟨v, ?_, by rw [eb]; exact e4⟩
    unfold slotsG
    rw [List.getElem?_map, e1]
    show some ((σ[j]?).join) = _
    rw [e3]
    rfl
  · rcases z with ⟨i, C, e1, e2⟩ | z
    · obtain ⟨p, o, e3, e4, e5, _⟩ := s.own i C e1
      rw [e2] at e3
      cases e3
      exact ⟨o, e4, C.ok e5⟩
    · exact s.hid a z
def dropS (g : List Slot) (is : List Nat) : List Slot := is.foldl (fun g i => g.set i .any) g
theorem Sta.dropS {c : Ct} {σ : L2.St} {H : Hp} : ∀ (is : List Nat) (g : List Slot), Sta (c.at g) σ H → Sta (c.at (Pk.dropS g is)) σ H
  | [], g, s => s
  | i :: is, g, s => by
    have : Sta (c.at (g.set i .any)) σ H := by
      cases e : σ[i]? with
      | none =>
        have q := (s.drop i none).1
        rw [List.set_eq_of_length_le (List.getElem?_eq_none_iff.mp e)] at q
        exact q
      | some o =>
        have q := (s.drop i o).1
        rw [setsame e] at q
        exact q
    exact Sta.dropS is (g.set i .any) this
theorem tabbed_kp {P : Addr} {H H' : Hp} (h : Tabbed P H H') (t : TabG H P) : Kp H H' := Tabbed.kp h t
section
variable {b : Bool} {c : Ct} {K : PySem.W.Frag} {tl te : TE} {g : TG} {PT : Addr} {fr : List (Option Nat)} {is : List Nat} {g0 : List Slot}
/-- the answer of a search -/
theorem srch {α : Type} {xs : List α} {p : α → Bool} (st : Bool) : (if st = true then xs.any p else xs.all p) = if (∀ x ∈ xs, p x = !st) then !st else st := by
  cases st with
  | true =>
    rw [if_pos rfl]
    by_cases h : ∀ x ∈ xs, p x = !true
    · rw [if_pos h]
      exact List.any_eq_false.mpr fun x m => by rw [h x m]; decide
    · rw [if_neg h]
      rw [List.any_eq_true]
      refine Classical.byContradiction fun z => h fun x m => ?_
      cases e : p x with
      | false => rfl
      | true => exact absurd ⟨x, m, e⟩ z
  | false =>
    rw [if_neg Bool.false_ne_true]
    by_cases h : ∀ x ∈ xs, p x = !false
    · rw [if_pos h]
      exact List.all_eq_true.mpr h
    · rw [if_neg h]
      cases e : xs.all p with
      | false => rfl
      | true => exact absurd (List.all_eq_true.mp e) h
theorem e_gen {α : Type} {xs : List α} {enc : α → PyData} {G : α → List Slot} {p : α → Bool} (st : Bool) (hs : EI c tl (xs.map enc)) (eg : gslots fr c.g = g0) (tb : ∀ H, Kp c.h0 H → TabG H PT)
    (hg : ∀ om, ∀ x, x ∈ xs → EG ⟨c.hs, c.h0, om, g0⟩ g (RD (enc x)) (G x) is) (hd : ∀ x, dropS (G x) is = g0)
    (he : ∀ om, ∀ x, x ∈ xs → E false ⟨c.hs, c.h0, om, G x⟩ te (RD (.bool (p x)))) : E b c (tGen PT fr (iList K tl) g te st) (RD (.bool (if st = true then xs.any p else xs.all p))) := by
  refine E.flat (fun σ H s Q q => ?_) rfl
  refine hs σ H s _ fun H1 a us k1 e1 r1 => ⟨a, rfl, ⟨us, SqL.of e1⟩, ?_⟩
  have s1 := s.kp k1
  have tg : TabG H1 PT := tb _ (s1.k0.trans kp_less)
  refine ⟨tg, fun H2 t2 => ?_⟩
  have k2 := tabbed_kp t2 tg
  have s2 := s1.kp k2
  obtain ⟨sg, eb⟩ := sta_gen s2 fr
  rw [eg] at sg eb
  have hl := r1.len
  rw [List.length_map] at hl
  have us2 := k2.lst e1
  have r2 := r1.kp (s1.kb k2)
  rw [← eb] at r2
  have fin : ∀ {v : Bool} {H' : Hp}, Kp H2 H' → (if (∀ x ∈ xs, p x = !st) then !st else st) = v → Q (.bl v) H' := fun {v H'} k e => by
    refine q H' _ ((k1.trans k2).trans k) ?_
    rw [srch, e]
    exact .bl _
  refine ⟨fun i m σ' H' => m = xs.length - i ∧ i ≤ xs.length ∧ Sta ⟨c.hs, c.h0, omG c σ, g0⟩ σ' H' ∧ Kp H2 H' ∧ Kp (bas ⟨c.hs, c.h0, omG c σ, g0⟩ (slotsG fr σ) H2) (bas ⟨c.hs, c.h0, omG c σ, g0⟩ σ' H') ∧ ∀ x ∈ xs.take i, p x = !st, ⟨xs.length, by simp, Nat.zero_le _, sg, Kp.refl _, Kp.refl _, fun x m => by simp at m⟩, ?_⟩
  rintro i m σ' H' ⟨rfl, hi, s', k', kb', hp⟩
  have eL : SqL K H' a us := SqL.of (k'.lst us2)
  by_cases lt : i < xs.length
  · have hx : xs[i]? = some xs[i] := List.getElem?_eq_getElem lt
    have hv : us[i]? = some (us[i]'(by omega)) := List.getElem?_eq_getElem (by omega)
    refine .inr ⟨⟨us, _, eL, hv⟩, fun σ3 H3 => Sta ⟨c.hs, c.h0, omG c σ, g0⟩ σ3 H3 ∧ Kp H2 H3 ∧ Kp (bas ⟨c.hs, c.h0, omG c σ, g0⟩ (slotsG fr σ) H2) (bas ⟨c.hs, c.h0, omG c σ, g0⟩ σ3 H3) ∧ p xs[i] = !st, fun σ3 H3 z => ?_, fun v H3 y => ?_⟩
    · obtain ⟨a1, a2, a3, a4⟩ := z
      refine ⟨xs.length - (i + 1), by omega, rfl, lt, a1, a2, a3, fun x m => ?_⟩
      rw [List.take_succ_eq_append_getElem lt] at m
      rcases List.mem_append.mp m with m | m
      · exact hp x m
      · rw [List.mem_singleton.mp m]
        exact a4
    · obtain ⟨rfl, y⟩ := y
      have hv2 := y us eL
      have hm : xs[i] ∈ xs := List.getElem_mem lt
      obtain ⟨d0, hd0, rv⟩ := r2.at' hv2
      rw [List.getElem?_map, hx] at hd0
      cases hd0
      refine hg (omG c σ) xs[i] hm σ' H3 v s' (rv.kp kb') _ fun σ4 s4 e4 _ => he (omG c σ) xs[i] hm σ4 H3 s4 _ fun H5 y5 k5 r5 => ?_
      cases r5
      refine ⟨p xs[i], rfl, ?_⟩
      by_cases h : p xs[i] = st
      · rw [if_pos h]
        exact fin (k'.trans k5) (if_neg fun z => by rw [z _ hm] at h; cases st <;> cases h)
      · rw [if_neg h]
        have s5 := s4.kp k5
        have s6 := Sta.dropS (c := ⟨c.hs, c.h0, omG c σ, g0⟩) is (G xs[i]) s5
        rw [hd] at s6
        refine ⟨s6, k'.trans k5, kb'.trans ?_, by cases st <;> cases hh : p xs[i] <;> first | rfl | exact absurd hh h⟩
        have kk : Kp (bas ⟨c.hs, c.h0, omG c σ, G xs[i]⟩ σ4 H3) (bas ⟨c.hs, c.h0, omG c σ, G xs[i]⟩ σ4 H5) := s4.kb k5
        have e4' : bas ⟨c.hs, c.h0, omG c σ, G xs[i]⟩ σ4 H3 = bas ⟨c.hs, c.h0, omG c σ, g0⟩ σ' H3 := e4 H3
        rw [e4'] at kk
        refine kk.trans (less_mono fun a z => ?_)
        rcases z with ⟨j, C, q1, q2⟩ | z
        · subst eg
          exact absurd q1 gslots_own
        · exact .inr z
  · have e : i = xs.length := by omega
    subst e
    refine .inl ⟨⟨us, eL, by omega⟩, fin k' (if_pos fun x m => hp x (by rw [List.take_length]; exact m))⟩
theorem e_genR {lo : Int} {n : Nat} {wi : TI} {G : Int → List Slot} {p : Int → Bool} (st : Bool) (hs : EW c wi lo n) (eg : gslots fr c.g = g0) (tb : ∀ H, Kp c.h0 H → TabG H PT)
    (hg : ∀ om, ∀ k : Int, (lo ≤ k ∧ k < lo + n) → EG ⟨c.hs, c.h0, om, g0⟩ g (RD (.int k)) (G k) is) (hd : ∀ x, dropS (G x) is = g0)
    (he : ∀ om, ∀ k : Int, (lo ≤ k ∧ k < lo + n) → E false ⟨c.hs, c.h0, om, G k⟩ te (RD (.bool (p k)))) : E b c (tGen PT fr wi g te st) (RD (.bool (if st = true then (rgI lo n).any p else (rgI lo n).all p))) := by
  refine E.flat (fun σ H s Q q => ?_) rfl
  refine hs σ H s _ fun H1 k1 => ?_
  have s1 := s.kp k1
  have tg : TabG H1 PT := tb _ (s1.k0.trans kp_less)
  refine ⟨tg, fun H2 t2 => ?_⟩
  have k2 := tabbed_kp t2 tg
  have s2 := s1.kp k2
  obtain ⟨sg, eb⟩ := sta_gen s2 fr
  rw [eg] at sg eb
  have fin : ∀ {v : Bool} {H' : Hp}, Kp H2 H' → (if (∀ x ∈ rgI lo n, p x = !st) then !st else st) = v → Q (.bl v) H' := fun {v H'} k e => by
    refine q H' _ ((k1.trans k2).trans k) ?_
    rw [srch, e]
    exact .bl _
  refine ⟨fun i m σ' H' => m = n - i ∧ i ≤ n ∧ Sta ⟨c.hs, c.h0, omG c σ, g0⟩ σ' H' ∧ Kp H2 H' ∧ ∀ k : Int, lo ≤ k → k < lo + i → p k = !st, ⟨n, by simp, Nat.zero_le _, sg, Kp.refl _, fun k h1 h2 => by omega⟩, ?_⟩
  rintro i m σ' H' ⟨rfl, hi, s', k', hp⟩
  by_cases lt : i < n
  · refine .inr ⟨lt, fun σ3 H3 => Sta ⟨c.hs, c.h0, omG c σ, g0⟩ σ3 H3 ∧ Kp H2 H3 ∧ p (lo + (i : Int)) = !st, fun σ3 H3 z => ?_, fun v H3 y => ?_⟩
    · obtain ⟨a1, a2, a4⟩ := z
      refine ⟨n - (i + 1), by omega, rfl, lt, a1, a2, fun k h1 h2 => ?_⟩
      by_cases e : k = lo + (i : Int)
      · rw [e]
        exact a4
      · exact hp k h1 (by omega)
    · obtain ⟨rfl, rfl⟩ := y
      have hm : lo ≤ lo + (i : Int) ∧ lo + (i : Int) < lo + n := by omega
      refine hg (omG c σ) _ hm σ' H3 _ s' (.int _) _ fun σ4 s4 e4 _ => he (omG c σ) _ hm σ4 H3 s4 _ fun H5 y5 k5 r5 => ?_
      cases r5
      refine ⟨p (lo + (i : Int)), rfl, ?_⟩
      by_cases h : p (lo + (i : Int)) = st
      · rw [if_pos h]
        exact fin (k'.trans k5) (if_neg fun z => by rw [z _ (rgI_mem.mpr hm)] at h; cases st <;> cases h)
      · rw [if_neg h]
        have s6 := Sta.dropS (c := ⟨c.hs, c.h0, omG c σ, g0⟩) is (G (lo + (i : Int))) (s4.kp k5)
        rw [hd] at s6
        exact ⟨s6, k'.trans k5, by cases st <;> cases hh : p (lo + (i : Int)) <;> first | rfl | exact absurd hh h⟩
  · have e : i = n := by omega
    subst e
    exact .inl ⟨Nat.le_refl _, fin k' (if_pos fun x m => by
      have := rgI_mem.mp m
      exact hp x this.1 this.2)⟩
end
section
variable {P : Program} {w : World} {K : PySem.W.Frag} {mg : Str → Option Value} {base : Heap}
/-- a def with a generator expression that keeps such a promise -/
theorem fn_okC {x qual : Str} {st : Stmt} {f c : Addr} {fd : FuncData} {N ps : List Str} {k : Nat} {α : Type} {Rs : α → List Rel} {Pr : α → Hp → Prop} {R : α → Rel} (F : FunC K x qual st f c fd) (S : FnScope N ps (defScope st)) (hl : ∀ a, (Rs a).length = ps.length)
    (hbody : ∀ (A : Around) (outer : List Env) (s : Shared) (H : Hp) (E : XK), Room k (A.deeper (envOfC qual (defScope st) s.heap.objs.size f (.ref c))) →
      ∃ t, PSs (cxOf CX0 P w K mg base N qual (defScope st) f (.ref c) A outer s H E).nox (defBody st) t ∧ ∀ (a : α) (hs : Hp) (om : Addr → Prop) (Q : VK), Pr a (less hs om) → (∀ H' v, Kp hs H' → (R a).p (less H' om) v → Q v H') → WC ⟨hs, less hs om, om, slots0 (Rs a) N.length⟩ (t { nx := fun _ H' => Q .non H', rt := Q })) :
    FnOk P w K mg base CX0 (k + 1) f fd ps (Sps Rs Pr R) := by
  refine F.ok S (fun vs H Q E h => ?_) (fun A outer s H vs Q E hr h => ?_)
  · obtain ⟨a, om, ho, hr, _⟩ := h
    rw [hr.len, hl]
  · obtain ⟨a, om, ho, hR, hP, q⟩ := h
    obtain ⟨t, ht, hw⟩ := hbody A outer s H E hr
    exact ⟨t, ht, hw a H om Q hP q _ _ (sta_start ho hR)⟩
end
end Pk

namespace Pk
open PySem L2 PySem.Spec PyProof.Rows GxR NdefX
/-! ### promises of new objects; results that are not told in full -/
def SpN {α : Type} (Rs : α → List Rel) (P : α → Hp → Prop) (C : α → Own) : Sp := fun vs H Q _ => ∃ (a : α) (om : Addr → Prop), Hd H om ∧ Rok (Rs a) (less H om) vs ∧ P a (less H om) ∧
  ∀ H' p o, Kp H H' → H' p = none → (C a).p (less H' om) o → Q (.ref p) (upd H' p o)
def Skn (sp : Sp) (Rs : List Rel) (P : Hp → Prop) (C : Own) : Prop := ∀ H om vs, Hd H om → Rok Rs (less H om) vs → P (less H om) → ∀ (Q : VK) (E : XK), (∀ H' p o, Kp H H' → H' p = none → C.p (less H' om) o → Q (.ref p) (upd H' p o)) → sp vs H Q E
theorem skn_spn {α : Type} {Rs : α → List Rel} {P : α → Hp → Prop} {C : α → Own} (a : α) : Skn (SpN Rs P C) (Rs a) (P a) (C a) := fun H om vs ho hr hp Q E q => ⟨a, om, ho, hr, hp, q⟩
/-- a result of which it is told that it is one of these -/
def SpX {α β : Type} (Rs : α → List Rel) (P : α → Hp → Prop) (R : β → Rel) (G : α → β → Prop) : Sp := fun vs H Q _ => ∃ (a : α) (om : Addr → Prop), Hd H om ∧ Rok (Rs a) (less H om) vs ∧ P a (less H om) ∧ ∀ H' v y, Kp H H' → G a y → (R y).p (less H' om) v → Q v H'
def Skx {β : Type} (sp : Sp) (Rs : List Rel) (P : Hp → Prop) (R : β → Rel) (G : β → Prop) : Prop := ∀ H om vs, Hd H om → Rok Rs (less H om) vs → P (less H om) → ∀ (Q : VK) (E : XK), (∀ H' v y, Kp H H' → G y → (R y).p (less H' om) v → Q v H') → sp vs H Q E
theorem skx_spx {α β : Type} {Rs : α → List Rel} {P : α → Hp → Prop} {R : β → Rel} {G : α → β → Prop} (a : α) : Skx (SpX Rs P R G) (Rs a) (P a) R (G a) := fun H om vs ho hr hp Q E q => ⟨a, om, ho, hr, hp, q⟩
/-- a reading gives a value of which it is told that it is one of these -/
def EX {β : Type} (c : Ct) (t : TE) (R : β → Rel) (G : β → Prop) : Prop := ∀ σ H, Sta c σ H → ∀ Q : VK, (∀ H' v y, Kp H H' → G y → (R y).p (bas c σ H') v → Q v H') → t σ H Q
section
variable {b : Bool} {c : Ct} {R R0 : Rel} {C : Own} {Rs : List Rel} {P : Hp → Prop} {sp : Sp} {te : TE} {ta : TA} {E' : XK} {Cl : Addr} {m : Str} {D : Ends} {i : Nat}
theorem n_call (hsp : Skn sp Rs P C) (ha : EA true c ta Rs) (hp : ∀ H, Kp c.h0 H → P H) : EN c (tCall sp [] E' ta) C := fun σ H s Q q => ha σ H s _ fun H1 vs k1 r1 => by
  rw [List.append_nil]
  refine hsp H1 (msk true c σ) vs (s.kp k1).hd r1 (hp _ ((s.kp k1).k0.trans bas_hb)) Q E' fun H' p o k n r => q H' p o (k1.trans k) n ?_
  rw [← hb_t]
  exact r
theorem n_meth (hi : ∀ H v, R0.p H v → ∃ a dx fs, v = .ref a ∧ H a = some (.ins Cl dx fs) ∧ fs.lookup m = none) (hsp : Skn sp (R0 :: Rs) P C) (ho : E true c te R0) (ha : EA true c ta Rs) (hp : ∀ H, Kp c.h0 H → P H) : EN c (tMeth Cl m sp [] E' te ta) C := fun σ H s Q q =>
  ho σ H s _ fun H1 x k1 r1 => by
    obtain ⟨a, dx, fs, rfl, e, l⟩ := hi _ _ r1
    refine ⟨a, dx, fs, rfl, (less_some e).2, l, ha σ H1 (s.kp k1) _ fun H2 vs k2 r2 => ?_⟩
    rw [List.append_nil]
    have s2 := (s.kp k1).kp k2
    refine hsp H2 (msk true c σ) _ s2.hd ⟨_, _, rfl, R0.mn (hb_kp k2) r1, r2⟩ (hp _ (s2.k0.trans bas_hb)) Q E' fun H' p o k n r => q H' p o ((k1.trans k2).trans k) n ?_
    rw [← hb_t]
    exact r
theorem n_prop (hi : ∀ H v, R0.p H v → ∃ a dx fs, v = .ref a ∧ H a = some (.ins Cl dx fs)) (hsp : Skn sp [R0] P C) (ho : E true c te R0) (hp : ∀ H, Kp c.h0 H → P H) : EN c (tProp Cl sp [] E' te) C := fun σ H s Q q =>
  ho σ H s _ fun H1 x k1 r1 => by
    obtain ⟨a, dx, fs, rfl, e⟩ := hi _ _ r1
    have s1 := s.kp k1
    refine ⟨a, dx, fs, rfl, (less_some e).2, hsp H1 (msk true c σ) _ s1.hd ⟨_, _, rfl, r1, rfl⟩ (hp _ (s1.k0.trans bas_hb)) Q E' fun H' p o k n r => q H' p o (k1.trans k) n ?_⟩
    rw [← hb_t]
    exact r
theorem x_call {β : Type} {R : β → Rel} {G : β → Prop} (hsp : Skx sp Rs P R G) (ha : EA true c ta Rs) (hp : ∀ H, Kp c.h0 H → P H) : EX c (tCall sp [] E' ta) R G := fun σ H s Q q => ha σ H s _ fun H1 vs k1 r1 => by
  rw [List.append_nil]
  refine hsp H1 (msk true c σ) vs (s.kp k1).hd r1 (hp _ ((s.kp k1).k0.trans bas_hb)) Q E' fun H' v y k g r => q H' v y (k1.trans k) g ?_
  rw [← hb_t]
  exact r
theorem s_setX {β : Type} {R : β → Rel} {G : β → Prop} (h : EX c te R G) (q : ∀ y, G y → WC (c.set i (.fz (R y))) D.nx) (hi : Nat.blt i c.g.length = true := by rfl) : WC c (tAsg te (gName i) D) := fun σ H s => h σ H s _ fun H' v y kp g r => 
  q y g _ H' ((s.kp kp).set (by simpa using hi) r).1
theorem s_asgX {β : Type} {R : β → Rel} {G : β → Prop} {g : TG} {g' : β → List Slot} {is : List Nat} (h : EX c te R G) (hg : ∀ y, G y → EG c g (R y) (g' y) is) (q : ∀ y, G y → WC (c.at (g' y)) D.nx) : WC c (tAsg te g D) := fun σ H s => h σ H s _ fun H' v y kp gd r =>
  hg y gd σ H' v (s.kp kp) r _ fun σ' s' _ _ => q y gd σ' H' s'
theorem s_retX {β : Type} {R : β → Rel} {G : β → Prop} (h : EX c te R G) (q : ∀ H' v y, Kp c.hs H' → G y → (R y).p (less H' c.om) v → D.rt v H') : WC c (tRet te D) := fun σ H s => h σ H s _ fun H' v y kp g r => q H' v y (s.ks.trans kp) g ((R y).mn (less_mono fun _ z => .inr z) r)
theorem ex_e {β : Type} {R : β → Rel} {G : β → Prop} (y : β) (h : E true c te (R y)) (g : G y) : EX c te R G := fun σ H s Q q => h σ H s _ fun H' v k r => q H' v y k g (by rw [← hb_t]; exact r)
/-- a new object is handed back -/
theorem s_retNew (h : EN c te C) (q : ∀ H' p o, Kp c.hs H' → H' p = none → C.p (less H' c.om) o → D.rt (.ref p) (upd H' p o)) : WC c (tRet te D) := fun σ H s => h σ H s _ fun H' p o kp n r => q H' p o (s.ks.trans kp) n (C.mn (less_mono fun _ z => .inr z) r)
theorem wo_less {H : Hp} {p : Addr} {M : Addr → Prop} : wo (less H M) p = less (wo H p) M := by
  funext a
  by_cases h : a = p
  · subst h
    by_cases m : M a
    · rw [wo_at, less_in m]
    · rw [wo_at, less_out m, wo_at]
  · by_cases m : M a
    · rw [wo_ne h, less_in m, less_in m]
    · rw [wo_ne h, less_out m, less_out m, wo_ne h]
/-- what was being changed is handed back -/
theorem s_retOwn (e : c.g[i]? = some (.own C)) (q : ∀ H' p o, Kp c.hs H' → H' p = none → C.p (less H' c.om) o → D.rt (.ref p) (upd H' p o)) : WC c (tRet (tVar i) D) := fun σ H s => by
  obtain ⟨p, o, e1, e2, e3, e4, e5⟩ := s.own i C e
  refine ⟨.ref p, e1, ?_⟩
  have := q (wo H p) p o ?_ wo_at ?_
  · rw [upd_less e2] at this
    exact this
  · refine ⟨fun b u hb nt => ?_, fun T t => ?_⟩
    · have n : b ≠ p := fun z => by
        subst z
        obtain ⟨ps, z⟩ := e4.1 u hb
        exact nt ps z
      rw [wo_ne n]
      exact s.ks.at_ b u hb nt
    · have n : T ≠ p := fun z => e4.2 (z ▸ t)
      obtain ⟨qs, h1, h2⟩ := s.ks.tab T t
      exact ⟨qs, by rw [wo_ne n]; exact h1, h2⟩
  · rw [← wo_less]
    refine C.mn (kp_of fun b u hb => ?_) e3
    obtain ⟨nb, hb'⟩ := less_some hb
    have n : b ≠ p := fun z => nb (.inl ⟨i, C, e, by rw [z]; exact e1⟩)
    rw [wo_ne n, less_out fun z => nb (.inr z)]
    exact hb'
end
section
variable {P : Program} {w : World} {K : PySem.W.Frag} {mg : Str → Option Value} {base : Heap} {x qual : Str} {st : Stmt} {f c : Addr} {fd : FuncData} {N ps : List Str} {k : Nat} {α β : Type} {Rs : α → List Rel} {Pr : α → Hp → Prop} {C : α → Own} {R : β → Rel} {G : α → β → Prop}
theorem fn_okN (F : Fun K x qual st f fd) (S : FnScope N ps (defScope st)) (hl : ∀ a, (Rs a).length = ps.length)
    (hbody : ∀ (cdv : Value) (A : Around) (outer : List Env) (s : Shared) (H : Hp) (E : XK), Room k (A.deeper (envOfC qual (defScope st) s.heap.objs.size f cdv)) →
      ∃ t, PSs (cxOf CX0 P w K mg base N qual (defScope st) f cdv A outer s H E).nox (defBody st) t ∧ ∀ (a : α) (hs : Hp) (om : Addr → Prop) (Q : VK), Pr a (less hs om) → (∀ H' p o, Kp hs H' → H' p = none → (C a).p (less H' om) o → Q (.ref p) (upd H' p o)) → WC ⟨hs, less hs om, om, slots0 (Rs a) N.length⟩ (t { nx := fun _ H' => Q .non H', rt := Q })) :
    FnOk P w K mg base CX0 (k + 1) f fd ps (SpN Rs Pr C) := by
  refine F.ok S (fun vs H Q E h => ?_) (fun cdv A outer s H vs Q E hr h => ?_)
  · obtain ⟨a, om, ho, hr, _⟩ := h
    rw [hr.len, hl]
  · obtain ⟨a, om, ho, hR, hP, q⟩ := h
    obtain ⟨t, ht, hw⟩ := hbody cdv A outer s H E hr
    exact ⟨t, ht, hw a H om Q hP q _ _ (sta_start ho hR)⟩
theorem fn_okX (F : Fun K x qual st f fd) (S : FnScope N ps (defScope st)) (hl : ∀ a, (Rs a).length = ps.length)
    (hbody : ∀ (cdv : Value) (A : Around) (outer : List Env) (s : Shared) (H : Hp) (E : XK), Room k (A.deeper (envOfC qual (defScope st) s.heap.objs.size f cdv)) →
      ∃ t, PSs (cxOf CX0 P w K mg base N qual (defScope st) f cdv A outer s H E).nox (defBody st) t ∧ ∀ (a : α) (hs : Hp) (om : Addr → Prop) (Q : VK), Pr a (less hs om) → (∀ H' v y, Kp hs H' → G a y → (R y).p (less H' om) v → Q v H') → WC ⟨hs, less hs om, om, slots0 (Rs a) N.length⟩ (t { nx := fun _ H' => Q .non H', rt := Q })) :
    FnOk P w K mg base CX0 (k + 1) f fd ps (SpX Rs Pr R G) := by
  refine F.ok S (fun vs H Q E h => ?_) (fun cdv A outer s H vs Q E hr h => ?_)
  · obtain ⟨a, om, ho, hr, _⟩ := h
    rw [hr.len, hl]
  · obtain ⟨a, om, ho, hR, hP, q⟩ := h
    obtain ⟨t, ht, hw⟩ := hbody cdv A outer s H E hr
    exact ⟨t, ht, hw a H om Q hP q _ _ (sta_start ho hR)⟩
theorem fn_okNC (F : FunC K x qual st f c fd) (S : FnScope N ps (defScope st)) (hl : ∀ a, (Rs a).length = ps.length)
    (hbody : ∀ (A : Around) (outer : List Env) (s : Shared) (H : Hp) (E : XK), Room k (A.deeper (envOfC qual (defScope st) s.heap.objs.size f (.ref c))) →
      ∃ t, PSs (cxOf CX0 P w K mg base N qual (defScope st) f (.ref c) A outer s H E).nox (defBody st) t ∧ ∀ (a : α) (hs : Hp) (om : Addr → Prop) (Q : VK), Pr a (less hs om) → (∀ H' p o, Kp hs H' → H' p = none → (C a).p (less H' om) o → Q (.ref p) (upd H' p o)) → WC ⟨hs, less hs om, om, slots0 (Rs a) N.length⟩ (t { nx := fun _ H' => Q .non H', rt := Q })) :
    FnOk P w K mg base CX0 (k + 1) f fd ps (SpN Rs Pr C) := by
  refine F.ok S (fun vs H Q E h => ?_) (fun A outer s H vs Q E hr h => ?_)
  · obtain ⟨a, om, ho, hr, _⟩ := h
    rw [hr.len, hl]
  · obtain ⟨a, om, ho, hR, hP, q⟩ := h
    obtain ⟨t, ht, hw⟩ := hbody A outer s H E hr
    exact ⟨t, ht, hw a H om Q hP q _ _ (sta_start ho hR)⟩
end
/-- a list of the script's numbers, locked -/
def RScr (K : PySem.W.Frag) (ns : List Int) : Rel := ⟨fun H v => ∃ a, v = .ref a ∧ SqL K H a (ns.map V.int), fun k ⟨a, e, h⟩ => ⟨a, e, k.seq h⟩⟩
/-- repr(b) -/
def rReprB : List V → Hp → VK → Prop := fun xs H Q => ∃ b : Bool, xs = [.bl b] ∧ Q (.str (if b then "True" else "False")) H
theorem call_reprB {X : Cx} : CallR X (.builtin "repr") rReprB := by
  intro pins s σ H xs us Q I r h
  obtain ⟨b, rfl, q⟩ := h
  obtain ⟨u, rfl, t⟩ := vals1 r
  cases (show u = Value.bool b from t)
  exact PySem.P.repr_of_bool ⟨.str _, H, I.tok _, ⟨_, rfl⟩, q⟩
def bText (b : Bool) : Str := if b then "True" else "False"
theorem bText_inj {a b : Bool} : (bText a = bText b) ↔ a = b := by
  cases a <;> cases b <;> decide +kernel
theorem o_reprB {b : Bool} : On rReprB [RD (.bool b)] (RD (.str (bText b))) := fun H M vs _ r Q q => by
  obtain ⟨v, r', rfl, h1, rfl⟩ := r
  cases h1
  exact ⟨_, rfl, q H _ (Kp.refl _) (.str _)⟩
end Pk

namespace Pk
open PySem L2 PySem.Spec PyProof.Rows GxR NdefX
/-- a list taken apart -/
theorem g_lst {K : PySem.W.Frag} {c : Ct} {n : Nat} {u : TGs} {ds : List PyData} {g1 : List Slot} {is : List Nat} (h : EGs c u ds g1 is) (e : ds.length = n := by rfl) : EG c (gLst K n u) (RD (.list ds)) g1 is := fun σ H v s r Q q => by
  cases r with
  | lst e1 a => exact ⟨_, _, rfl, SqL.of (less_some e1).2, by rw [a.len]; exact e, h σ H _ s a Q q⟩
/-- a tuple of two things -/
def RT2 (R S : Rel) : Rel := ⟨fun H v => ∃ t x y, v = .ref t ∧ H t = some (.tup [x, y]) ∧ R.p H x ∧ S.p H y, fun k ⟨t, x, y, e, h, r, s⟩ => ⟨t, x, y, e, k.tup h, R.mn k r, S.mn k s⟩⟩
theorem g_tup2 {K : PySem.W.Frag} {c : Ct} {R S : Rel} {t1 t2 : TG} {g1 g2 : List Slot} {is js : List Nat} (h1 : EG c t1 R g1 is) (h2 : EG (c.at g1) t2 S g2 js) : EG c (gTup K 2 (gCons t1 (gCons t2 gNil))) (RT2 R S) g2 (is ++ js) := fun σ H v s r Q q => by
  obtain ⟨t, x, y, rfl, e, rx, ry⟩ := r
  refine ⟨t, _, rfl, SqT.of (less_some e).2, rfl, x, _, rfl, h1 σ H x s rx _ fun σ1 s1 e1 w1 => ⟨y, _, rfl, h2 σ1 H y s1 (by rw [e1]; exact ry) _ fun σ2 s2 e2 w2 => ⟨rfl, q σ2 s2 (fun H' => (e2 H').trans (e1 H')) fun vs hv => ?_⟩⟩⟩
  exact (w2 vs fun i m => hv i (List.mem_append_right _ m)).trans (w1 vs fun i m => hv i (List.mem_append_left _ m))
/-! ### a new list of two new lists, which are then changed -/
def Told (c : Ct) (i n m : Nat) (σ : L2.St) (H : Hp) : Prop := ∃ σ0 H0 p p1 p2 vs us, Sta c σ0 H0 ∧ σ = σ0.set i (some (.ref p)) ∧ Kp H0 H ∧ Fre H0 p1 ∧ Fre H0 p2 ∧ p1 ≠ p ∧ p2 ≠ p ∧ p1 ≠ p2 ∧ H p = some (.lst [.ref p1, .ref p2]) ∧ H p1 = some (.lst vs) ∧ H p2 = some (.lst us) ∧ vs.length + n ≤ sizeLine ∧ us.length + m ≤ sizeLine
def WT (c : Ct) (i n m : Nat) (k : L2.St → Hp → Prop) : Prop := ∀ σ H, Told c i n m σ H → k σ H
section
variable {c : Ct} {ta tb : TE} {ds es : List PyData} {i n m : Nat} {D : Ends} {k : L2.St → Hp → Prop} {K : PySem.W.Frag}
theorem wt_seq {a u : TS} (h : WT c i n m (a { D with nx := u D })) : WT c i n m (tSeq a u D) := h
/-- told = [.., ..]; if told ..: never -/
theorem s_told {tt : TT} {a u : TS} (ha : EN c ta (OL ds)) (hb : EN c tb (OL es)) (he : c.g[i]? = some .any) (ld : ds.length + n ≤ 16777216) (le : es.length + m ≤ 16777216)
    (ht : ET (c.set i (.fz (RD (.list [.list ds, .list es])))) tt false) (q : WT c i n m (u D)) : WC c (tSeq (tAsg (tLst (tCons ta (tCons tb tNil))) (gName i)) (tSeq (tIfS tt a tNext) u) D) := fun σ H s => by
  have hi : i < c.g.length := (List.getElem?_eq_some_iff.mp he).1
  refine ha σ H s _ fun H1 p1 o1 k1 n1 c1 => hb σ (upd H1 p1 o1) (s.kp (k1.trans (kp_new n1))) _ fun H2 p2 o2 k2 n2 c2 => ⟨(by decide : 2 ≤ sizeLine), fun p n3 => ?_⟩
  obtain ⟨vs, rfl, dv⟩ := c1
  obtain ⟨us, rfl, du⟩ := c2
  have e1 : H2 p1 = some (.lst vs) := k2.lst upd_same
  have n12 : p1 ≠ p2 := ne_of_none e1 n2
  have e1' : (upd H2 p2 (.lst us)) p1 = some (.lst vs) := by rw [upd_ne n12]; exact e1
  have e2' : (upd H2 p2 (.lst us)) p2 = some (.lst us) := upd_same
  have n1p : p1 ≠ p := ne_of_none e1' n3
  have n2p : p2 ≠ p := ne_of_none e2' n3
  have kH1 : Kp H H1 := k1
  have kH2 : Kp H H2 := (k1.trans (kp_new n1)).trans k2
  have kU : Kp H (upd H2 p2 (.lst us)) := kH2.trans (kp_new n2)
  have kA : Kp H (upd (upd H2 p2 (.lst us)) p (.lst [.ref p1, .ref p2])) := kU.trans (kp_new n3)
  have s3 := s.kp kA
  have kv : Kp (bas c σ H1) (bas c σ (upd (upd H2 p2 (.lst us)) p (.lst [.ref p1, .ref p2]))) := (s.kp k1).kb ((((kp_new n1).trans k2).trans (kp_new n2)).trans (kp_new n3))
  have ku : Kp (bas c σ H2) (bas c σ (upd (upd H2 p2 (.lst us)) p (.lst [.ref p1, .ref p2]))) := (s.kp kH2).kb ((kp_new n2).trans (kp_new n3))
  have b1 : bas c σ (upd (upd H2 p2 (.lst us)) p (.lst [.ref p1, .ref p2])) p1 = some (.lst vs) := by
    rw [bas_out ((s.kp k1).free n1), upd_ne n1p]
    exact e1'
  have b2 : bas c σ (upd (upd H2 p2 (.lst us)) p (.lst [.ref p1, .ref p2])) p2 = some (.lst us) := by
    rw [bas_out ((s.kp kH2).free n2), upd_ne n2p]
    exact e2'
  have b3 : bas c σ (upd (upd H2 p2 (.lst us)) p (.lst [.ref p1, .ref p2])) p = some (.lst [.ref p1, .ref p2]) := by
    rw [bas_out ((s.kp kU).free n3), upd_same]
  have dd : (RD (.list [.list ds, .list es])).p (bas c σ (upd (upd H2 p2 (.lst us)) p (.lst [.ref p1, .ref p2]))) (.ref p) :=
    .lst b3 (.cons (.lst b1 (dv.kp kv)) (.cons (.lst b2 (du.kp ku)) .nil))
  refine ht _ _ (s3.set hi dd).1 _ fun H4 k4 => ?_
  rw [if_neg Bool.false_ne_true]
  exact q _ _ ⟨σ, H, p, p1, p2, vs, us, s, rfl, kA.trans k4, .of k1 n1, .of kH2 n2, n1p, n2p, n12, k4.lst upd_same, k4.lst (by rw [upd_ne n1p]; exact e1'), k4.lst (by rw [upd_ne n2p]; exact e2'), by rw [dv.len]; exact ld, by rw [du.len]; exact le⟩
theorem set_at {c : Ct} {σ : L2.St} {H : Hp} (s : Sta c σ H) (he : c.g[i]? = some .any) {o : Option V} : (σ.set i o)[i]? = some o := by
  rw [List.getElem?_set_self]
  rw [s.len]
  exact (List.getElem?_eq_some_iff.mp he).1
/-- told[0].append(..) -/
theorem wt_app0 {z : V} (he : c.g[i]? = some .any) (q : WT c i n m D.nx) : WT c i (n + 1) m (tDrop (tBM K "list" rAppend (tOp (rIxL K) (tVar i) (tC (.int 0))) (tCons (tC z) tNil)) D) := fun σ H h => by
  obtain ⟨σ0, H0, p, p1, p2, vs, us, s, rfl, k, f1, f2, a1, a2, a3, e, e1, e2, l1, l2⟩ := h
  refine ⟨_, set_at s he, p, _, 0, _, rfl, rfl, SqL.of e, rfl, .inl ⟨rfl, vs, SqL.of e1⟩, p1, vs, _, rfl, rfl, e1, by omega, q _ _ ?_⟩
  refine ⟨σ0, H0, p, p1, p2, _, us, s, rfl, f1.upd k, f1, f2, a1, a2, a3, ?_, upd_same, ?_, ?_, l2⟩
  · rw [upd_ne fun z => a1 z.symm]; exact e
  · rw [upd_ne fun z => a3 z.symm]; exact e2
  · rw [List.length_append]
    show vs.length + 1 + n ≤ _
    omega
theorem wt_app1 {z : V} (he : c.g[i]? = some .any) (q : WT c i n m D.nx) : WT c i n (m + 1) (tDrop (tBM K "list" rAppend (tOp (rIxL K) (tVar i) (tC (.int 1))) (tCons (tC z) tNil)) D) := fun σ H h => by
  obtain ⟨σ0, H0, p, p1, p2, vs, us, s, rfl, k, f1, f2, a1, a2, a3, e, e1, e2, l1, l2⟩ := h
  refine ⟨_, set_at s he, p, _, 1, _, rfl, rfl, SqL.of e, rfl, .inl ⟨rfl, us, SqL.of e2⟩, p2, us, _, rfl, rfl, e2, by omega, q _ _ ?_⟩
  refine ⟨σ0, H0, p, p1, p2, vs, _, s, rfl, f2.upd k, f1, f2, a1, a2, a3, ?_, ?_, upd_same, l1, ?_⟩
  · rw [upd_ne fun z => a2 z.symm]; exact e
  · rw [upd_ne a3]; exact e1
  · rw [List.length_append]
    show us.length + 1 + m ≤ _
    omega
/-- told[0].clear() -/
theorem wt_clr0 (he : c.g[i]? = some .any) (q : WT c i n m D.nx) : WT c i n m (tDrop (tBM0 K "list" rClear (tOp (rIxL K) (tVar i) (tC (.int 0)))) D) := fun σ H h => by
  obtain ⟨σ0, H0, p, p1, p2, vs, us, s, rfl, k, f1, f2, a1, a2, a3, e, e1, e2, l1, l2⟩ := h
  refine ⟨_, set_at s he, p, _, 0, _, rfl, rfl, SqL.of e, rfl, .inl ⟨rfl, vs, SqL.of e1⟩, p1, vs, rfl, rfl, e1, q _ _ ?_⟩
  refine ⟨σ0, H0, p, p1, p2, [], us, s, rfl, f1.upd k, f1, f2, a1, a2, a3, ?_, upd_same, ?_, ?_, l2⟩
  · rw [upd_ne fun z => a1 z.symm]; exact e
  · rw [upd_ne fun z => a3 z.symm]; exact e2
  · show 0 + n ≤ _
    omega
theorem wt_clr1 (he : c.g[i]? = some .any) (q : WT c i n m D.nx) : WT c i n m (tDrop (tBM0 K "list" rClear (tOp (rIxL K) (tVar i) (tC (.int 1)))) D) := fun σ H h => by
  obtain ⟨σ0, H0, p, p1, p2, vs, us, s, rfl, k, f1, f2, a1, a2, a3, e, e1, e2, l1, l2⟩ := h
  refine ⟨_, set_at s he, p, _, 1, _, rfl, rfl, SqL.of e, rfl, .inl ⟨rfl, us, SqL.of e2⟩, p2, us, rfl, rfl, e2, q _ _ ?_⟩
  refine ⟨σ0, H0, p, p1, p2, vs, [], s, rfl, f2.upd k, f1, f2, a1, a2, a3, ?_, ?_, upd_same, l1, ?_⟩
  · rw [upd_ne fun z => a2 z.symm]; exact e
  · rw [upd_ne a3]; exact e1
  · show 0 + m ≤ _
    omega
/-- nothing more is said of it -/
theorem wt_done (he : c.g[i]? = some .any) (q : WC c k) : WT c i n m k := fun σ H h => by
  obtain ⟨σ0, H0, p, p1, p2, vs, us, s, rfl, kp, _⟩ := h
  have := ((s.kp kp).drop i (some (.ref p))).1
  rw [show c.set i .any = c from by
    unfold Ct.set
    rw [setsame he]] at this
  exact q _ _ this
end
/-! ### a law's own body: nothing is hidden -/
def noOwn (g : List Slot) : Bool := g.all fun s => notOwn (some s)
theorem bas_all {hs h0 : Hp} {g : List Slot} {σ : L2.St} {H : Hp} (h : noOwn g = true) : bas ⟨hs, h0, fun _ => False, g⟩ σ H = H := by
  funext a
  refine bas_out ?_
  rintro (⟨i, C, e, _⟩ | z)
  · have := List.all_eq_true.mp h _ (List.mem_of_getElem? e)
    cases this
  · exact z
theorem less_no {H : Hp} : less H (fun _ => False) = H := by
  funext a
  exact less_out id
/-- promises told of the whole heap -/
def Skx0 {β : Type} (sp : Sp) (Rs : List Rel) (P : Hp → Prop) (R : β → Rel) (G : β → Prop) : Prop := ∀ H vs, Rok Rs H vs → P H → ∀ (Q : VK) (E : XK), (∀ H' v y, Kp H H' → G y → (R y).p H' v → Q v H') → sp vs H Q E
section
variable {hs h0 : Hp} {g : List Slot} {R : Rel} {C : Own} {Rs : List Rel} {P : Hp → Prop} {sp : Sp} {te : TE} {ta : TA} {E' : XK} {Cl : Addr} {m : Str} {D : Ends}
theorem x_call0 {β : Type} {R : β → Rel} {G : β → Prop} (hsp : Skx0 sp Rs P R G) (ha : EA true ⟨hs, h0, fun _ => False, g⟩ ta Rs) (hp : ∀ H, Kp h0 H → P H) (no : noOwn g = true := by rfl) : EX ⟨hs, h0, fun _ => False, g⟩ (tCall sp [] E' ta) R G := fun σ H s Q q => ha σ H s _ fun H1 vs k1 r1 => by
  rw [List.append_nil]
  rw [hb_t, bas_all no] at r1
  have k0 := (s.kp k1).k0
  rw [bas_all no] at k0
  refine hsp H1 vs r1 (hp _ k0) Q E' fun H' v y k gd r => q H' v y (k1.trans k) gd ?_
  rw [bas_all no]
  exact r
/-- what holds of the heap at the start holds now -/
theorem kp_all {σ : L2.St} {H : Hp} (s : Sta ⟨hs, h0, fun _ => False, g⟩ σ H) (no : noOwn g = true) : Kp h0 H := by
  have k0 := s.k0
  rw [bas_all no] at k0
  exact k0
theorem wo_of {H : Hp} {l : Addr} {o : HO} {t : Addr} {xs : List V} (e : H t = some (.tup xs)) (el : H l = some o) (n : ∀ xs, o ≠ .tup xs) : wo H l t = some (.tup xs) := by
  have ne : ¬ t = l := fun z => by
    subst z
    rw [el] at e
    cases e
    exact n xs rfl
  rw [wo_ne ne]
  exact e
/-- a task: two places and a list of places, which is then changed -/
theorem s_task3 {K : PySem.W.Frag} {c : Ct} {i j k : Nat} {good : Pl → Pl → List Pl → Prop}
    (h : ∀ σ H, Sta c σ H → ∀ Q : VK, (∀ H1 H' t va vb l xs st en ps, Kp H H1 → Kp H1 H' → H' t = some (.tup [va, vb, .ref l]) → Pr H' va st → Pr H' vb en → H1 l = none → H' l = some (.lst xs) → Prs H' xs ps → good st en ps → Q (.ref t) H') → te σ H Q)
    (q : ∀ st en ps, good st en ps → WC (((c.set i (.fz (RD (dP st)))).set j (.fz (RD (dP en)))).set k (.own (OL (ps.map dP)))) D.nx)
    (hi : i < c.g.length) (hj : j < c.g.length) (hk : k < c.g.length) : WC c (tAsg te (gTup K 3 (gCons (gName i) (gCons (gName j) (gCons (gName k) gNil)))) D) := fun σ H s => by
  refine h σ H s _ fun H1 H' t va vb l xs st en ps k1 kp et pa pb nl el px gd => ⟨t, _, rfl, SqT.of et, rfl, va, _, rfl, vb, _, rfl, .ref l, _, rfl, rfl, ?_⟩
  have kw : Kp H (wo H' l) := by
    refine ⟨fun b o e nt => ?_, fun T tt => ?_⟩
    · have e1 := k1.at_ b o e nt
      rw [wo_ne (ne_of_none e1 nl)]
      exact kp.at_ b o e1 nt
    · obtain ⟨ps', e1, e2⟩ := k1.tab T tt
      obtain ⟨qs, f1, f2⟩ := kp.tab T (k1.tab T tt)
      exact ⟨qs, by rw [wo_ne (ne_of_none e1 nl)]; exact f1, f2⟩
  have noT : ∀ ys, HO.lst xs ≠ .tup ys := fun ys z => by cases z
  have pw : ∀ {v : V} {p : Pl}, Pr H' v p → Dt (wo H' l) v (dP p) := fun {v p} ⟨u, e, f⟩ => by
    subst e
    exact .tup (wo_of f el noT) (.cons (.int _) (.cons (.int _) .nil))
  have flatb : ∀ {c : Ct} {σ : L2.St} {H : Hp} {v : V} {p : Pl}, Sta c σ H → Dt H v (dP p) → Dt (bas c σ H) v (dP p) := fun {c σ H v p} s d => by
    have := Dt.less (fun a m => s.hides (b := true) a m) d rfl
    rw [← hb_t]
    exact this
  have s1 := s.kp kw
  obtain ⟨s2, _⟩ := s1.set (R := RD (dP st)) hi (flatb s1 (pw pa))
  obtain ⟨s3, _⟩ := s2.set (i := j) (R := RD (dP en)) (by rw [List.length_set]; exact hj) (flatb s2 (pw pb))
  have dl : DtAll (bas ((c.set i (.fz (RD (dP st)))).set j (.fz (RD (dP en)))) ((σ.set i (some va)).set j (some vb)) (wo H' l)) xs (ps.map dP) := by
    have : ∀ {vs : List V} {qs : List Pl}, Prs H' vs qs → DtAll (bas ((c.set i (.fz (RD (dP st)))).set j (.fz (RD (dP en)))) ((σ.set i (some va)).set j (some vb)) (wo H' l)) vs (qs.map dP) := fun h => by
      induction h with
      | nil => exact .nil
      | cons a _ ih => exact .cons (flatb s3 (pw a)) ih
    exact this px
  have s4 := (s3.new (i := k) (C := OL (ps.map dP)) (p := l) (o := .lst xs) (by rw [List.length_set, List.length_set]; exact hk) wo_at ⟨xs, rfl, dl⟩).1
  rw [upd_less el] at s4
  exact q st en ps gd _ H' s4
end
section
variable {P : Program} {w : World} {K : PySem.W.Frag} {mg : Str → Option Value} {base : Heap} {x qual : Str} {st : Stmt} {f c : Addr} {fd : FuncData} {N ps : List Str} {k : Nat}
/-- a law: for each script, with these tables, True -/
def spLawT (K : PySem.W.Frag) (Ts : List Addr) : Sp := fun vs H Q _ => ∃ (a : Addr) (ns : List Int), vs = [.ref a] ∧ SqL K H a (ns.map V.int) ∧ ns.length ≤ 63 ∧ (∀ T ∈ Ts, TabG H T) ∧ ∀ H', Q (.bl true) H'
theorem fn_okL {Ts : List Addr} (F : Fun K x qual st f fd) (S : FnScope N ["script"] (defScope st))
    (hbody : ∀ (cdv : Value) (A : Around) (outer : List Env) (s : Shared) (H : Hp) (E : XK), Room k (A.deeper (envOfC qual (defScope st) s.heap.objs.size f cdv)) →
      ∃ t, PSs (cxOf CX0 P w K mg base N qual (defScope st) f cdv A outer s H E).nox (defBody st) t ∧ ∀ (ns : List Int) (hs : Hp) (Q : VK), ns.length ≤ 63 → (∀ T ∈ Ts, TabG hs T) → (∀ H', Q (.bl true) H') → WC ⟨hs, hs, fun _ => False, slots0 [RScr K ns] N.length⟩ (t { nx := fun _ H' => Q .non H', rt := Q })) :
    FnOk P w K mg base CX0 (k + 1) f fd ["script"] (spLawT K Ts) := by
  refine F.ok S (fun vs H Q E h => ?_) (fun cdv A outer s H vs Q E hr h => ?_)
  · obtain ⟨a, ns, rfl, _⟩ := h
    rfl
  · obtain ⟨a, ns, rfl, hS, hl, hT, q⟩ := h
    obtain ⟨t, ht, hw⟩ := hbody cdv A outer s H E hr
    have z := sta_start (H := H) (om := fun _ => False) (Rs := [RScr K ns]) (N := N) (vs := [.ref a]) (fun _ z => z.elim) ⟨_, _, rfl, ⟨a, rfl, by rw [less_no]; exact hS⟩, rfl⟩
    rw [less_no] at z
    exact ⟨t, ht, hw ns H Q hl hT q _ _ z⟩
end
end Pk

namespace Pk
open PySem L2 PySem.Spec PyProof.Rows GxR NdefX
/-! ### a law whose own body shows things: no guard stands when it is asked -/
/-- the law, asked by the caller -/
def AskOk (P : Program) (w : World) (K : PySem.W.Frag) (mg : Str → Option Value) (base : Heap) (f : Addr) (fd : FuncData) (x : Str) (sp : Sp) : Prop :=
  ∀ (s : Shared) (H : Hp) (us : List Value) (vs : List V) (Q : VK), Env0 P w K mg base callerA [] s H → BindsTo s fd ⟨us, []⟩ ([x].zip us) → Vals vs us → sp vs H Q (fun _ _ _ => False) →
    codeAny (model P w) callerA (.call (.ref f) ⟨us, []⟩) (CR CX0 [] P w H s Q fun _ _ _ => False) s
section
variable {P : Program} {w : World} {K : PySem.W.Frag} {mg : Str → Option Value} {base : Heap} {x qual : Str} {st : Stmt} {f : Addr} {fd : FuncData} {N : List Str} {y : Str} {sp : Sp} {k : Nat}
theorem ask_of (F : Fun K x qual st f fd) (S : FnScope N [y] (defScope st)) (room : Room (k + 1) callerA) (one : ∀ vs H Q E, sp vs H Q E → vs.length = 1)
    (body : ∀ (cd : Value) (A : Around) (out : List Env) (s : Shared) (H : Hp) (vs : List V) (Q : VK) (E : XK), Room k (A.deeper (envOfC qual (defScope st) s.heap.objs.size f cd)) → (A.deeper (envOfC qual (defScope st) s.heap.objs.size f cd)).guards = some [] → sp vs H Q E →
      ∃ t, PSs (cxOf CX0 P w K mg base N qual (defScope st) f cd A out s H E).nox (defBody st) t ∧ t { nx := fun _ G => Q .non G, rt := Q } (start N vs) H) : AskOk P w K mg base f fd y sp := by
  obtain ⟨_, _, _, _, _, _, cd, _, _, rfl, at_, code⟩ := F.ex
  intro s H us vs Q env0 binds vals said
  have one' : vs.length = [y].length := one vs H Q _ said
  have inK : K.In s.heap := env0.mod.kin.keeps fun b o e => (env0.bs b o e).left
  refine codeAny_call_function room.depth (inK _ _ at_) rfl S.co S.gen rfl (PySem.W.codeRec_of inK code) (binds _ _ _ _ (wpAny_newFunctionEnv_cells S.kind (fun z hz => ?_) fun env e s1 call => ?_))
  · obtain ⟨n, v⟩ := z
    exact (S.par n (List.of_mem_zip hz).left).imp id fun c => ⟨c, PySem.W.cellsFrom_some _ _ _ (.inl c)⟩
  · subst e
    refine ⟨(env0.mod.nolimit.keeps fun b o e => (env0.bs b o e).left).keeps call.toInCall.keep, codeAny_func ?_⟩
    obtain ⟨t, term, reads⟩ := body cd callerA [] s H vs Q _ (room.deeper _) rfl said
    have I0 := inv_start (CX := CX0) (E := fun _ _ _ => False) S room.hd env0 one' vals call
    refine wpAny_mono (term.nox.run [] s1 (start N vs) H _ I0 reads) (fun end_ s2 h => ?_) fun _ _ h => h
    match end_, h with
    | .ret u, ⟨v, _, G, J, r, q⟩ => exact ⟨v, G, J.os, J.bare, J.base, J.hok, r, q⟩
    | .next, ⟨_, G, J, q⟩ => exact ⟨.non, G, J.os, J.bare, J.base, J.hok, rfl, q⟩
    | .brk, ⟨_, _, _, q⟩ => exact q.elim
    | .cont, ⟨_, _, _, q⟩ => exact q.elim
end
section
variable {P : Program} {w : World} {K : PySem.W.Frag} {mg mb : Str → Option Value} {fa a : Addr} {cs : List (Addr × Addr)} {fd : FuncData} {x : Str} {sp : Sp} {s₁ : Shared} {vs : List Value} {ns : List Int}
/-- the heap that is told of: the tables, and the script where it stands in no known part -/
noncomputable def askHp (K : PySem.W.Frag) (a : Addr) (ts : List Addr) (vs : List Value) (ns : List Int) : Hp := fun b =>
  if b ∈ ts then some (.tbl #[]) else if b = a ∧ K.lookup a = none then some (.frz { cls := .type "list", data := .seq vs.toArray } (.lst (ns.map V.int))) else none
theorem askHp_t {ts : List Addr} {b : Addr} (h : b ∈ ts) : askHp K a ts vs ns b = some (.tbl #[]) := if_pos h
theorem askHp_a {ts : List Addr} (h : a ∉ ts) (n : K.lookup a = none) : askHp K a ts vs ns a = some (.frz { cls := .type "list", data := .seq vs.toArray } (.lst (ns.map V.int))) := (if_neg h).trans (if_pos ⟨rfl, n⟩)
theorem askHp_no {ts : List Addr} {b : Addr} (h : b ∉ ts) (n : ¬ (b = a ∧ K.lookup a = none)) : askHp K a ts vs ns b = none := (if_neg h).trans (if_neg n)
theorem askHp_cases {ts : List Addr} (b : Addr) : (b ∈ ts ∧ askHp K a ts vs ns b = some (.tbl #[])) ∨ (b ∉ ts ∧ b = a ∧ K.lookup a = none ∧ askHp K a ts vs ns b = some (.frz { cls := .type "list", data := .seq vs.toArray } (.lst (ns.map V.int)))) ∨ (b ∉ ts ∧ ¬ (b = a ∧ K.lookup a = none) ∧ askHp K a ts vs ns b = none) := by
  by_cases h : b ∈ ts
  · exact .inl ⟨h, askHp_t h⟩
  · by_cases z : b = a ∧ K.lookup a = none
    · obtain ⟨rfl, n⟩ := z
      exact .inr (.inl ⟨h, rfl, n, askHp_a h n⟩)
    · exact .inr (.inr ⟨h, z, askHp_no h z⟩)
theorem ask_run (KX : K.In s₁.heap) (hns : s₁.heap.Ns mainGlobals mg) (hb : s₁.heap.Ns builtinsNs mb) (hbb : ∀ x : Str, x ≠ "__name__" → mb x = bootBuiltins x) (hlim : s₁.heap.NoLimit) (hg : s₁.gens = #[])
    (hT : ∀ p ∈ cs, s₁.heap.get? p.2 = some { cls := .none, data := .fields #[] }) (nT : ∀ p ∈ cs, K.lookup p.2 = none) (C : ∀ p ∈ cs, PySem.W.CodeHd s₁.heap p.1 p.2)
    (hbm : ∃ (bm : Addr) (ob : Obj), mg "__builtins__" = some (.ref bm) ∧ bm ≠ builtinsNs ∧ s₁.heap.get? bm = some ob ∧ ob.cls = .type "module" ∧ ob.dict = some builtinsNs ∧ ob.data = .plain)
    (ha : s₁.heap.get? a = some { cls := .type "list", data := .seq vs.toArray }) (hi : IntsAre vs ns) (hl : ns.length ≤ sizeLine)
    (F : ∀ base : Heap, K.In base → base.Ns mainGlobals mg → (∀ p ∈ cs, LamX.TabB base mg p.1 p.2) → AskOk P w K mg base fa fd x sp) (bind : ∀ (s : Shared) (u : Value), BindsTo s fd ⟨[u], []⟩ [(x, u)])
    (hsp : ∀ H : Hp, (∀ p ∈ cs, H p.2 = some (.tbl #[])) → SqL K H a (ns.map V.int) → sp [.ref a] H (fun v _ => v = .bl true) fun _ _ _ => False) :
    codeAny (model P w) callerA (.call (.ref fa) ⟨[.ref a], []⟩) (fun r s' => r = .ok (.ret (.bool true)) ∧ OldK s₁.heap s'.heap ∧ s'.os = s₁.os ∧ AllBare s'.gens) s₁ := by
  let ts := cs.map (·.2)
  let H : Hp := askHp K a ts vs ns
  have inT : ∀ p ∈ cs, p.2 ∈ ts := fun p hp => List.mem_map.mpr ⟨p, hp, rfl⟩
  have tab : ∀ b ∈ ts, s₁.heap.get? b = some { cls := .none, data := .fields #[] } ∧ K.lookup b = none := fun b hb => by
    obtain ⟨p, hp, rfl⟩ := List.mem_map.mp hb
    exact ⟨hT p hp, nT p hp⟩
  have aT : a ∉ ts := fun z => by
    have e := (tab a z).1
    rw [ha] at e
    have z' : Data.seq vs.toArray _ = Data.fields #[] := congrArg Obj.data (Option.some.inj e)
    cases z'
  have rv := vals_ints hi
  have ok : HOk P w H s₁.heap := fun b u e => by
    rcases askHp_cases (K := K) (a := a) (vs := vs) (ns := ns) (ts := ts) b with ⟨hb, z⟩ | ⟨_, rfl, _, z⟩ | ⟨_, _, z⟩
    · have e' := z.symm.trans e
      cases e'
      exact (tab b hb).1
    · have e' := z.symm.trans e
      cases e'
      exact ⟨ha, by rw [List.length_map]; exact hl, vs, _, rv, ha⟩
    · have e' := z.symm.trans e
      cases e'
  have seq : SqL K H a (ns.map V.int) := by
    cases hk : K.lookup a with
    | none => exact .inl (.inr ⟨_, askHp_a aT hk⟩)
    | some o =>
      have e := KX a o hk
      rw [ha] at e
      cases e
      exact .inr ⟨_, vs.toArray, _, hk, rfl, rfl, rfl, by rw [List.size_toArray, hi.length]; exact hl, by simpa using rv⟩
  -- what is not told of stands in the ground
  have free : ∀ {b : Addr} {o : Obj}, s₁.heap.get? b = some o → b ∉ ts → ¬ (b = a ∧ K.lookup a = none) → (hidT s₁.heap H).get? b = some o := fun e h1 h2 => hidT_get e (askHp_no h1 h2)
  have noseq : ∀ {b : Addr} {o : Obj}, s₁.heap.get? b = some o → (∀ ws n, o.data ≠ .seq ws n) → o.data ≠ .fields #[] → (hidT s₁.heap H).get? b = some o := fun {b o} e h1 h2 => by
    refine free e (fun z => ?_) fun z => ?_
    · rw [(tab b z).1] at e
      cases e
      exact h2 rfl
    · rw [z.1, ha] at e
      cases e
      exact h1 _ _ rfl
  have nsd : ∀ {b : Addr} {m : Str → Option Value}, s₁.heap.Ns b m → (hidT s₁.heap H).Ns b m := fun {b m} h => by
    obtain ⟨o, es, ep, e, d, r⟩ := h
    exact ⟨o, es, ep, noseq e (by rw [d]; exact fun _ _ z => nomatch z) (by rw [d]; exact fun z => nomatch z), d, r⟩
  have ground : K.In (hidT s₁.heap H) := fun b o e => by
    refine free (KX b o e) (fun z => ?_) fun z => ?_
    · rw [(tab b z).2] at e
      cases e
    · rw [z.1, z.2] at e
      cases e
  have tabs : ∀ p ∈ cs, LamX.TabB (hidT s₁.heap H) mg p.1 p.2 := fun p hp => by
    refine ⟨?_, ?_, fun z => ?_⟩
    · obtain ⟨o, us, f1, f2, f3, f4, f5, f6, f7, e, r1, r2, r3, r⟩ := C p hp
      refine ⟨o, us, f1, f2, f3, f4, f5, f6, f7, noseq e (by rw [r2]; exact fun _ _ z => nomatch z) (fun z => ?_), r1, r2, r3, r⟩
      rw [r2] at z
      cases z
      simp at r3
    · obtain ⟨bm, ob, b1, b2, b3, b4, b5, b6⟩ := hbm
      refine ⟨bm, ob, b1, b2, fun z => ?_, fun z => ?_, noseq b3 (by rw [b6]; exact fun _ _ z => nomatch z) (by rw [b6]; exact fun z => nomatch z), b4, b5, b6⟩
      · obtain ⟨o, es, ep, e, d, _⟩ := hns
        rw [z, e] at b3
        cases b3
        rw [d] at b6
        cases b6
      · rw [z, hT p hp] at b3
        cases b3
        cases b6
    · obtain ⟨o, es, ep, e, d, _⟩ := hns
      rw [z, hT p hp] at e
      cases e
      cases d
  have env0 : Env0 P w K mg (hidT s₁.heap H) callerA [] s₁ H :=
    { frames := rfl, mod := ⟨ground, nsd hns, ⟨mb, nsd hb, hbb⟩, let ⟨mc, h1, h2⟩ := hlim; ⟨mc, nsd h1, h2⟩⟩, bs := fun b o e => of_hidT e, bsz := Nat.le_of_eq (hidT_size _ _), funs := trivial, frf := fun _ z => (nomatch z), hok := ok, bare := .of_eq hg }
  refine codeAny_mono (F _ ground (nsd hns) tabs s₁ H [.ref a] [.ref a] _ env0 (bind s₁ (.ref a)) (.cons rfl .nil) (hsp H (fun p hp => askHp_t (inT p hp)) seq)) fun r s' h => ?_
  match r, h with
  | .error _, h => exact h.elim
  | .ok .next, h => exact h.elim
  | .ok .brk, h => exact h.elim
  | .ok .cont, h => exact h.elim
  | .ok (.ret u), ⟨v, G, os, bare, un, ok', rel, e⟩ =>
    obtain rfl : v = .bl true := e
    obtain rfl : u = Value.bool true := rel
    have grown : ∀ b ∈ ts, ∃ more : Array Value, s'.heap.get? b = some { cls := .none, data := .fields more } := fun b hb => by
      obtain ⟨more, z⟩ := un.tbls b #[] (askHp_t hb)
      exact ⟨_, ok' b _ z⟩
    have kept : ∀ b o, b ∉ ts → s₁.heap.get? b = some o → s'.heap.get? b = some o := fun b o hb e => by
      rcases askHp_cases (K := K) (a := a) (vs := vs) (ns := ns) (ts := ts) b with ⟨z, _⟩ | ⟨_, _, _, z⟩ | ⟨_, _, z⟩
      · exact absurd z hb
      · have z1 := (ok b _ z).1
        rw [e] at z1
        cases z1
        exact (ok' b _ (un.frzs b _ _ z)).1
      · exact un.keep b o e z (fun z => nomatch z) (fun z => nomatch z)
    refine ⟨rfl, ⟨fun b o e => ?_, fun b o e => ?_⟩, os, bare⟩
    · by_cases hb : b ∈ ts
      · obtain ⟨p, hp, rfl⟩ := List.mem_map.mp hb
        obtain ⟨more, hm⟩ := grown _ hb
        rw [hT p hp] at e
        cases e
        exact .inr (.inl ⟨((C p hp).tab (hT p hp)).isCodeTable, rfl, #[], more, rfl, by rw [Array.empty_append]; exact hm⟩)
      · exact .inl (kept b o hb e)
    · by_cases hb : b ∈ ts
      · obtain ⟨_, z⟩ := grown b hb
        exact ⟨_, z⟩
      · exact ⟨o, kept b o hb e⟩
end
/-- the whole of it, for a statement of a law -/
theorem ask_walk {l : PySem.W.OpenLaw} {q : Program} {loose : List Str} {XP : (Str → Option Value) → Heap → Prop} {YP : World → Heap → Prop} {d : DefRec} {K : Params → PySem.W.Frag} {x : Str} (most : l.most = some 63) (plain : d.params.defaults = []) (hY : ∀ (w : World) (h : Heap), YP w h → (K w.params).In h)
    (F : ∀ (w : World) (mg : Str → Option Value) (fa : Addr) (h : Heap), YP w h → (K w.params).In h → h.Ns mainGlobals mg → mg d.name = some (.ref fa) →
      ∃ (fd : FuncData) (cs : List (Addr × Addr)) (sp : Sp), (∀ p ∈ cs, h.get? p.2 = some { cls := .none, data := .fields #[] } ∧ (K w.params).lookup p.2 = none ∧ PySem.W.CodeHd h p.1 p.2) ∧ (∀ (s : Shared) (u : Value), BindsTo s fd ⟨[u], []⟩ [(x, u)]) ∧
        (∀ (H : Hp) (a : Addr) (ns : List Int), ns.length ≤ 63 → (∀ p ∈ cs, H p.2 = some (.tbl #[])) → SqL (K w.params) H a (ns.map V.int) → sp [.ref a] H (fun v _ => v = .bl true) fun _ _ _ => False) ∧
        ∀ base : Heap, (K w.params).In base → base.Ns mainGlobals mg → (∀ p ∈ cs, LamX.TabB base mg p.1 p.2) → AskOk l.prog w (K w.params) mg base fa fd x sp) :
    PySem.W.WalkO q loose XP YP l.row.toRowW d [] (fun f vs => PySem.call f vs) :=
  Att.attach_callB most plain fun w s0 s1 mg mb fa o pm cd doc a vs ns G Y _ _ _ hmg ob1 in1 len _ gens => by
    obtain ⟨fd, cs, sp, hc, bind, hsp, ask⟩ := F w mg fa _ Y (hY w _ Y) G.T.g hmg
    exact ask_run (hY w _ Y) G.T.g G.T.b G.T.builtins G.T.nolimit gens (fun p hp => (hc p hp).1) (fun p hp => (hc p hp).2.1) (fun p hp => (hc p hp).2.2) G.T.bmain ob1 in1 (Nat.le_trans len (by decide)) ask bind fun H hH hS => hsp H a ns len hH hS
/-! ### repr(x), x of lists, tuples, numbers, words -/
def rReprD (K : PySem.W.Frag) : List V → Hp → VK → Prop := fun xs H Q => ∃ (v : V) (d : PyData), xs = [v] ∧ Dp K H v d ∧ (∃ a, v = .ref a) ∧ d.showable = true ∧ d.hasDict = false ∧ d.depth ≤ 60 ∧ d.shown.length ≤ sizeLine ∧ Q (.str d.shown) H
theorem call_reprD {X : Cx} (none_ : X.A.guards = some []) (room : X.A.units + 64 < cLine) : CallR X (.builtin "repr") (rReprD X.K) := by
  intro pins s σ H xs us Q I r h
  obtain ⟨v, d, rfl, at_, ⟨a, rfl⟩, show_, flat_, deep, short, q⟩ := h
  obtain ⟨u, rfl, e⟩ := vals1 r
  obtain ⟨as, rd⟩ := Dp.reads I d _ u at_ e
  obtain rfl : u = Value.ref a := e
  exact repr_of_reads' rd show_ (PyData.noDict_hsm flat_) none_ (by omega) (fun _ _ z => z) (fun h' t tk keep => ⟨.str _, H, I.kept keep, ⟨t, rfl⟩, q⟩) short
section
variable {P : Program} {w : World} {K : PySem.W.Frag} {mg : Str → Option Value} {base : Heap} {x qual : Str} {st : Stmt} {f : Addr} {fd : FuncData} {N : List Str} {k : Nat}
theorem ask_okL {Ts : List Addr} (F : Fun K x qual st f fd) (S : FnScope N ["script"] (defScope st)) (room : Room (k + 1) callerA)
    (hbody : ∀ (cdv : Value) (A : Around) (outer : List Env) (s : Shared) (H : Hp) (E : XK), Room k (A.deeper (envOfC qual (defScope st) s.heap.objs.size f cdv)) → (A.deeper (envOfC qual (defScope st) s.heap.objs.size f cdv)).guards = some [] →
      ∃ t, PSs (cxOf CX0 P w K mg base N qual (defScope st) f cdv A outer s H E).nox (defBody st) t ∧ ∀ (ns : List Int) (hs : Hp) (Q : VK), ns.length ≤ 63 → (∀ T ∈ Ts, TabG hs T) → (∀ H', Q (.bl true) H') → WC ⟨hs, hs, fun _ => False, slots0 [RScr K ns] N.length⟩ (t { nx := fun _ H' => Q .non H', rt := Q })) :
    AskOk P w K mg base f fd "script" (spLawT K Ts) := by
  refine ask_of F S room (fun vs H Q E h => ?_) fun cd A out s H vs Q E hr hg h => ?_
  · obtain ⟨a, ns, rfl, _⟩ := h
    rfl
  · obtain ⟨a, ns, rfl, hS, hl, hT, q⟩ := h
    obtain ⟨t, ht, hw⟩ := hbody cd A out s H E hr hg
    have z := sta_start (H := H) (om := fun _ => False) (Rs := [RScr K ns]) (N := N) (vs := [.ref a]) (fun _ z => z.elim) ⟨_, _, rfl, ⟨a, rfl, by rw [less_no]; exact hS⟩, rfl⟩
    rw [less_no] at z
    exact ⟨t, ht, hw ns H Q hl hT q _ _ z⟩
end
/-- a text shown and not too long -/
structure Shows (d : PyData) : Prop where
  a : d.showable = true
  b : d.hasDict = false
  c : d.depth ≤ 60
  d : d.shown.length ≤ 16777216
theorem o_reprD {K : PySem.W.Frag} {d : PyData} (n : nod d = true) (r : (match d with | .list _ => true | .tuple _ => true | _ => false) = true) (h : Shows d) : On (rReprD K) [RD d] (RD (.str d.shown)) := fun H M vs _ z Q q => by
  obtain ⟨v, r', rfl, h1, rfl⟩ := z
  refine ⟨v, d, rfl, (Dt.kp kp_less h1).dp n, ?_, h.a, h.b, h.c, h.d, q H _ (Kp.refl _) (.str _)⟩
  cases h1 with
  | lst e a => exact ⟨_, rfl⟩
  | tup e a => exact ⟨_, rfl⟩
  | _ => cases r
end Pk

namespace Pk
open PySem L2 PySem.Spec PyProof.Rows GxR NdefX
/-! ### errors raised, in slots -/
theorem raisedQ {H : Hp} {a d C : Addr} {f : Str} {v : V} (ha : H a = none) (hd : (upd H a (exo a C none)) d = none) (hne : d ≠ a) :
    (upd (upd (upd H a (exo a C none)) d (exd d [(f, v)])) a (exo a C (some d))) a = some (exo a C (some d)) ∧ (upd (upd (upd H a (exo a C none)) d (exd d [(f, v)])) a (exo a C (some d))) d = some (exd d [(f, v)]) ∧ H d = none ∧
    Same H (upd (del (upd (upd (upd H a (exo a C none)) d (exd d [(f, v)])) a (exo a C (some d))) a) d (.xd [(f, v)])) := by
  have hdn : H d = none := by
    rw [upd_ne hne] at hd
    exact hd
  refine ⟨upd_same, by rw [upd_ne hne, upd_same], hdn, fun b o e => ?_⟩
  have h1 : b ≠ a := ne_of_none e ha
  have h2 : b ≠ d := ne_of_none e hdn
  rw [upd_ne h2, del_ne h1, upd_ne h1, upd_ne h2, upd_ne h1]
  exact e
section
variable {K : PySem.W.Frag} {C : Addr} {f : Str} {c : Ct} {te : TE} {R : Rel} {W : WX}
theorem s_raiseF (o : OexC K C) (n : PySem.W.findIn K (.ref C) f = some none) (ha : E true c te R) (q : ∀ σ H' d v, Kp c.hs H' → H' d = some (.xd [(f, v)]) → R.p (less H' c.om) v → W (.ref C) (some d) σ H') :
    WC c (fun σ H => tMkO C (spXI K C f) [] (tCons te tNil) σ H fun cls d H' => W cls d σ H') := fun σ H s => ha σ H s _ fun H1 v k1 r1 => ⟨by show 1 ≤ 1000; decide, fun y ny => ⟨y, v, rfl, o, n, upd_same, fun dd hd hne => ⟨rfl, dd, [(f, v)], by
  obtain ⟨g1, g2, g3, g4⟩ := raisedQ (f := f) (v := v) ny hd hne
  refine ⟨g1, g2, g3, q _ _ dd v (s.ks.trans (k1.trans (kpS g4))) upd_same (R.mn ?_ r1)⟩
  rw [hb_t]
  exact (less_mono fun _ z => .inr z).trans (less_kp (kpS g4))⟩⟩⟩
end
/-- a new list, or an error with one field -/
def SpE {α : Type} (Rs : α → List Rel) (P : α → Hp → Prop) (ok : α → Prop) (C : α → Own) (xc : Addr) (xf : Str) (xv : α → Rel) : Sp := fun vs H Q E => ∃ (a : α) (om : Addr → Prop), Hd H om ∧ Rok (Rs a) (less H om) vs ∧ P a (less H om) ∧
  (ok a → ∀ H' p o, Kp H H' → H' p = none → (C a).p (less H' om) o → Q (.ref p) (upd H' p o)) ∧ (¬ ok a → ∀ H' d v, Kp H H' → H' d = some (.xd [(xf, v)]) → (xv a).p (less H' om) v → E (.ref xc) (some d) H')
end Pk

namespace L2
open PySem PySem.Spec PyProof.Rows
/-! ### x in s, s a set of tuples of numbers -/
section
variable {P : Program} {w : World} {A : Around} {E : Value → Shared → Prop} {s : Shared} {a x : Addr} {L : List (Addr × List Int)} {es : Array (Int × Value)} {ep : Nat} {t : SetTable} {k : List Int}
/-- the n-th place that a search looks at -/
abbrev seenAt (m : Nat) (h : Int) (n : Nat) : SetTable.Probe := nth m (runAt m (SetTable.bits h % (m + 1)) (SetTable.bits h)) n
theorem seenAt_add (m : Nat) (h : Int) (c n : Nat) : nth m (seenAt m h c) n = seenAt m h (c + n) := (nth_add m c _ n).symm
theorem nth_plain (m : Nat) : ∀ (n : Nat) (p : SetTable.Probe), p.dummy = none → (nth m p n).dummy = none
  | 0, _, h => h
  | n + 1, p, h => nth_plain m n (adv m p) (by
    unfold adv
    split <;> exact h)
/-- what a search needs of the set -/
structure Seek (P : Program) (w : World) (h : Heap) (a : Addr) (L : List (Addr × List Int)) (es : Array (Int × Value)) (ep : Nat) (t : SetTable) : Prop where
  ob : ∃ o, h.get? a = some o ∧ o.ExactSet ∧ o.data = .set es ep t
  row : ∀ {i : Nat} {p : Addr × List Int}, L[i]? = some p → es[i]? = some (thash P w p.2, Value.ref p.1)
  all : es.toList = rowsOf P w L
  tab : TabOk t (L.map fun p => thash P w p.2)
  tup : ∀ p ∈ L, IsT P w h p.2 p.1
  room : L.length * 5 < t.mask * 3
theorem Seek.of (R : SetTR P w s.heap a L es ep t) : Seek P w s.heap a L es ep t := ⟨R.ob, fun h => R.entry h, R.rows, R.tab, R.tup, R.room⟩
theorem Seek.fit (R : Seek P w s.heap a L es ep t) : t.fits es.size = true := by
  have h1 := R.tab.sz
  have h2 := congrArg List.length R.all
  have h3 := R.room
  unfold rowsOf at h2
  rw [List.length_map] at h1 h2
  rw [Array.length_toList] at h2
  unfold SetTable.fits
  rw [Bool.and_eq_true, beq_iff_eq, decide_eq_true_iff]
  refine ⟨by omega, ?_⟩
  unfold SetTable.fill
  rw [R.tab.dm]
  show t.place.size + 0 ≤ _
  omega
variable {K : Nat} {Q : SetFound → Shared → Prop}
theorem seek_from (R : Seek P w s.heap a L es ep t) (hx : IsT P w s.heap k x) (hu : A.units < cLine) (kf : K < 10 * SetTable.turns t.mask) (free : way t.mask (thash P w k) K ∉ t.place.toList) (taken : ∀ c, c < K → way t.mask (thash P w k) c ∈ t.place.toList)
    (yes : k ∈ L.map (·.2) → ∀ i, Q (.there (some i)) s) (no : k ∉ L.map (·.2) → ∀ j, Q (.free j false) s) : ∀ (fuel c : Nat) (from_ : Option SetTable.Probe), from_.getD (t.probeStart (thash P w k)) = seenAt t.mask (thash P w k) c → c ≤ K → K < fuel + c →
      (∀ (i : Nat) q, L[i]? = some q → q.2 = k → ∃ z, c ≤ z ∧ z < K ∧ t.place.toList[i]? = some (way t.mask (thash P w k) z)) → wpAny (model P w) A (setSearchFrom a (.ref x) (thash P w k) false fuel from_) Q E s
  | 0, c, _, _, h1, h2, _ => absurd h2 (by omega)
  | fuel + 1, c, from_, hf, h1, h2, ahead => by
    obtain ⟨o, ho, _, hd⟩ := R.ob
    have wayC : ∀ n, (nth t.mask (seenAt t.mask (thash P w k) c) n).j = way t.mask (thash P w k) (c + n) := fun n => congrArg SetTable.Probe.j (seenAt_add _ _ _ _)
    have hash_ : ∀ {i : Nat} {p}, L[i]? = some p → (es[i]?.map (·.1)).getD 0 = thash P w p.2 := fun h => by rw [R.row h]; rfl
    have met := go_spec t R.tab.ris R.tab.dm (fun i => (es[i]?.map (·.1)).getD 0) (thash P w k) (10 * SetTable.turns t.mask) (K - c) (seenAt t.mask (thash P w k) c) (nth_plain _ _ _ rfl) (by omega)
      (fun n hn => by rw [wayC]; exact taken _ (by omega)) (by rw [wayC, Nat.add_sub_of_le h1]; exact free)
    rw [setSearchFrom_succ]
    refine wpAny_bind (wpAny_setState_of ho hd R.fit ?_)
    dsimp only
    refine wp_if_neg (by have := mask_odd R.tab.mok; unfold SetTable.gaveWay; rw [this]; decide) ?_
    try refine wpAny_bind (wpAny_pure ?_)
    rw [hf]
    rcases met with ⟨n, i, hn, hi, _, none_, at_⟩ | ⟨none_, at_⟩
    · -- something stands there with this hash
      rw [show t.probe (fun i => (es[i]?.map (·.1)).getD 0) (thash P w k) (seenAt t.mask (thash P w k) c) = _ from at_]
      dsimp only
      rw [wayC] at hi ⊢
      rw [seenAt_add]
      have il : i < L.length := by
        have z1 := (List.getElem?_eq_some_iff.mp hi).1
        have z2 := R.tab.sz
        rw [List.length_map] at z2
        rw [Array.length_toList] at z1
        omega
      obtain ⟨p, hp⟩ : ∃ p, L[i]? = some p := ⟨_, List.getElem?_eq_getElem il⟩
      have mem := List.mem_of_getElem? hp
      have live : t.slot (way t.mask (thash P w k) (c + n)) = .live i := slot_live R.tab.ris hi
      have go : wpAny (model P w) A (searchRest a (.ref x) (thash P w k) false fuel es t (way t.mask (thash P w k) (c + n)) i (seenAt t.mask (thash P w k) (c + (n + 1)))) Q E s := by
        unfold searchRest
        rw [R.row hp]
        dsimp only
        refine wpAny_bind (wpAny_holding (wpAny_eqBool_tuple hu (R.tup p mem) hx ?_))
        refine wpAny_bind (wpAny_setState_of ho hd R.fit ?_)
        dsimp only
        refine wp_if_neg (by simp) ?_
        try refine wpAny_bind (wpAny_pure ?_)
        rw [sameMem]
        dsimp only
        simp only [if_true, live, R.row hp]
        refine wpAny_bind (wpAny_isSame_ref_self (wpAny_bind (wpAny_pure ?_)))
        simp only [if_true]
        by_cases e : p.2 = k
        · refine wp_if_pos (by simp [e]) ?_
          exact wpAny_pure (yes (List.mem_map.mpr ⟨p, mem, e⟩) i)
        · refine wp_if_neg (by simp [e]) ?_
          refine seek_from R hx hu kf free taken yes no fuel (c + (n + 1)) _ rfl (by omega) (by omega) fun j q hq hk => ?_
          obtain ⟨z, z1, z2, z3⟩ := ahead j q hq hk
          refine ⟨z, ?_, z2, z3⟩
          by_cases le : z < c + n
          · refine absurd ((hash_ hq).trans (congrArg (thash P w) hk)) (none_ (z - c) j (by omega) ?_)
            rw [wayC, Nat.add_sub_of_le z1]
            exact z3
          · by_cases eq : z = c + n
            · subst eq
              have l2 := slot_live R.tab.ris z3
              rw [live] at l2
              injection l2 with l2
              rw [← l2, hp] at hq
              cases hq
              exact absurd hk e
            · omega
      by_cases led : t.led = true
      · refine wp_if_neg (by simp [led]) ?_
        try refine wpAny_bind (wpAny_pure ?_)
        exact go
      · refine wp_if_pos (by simp [led]) ?_
        refine wpAny_bind (seen_tup hx (fun y hy => ?_) ?_)
        · obtain ⟨e, he, rfl⟩ := List.mem_map.mp hy
          have in_ : e ∈ es.toList := by simpa using (show e ∈ es ∧ e.1 = thash P w k by simpa using he).1
          rw [R.all] at in_
          obtain ⟨q, hq, rfl⟩ := List.mem_map.mp in_
          exact ⟨q.2, q.1, rfl, R.tup q hq⟩
        · refine wp_if_neg (by decide) ?_
          try refine wpAny_bind (wpAny_pure ?_)
          exact go
    · -- nothing stands there
      rw [show t.probe (fun i => (es[i]?.map (·.1)).getD 0) (thash P w k) (seenAt t.mask (thash P w k) c) = _ from at_]
      dsimp only
      refine wpAny_pure (no (fun m => ?_) _)
      obtain ⟨q, hq, e⟩ := List.mem_map.mp m
      obtain ⟨j, hj, ej⟩ := List.getElem_of_mem hq
      have at_j : L[j]? = some q := by rw [List.getElem?_eq_getElem hj, ej]
      obtain ⟨z, z1, z2, z3⟩ := ahead j q at_j e
      refine none_ (z - c) j (by omega) ?_ ((hash_ at_j).trans (congrArg (thash P w) e))
      rw [wayC, Nat.add_sub_of_le z1]
      exact z3
theorem seek_find (R : Seek P w s.heap a L es ep t) (hx : IsT P w s.heap k x) (hu : A.units < cLine) {Q : Option Nat → Shared → Prop} (got : ∀ o : Option Nat, o.isSome = decide (k ∈ L.map (·.2)) → Q o s) : wpAny (model P w) A (setFind a (.ref x) (thash P w k)) Q E s := by
  obtain ⟨o, ho, _, hd⟩ := R.ob
  have rm := R.room
  obtain ⟨K, kf, free, taken⟩ := R.tab.first (by rw [List.length_map]; omega) (thash P w k)
  have big : K < 100000 := by
    have : SetTable.turns t.mask ≤ 142 := by
      unfold SetTable.turns
      rcases R.tab.mok with e | e | e <;> omega
    omega
  unfold setFind
  rw [show (100000 : Nat) = Nat.succ 99999 from rfl]
  unfold setFindIn
  refine wpAny_bind (wpAny_setState_of ho hd R.fit ?_)
  dsimp only
  refine wp_if_neg (by simp [byScan, Value.scannable]) ?_
  try refine wpAny_bind (wpAny_pure ?_)
  refine wpAny_bind ?_
  unfold setSearch
  refine seek_from R hx hu kf free taken (fun m i => ?_) (fun m j => ?_) 100000 0 none rfl (Nat.zero_le _) (by omega) fun i q hq hk => ?_
  · exact wpAny_pure (got _ (decide_eq_true m).symm)
  · exact wpAny_pure (got _ (decide_eq_false m).symm)
  · have hi : (L.map fun p => thash P w p.2)[i]? = some (thash P w k) := by rw [List.getElem?_map, hq, ← hk]; rfl
    have il : i < t.place.toList.length := by
      have z := (List.getElem?_eq_some_iff.mp hi).1
      rw [Array.length_toList, R.tab.sz]
      exact z
    obtain ⟨z, z1, z2⟩ := R.tab.before free hi (List.getElem?_eq_getElem il)
    exact ⟨z, Nat.zero_le _, z1, by rw [List.getElem?_eq_getElem il, z2]⟩
theorem Seek.isSet (R : Seek P w s.heap a L es ep t) : s.TypeIs (.ref a) "set" := by
  obtain ⟨o, ho, hc, _⟩ := R.ob
  exact ⟨o, ho, hc.1⟩
theorem Seek.tick (R : Seek P w s.heap a L es ep t) (n : Nat) : Seek P w ({ s with toks := s.toks + n } : Shared).heap a L es ep t := R
theorem in_tups (R : Seek P w s.heap a L es ep t) (hx : IsT P w s.heap k x) (hu : A.units + 4 < cLine) {Q : Value → Shared → Prop} (f : Bool → Bool) (op : CmpOp) (hop : compareOp op (.ref x) (.ref a) = (do return .bool (f (← contains (.ref a) (.ref x)))))
    (q : Q (.bool (f (decide (k ∈ L.map (·.2))))) { s with toks := s.toks + (k.length + 1) }) : wpAny (model P w) A (compareOp op (.ref x) (.ref a)) Q E s := by
  rw [hop]
  refine wpAny_bind ?_
  unfold contains
  try with_reducible refine wpAny_holding ?_
  refine wpAny_bind (wpAny_specialOf R.isSet F.slot_set_contains.lookup ?_)
  show wpAny _ _ (if (some (Value.builtin "set.__contains__") == some Value.none) = true then _ else _) _ E s
  rw [if_neg (by rw [beq_builtin_none]; exact Bool.false_ne_true)]
  refine wpAny_bind (wpAny_callSpecialUnlessNone?_slot (name := Str.ofString "__contains__") R.isSet F.slot_set_contains (wpAny_call_entry F.slot_set_contains R.isSet entry_set_contains ?_ (F.args_set_contains_2 _ _)))
  unfold Builtin.«frozenset.__contains__» Builtin.Frozenset.oneOther
  simp only [List.isEmpty_nil, bind_assoc]
  unfold Builtin.Frozenset.addrOf Builtin.Frozenset.withSetAsKey setContains
  refine wpAny_bind (wpAny_pure ?_)
  try dsimp only
  refine wpAny_bind (wpAny_pure ?_)
  try dsimp only
  refine wpAny_bind (wpAny_tryCatch (wpAny_holding ?_))
  refine wpAny_bind (wpAny_pyHash_tuple (by show A.units + 1 < cLine; omega) hx ?_)
  refine wpAny_bind (seek_find (R.tick _) hx (by show A.units + 1 < cLine; omega) fun o ho => ?_)
  refine wpAny_pure ?_
  show wpAny _ _ (ret (Value.bool o.isSome)) _ _ _
  rw [ho]
  exact wpAny_pure ⟨_, rfl, wpAny_truthy_bool (wpAny_pure q)⟩
end
end L2

namespace Pk
open PySem L2 PySem.Spec PyProof.Rows GxR NdefX
/-! ### p in s, s a set of places -/
def rInSP (P : Program) (w : World) (f : Bool → Bool) : R2 := fun x y H Q => ∃ (a : Addr) (p : Pl) (ps : List Pl), Pr H x p ∧ y = .ref a ∧ SetOf P w H a ps ∧ Q (.bl (f (decide (p ∈ ps)))) H
section
variable {X : Cx}
theorem setP_seek {pins : List (Addr × Obj)} {σ : L2.St} {H : Hp} {s : Shared} {a : Addr} {ps : List Pl} (I : Inv X pins σ H s) (h : SetOf X.prog X.w H a ps) : ∃ L es ep t, Seek X.prog X.w s.heap a L es ep t ∧ ∀ p : Pl, [p.1, p.2] ∈ L.map (·.2) ↔ p ∈ ps := by
  obtain ⟨L, ha, h1, h2⟩ := h
  have R0 : SetT0 X.prog X.w s.heap a L := (I.hok a _ ha).1
  obtain ⟨es, ep, t, R⟩ := R0.full fun x hx => by
    obtain ⟨p, _, e, k⟩ := h1 x hx
    have z : SqT X.K H x.1 (x.2.map V.int) := by rw [e]; exact SqT.of k
    exact I.isT z
  refine ⟨L, es, ep, t, .of R, fun p => ⟨fun m => ?_, h2 p⟩⟩
  obtain ⟨x, hx, e⟩ := List.mem_map.mp m
  obtain ⟨q, hq, e2, _⟩ := h1 x hx
  rw [e] at e2
  injection e2 with a1 a2
  injection a2 with a2 _
  rw [show p = q from Prod.ext a1 a2]
  exact hq
theorem Room.units4 {k : Nat} {A : Around} (r : Room k A) : A.units + 4 < cLine := by
  have := r.units
  omega
theorem op_inSP (hu : X.A.units + 4 < cLine) : OpR X (compareOp .In) (rInSP X.prog X.w id) := by
  intro pins s σ H x y v u Q I rx ry h
  obtain ⟨a, p, ps, ⟨tp, rfl, ht⟩, rfl, hs, q⟩ := h
  obtain ⟨L, es, ep, t, R, m⟩ := setP_seek I hs
  obtain rfl : v = Value.ref tp := rx
  obtain rfl : u = Value.ref a := ry
  have hx := I.isT (k := [p.1, p.2]) (SqT.of ht)
  refine in_tups R hx hu id .In rfl ⟨.bl _, H, I.tok _, rfl, ?_⟩
  show Q (.bl (decide ([p.1, p.2] ∈ L.map (·.2)))) H
  rw [decide_eq_decide.mpr (m p)]
  exact q
theorem op_notInSP (hu : X.A.units + 4 < cLine) : OpR X (compareOp .NotIn) (rInSP X.prog X.w not) := by
  intro pins s σ H x y v u Q I rx ry h
  obtain ⟨a, p, ps, ⟨tp, rfl, ht⟩, rfl, hs, q⟩ := h
  obtain ⟨L, es, ep, t, R, m⟩ := setP_seek I hs
  obtain rfl : v = Value.ref tp := rx
  obtain rfl : u = Value.ref a := ry
  have hx := I.isT (k := [p.1, p.2]) (SqT.of ht)
  refine in_tups R hx hu not .NotIn rfl ⟨.bl _, H, I.tok _, rfl, ?_⟩
  show Q (.bl (!decide ([p.1, p.2] ∈ L.map (·.2)))) H
  rw [decide_eq_decide.mpr (m p)]
  exact q
end
section
variable {P : Program} {w : World} {K : PySem.W.Frag} {c : Ct} {b : Bool} {ta : TE} {ps : List Pl}
theorem SetOf.kp {H H' : Hp} {a : Addr} (h : SetOf P w H a ps) (k : Kp H H') : SetOf P w H' a ps := by
  obtain ⟨L, h1, h2, h3⟩ := h
  refine ⟨L, k.at_ _ _ h1 (fun _ z => nomatch z), fun x hx => ?_, h3⟩
  obtain ⟨p, m, e, z⟩ := h2 x hx
  exact ⟨p, m, e, k.tup z⟩
def RSet (P : Program) (w : World) (ps : List Pl) : Rel := ⟨fun H v => ∃ a, v = .ref a ∧ SetOf P w H a ps, fun k ⟨a, e, h⟩ => ⟨a, e, h.kp k⟩⟩
theorem Dt.plA {H : Hp} {v : V} {p : Pl} (h : Dt H v (dP p)) : ∃ t, v = .ref t ∧ H t = some (.tup [.int p.1, .int p.2]) := by
  cases h with
  | tup e a =>
    cases a with
    | cons a1 a =>
      cases a with
      | cons a2 a =>
        cases a
        cases a1
        cases a2
        exact ⟨_, rfl, e⟩
theorem Dt.prA {H : Hp} {v : V} {p : Pl} (h : Dt H v (dP p)) : Pr H v p := h.plA
theorem DtAll.prsA {H : Hp} : ∀ {vs : List V} {ps : List Pl}, DtAll H vs (ps.map dP) → Prs H vs ps
  | [], [], _ => .nil
  | [], _ :: _, h => by cases h
  | _ :: _, [], h => by cases h
  | _ :: _, _ :: _, .cons a b => .cons a.prA b.prsA
theorem Prs.dtA {H : Hp} {vs : List V} {ps : List Pl} (h : Prs H vs ps) : DtAll H vs (ps.map dP) := by
  induction h with
  | nil => exact .nil
  | cons a _ ih =>
    obtain ⟨t, rfl, e⟩ := a
    exact .cons (.tup e (.cons (.int _) (.cons (.int _) .nil))) ih
/-- set(xs) -/
theorem e_setP (h : EI c ta (ps.map dP)) (n : ps.length < 64) : E b c (tCB (rSetP K P w) (tCons ta tNil)) (RSet P w ps) := fun σ H s Q q =>
  h σ H s _ fun H1 l vs k1 e1 r1 => ⟨l, vs, ps, rfl, SqL.of e1, (r1.kp kp_less).prsA, n, fun H' a na sm so => by
    have k2 := kpS sm
    have s2 := (s.kp k1).kp k2
    refine q H' _ (k1.trans k2) ⟨a, rfl, ?_⟩
    obtain ⟨L, h1, h2, h3⟩ := so
    refine ⟨L, ?_, fun x hx => ?_, h3⟩
    · rw [hb, less_out]
      · exact h1
      · intro m
        obtain ⟨o, e, _⟩ := (s.kp k1).hides a m
        rw [na] at e
        cases e
    · obtain ⟨p, m, e, z⟩ := h2 x hx
      refine ⟨p, m, e, ?_⟩
      rw [hb, less_out]
      · exact z
      · intro m
        obtain ⟨o, e, mu⟩ := s2.hides x.1 m
        rw [z] at e
        cases e
        exact mu⟩
theorem o_inSP {p : Pl} : O2 (rInSP P w id) (RD (dP p)) (RSet P w ps) (RD (.bool (decide (p ∈ ps)))) := fun H M x y _ r1 r2 Q q => by
  obtain ⟨a, rfl, h⟩ := r2
  exact ⟨a, p, ps, (Dt.kp kp_less r1).prA, rfl, h.kp kp_less, q H _ (Kp.refl _) (.bl _)⟩
theorem o_notInSP {p : Pl} : O2 (rInSP P w not) (RD (dP p)) (RSet P w ps) (RD (.bool (!decide (p ∈ ps)))) := fun H M x y _ r1 r2 Q q => by
  obtain ⟨a, rfl, h⟩ := r2
  exact ⟨a, p, ps, (Dt.kp kp_less r1).prA, rfl, h.kp kp_less, q H _ (Kp.refl _) (.bl _)⟩
/-- sorted(s) -/
theorem n_sortSP (h : E true c ta (RSet P w ps)) : EN c (tCB (rSortS P w) (tCons ta tNil)) (OL ((marksP ps).map dP)) := fun σ H s Q q =>
  h σ H s _ fun H1 v k1 r1 => by
    obtain ⟨a, rfl, so⟩ := r1
    refine ⟨a, ps, rfl, so.kp kp_less, fun p ys n hy => q H1 p _ k1 n ⟨ys, rfl, ?_⟩⟩
    have := DtAll.less (M := msk true c σ) (fun a m => (s.kp k1).hides a m) hy.dtA ?_
    · rw [show less H1 (msk true c σ) = bas c σ H1 from hb_t] at this
      exact this
    · have : ∀ qs : List Pl, flats (qs.map dP) = true := fun qs => by
        induction qs with
        | nil => rfl
        | cons z zs ih => exact (Bool.and_eq_true _ _).mpr ⟨rfl, ih⟩
      exact this _
/-- xs[::-1] -/
theorem n_rev {α : Type} {xs : List α} {enc : α → PyData} (h : EI c ta (xs.map enc)) : EN c (tRevL K ta) (OL (xs.reverse.map enc)) := fun σ H s Q q =>
  h σ H s _ fun H1 a vs k1 e1 r1 => ⟨a, vs, rfl, SqL.of e1, fun p n => q H1 p _ k1 n ⟨_, rfl, by rw [List.map_reverse]; exact r1.rev⟩⟩
theorem e_notL {α : Type} {xs : List α} {enc : α → PyData} (h : EI c ta (xs.map enc)) : E b c (tNotT K ta) (RD (.bool (!(!xs.isEmpty)))) := fun σ H s Q q => h σ H s _ fun H1 a vs k1 e1 r1 => by
  refine ⟨!vs.isEmpty, .inl ⟨vs, SqL.of e1, rfl⟩, ?_⟩
  have hl := r1.len
  rw [List.length_map] at hl
  have e : vs.isEmpty = xs.isEmpty := by
    cases vs <;> cases xs <;> first | rfl | cases hl
  rw [e]
  exact q H1 _ k1 (.bl _)
/-- sorted(set(xs)), xs numbers -/
theorem n_sortSetI {xs ys : List Int} (h : EI c ta (xs.map PyData.int)) (few : xs.length ≤ 60) (mem : ∀ k, k ∈ ys ↔ k ∈ xs) (pw : ys.Pairwise (· < ·)) : EN c (tCB (rSortedSet w) (tCons (tCB (rSetI K w) (tCons ta tNil)) tNil)) (OL (ys.map PyData.int)) := fun σ H s Q q =>
  h σ H s _ fun H1 l vs k1 e1 r1 => ⟨l, xs, rfl, by rw [← r1.ints]; exact SqL.of e1, few, fun a n na le => ⟨a, _, n, rfl, upd_same, by omega, fun ns p up me _ np => by
    have e : ns = ys := rise_uniq up pw fun k => (me k).trans (by rw [decide_eq_true_iff]; exact (mem k).symm)
    subst e
    exact q _ p _ (k1.trans (kp_new na)) np ⟨_, rfl, DtAll.ofInts _⟩⟩⟩
theorem o_isB {x y : Bool} : O2 rIsB (RD (.bool x)) (RD (.bool y)) (RD (.bool (decide (x = y)))) := fun H M u v _ r1 r2 Q q => by
  cases r1
  cases r2
  exact ⟨x, y, rfl, rfl, q H _ (Kp.refl _) (.bl _)⟩
theorem o_notB {x y : Bool} : O2 rNotB (RD (.bool x)) (RD (.bool y)) (RD (.bool (!decide (x = y)))) := fun H M u v _ r1 r2 Q q => by
  cases r1
  cases r2
  exact ⟨x, y, rfl, rfl, q H _ (Kp.refl _) (.bl _)⟩
end
theorem s_retU {c : Ct} {R : Rel} {te : TE} {rt : VK} (h : E true c te R) (q : ∀ H' v, Kp c.hs H' → R.p (less H' c.om) v → rt v H') : WC c (fun σ H => te σ H rt) := fun σ H s => h σ H s _ fun H' v kp r => by
  rw [hb_t] at r
  exact q H' v (s.ks.trans kp) (R.mn (less_mono fun _ z => .inr z) r)
/-! ### what is shown is not too long -/
structure ShE (d : PyData) (n m : Nat) : Prop where
  sh : d.showable = true
  no : d.hasDict = false
  dp : d.depth ≤ n
  lv : d.leavesShort 13 = true
  bk : d.bulk ≤ m
theorem ShE.shows {d : PyData} {n m : Nat} (h : ShE d n m) (hn : n ≤ 60) (hm : m ≤ 1048576) : Shows d := ⟨h.sh, h.no, Nat.le_trans h.dp hn, PyData.shown_fits_bulk (B := 13) (by decide) (by decide) h.lv (Nat.le_trans h.bk hm)⟩
theorem ShE.up {d : PyData} {n m n' m' : Nat} (h : ShE d n m) (hn : n ≤ n') (hm : m ≤ m') : ShE d n' m' := ⟨h.sh, h.no, Nat.le_trans h.dp hn, h.lv, Nat.le_trans h.bk hm⟩
theorem sh_int {i : Int} (h : i.natAbs < 10 ^ 12) : ShE (.int i) 0 0 := by
  refine ⟨decide_eq_true ?_, rfl, Nat.zero_le _, decide_eq_true (PyData.shown_int_le h), Nat.zero_le _⟩
  by_cases z : i.natAbs = 0
  · rw [z]; decide
  · exact (Nat.log2_lt z).mpr (Nat.lt_trans h (Nat.lt_trans (show 10 ^ 12 < 2 ^ 64 by decide) (Nat.pow_lt_pow_right (by decide) (by decide))))
theorem sh_all {ds : List PyData} {n m : Nat} (h : ∀ d ∈ ds, ShE d n m) : PyData.showableAll ds = true ∧ PyData.hasDictAll ds = false ∧ PyData.depthAll ds ≤ n ∧ PyData.leavesShortAll 13 ds = true ∧ PyData.bulkAll ds ≤ ds.length * (m + 1) := by
  induction ds with
  | nil => exact ⟨rfl, rfl, Nat.zero_le _, rfl, Nat.zero_le _⟩
  | cons d ds ih =>
    obtain ⟨a1, a2, a3, a4, a5⟩ := ih fun e m => h e (.tail _ m)
    have q := h d (.head _)
    refine ⟨?_, ?_, ?_, ?_, ?_⟩
    · show (d.showable && PyData.showableAll ds) = true
      rw [q.sh, a1]; rfl
    · show (d.hasDict || PyData.hasDictAll ds) = false
      rw [q.no, a2]; rfl
    · show max d.depth (PyData.depthAll ds) ≤ n
      exact Nat.max_le.mpr ⟨q.dp, a3⟩
    · show (d.leavesShort 13 && PyData.leavesShortAll 13 ds) = true
      rw [q.lv, a4]; rfl
    · show d.bulk + 1 + PyData.bulkAll ds ≤ (ds.length + 1) * (m + 1)
      have := q.bk
      rw [Nat.add_mul, Nat.one_mul]
      omega
theorem sh_list {ds : List PyData} {n m : Nat} (h : ∀ d ∈ ds, ShE d n m) : ShE (.list ds) (n + 1) (ds.length * (m + 1)) := by
  obtain ⟨a1, a2, a3, a4, a5⟩ := sh_all h
  exact ⟨a1, a2, Nat.succ_le_succ a3, a4, a5⟩
theorem sh_tuple {ds : List PyData} {n m : Nat} (h : ∀ d ∈ ds, ShE d n m) : ShE (.tuple ds) (n + 1) (ds.length * (m + 1)) := by
  obtain ⟨a1, a2, a3, a4, a5⟩ := sh_all h
  exact ⟨a1, a2, Nat.succ_le_succ a3, a4, a5⟩
theorem sh_map {α : Type} {f : α → PyData} {xs : List α} {n m k : Nat} (h : ∀ x ∈ xs, ShE (f x) n m) (l : xs.length ≤ k) : ShE (.list (xs.map f)) (n + 1) (k * (m + 1)) := by
  refine (sh_list (n := n) (m := m) fun d hd => ?_).up (Nat.le_refl _) ?_
  · obtain ⟨x, hx, rfl⟩ := List.mem_map.mp hd
    exact h x hx
  · rw [List.length_map]
    exact Nat.mul_le_mul_right _ l
theorem sh_pl {p : Pl} (h1 : p.1.natAbs < 10 ^ 12) (h2 : p.2.natAbs < 10 ^ 12) : ShE (dP p) 1 2 := sh_tuple (n := 0) (m := 0) fun d hd => by
  rcases List.mem_cons.mp hd with e | e
  · subst e; exact sh_int h1
  · rw [List.mem_singleton.mp e]; exact sh_int h2
end Pk

namespace Pk
open PySem L2 PySem.Spec PyProof.Rows GxR NdefX
/-! ### whatever is walked: an iterator that gives these things, wherever a heap stands that has grown from B -/
structure ItOk {α : Type} (B : Hp) (J : It) (xs : List α) (R : α → Rel) : Prop where
  go : ∀ (i : Nat) (H : Hp) (M : Addr → Prop), Hd H M → Kp B (less H M) → i < xs.length → J.go i H
  stop : ∀ (i : Nat) (H : Hp) (M : Addr → Prop), Hd H M → Kp B (less H M) → xs.length ≤ i → J.stop i H
  yld : ∀ (i : Nat) (H : Hp) (M : Addr → Prop) (v : V) (H' : Hp), Hd H M → Kp B (less H M) → J.yld i H v H' → ∀ a, xs[i]? = some a → Kp H H' ∧ (R a).p (less H' M) v
def EWg {α : Type} (c : Ct) (wi : TI) (xs : List α) (R : α → Rel) : Prop := ∀ σ H, Sta c σ H → ∀ Q : It → Hp → Prop, (∀ H' J, Kp H H' → ItOk (bas c σ H') J xs R → Q J H') → wi σ H Q
theorem less_lst {B H : Hp} {M : Addr → Prop} (k : Kp B (less H M)) {a : Addr} {vs : List V} (e : B a = some (.lst vs)) : H a = some (.lst vs) := (less_some (k.lst e)).2
theorem less_tup {B H : Hp} {M : Addr → Prop} (k : Kp B (less H M)) {a : Addr} {vs : List V} (e : B a = some (.tup vs)) : H a = some (.tup vs) := (less_some (k.tup e)).2
section
variable {c : Ct} {wi : TI} {ta : TA} {tl te ti : TE} {tt : TT} {g : TG} {D : Ends} {tb : TS} {K : PySem.W.Frag} {α β : Type} {xs : List α} {ys : List β} {R : α → Rel} {f : α → PyData} {h : β → PyData}
theorem Sta.hid' {σ : L2.St} {H : Hp} (s : Sta c σ H) : Hd H (fun a => isOwn c.g σ a ∨ c.om a) := fun a m => s.hides (b := true) a ⟨rfl, m⟩
/-- a new tuple of what stands -/
theorem tup_new {H : Hp} {M : Addr → Prop} (hd : Hd H M) {T : Addr} {us : List V} {ds : List PyData} (n : H T = none) (a : DtAll (less H M) us ds) : Kp H (upd H T (.tup us)) ∧ Dt (less (upd H T (.tup us)) M) (.ref T) (.tuple ds) := by
  refine ⟨kp_new n, ?_⟩
  rw [new_at hd n]
  exact .tup upd_same (a.kp (kp_new (less_none n)))
theorem w_list (hl : E true c tl (RD (.list (xs.map f)))) : EWg c (iList K tl) xs (fun a => RD (f a)) := fun σ H s Q q => hl σ H s _ fun H1 v k1 r1 => by
  rw [hb_t] at r1
  cases r1 with
  | @lst a vs _ e r =>
    have n := r.len
    rw [List.length_map] at n
    refine ⟨a, rfl, ⟨vs, SqL.of (less_some e).2⟩, q H1 _ k1 ⟨fun i G M hd k hi => ?_, fun i G M hd k hi => ?_, fun i G M v G' hd k y x hx => ?_⟩⟩
    · exact ⟨vs, vs[i], SqL.of (less_lst k e), List.getElem?_eq_getElem (by omega)⟩
    · exact ⟨vs, SqL.of (less_lst k e), by omega⟩
    · obtain ⟨rfl, y⟩ := y
      obtain ⟨w, e1, e2⟩ := r.at (i := i) (d := f x) (by rw [List.getElem?_map, hx]; rfl)
      have := (y vs (SqL.of (less_lst k e))).symm.trans e1
      cases this
      exact ⟨Kp.refl _, e2.kp k⟩
theorem w_tup (hl : E true c tl (RD (.tuple (xs.map f)))) : EWg c (iTup K tl) xs (fun a => RD (f a)) := fun σ H s Q q => hl σ H s _ fun H1 v k1 r1 => by
  rw [hb_t] at r1
  cases r1 with
  | @tup a vs _ e r =>
    have n := r.len
    rw [List.length_map] at n
    refine ⟨a, rfl, ⟨vs, SqT.of (less_some e).2⟩, q H1 _ k1 ⟨fun i G M hd k hi => ?_, fun i G M hd k hi => ?_, fun i G M v G' hd k y x hx => ?_⟩⟩
    · exact ⟨vs, vs[i], SqT.of (less_tup k e), List.getElem?_eq_getElem (by omega)⟩
    · exact ⟨vs, SqT.of (less_tup k e), by omega⟩
    · obtain ⟨rfl, y⟩ := y
      obtain ⟨w, e1, e2⟩ := r.at (i := i) (d := f x) (by rw [List.getElem?_map, hx]; rfl)
      have := (y vs (SqT.of (less_tup k e))).symm.trans e1
      cases this
      exact ⟨Kp.refl _, e2.kp k⟩
theorem w_rev (hl : EA true c ta [RD (.list (xs.map f))]) : EWg c (iRev K ta) xs.reverse (fun a => RD (f a)) := fun σ H s Q q => hl σ H s _ fun H1 ws k1 r1 => by
  rw [hb_t] at r1
  obtain ⟨v, r', rfl, r1, rfl⟩ := r1
  cases r1 with
  | @lst a vs _ e r =>
    have n := r.len
    rw [List.length_map] at n
    refine ⟨a, vs, rfl, SqL.of (less_some e).2, q H1 _ k1 ⟨fun i G M hd k hi => ?_, fun i G M hd k hi => ?_, fun i G M v G' hd k y x hx => ?_⟩⟩
    · rw [List.length_reverse] at hi
      exact ⟨by omega, vs, vs[vs.length - 1 - i], SqL.of (less_lst k e), List.getElem?_eq_getElem (by omega)⟩
    · rw [List.length_reverse] at hi
      show vs.length ≤ i
      omega
    · obtain ⟨rfl, y⟩ := y
      have hi : i < xs.length := by
        have := (List.getElem?_eq_some_iff.mp hx).1
        rwa [List.length_reverse] at this
      rw [List.getElem?_reverse hi] at hx
      obtain ⟨w, e1, e2⟩ := r.at (i := xs.length - 1 - i) (d := f x) (by rw [List.getElem?_map, hx]; rfl)
      have z := y vs (SqL.of (less_lst k e))
      rw [n] at z
      have := z.symm.trans e1
      cases this
      exact ⟨Kp.refl _, e2.kp k⟩
theorem w_zip (hl : EA true c ta [RD (.list (xs.map f)), RD (.list (ys.map h))]) : EWg c (iZip K ta) (xs.zip ys) (fun p => RD (eT2 f h p)) := fun σ H s Q q => hl σ H s _ fun H1 ws k1 r1 => by
  rw [hb_t] at r1
  obtain ⟨v, r', rfl, r1, u, r'', rfl, r2, rfl⟩ := r1
  cases r1 with
  | @lst a vs _ e r =>
    cases r2 with
    | @lst b us _ e2 r2 =>
      have n := r.len
      have n2 := r2.len
      rw [List.length_map] at n n2
      refine ⟨a, b, vs, us, rfl, SqL.of (less_some e).2, SqL.of (less_some e2).2, q H1 _ k1 ⟨fun i G M hd k hi => ?_, fun i G M hd k hi => ?_, fun i G M v G' hd k y x hx => ?_⟩⟩
      · rw [List.length_zip] at hi
        exact ⟨vs, us, vs[i], us[i], SqL.of (less_lst k e), SqL.of (less_lst k e2), List.getElem?_eq_getElem (by omega), List.getElem?_eq_getElem (by omega)⟩
      · rw [List.length_zip] at hi
        exact ⟨vs, us, SqL.of (less_lst k e), SqL.of (less_lst k e2), by omega⟩
      · obtain ⟨T, v1, v2, rfl, nT, rfl, y1, y2⟩ := y
        obtain ⟨h1, h2⟩ := List.getElem?_zip_eq_some.mp hx
        obtain ⟨w1, p1, p2⟩ := r.at (i := i) (d := f x.1) (by rw [List.getElem?_map, h1]; rfl)
        obtain ⟨w2, q1, q2⟩ := r2.at (i := i) (d := h x.2) (by rw [List.getElem?_map, h2]; rfl)
        have z1 := (y1 vs (SqL.of (less_lst k e))).symm.trans p1
        have z2 := (y2 us (SqL.of (less_lst k e2))).symm.trans q1
        cases z1
        cases z2
        exact tup_new hd nT (.cons (p2.kp k) (.cons (q2.kp k) .nil))
/-- numbered from 0 -/
def enumL {α : Type} (xs : List α) : List (Int × α) := xs.zipIdx.map fun p => ((p.2 : Int), p.1)
theorem enumL_len {α : Type} (xs : List α) : (enumL xs).length = xs.length := by
  unfold enumL
  rw [List.length_map, List.length_zipIdx]
theorem enumL_at {α : Type} {xs : List α} {i : Nat} {p : Int × α} : (enumL xs)[i]? = some p ↔ p.1 = i ∧ xs[i]? = some p.2 := by
  unfold enumL
  rw [List.getElem?_map, List.getElem?_zipIdx]
  cases xs[i]? with
  | none => simp
  | some a => simp [Prod.ext_iff, eq_comm]
theorem w_enum (hl : EA true c ta [RD (.list (xs.map f))]) : EWg c (iEnum K ta) (enumL xs) (fun p => RD (eT2 PyData.int f p)) := fun σ H s Q q => hl σ H s _ fun H1 ws k1 r1 => by
  rw [hb_t] at r1
  obtain ⟨v, r', rfl, r1, rfl⟩ := r1
  cases r1 with
  | @lst a vs _ e r =>
    have n := r.len
    rw [List.length_map] at n
    refine ⟨a, vs, rfl, SqL.of (less_some e).2, q H1 _ k1 ⟨fun i G M hd k hi => ?_, fun i G M hd k hi => ?_, fun i G M v G' hd k y x hx => ?_⟩⟩
    · rw [enumL_len] at hi
      exact ⟨vs, vs[i], SqL.of (less_lst k e), List.getElem?_eq_getElem (by omega)⟩
    · rw [enumL_len] at hi
      exact ⟨vs, SqL.of (less_lst k e), by omega⟩
    · obtain ⟨T, v1, rfl, nT, rfl, y1⟩ := y
      obtain ⟨x1, x2⟩ := x
      obtain ⟨h1, h2⟩ := enumL_at.mp hx
      replace h1 : x1 = i := h1
      subst h1
      obtain ⟨w1, p1, p2⟩ := r.at (i := i) (d := f x2) (by rw [List.getElem?_map, h2]; rfl)
      have z1 := (y1 vs (SqL.of (less_lst k e))).symm.trans p1
      cases z1
      exact tup_new hd nT (.cons (.int _) (.cons (p2.kp k) .nil))
/-- for x in .. -/
theorem s_forG (I : Nat → List Slot → Prop) (hs : EWg c wi xs R) (h0 : I 0 c.g)
    (hb : ∀ h1 i x gs, Kp c.h0 h1 → xs[i]? = some x → I i gs → ∃ g' is, EG ⟨c.hs, h1, c.om, gs⟩ g (R x) g' is ∧ WC ⟨c.hs, h1, c.om, g'⟩ (tb (inL c.hs h1 c.om (I (i + 1)) D)))
    (hd : ∀ gs, I xs.length gs → WC (c.at gs) D.nx) : WC c (tFor wi g tb D) := fun σ H s => hs σ H s _ fun H1 J k1 ok => by
  have s1 := s.kp k1
  refine ⟨fun i m σ' H' => m = xs.length - i ∧ i ≤ xs.length ∧ Nx ⟨c.hs, bas c σ H1, c.om, []⟩ (I i) σ' H', ⟨xs.length, rfl, Nat.zero_le _, c.g, h0, s1.h0 (Kp.refl _)⟩, ?_⟩
  rintro i m σ' H' ⟨rfl, hi, gs, hg, s'⟩
  by_cases hlt : i < xs.length
  · refine .inr ⟨ok.go i H' _ s'.hid' s'.k0 hlt, Nx ⟨c.hs, bas c σ H1, c.om, []⟩ (I (i + 1)), fun σ'' H'' p' => ⟨xs.length - (i + 1), by omega, rfl, hlt, p'⟩, fun x H2 y => ?_⟩
    obtain ⟨k2, r⟩ := ok.yld i H' _ x H2 s'.hid' s'.k0 y _ (List.getElem?_eq_getElem hlt)
    obtain ⟨g', is, hg', hw⟩ := hb (bas c σ H1) i _ gs s1.k0 (List.getElem?_eq_getElem hlt) hg
    exact hg' σ' H2 x (s'.kp k2) r _ fun σ2 s2 _ _ => hw σ2 H2 s2
  · have e : i = xs.length := by omega
    subst e
    exact .inl ⟨ok.stop _ H' _ s'.hid' s'.k0 (Nat.le_refl _), hd gs hg σ' H' (s'.h0 (s1.k0.trans s'.k0))⟩
/-- [e for x in .. if t] -/
theorem n_lcG {G : α → List Slot} {is vs : List Nat} {p : α → Bool} {fe : α → PyData} (hs : EWg c wi xs R) (hw : anyAt c.g vs = true) (his : ∀ i ∈ is, i ∈ vs)
    (hg : ∀ om, ∀ x, x ∈ xs → EG ⟨c.hs, c.h0, om, c.g⟩ g (R x) (G x) is) (ht : ∀ om, ∀ x, x ∈ xs → ET ⟨c.hs, c.h0, om, G x⟩ tt (p x))
    (he : ∀ om, ∀ x, x ∈ xs → p x = true → E true ⟨c.hs, c.h0, om, G x⟩ te (RD (fe x))) (hl : xs.length < 16777216) : EN c (tLc wi g tt te vs) (OL ((xs.filter p).map fe)) := fun σ H s Q q => by
  refine hs σ H s _ fun H1 J k1 ok D nD => ?_
  have s1 := s.kp k1
  have fD : Fre c.hs D := .of s1.ks nD
  have hw := anyAt_of hw
  have sw := s1.wipe hw
  have ew : ∀ H', bas c (wipe σ vs) H' = bas c σ H' := fun H' => bas_iff (fun a => or_congr (own_wipe hw a) Iff.rfl) fun _ _ => rfl
  refine ⟨fun i m H' => m = xs.length - i ∧ i ≤ xs.length ∧ Kc c (wipe σ vs) H1 D (((xs.take i).filter p).map fe) H', ⟨xs.length, rfl, Nat.zero_le _, ?_⟩, ?_⟩
  · obtain ⟨sh, eb⟩ := sw.hide (o := .lst []) nD trivial
    exact ⟨⟨[], upd_same, by simpa using DtAll.nil⟩, sh, by rw [less_upd]; exact kp_of fun b o e => by rw [wo_ne (ne_of_none e nD)]; exact e⟩
  rintro i m H' ⟨rfl, hi, h⟩
  have kB : Kp (bas c σ H1) (bas ⟨c.hs, c.h0, fun a => c.om a ∨ a = D, c.g⟩ (wipe σ vs) H') := by
    rw [← bas_less, ew]
    exact s1.kb h.kp
  by_cases hlt : i < xs.length
  · refine .inr ⟨ok.go i H' _ h.st.hid' kB hlt, Kc c (wipe σ vs) H1 D (((xs.take (i + 1)).filter p).map fe), fun H'' p' => ⟨xs.length - (i + 1), by omega, rfl, hlt, p'⟩, fun v H2 y => ?_⟩
    have ex := List.getElem?_eq_getElem hlt
    obtain ⟨k2, r⟩ := ok.yld i H' _ v H2 h.st.hid' kB y _ ex
    have h2 := h.grow k2
    have hm : xs[i] ∈ xs := List.getElem_mem hlt
    refine hg _ _ hm _ H2 v h2.st r _ fun σ2 s2 e2 w2 => ⟨(w2 vs his).trans (wipe_wipe fun _ m => m), ht _ _ hm σ2 H2 s2 _ fun H3 k3 => ?_⟩
    cases hp : p xs[i] with
    | false =>
      rw [if_neg Bool.false_ne_true, ft_succ ex, hp, if_neg Bool.false_ne_true, List.append_nil]
      exact h2.grow k3
    | true =>
      rw [if_pos rfl]
      refine he _ _ hm hp σ2 H3 (s2.kp k3) _ fun H4 y k4 r4 => ?_
      have h4 := (h2.grow k3).grow k4
      obtain ⟨acc, ea, aa⟩ := h4.ex
      refine ⟨acc, ea, ?_, ?_⟩
      · have := lc_len (p := p) (f := fe) (i := i) (Nat.le_refl xs.length)
        have hs : sizeLine = 16777216 := sizeLine_eq
        rw [aa.len]
        omega
      · rw [ft_succ ex, hp, if_pos rfl]
        refine h4.put fD ea ?_
        rw [hb_t] at r4
        rw [← e2]
        exact r4
  · have e : i = xs.length := by omega
    subst e
    refine .inl ⟨ok.stop _ H' _ h.st.hid' kB (Nat.le_refl _), ?_⟩
    obtain ⟨acc, ea, aa⟩ := h.ex
    rw [← upd_less ea]
    refine q _ D _ (k1.trans h.kp) wo_at ⟨acc, rfl, ?_⟩
    rw [← ew, bas_less]
    rw [List.take_length] at aa
    exact aa
theorem n_lcGM {γ : Type} {G : α → List Slot} {is vs : List Nat} {p : α → Bool} {fe : α → γ} {encB : γ → PyData} (hs : EWg c wi xs R) (hw : anyAt c.g vs = true) (his : ∀ i ∈ is, i ∈ vs)
    (hg : ∀ om, ∀ x, x ∈ xs → EG ⟨c.hs, c.h0, om, c.g⟩ g (R x) (G x) is) (ht : ∀ om, ∀ x, x ∈ xs → ET ⟨c.hs, c.h0, om, G x⟩ tt (p x))
    (he : ∀ om, ∀ x, x ∈ xs → p x = true → E true ⟨c.hs, c.h0, om, G x⟩ te (RD (encB (fe x)))) (hl : xs.length < 16777216) : EN c (tLc wi g tt te vs) (OL (((xs.filter p).map fe).map encB)) :=
  (n_lcG (fe := fun x => encB (fe x)) hs hw his hg ht he hl).eqL (by rw [List.map_map]; rfl)
theorem n_lcGM1 {γ : Type} {G : α → List Slot} {is vs : List Nat} {fe : α → γ} {encB : γ → PyData} (hs : EWg c wi xs R) (hw : anyAt c.g vs = true) (his : ∀ i ∈ is, i ∈ vs)
    (hg : ∀ om, ∀ x, x ∈ xs → EG ⟨c.hs, c.h0, om, c.g⟩ g (R x) (G x) is)
    (he : ∀ om, ∀ x, x ∈ xs → True → E true ⟨c.hs, c.h0, om, G x⟩ te (RD (encB (fe x)))) (hl : xs.length < 16777216) : EN c (tLc wi g tYes te vs) (OL ((xs.map fe).map encB)) :=
  (n_lcGM (p := fun _ => true) hs hw his hg (fun _ _ _ => t_yes) (fun om x m _ => he om x m trivial) hl).eqL (by rw [List.filter_eq_self.mpr (fun _ _ => rfl)])
/-! #### xs[k] = e, xs being changed -/
theorem DtAll.set {H : Hp} {vs : List V} {ds : List PyData} (h : DtAll H vs ds) : ∀ {j : Nat} {v : V} {d : PyData}, Dt H v d → DtAll H (vs.set j v) (ds.set j d) := by
  induction vs generalizing ds with
  | nil => cases h; intro j v d _; exact .nil
  | cons u vs ih =>
    cases h with
    | cons a b =>
      intro j v d r
      cases j with
      | zero => exact .cons r b
      | succ j => exact .cons a (ih b r)
theorem s_setM {i j : Nat} {k : Int} {a : α} (e : c.g[i]? = some (.own (OL (xs.map f)))) (hv : E true c te (RD (f a))) (hk : E false c ti (RD (.int k))) (hj : ixN xs.length k = some j) (q : WC (c.set i (.own (OL ((xs.set j a).map f)))) D.nx) :
    WC c (tAsg te (gSub (tVar i) ti rSetL) D) := fun σ H s => hv σ H s _ fun H1 v k1 r1 => by
  have s1 := s.kp k1
  obtain ⟨p, o, e1, e2, ⟨vs, rfl, a⟩, _⟩ := s1.own i _ e
  refine ⟨.ref p, e1, hk σ H1 s1 _ fun H2 u k2 r2 => ?_⟩
  cases r2
  have n := a.len
  rw [List.length_map] at n
  refine ⟨p, vs, k, j, rfl, rfl, k2.lst e2, by rw [n]; exact hj, ?_⟩
  rw [hb_t] at r1
  refine q σ _ ((s1.kp k2).mut (C' := OL ((xs.set j _).map f)) e e1 ⟨_, rfl, ?_⟩).1
  rw [List.map_set]
  exact (a.kp (s1.kb k2)).set (r1.kp (s1.kb k2))
theorem ixN_last {n : Nat} (h : 1 ≤ n) : ixN n (-1) = some (n - 1) := by
  unfold ixN
  rw [if_neg (by omega), if_pos (by omega)]
  congr 1
  omega
theorem o_intB {x : Bool} : On (fun xs H Q => (∃ i, xs = [.int i] ∧ Q (.int i) H) ∨ ∃ k, xs = [.bl k] ∧ Q (.int (if k then 1 else 0)) H) [RD (.bool x)] (RD (.int (if x = true then 1 else 0))) := fun H M vs _ r Q q => by
  obtain ⟨v, r', rfl, h1, rfl⟩ := r
  cases h1
  refine .inr ⟨_, rfl, ?_⟩
  cases x
  · exact q H _ (Kp.refl _) (.int _)
  · exact q H _ (Kp.refl _) (.int _)
/-- t[i], t a tuple of things of one kind -/
theorem e_ixTL {b : Bool} {ta tb : TE} {i : Int} [Inhabited α] (ha : E b c ta (RD (.tuple (xs.map f)))) (hi : E b c tb (RD (.int i))) (z : -(xs.length : Int) ≤ i ∧ i < xs.length) : E b c (tOp (rIxT K) ta tb) (RD (f (ix xs i))) := e_op (o_ixT (ix_at z)) ha hi
end
/-! ### a list of three things -/
abbrev eH3 {α β γ : Type} (f : α → PyData) (g : β → PyData) (k : γ → PyData) : α × β × γ → PyData := fun p => .list [f p.1, g p.2.1, k p.2.2]
theorem enc_H3 {α β γ : Type} [DecidableEq α] [DecidableEq β] [DecidableEq γ] {f : α → PyData} {g : β → PyData} {k : γ → PyData} {n m l : Nat} {P : α → Prop} {S : β → Prop} {T : γ → Prop} (h : Enc f n P) (q : Enc g m S) (r : Enc k l T) : Enc (eH3 f g k) (max (max n m) l + 1) (fun p => P p.1 ∧ S p.2.1 ∧ T p.2.2) := by
  have e := enc_T3 h q r
  exact ⟨e.eqv, e.lay, e.dep, e.nod⟩
/-! ### a written dict of texts to tuples of numbers -/
structure CDict (K : PySem.W.Frag) (w : World) (d : Addr) (ks : List Str) (f : Str → List Int) : Prop where
  at_ : ∃ (es : Array DictEntry) (n : Nat), K.lookup d = some ⟨.type "dict", none, .dict es n, #[]⟩ ∧ PySem.W.KeysLit w.params es.toList ∧ es.size = ks.length ∧ ∀ (i : Nat) (x : Str), ks[i]? = some x → ∃ en t, es[i]? = some en ∧ en.key = .str x t
  low : (d == sysModules) = false
  val : ∀ x ∈ ks, ∃ a u, PySem.W.nsIn K d x = some (some (.ref a)) ∧ K.lookup a = some u ∧ u.cls = .type "tuple" ∧ ∃ (its : Array Value) (n : Nat), u.data = .seq its n ∧ its.size ≤ sizeLine ∧ Vals ((f x).map V.int) its.toList
/-- a tuple of numbers, written or made -/
def RTI (K : PySem.W.Frag) (ns : List Int) : Rel := ⟨fun H v => ∃ a, v = .ref a ∧ SqT K H a (ns.map V.int), fun k ⟨a, e, h⟩ => ⟨a, e, by
  rcases h with (h | ⟨o, h⟩) | h
  · exact .inl (.inl (k.tup h))
  · exact .inl (.inr ⟨o, k.at_ _ _ h fun _ z => nomatch z⟩)
  · exact .inr h⟩⟩
theorem RTI.dp {K : PySem.W.Frag} {ns : List Int} {H : Hp} {v : V} (h : (RTI K ns).p H v) : Dp K H v (.tuple (ns.map PyData.int)) := by
  obtain ⟨a, rfl, h⟩ := h
  refine .tup h ?_
  clear h
  induction ns with
  | nil => exact .nil
  | cons n ns ih => exact .cons (.int n) ih
section
variable {c : Ct} {b : Bool} {te td : TE} {K : PySem.W.Frag} {w : World} {d : Addr} {ks : List Str} {f : Str → List Int}
theorem e_cd {x : Str} (C : CDict K w d ks f) (hx : x ∈ ks) (hi : E b c te (RD (.str x))) : E b c (tOp (rIxD K w) (tC (.ref d)) te) (RTI K (f x)) := fun σ H s Q q =>
  hi σ H s _ fun H1 v k r => by
    cases r
    obtain ⟨es, n, hl, lit, _⟩ := C.at_
    obtain ⟨a, u, h1, h2, h3, its, m, h4, h5, h6⟩ := C.val x hx
    exact ⟨d, x, .ref a, rfl, rfl, ⟨es, n, _, hl, lit, h1, rfl⟩, q H1 _ k ⟨a, rfl, .inr ⟨u, its, m, h2, h3, h4, h5, h6⟩⟩⟩
/-- the keys, walked -/
def ItC (ks : List Str) : It := ⟨fun i _ => i < ks.length, fun i H v H' => H' = H ∧ ∃ x, ks[i]? = some x ∧ v = .str x, fun i _ => ks.length ≤ i⟩
theorem turn_keysC {P : Program} {tg : Expr} {it : Addr} {es : Array DictEntry} {ep : Nat} (hl : K.lookup d = some ⟨.type "dict", none, .dict es ep, #[]⟩) (hsz : es.size = ks.length) (hk : ∀ (i : Nat) (x : Str), ks[i]? = some x → ∃ en t, es[i]? = some en ∧ en.key = .str x t) :
    Turn P w K tg (ItC ks) [it] it (fun i h => h.IsKeyIter it d i ks.length ep) where
  mem := by simp
  obj := fun i h st b hb => by
    have e : b = it := by simpa using hb
    subst e
    obtain ⟨oi, e, c, dd⟩ := st
    exact ⟨oi, e, fun v z => by rw [dd] at z; cases z⟩
  keep := fun i h h' st k => st.at fun oi e => k it (by simp) oi e
  item := by
    intro X hP hw hK hc i pins s σ H E I hf st hg
    subst hP hw hK
    obtain ⟨f0, f1, f2, f3, f4, f5⟩ := hf it (by simp)
    have hx : ks[i]? = some ks[i] := List.getElem?_eq_getElem hg
    obtain ⟨en, t, e1, e2⟩ := hk i _ hx
    refine next_key_item st (I.kIn _ _ hl) rfl hsz e1 fun h' st' sb => ?_
    have I1 : Inv X pins σ H { s with heap := h' } := I.turned (t' := s.toks) (fun b ob hb e => (sb.2 b hb).trans e) f0 f1 f3 f4 f5
    obtain ⟨oi, e, c, dd⟩ := id st'
    exact ⟨en.key, rfl, go_of (s := { s with heap := h' }) e c dd (by decide) ⟨.str ks[i], H, I1, by rw [e2]; exact ⟨t, rfl⟩, ⟨rfl, _, hx, rfl⟩, st', fun b hb => (hf b hb).1⟩⟩
  done := by
    intro X hP hw hK hc i pins s σ H E I hf st hg
    subst hP hw hK
    obtain ⟨f0, f1, f2, f3, f4, f5⟩ := hf it (by simp)
    exact next_key_end (I.ok.hd hc) st (I.kIn _ _ hl) rfl hsz hg fun h' eb => ⟨rfl, I.turned (t' := s.toks) (fun b ob hb e => eb b ob hb e) f0 f1 f3 f4 f5⟩
  self := fun A i s Q E st h => wpAny_pyIter_keyiter st h
def iKeysC (d : Addr) (ks : List Str) (td : TE) : TI := fun σ H R => td σ H fun x H1 => x = .ref d ∧ R (ItC ks) H1
theorem pi_keysC {X : Cx} {tg e : Expr} (C : CDict X.K X.w d ks f) (he : PE X e td) : PI X tg e (iKeysC d ks td) := by
  refine ⟨fun pins s σ H R I h => ?_⟩
  refine thn (he.run pins s σ H _ I h) fun u s1 ⟨x, H1, I1, rx, ex, q⟩ => ?_
  subst ex
  obtain rfl : u = Value.ref d := rx
  obtain ⟨es, ep, hl, lit, hsz, hk⟩ := C.at_
  refine iter_keys C.low (I1.kIn _ _ hl) ⟨rfl, rfl, rfl⟩ rfl (pi_one (tk := s1.toks) I1 _ (turn_keysC hl hsz hk) ⟨_, Heap.get?_push_size _ rfl, rfl, ?_⟩ q)
  rw [hsz] <;> rfl
theorem w_keysC : EWg c (iKeysC d ks (tC (.ref d))) ks (fun x => RD (.str x)) := fun σ H s Q q => ⟨rfl, q H _ (Kp.refl _) ⟨fun i G M hd k hi => hi, fun i G M hd k hi => hi, fun i G M v G' hd k y x hx => by
  obtain ⟨rfl, z, e, rfl⟩ := y
  cases hx.symm.trans e
  exact ⟨Kp.refl _, .str _⟩⟩⟩
end
/-! #### two of one kind compared, one of them written -/
theorem o_eqTI {K : PySem.W.Frag} {ns ms : List Int} {hd : Decidable (ns = ms)} : O2 (rEqD K) (RTI K ns) (RD (.tuple (ms.map PyData.int))) (RD (.bool (@decide (ns = ms) hd))) := fun H M x y _ r1 r2 Q q => by
  have en := enc_tupl enc_int
  obtain ⟨a, rfl, h⟩ := r1
  have h' : (RTI K ns).p H (.ref a) := (RTI K ns).mn kp_less ⟨a, rfl, h⟩
  refine ⟨.tuple (ns.map PyData.int), .tuple (ms.map PyData.int), RTI.dp h', (Dt.kp kp_less r2).dp (en.nod ms), en.shaped (by decide) (fun _ _ => trivial), en.shaped (by decide) (fun _ _ => trivial), q H _ (Kp.refl _) ?_⟩
  rw [show PyData.eqv (.tuple (ns.map PyData.int)) (.tuple (ms.map PyData.int)) = @decide (ns = ms) (instDecidableEqList ns ms) from en.eqv ns ms]
  exact dec_bl _ _ id
/-- a, b = t -/
theorem g_tupI {K : PySem.W.Frag} {c : Ct} {i j : Int} {u : TGs} {g1 : List Slot} {is : List Nat} (h : EGs c u [.int i, .int j] g1 is) : EG c (gTup K 2 u) (RTI K [i, j]) g1 is := fun σ H v s r Q q => by
  obtain ⟨a, rfl, r⟩ := r
  refine ⟨a, _, rfl, ?_, rfl, h σ H _ s (.cons (.int i) (.cons (.int j) .nil)) Q q⟩
  rcases r with (r | ⟨o, r⟩) | r
  · exact .inl (.inl (less_some r).2)
  · exact .inl (.inr ⟨o, (less_some r).2⟩)
  · exact .inr r
end Pk

namespace Pk
open PySem L2
def topS (i : Nat) : Stmt := PySem.Challenge.pw_pickaisle_k44_walks_told_in_short.main.body.getD i (.Pass ⟨0, 0, 0, 0⟩)
abbrev s_runs_of : Stmt := topS 2
theorem sc_runs_of : FnScope ["walk", "runs", "one", "other", "word"] ["walk"] (defScope s_runs_of) := ⟨rfl, rfl, rfl, by decide +kernel, rfl, by decide +kernel, by decide +kernel⟩
abbrev s_walk_by : Stmt := topS 3
theorem sc_walk_by : FnScope ["place", "runs", "walk", "word", "many", "right", "up", "_", "aisle", "height"] ["place", "runs"] (defScope s_walk_by) := ⟨rfl, rfl, rfl, by decide +kernel, rfl, by decide +kernel, by decide +kernel⟩
abbrev s__direction : Stmt := topS 4
theorem sc__direction : FnScope ["one", "other", "step", "word"] ["one", "other"] (defScope s__direction) := ⟨rfl, rfl, rfl, by decide +kernel, rfl, by decide +kernel, by decide +kernel⟩
abbrev s__law_row : Stmt := topS 6
theorem sc__law_row : FnScope ["cell", "many", "row", "rest", "state", "k"] ["cell", "many"] (defScope s__law_row) := ⟨rfl, rfl, rfl, by decide +kernel, rfl, by decide +kernel, by decide +kernel⟩
abbrev s__law_numbers : Stmt := topS 7
theorem sc__law_numbers : FnScope ["script", "many", "cells", "each", "numbers", "cell", "number"] ["script", "many"] (defScope s__law_numbers) := ⟨rfl, rfl, rfl, by decide +kernel, rfl, by decide +kernel, by decide +kernel⟩
abbrev s__law_moved : Stmt := topS 8
theorem sc__law_moved : FnScope ["place", "word", "aisle", "height"] ["place", "word"] (defScope s__law_moved) := ⟨rfl, rfl, rfl, by decide +kernel, rfl, by decide +kernel, by decide +kernel⟩
abbrev s_law : Stmt := topS 9
theorem sc_law : FnScope ["script", "numbers", "place", "walk", "runs", "parted", "k", "word", "many", "turn", "handed", "told"] ["script"] (defScope s_law) := ⟨rfl, rfl, rfl, by decide +kernel, rfl, by decide +kernel, by decide +kernel⟩
/-! ### heaps -/
theorem same_upd {H : Hp} {p : Addr} {o : HO} (h : H p = none) : Same H (upd H p o) := fun b x e => by
  rw [upd_ne (ne_of_none e h)]
  exact e
/-- a list of numbers below 1009 -/
def Small (ns : List Int) : Prop := ∀ n ∈ ns, 0 ≤ n ∧ n < 1009
theorem Small.nil : Small [] := fun _ h => nomatch h
theorem Small.snoc {ns : List Int} (h : Small ns) {n : Int} (h0 : 0 ≤ n) (h1 : n < 1009) : Small (ns ++ [n]) := fun k hk => by
  rcases List.mem_append.mp hk with z | z
  · exact h k z
  · rw [List.mem_singleton] at z
    subst z
    exact ⟨h0, h1⟩
theorem small1e7 {n : Nat} (h : n ≤ 100000) : n < sizeLine := Nat.lt_of_le_of_lt h (by decide)
section
local macro_rules | `(tactic| walk_at "rd1") => `(tactic| first
  | (refine Exists.intro _ (And.intro rfl ?_))
  | (refine ⟨_, _, rfl, rfl, ?_⟩)
  | (refine Or.inl (Exists.intro _ (And.intro rfl ?_)))
  | (refine ⟨_, _, _, rfl, rfl, by assumption, by assumption, ?_⟩)
  | (refine And.intro (Or.inl ⟨rfl, _, SqL.of (by assumption)⟩) ?_)
  | (refine And.intro (by (first | omega | (dsimp only; omega) | (constructor <;> omega) | (refine Or.inl ?_; constructor <;> omega) | (refine Or.inr ?_; constructor <;> omega) | exact ⟨by decide, by decide, by decide⟩)) ?_))
local macro_rules | `(tactic| walk_at "rd") => `(tactic| repeat walk_at "rd1")
variable {P : Program} {w : World} {K : PySem.W.Frag} {mg : Str → Option Value} {base : Heap}
/-- the names of built-ins that no def of the text hides -/
structure DrawTxt (mg : Str → Option Value) (fR : Addr) : Prop where
  abs : mg "abs" = none
  int : mg "int" = none
  range : mg "range" = none
  len : mg "len" = none
  max : mg "max" = none
  row : mg "_law_row" = some (.ref fR)
/-- a row of numbers: a new list of as many numbers as asked, each from 0 to 1008 -/
def spRow : Sp := fun vs H Q _ => ∃ (c : Int) (m : Nat), vs = [.int c, .int m] ∧ m ≤ 1000 ∧
  ∀ (H' : Hp) (p : Addr) (ns : List Int), Same H H' → H p = none → H' p = some (.lst (ns.map V.int)) → ns.length = m → Small ns → Q (.ref p) H'
theorem ok_row {f fR : Addr} {fd : FuncData} {k : Nat} (F : Fun K "_law_row" "_law_row" s__law_row f fd) (T : DrawTxt mg fR) : FnOk P w K mg base CX0 (k + 1) f fd ["cell", "many"] spRow := by
  refine F.ok sc__law_row (fun vs H Q E h => ?_) (fun cdv A outer s H vs Q E hr h => ?_)
  · obtain ⟨c, m, rfl, _⟩ := h
    rfl
  · obtain ⟨c, m, rfl, hm, q⟩ := h
    have nd := sc__law_row.nd
    refine ⟨_, pss_cons (ps_set (i := 2) nd rfl (.inl rfl) (pe_lst pa_nil))
      (pss_cons (ps_set (i := 3) nd rfl (.inl rfl) pe_int)
      (pss_cons (ps_if (pt_cmpR op_ge (pe_callB call_abs (by rfl) T.abs (by decide +kernel) (pa_cons (pv 0) pa_nil)) (pe_op op_pow pe_int pe_int) (nomark _))
          (pss_one (ps_set (i := 3) nd rfl (.inl rfl) (pe_callB call_abs (by rfl) T.abs (by decide +kernel) (pa_cons (pv 0) pa_nil)))) pss_nil)
      (pss_cons (ps_set (i := 4) nd rfl (.inl rfl) (pe_op op_mod (pe_callTy call_int1 (by rfl) T.int (by decide +kernel) (pa_cons (pe_callB call_abs (by rfl) T.abs (by decide +kernel) (pa_cons (pv 0) pa_nil)) pa_nil)) pe_int))
      (pss_cons (ps_for PassesOwn.never rfl (pi_range1 rfl T.range (pa_cons (pv 1) pa_nil)) (pg_name (i := 5) nd rfl (.inl rfl))
        (pss_cons (ps_set (i := 4) nd rfl (.inl rfl) (pe_op op_mod (pe_callTy call_int1 (by rfl) T.int (by decide +kernel)
            (pa_cons (pe_op op_add (pe_op op_mul (pe_op op_add (pv 4) pe_int) pe_int) (pe_op op_mul pe_int (pv 5))) pa_nil)) pe_int))
        (pss_one (ps_if (pt_cmpR op_gt (pv 3) pe_int (nomark _))
          (pss_cons (ps_expr (pe_bm PySem.F.plainAttrs_list PySem.F.slot_list_append PySem.F.type_list_append mt_append (pv 2)
              (pa_cons (pe_op op_mod (pe_callTy call_int1 (by rfl) T.int (by decide +kernel) (pa_cons (pv 3) pa_nil)) pe_int) pa_nil)))
            (pss_one (ps_set (i := 3) nd rfl (.inl rfl) (pe_op op_fdiv (pv 3) pe_int))))
          (pss_one (ps_expr (pe_bm PySem.F.plainAttrs_list PySem.F.slot_list_append PySem.F.type_list_append mt_append (pv 2)
              (pa_cons (pe_op op_mod (pe_callTy call_int1 (by rfl) T.int (by decide +kernel) (pa_cons (pe_op op_fdiv (pv 4) pe_int) pa_nil)) pe_int) pa_nil))))))))
      (pss_one (ps_ret (pv 2))))))), ?_⟩
    refine ⟨Nat.zero_le _, fun r nr => ?_⟩
    have s1 : Same H (upd H r (.lst [])) := same_upd nr
    walk_at "rd"
    refine ite2 (fun hc => ?_) (fun hc => ?_)
    all_goals
      walk_at "rd"
      refine for_range (lo := 0) (n := m) (fun i σ H' => ∃ (ns : List Int) (rst st : Int) (vk : Option V), σ = [some (.int c), some (.int m), some (.ref r), some (.int rst), some (.int st), vk] ∧ Same H H' ∧ H' r = some (.lst (ns.map V.int)) ∧ ns.length = i ∧ Small ns ∧ 0 ≤ st ∧ st < 2147483647)
        ⟨[], _, _, none, rfl, s1, upd_same, rfl, Small.nil, Int.emod_nonneg _ (by decide), Int.emod_lt_of_pos _ (by decide)⟩ ?_ ?_
      · rintro i σ H' hi ⟨ns, rst, st, vk, rfl, sm, hrow, hl, hs, h0, h1⟩
        have hlen : (ns.map V.int).length < sizeLine := by
          rw [List.length_map]
          exact small1e7 (by omega)
        walk_at "rd"
        refine ite2 (fun hc2 => ?_) (fun hc2 => ?_)
        · walk_at "rd"
          refine ⟨ns ++ [rst % 1009], _, _, _, rfl, fun b o e => ?_, ?_, ?_, hs.snoc (Int.emod_nonneg _ (by decide)) (Int.emod_lt_of_pos _ (by decide)), Int.emod_nonneg _ (by decide), Int.emod_lt_of_pos _ (by decide)⟩
          · rw [upd_ne (ne_of_none e nr)]
            exact sm b o e
          · rw [upd_same, List.map_append]
            rfl
          · rw [List.length_append, hl]
            rfl
        · walk_at "rd"
          refine ⟨ns ++ [((st + 1) * 48271 + 69621 * (0 + (i : Int))) % 2147483647 / 2048 % 1009], _, _, _, rfl, fun b o e => ?_, ?_, ?_, hs.snoc (Int.emod_nonneg _ (by decide)) (Int.emod_lt_of_pos _ (by decide)), Int.emod_nonneg _ (by decide), Int.emod_lt_of_pos _ (by decide)⟩
          · rw [upd_ne (ne_of_none e nr)]
            exact sm b o e
          · rw [upd_same, List.map_append]
            rfl
          · rw [List.length_append, hl]
            rfl
      · rintro σ H' ⟨ns, rst, st, vk, rfl, sm, hrow, hl, hs, h0, h1⟩
        exact ⟨_, rfl, q H' r ns sm nr hrow hl hs⟩
/-- as many numbers as asked, drawn from the script: a new list, each from 0 to 1008 -/
def spNumbers (K : PySem.W.Frag) : Sp := fun vs H Q _ => ∃ (a : Addr) (xs : List Int) (m : Nat), vs = [.ref a, .int m] ∧ SqL K H a (xs.map V.int) ∧ xs.length ≤ 63 ∧ m ≤ 200 ∧
  ∀ (H' : Hp) (p : Addr) (ns : List Int), Same H H' → H p = none → H' p = some (.lst (ns.map V.int)) → ns.length = m → Small ns → Q (.ref p) H'
theorem cut_all (xs : List V) (h : xs.length ≤ 63) : cutV xs none (some 63) = xs := by
  unfold cutV
  rw [show HT.sIx xs.length xs.length (some 63) = min 63 xs.length from HT.sIx_nat xs.length xs.length 63, HT.sIx_none, List.drop_zero, Nat.sub_zero, Nat.min_eq_right h, List.take_length]
theorem cut_to (xs : List V) (m : Nat) : cutV xs none (some (m : Int)) = xs.take m := by
  unfold cutV
  rw [HT.sIx_nat, HT.sIx_none, List.drop_zero, Nat.sub_zero]
  rcases Nat.le_total m xs.length with h | h
  · rw [Nat.min_eq_left h]
  · rw [Nat.min_eq_right h, List.take_length, List.take_of_length_le h]
def lenAt (H : Hp) (p : Addr) : Nat := match H p with
  | some (.lst xs) => xs.length
  | _ => 0
theorem lenAt_of {H : Hp} {p : Addr} {xs : List V} (h : H p = some (.lst xs)) : lenAt H p = xs.length := by
  unfold lenAt
  rw [h]
theorem each_nat (m n : Nat) (hm : m ≤ 200) : ∃ e : Nat, 1 + (m : Int).fdiv (if (n : Int) > 1 then (n : Int) else 1) = (e : Int) ∧ e ≤ 201 := by
  have hp : 0 < (if (n : Int) > 1 then (n : Int) else 1) := by split <;> omega
  have e1 : (m : Int).fdiv (if (n : Int) > 1 then (n : Int) else 1) = (m : Int) / (if (n : Int) > 1 then (n : Int) else 1) := Int.fdiv_eq_ediv_of_nonneg _ (Int.le_of_lt hp)
  have h0 : 0 ≤ (m : Int) / (if (n : Int) > 1 then (n : Int) else 1) := Int.ediv_nonneg (by omega) (Int.le_of_lt hp)
  have h1 : (m : Int) / (if (n : Int) > 1 then (n : Int) else 1) ≤ m := Int.ediv_le_self _ (by omega)
  rw [e1]
  exact ⟨(1 + (m : Int) / (if (n : Int) > 1 then (n : Int) else 1)).toNat, by omega, by omega⟩
theorem ok_numbers {f fR : Addr} {fd fdR : FuncData} (F : Fun K "_law_numbers" "_law_numbers" s__law_numbers f fd) (T : DrawTxt mg fR) (FR : Fun K "_law_row" "_law_row" s__law_row fR fdR) (bR : Binds K fdR ["cell", "many"] []) :
    FnOk P w K mg base CX0 2 f fd ["script", "many"] (spNumbers K) := by
  have GR : FnOk P w K mg base CX0 1 fR fdR ["cell", "many"] spRow := ok_row FR T
  refine F.ok sc__law_numbers (fun vs H Q E h => ?_) (fun cdv A outer s H vs Q E hr h => ?_)
  · obtain ⟨a, xs, m, rfl, _⟩ := h
    rfl
  · obtain ⟨a, xs, m, rfl, hS, hx, hm, q⟩ := h
    have nd := sc__law_numbers.nd
    refine ⟨_, pss_cons (ps_set (i := 2) nd rfl (.inl rfl) (pe_slice sl_list (pv 0) po_none (po_some pe_int)))
      (pss_cons (ps_set (i := 3) nd rfl (.inl rfl) (pe_op op_add pe_int (pe_op op_fdivN (pv 1) (pe_callB (call_max2 rfl) (by rfl) T.max (by decide +kernel)
          (pa_cons pe_int (pa_cons (pe_callB call_len (by rfl) T.len (by decide +kernel) (pa_cons (pv 2) pa_nil)) pa_nil))))))
      (pss_cons (ps_set (i := 4) nd rfl (.inl rfl) (pe_lst pa_nil))
      (pss_cons (ps_for PassesOwn.never rfl (pi_list (pv 2)) (pg_name (i := 5) nd rfl (.inl rfl))
        (pss_one (ps_for PassesOwn.never rfl (pi_list (pe_call GR hr (by rfl) T.row FR.kp bR .nil pass0 (pa_cons (pv 5) (pa_cons (pv 3) pa_nil)))) (pg_name (i := 6) nd rfl (.inl rfl))
          (pss_one (ps_expr (pe_bm PySem.F.plainAttrs_list PySem.F.slot_list_append PySem.F.type_list_append mt_append (pv 4) (pa_cons (pv 6) pa_nil)))))))
      (pss_cons (ps_while PassesOwn.never (pt_cmpR op_lt (pe_callB call_len (by rfl) T.len (by decide +kernel) (pa_cons (pv 4) pa_nil)) (pv 1) (nomark _))
        (pss_one (ps_expr (pe_bm PySem.F.plainAttrs_list PySem.F.slot_list_append PySem.F.type_list_append mt_append (pv 4) (pa_cons pe_int pa_nil)))))
      (pss_one (ps_ret (pe_slice sl_list (pv 4) po_none (po_some (pv 1))))))))), ?_⟩
    refine ⟨_, rfl, _, rfl, a, _, rfl, hS, fun c nc => ?_⟩
    rw [cut_all _ (by rw [List.length_map]; exact hx)]
    have s1 : Same H (upd H c (.lst (xs.map V.int))) := same_upd nc
    refine ⟨_, rfl, _, rfl, _, _, rfl, .inl ⟨_, SqL.of upd_same, rfl⟩, _, _, rfl, _, _, rfl, rfl, ?_, ?_⟩
    · constructor
      · rw [List.length_map]
        split <;> omega
      · rw [List.length_map]
        split <;> omega
    refine ⟨_, _, rfl, rfl, ?_⟩
    dsimp only
    obtain ⟨e, he, hle⟩ := each_nat m (List.map V.int xs).length hm
    rw [he]
    refine ⟨Nat.zero_le _, fun b nb => ?_⟩
    have s2 : Same (upd H c (.lst (xs.map V.int))) (upd (upd H c (.lst (xs.map V.int))) b (.lst [])) := same_upd nb
    have nbc : c ≠ b := ne_of_none upd_same nb
    have nb0 : H b = none := s1.free nb
    -- for cell in cells
    refine ⟨_, rfl, c, rfl, ⟨_, SqL.of (s2 _ _ upd_same)⟩, for_list (K := K) (a := c) (xs := xs.map V.int) (fun i σ H' => ∃ (ns : List Int) (v5 v6 : Option V), σ = [some (.ref a), some (.int m), some (.ref c), some (.int e), some (.ref b), v5, v6] ∧ Same H H' ∧ H' c = some (.lst (xs.map V.int)) ∧ H' b = some (.lst (ns.map V.int)) ∧ ns.length ≤ i * 201 ∧ Small ns)
      ⟨[], none, none, rfl, s1.trans s2, s2 _ _ upd_same, upd_same, Nat.zero_le _, Small.nil⟩ (fun i σ H' _ ⟨_, _, _, _, _, hc, _⟩ => SqL.of hc) ?_ ?_⟩
    · rintro i y σ H' hi ⟨ns, v5, v6, rfl, sm, hc, hb, hl, hs⟩
      obtain ⟨z, hz, rfl⟩ : ∃ z, xs[i]? = some z ∧ y = V.int z := by
        rw [List.getElem?_map] at hi
        cases e : xs[i]? with
        | none =>
          rw [e] at hi
          cases hi
        | some z =>
          rw [e] at hi
          exact ⟨z, rfl, (Option.some.inj hi).symm⟩
      have hil : i < xs.length := (List.getElem?_eq_some_iff.mp hz).1
      -- for number in _law_row(cell, each)
      refine ⟨_, rfl, _, rfl, z, e, rfl, by omega, fun H2 r rs s3 nr hr2 hrl hrs => ?_⟩
      refine ⟨r, rfl, ⟨_, SqL.of hr2⟩, for_list (K := K) (a := r) (xs := rs.map V.int) (fun j σ H3 => ∃ (ms : List Int) (v6 : Option V), σ = [some (.ref a), some (.int m), some (.ref c), some (.int e), some (.ref b), some (.int z), v6] ∧ Same H H3 ∧ H3 r = some (.lst (rs.map V.int)) ∧ H3 c = some (.lst (xs.map V.int)) ∧ H3 b = some (.lst (ms.map V.int)) ∧ ms.length = ns.length + j ∧ Small ms)
        ⟨ns, v6, rfl, sm.trans s3, hr2, s3 _ _ hc, s3 _ _ hb, rfl, hs⟩ (fun j σ H3 _ ⟨_, _, _, _, h, _⟩ => SqL.of h) ?_ ?_⟩
      · rintro j y σ H3 hj ⟨ms, v6, rfl, sm3, hr3, hc3, hb3, hl3, hs3⟩
        obtain ⟨n, hn, rfl⟩ : ∃ n, rs[j]? = some n ∧ y = V.int n := by
          rw [List.getElem?_map] at hj
          cases e : rs[j]? with
          | none =>
            rw [e] at hj
            cases hj
          | some z =>
            rw [e] at hj
            exact ⟨z, rfl, (Option.some.inj hj).symm⟩
        have hjl : j < rs.length := (List.getElem?_eq_some_iff.mp hn).1
        have hb3l : (ms.map V.int).length < sizeLine := by
          rw [List.length_map]
          exact small1e7 (by omega)
        have nrb : r ≠ b := fun z => by
          rw [z] at nr
          rw [nr] at hb
          cases hb
        obtain ⟨g0, g1⟩ := hrs n (List.mem_of_getElem? hn)
        walk_at "rd"
        refine ⟨ms ++ [n], _, rfl, fun d o e => ?_, by rw [upd_ne nrb]; exact hr3, by rw [upd_ne nbc]; exact hc3, ?_, ?_, hs3.snoc g0 g1⟩
        · rw [upd_ne (ne_of_none e nb0)]
          exact sm3 d o e
        · rw [upd_same, List.map_append]
          rfl
        · rw [List.length_append, hl3]
          rfl
      · rintro σ H3 ⟨ms, v6, rfl, sm3, hr3, hc3, hb3, hl3, hs3⟩
        rw [List.length_map] at hl3
        exact ⟨ms, _, _, rfl, sm3, hc3, hb3, by rw [Nat.succ_mul]; omega, hs3⟩
    · rintro σ H' ⟨ns, v5, v6, rfl, sm, hc, hb, hl, hs⟩
      rw [List.length_map] at hl
      -- while len(numbers) < many
      refine while_by (fun σ H' => ∃ ns : List Int, σ = [some (.ref a), some (.int m), some (.ref c), some (.int e), some (.ref b), v5, v6] ∧ Same H H' ∧ H' b = some (.lst (ns.map V.int)) ∧ Small ns) (fun _ H' => m - lenAt H' b)
        ⟨ns, rfl, sm, hb, hs⟩ ?_ ?_
      · rintro σ H' ⟨ns, rfl, sm, hb, hs⟩
        refine ⟨_, rfl, _, _, rfl, .inl ⟨_, SqL.of hb, rfl⟩, _, rfl, _, _, rfl, rfl, _, rfl, ?_⟩
        rw [List.length_map]
        refine ite2 (fun hlt => ?_) (fun hlt => ?_)
        · have hlt' : ns.length < m := by
            have := of_decide_eq_true hlt
            omega
          have hbl : (ns.map V.int).length < sizeLine := by
            rw [List.length_map]
            exact small1e7 (by omega)
          walk_at "rd"
          refine ⟨⟨ns ++ [0], rfl, fun d o e => ?_, ?_, hs.snoc (by decide) (by decide)⟩, ?_⟩
          · rw [upd_ne (ne_of_none e nb0)]
            exact sm d o e
          · rw [upd_same, List.map_append]
            rfl
          · rw [lenAt_of upd_same, lenAt_of hb, List.length_append, List.length_map]
            show m - (ns.length + 1) < m - ns.length
            omega
        · have hge : m ≤ ns.length := by
            have : ¬ ((ns.length : Int) < (m : Int)) := fun z => hlt (decide_eq_true z)
            omega
          refine ⟨_, rfl, _, rfl, _, rfl, b, _, rfl, SqL.of hb, fun p np => ?_⟩
          rw [cut_to, ← List.map_take]
          refine q _ p (ns.take m) (fun d o e => ?_) (sm.free np) upd_same (by rw [List.length_take]; omega) (fun n hn => hs n (List.mem_of_mem_take hn))
          rw [upd_ne (ne_of_none (sm d o e) np)]
          exact sm d o e
      · rintro σ H Q Q' h ⟨v, e1, x, n, e2, l, u, e3, i, j, ei, ej, k, ek, q⟩
        exact ⟨v, e1, x, n, e2, l, u, e3, i, j, ei, ej, k, ek, h _ _ q⟩
end

/-! ### the numbers that a law draws, in slots -/
section
open GxR NdefX PySem.Spec PyProof.Rows
variable {P : Program} {w : World} {K : PySem.W.Frag} {mg : Str → Option Value} {base : Heap}
structure TopD (P : Program) (w : World) (K : PySem.W.Frag) (mg : Str → Option Value) (base : Heap) (k : Nat) (x : Str) (ps : List Str) (sp : Sp) where
  f : Addr
  fd : FuncData
  G : FnOk P w K mg base CX0 k f fd ps sp
  b : Binds K fd ps []
  g : mg x = some (.ref f)
  kp : PySem.W.keepIn K (.ref f) = true
theorem ints_of {H : Hp} : ∀ {vs : List V} {ns : List Int}, DtAll H vs (ns.map PyData.int) → vs = ns.map V.int
  | [], [], _ => rfl
  | [], _ :: _, h => by cases h
  | _ :: _, [], h => by cases h
  | _ :: _, _ :: _, .cons a b => by
    cases a
    rw [ints_of b]
    rfl
theorem Dt.nums {H : Hp} {v : V} {ns : List Int} (h : Dt H v (.list (ns.map PyData.int))) : ∃ p, v = .ref p ∧ H p = some (.lst (ns.map V.int)) := by
  cases h with
  | lst e a =>
    have z := ints_of a
    subst z
    exact ⟨_, rfl, e⟩
theorem skx_numbers {ns0 : List Int} {m : Nat} : Skx0 (spNumbers K) [RScr K ns0, RD (.int (m : Int))] (fun _ => ns0.length ≤ 63 ∧ m ≤ 200) (fun ns : List Int => RD (.list (ns.map PyData.int))) (fun ns => ns.length = m ∧ Small ns) := fun H vs hr hp Q E q => by
  obtain ⟨v, r, rfl, ⟨a, rfl, h1⟩, u, r', rfl, h2, rfl⟩ := hr
  cases h2
  exact ⟨a, ns0, m, rfl, h1, hp.1, hp.2, fun H' p ns k n e el sm => q H' _ ns (kpS k) ⟨el, sm⟩ (.lst e (DtAll.ofInts _))⟩
end

section
open GxR NdefX PySem.Spec PyProof.Rows
variable {P : Program} {w : World} {K : PySem.W.Frag} {mg : Str → Option Value} {base : Heap}
/-- the four words -/
def W4 : List Str := ["up", "down", "right", "left"]
def dxW (w : Str) : Int := if w = "right" then 1 else if w = "left" then -1 else 0
def dyW (w : Str) : Int := if w = "up" then 1 else if w = "down" then -1 else 0
def stepV (w : Str) : List Int := [dxW w, dyW w]
def mv (p : Pl) (w : Str) : Pl := (p.1 + dxW w, p.2 + dyW w)
theorem w4 {w : Str} (h : w ∈ W4) : w = "up" ∨ w = "down" ∨ w = "right" ∨ w = "left" := by
  simpa [W4] using h
theorem ix_step0 (w : Str) : ix (stepV w) 0 = dxW w := ix_nat (xs := stepV w) (j := 0) rfl
theorem ix_step1 (w : Str) : ix (stepV w) 1 = dyW w := ix_nat (xs := stepV w) (j := 1) rfl
theorem step_inj {v w : Str} (hv : v ∈ W4) (hw : w ∈ W4) (e : stepV v = stepV w) : v = w := by
  rcases w4 hv with rfl | rfl | rfl | rfl <;> rcases w4 hw with rfl | rfl | rfl | rfl <;> first | rfl | (exact absurd e (by decide +kernel))
theorem dx_bd (w : Str) : -1 ≤ dxW w ∧ dxW w ≤ 1 := by
  unfold dxW
  split
  · omega
  · split <;> omega
theorem dy_bd (w : Str) : -1 ≤ dyW w ∧ dyW w ≤ 1 := by
  unfold dyW
  split
  · omega
  · split <;> omega
theorem mv_up (p : Pl) : (p.1, p.2 + 1) = mv p "up" := by
  show (p.1, p.2 + 1) = (p.1 + dxW "up", p.2 + dyW "up")
  rw [show dxW "up" = 0 by decide +kernel, show dyW "up" = 1 by decide +kernel, Int.add_zero]
theorem mv_down (p : Pl) : (p.1, p.2 - 1) = mv p "down" := by
  show (p.1, p.2 - 1) = (p.1 + dxW "down", p.2 + dyW "down")
  rw [show dxW "down" = 0 by decide +kernel, show dyW "down" = -1 by decide +kernel, Int.add_zero]
  rfl
theorem mv_side (p : Pl) {w : Str} (h : w ∈ W4) (n1 : ¬ w = "up") (n2 : ¬ w = "down") : (p.1 + ix [(-1 : Int), 1] (if decide (w = "right") = true then 1 else 0 : Int), p.2) = mv p w := by
  rcases w4 h with rfl | rfl | rfl | rfl
  · exact absurd rfl n1
  · exact absurd rfl n2
  · rw [if_pos (by decide +kernel), show ix [(-1 : Int), 1] 1 = 1 from ix_nat (xs := [(-1 : Int), 1]) (j := 1) rfl]
    show _ = (p.1 + dxW "right", p.2 + dyW "right")
    rw [show dxW "right" = 1 by decide +kernel, show dyW "right" = 0 by decide +kernel, Int.add_zero]
  · rw [if_neg (by decide +kernel), show ix [(-1 : Int), 1] 0 = -1 from ix_nat (xs := [(-1 : Int), 1]) (j := 0) rfl]
    show _ = (p.1 + dxW "left", p.2 + dyW "left")
    rw [show dxW "left" = -1 by decide +kernel, show dyW "left" = 0 by decide +kernel, Int.add_zero]
/-- which of the words leads from one place to the other -/
def dirW (p q : Pl) : Str := ix (W4.filter fun w => decide (stepV w = [q.1 - p.1, q.2 - p.2])) 0
theorem filt_one {α : Type} [DecidableEq α] {xs : List α} {a : α} {p : α → Bool} (n : xs.Nodup) (m : a ∈ xs) (h : ∀ x ∈ xs, p x = decide (x = a)) : xs.filter p = [a] := by
  induction xs with
  | nil => cases m
  | cons x xs ih =>
    have hx := h x (.head _)
    obtain ⟨n1, n2⟩ := List.nodup_cons.mp n
    by_cases e : x = a
    · subst e
      rw [List.filter_cons_of_pos (by rw [hx]; simp)]
      rw [List.filter_eq_nil_iff.mpr]
      intro y hy
      rw [h y (.tail _ hy)]
      have : ¬ y = x := fun z => n1 (z ▸ hy)
      simp [this]
    · rw [List.filter_cons_of_neg (by rw [hx]; simp [e])]
      refine ih n2 ?_ fun y hy => h y (.tail _ hy)
      rcases List.mem_cons.mp m with z | z
      · exact absurd z.symm e
      · exact z
theorem W4_nd : W4.Nodup := by decide +kernel
theorem step_mv (p : Pl) (w : Str) : [(mv p w).1 - p.1, (mv p w).2 - p.2] = stepV w := by
  unfold mv stepV
  congr 1
  · show p.1 + dxW w - p.1 = dxW w
    omega
  · congr 1
    show p.2 + dyW w - p.2 = dyW w
    omega
theorem dir_filt {p : Pl} {w : Str} (h : w ∈ W4) : (W4.filter fun v => decide (stepV v = [(mv p w).1 - p.1, (mv p w).2 - p.2])) = [w] := by
  refine filt_one W4_nd h fun v hv => ?_
  rw [step_mv]
  exact decide_eq_decide.mpr ⟨step_inj hv h, fun z => by rw [z]⟩
theorem dir_mv {p : Pl} {w : Str} (h : w ∈ W4) : dirW p (mv p w) = w := by
  unfold dirW
  rw [dir_filt h]
  exact ix_nat (xs := [w]) (j := 0) rfl
/-- the walk whose steps have these words -/
def wayL : Pl → List Str → List Pl
  | p, [] => [p]
  | p, w :: ws => p :: wayL (mv p w) ws
theorem wayL_ne : ∀ (p : Pl) (ws : List Str), wayL p ws ≠ []
  | _, [] => by simp [wayL]
  | _, _ :: _ => by simp [wayL]
theorem wayL_len : ∀ (p : Pl) (ws : List Str), (wayL p ws).length = ws.length + 1
  | _, [] => rfl
  | p, w :: ws => by
    show (wayL (mv p w) ws).length + 1 = _
    rw [wayL_len (mv p w) ws]
    rfl
theorem ix_zero' {α : Type} [Inhabited α] (u : α) (us : List α) : ix (u :: us) 0 = u := ix_nat (xs := u :: us) (j := 0) (a := u) rfl
theorem ix_lastL {α : Type} [Inhabited α] (u v : α) (us : List α) : ix (u :: v :: us) (-1) = ix (v :: us) (-1) := by
  have e := ix_last (u :: (v :: us).dropLast) ((v :: us).getLast (by simp))
  have e2 := ix_last ((v :: us).dropLast) ((v :: us).getLast (by simp))
  rw [List.dropLast_concat_getLast] at e2
  rw [List.cons_append, List.dropLast_concat_getLast] at e
  rw [e, e2]
theorem wayL_snoc : ∀ (p : Pl) (ws : List Str) (w : Str), wayL p (ws ++ [w]) = wayL p ws ++ [mv (ix (wayL p ws) (-1)) w]
  | p, [], w => by
    show [p, mv p w] = [p] ++ [mv (ix [p] (-1)) w]
    rw [show ix [p] (-1) = p from ix_last [] p]
    rfl
  | p, v :: ws, w => by
    show p :: wayL (mv p v) (ws ++ [w]) = p :: wayL (mv p v) ws ++ [mv (ix (p :: wayL (mv p v) ws) (-1)) w]
    rw [wayL_snoc (mv p v) ws w]
    have n := wayL_ne (mv p v) ws
    cases e : wayL (mv p v) ws with
    | nil => exact absurd e n
    | cons a l => rw [ix_lastL]; rfl
theorem wayL_zip : ∀ (p : Pl) (ws : List Str), (∀ w ∈ ws, w ∈ W4) → ((wayL p ws).zip (wayL p ws).tail).map (fun q => dirW q.1 q.2) = ws
  | _, [], _ => rfl
  | p, w :: ws, h => by
    have ih := wayL_zip (mv p w) ws fun v hv => h v (.tail _ hv)
    show ((p :: wayL (mv p w) ws).zip (wayL (mv p w) ws)).map _ = _
    cases ws with
    | nil =>
      show [dirW p (mv p w)] = [w]
      rw [dir_mv (h w (.head _))]
    | cons v ws =>
      show dirW p (mv p w) :: ((mv p w :: wayL (mv (mv p w) v) ws).zip (wayL (mv (mv p w) v) ws)).map _ = _
      rw [dir_mv (h w (.head _))]
      congr 1
theorem wayL_at : ∀ {p : Pl} {ws : List Str} {i : Nat} {q : Pl × Pl}, ((wayL p ws).zip (wayL p ws).tail)[i]? = some q → ∃ w ∈ ws, q.2 = mv q.1 w
  | p, [], i, q, h => by
    have h : ([p].zip ([] : List Pl))[i]? = some q := h
    simp at h
  | p, w :: ws, i, q, h => by
    have h : ((p :: wayL (mv p w) ws).zip (wayL (mv p w) ws))[i]? = some q := h
    cases ws with
    | nil =>
      have h : [(p, mv p w)][i]? = some q := h
      cases i with
      | zero => cases h; exact ⟨w, .head _, rfl⟩
      | succ i => simp at h
    | cons v ws =>
      have h : ((p, mv p w) :: (mv p w :: wayL (mv (mv p w) v) ws).zip (wayL (mv (mv p w) v) ws))[i]? = some q := h
      cases i with
      | zero => cases h; exact ⟨w, .head _, rfl⟩
      | succ i =>
        obtain ⟨x, hx, e⟩ := wayL_at (p := mv p w) (ws := v :: ws) (i := i) (q := q) h
        exact ⟨x, .tail _ hx, e⟩
theorem wayL_bd : ∀ (p : Pl) (ws : List Str) (n : Nat), p.1.natAbs ≤ n ∧ p.2.natAbs ≤ n → ∀ q ∈ wayL p ws, q.1.natAbs ≤ n + ws.length ∧ q.2.natAbs ≤ n + ws.length
  | p, [], n, h, q, hq => by
    have : q ∈ [p] := hq
    rw [List.mem_singleton.mp this]
    exact h
  | p, w :: ws, n, h, q, hq => by
    have hq : q ∈ p :: wayL (mv p w) ws := hq
    rcases List.mem_cons.mp hq with z | z
    · subst z
      show _ ≤ n + (ws.length + 1) ∧ _ ≤ n + (ws.length + 1)
      omega
    · have := wayL_bd (mv p w) ws (n + 1) (by
        have h1 := dx_bd w
        have h2 := dy_bd w
        show (p.1 + dxW w).natAbs ≤ n + 1 ∧ (p.2 + dyW w).natAbs ≤ n + 1
        omega) q z
      show _ ≤ n + (ws.length + 1) ∧ _ ≤ n + (ws.length + 1)
      omega
/-- a run more: behind one of the same word it is put to that -/
def addR (rs : List (Str × Int)) (w : Str) (n : Int) : List (Str × Int) := if (!rs.isEmpty && decide ((ix rs (-1)).1 = w)) = true then rs.set (rs.length - 1) (w, (ix rs (-1)).2 + n) else rs ++ [(w, n)]
theorem set_last {α : Type} (xs : List α) (a b : α) : (xs ++ [a]).set ((xs ++ [a]).length - 1) b = xs ++ [b] := by
  rw [List.length_append, show xs.length + [a].length - 1 = xs.length by simp, List.set_append_right _ _ (Nat.le_refl _), Nat.sub_self]
  rfl
theorem addR_snoc (rs : List (Str × Int)) (v w : Str) (m n : Int) : addR (rs ++ [(v, m)]) w n = if v = w then rs ++ [(w, m + n)] else rs ++ [(v, m)] ++ [(w, n)] := by
  unfold addR
  rw [ix_last, set_last]
  have : (rs ++ [(v, m)]).isEmpty = false := by cases rs <;> rfl
  rw [this]
  by_cases e : v = w
  · simp [e]
  · simp [e]
theorem addR_nil (w : Str) (n : Int) : addR [] w n = [(w, n)] := rfl
theorem addR_add (rs : List (Str × Int)) (w : Str) (m n : Int) : addR (addR rs w m) w n = addR rs w (m + n) := by
  rcases List.eq_nil_or_concat rs with rfl | ⟨l, ⟨v, k⟩, rfl⟩
  · rw [addR_nil, addR_nil]
    have := addR_snoc [] w w m n
    rw [if_pos rfl] at this
    exact this
  · rw [List.concat_eq_append, addR_snoc, addR_snoc]
    by_cases e : v = w
    · rw [if_pos e, if_pos e, addR_snoc, if_pos rfl, Int.add_assoc]
    · rw [if_neg e, if_neg e, addR_snoc, if_pos rfl]
theorem addR_len (rs : List (Str × Int)) (w : Str) (n : Int) : (addR rs w n).length ≤ rs.length + 1 := by
  unfold addR
  split
  · rw [List.length_set]; omega
  · rw [List.length_append]; exact Nat.le_refl _
/-- the runs of steps with these words -/
def runL (ws : List Str) : List (Str × Int) := ws.foldl (fun rs w => addR rs w 1) []
theorem runL_snoc (ws : List Str) (w : Str) : runL (ws ++ [w]) = addR (runL ws) w 1 := by
  unfold runL
  rw [List.foldl_append]
  rfl
theorem fold_rep (w : Str) : ∀ (n : Nat) (rs : List (Str × Int)), (List.replicate (n + 1) w).foldl (fun rs w => addR rs w 1) rs = addR rs w ((n : Int) + 1)
  | 0, rs => rfl
  | n + 1, rs => by
    rw [List.replicate_succ, List.foldl_cons, fold_rep w n, addR_add]
    congr 1
    omega
theorem runL_rep (ws : List Str) (w : Str) {n : Nat} (h : 1 ≤ n) : runL (ws ++ List.replicate n w) = addR (runL ws) w n := by
  obtain ⟨m, rfl⟩ : ∃ m, n = m + 1 := ⟨n - 1, by omega⟩
  unfold runL
  rw [List.foldl_append, fold_rep]
  rfl
/-- the words of runs -/
def wdsL (rs : List (Str × Int)) : List Str := rs.flatMap fun r => List.replicate r.2.toNat r.1
theorem wdsL_snoc (rs : List (Str × Int)) (r : Str × Int) : wdsL (rs ++ [r]) = wdsL rs ++ List.replicate r.2.toNat r.1 := by
  unfold wdsL
  rw [List.flatMap_append]
  simp
def PosR (rs : List (Str × Int)) : Prop := ∀ r ∈ rs, r.1 ∈ W4 ∧ 1 ≤ r.2 ∧ r.2 ≤ 1000
theorem wdsL_addR (rs : List (Str × Int)) (h : PosR rs) (w : Str) (n : Nat) : wdsL (addR rs w n) = wdsL rs ++ List.replicate n w := by
  rcases List.eq_nil_or_concat rs with rfl | ⟨l, ⟨v, k⟩, rfl⟩
  · rw [addR_nil]
    exact wdsL_snoc [] (w, (n : Int))
  · rw [List.concat_eq_append] at h ⊢
    have hk := (h (v, k) (by simp)).2.1
    replace hk : 1 ≤ k := hk
    rw [addR_snoc]
    by_cases e : v = w
    · subst e
      rw [if_pos rfl, wdsL_snoc, wdsL_snoc, List.append_assoc, List.replicate_append_replicate]
      congr 2
      show (k + (n : Int)).toNat = k.toNat + n
      omega
    · rw [if_neg e, wdsL_snoc]
      rfl
theorem addR_mem {rs : List (Str × Int)} {w : Str} {n : Int} {r : Str × Int} (h : r ∈ addR rs w n) : r ∈ rs ∨ r.1 = w ∧ (r.2 = n ∨ ∃ m, (w, m) ∈ rs ∧ r.2 = m + n) := by
  rcases List.eq_nil_or_concat rs with rfl | ⟨l, ⟨v, k⟩, rfl⟩
  · rw [addR_nil] at h
    rw [List.mem_singleton.mp h]
    exact .inr ⟨rfl, .inl rfl⟩
  · rw [List.concat_eq_append] at h ⊢
    rw [addR_snoc] at h
    by_cases e : v = w
    · subst e
      rw [if_pos rfl] at h
      rcases List.mem_append.mp h with z | z
      · exact .inl (List.mem_append_left _ z)
      · rw [List.mem_singleton.mp z]
        exact .inr ⟨rfl, .inr ⟨k, by simp, rfl⟩⟩
    · rw [if_neg e] at h
      rcases List.mem_append.mp h with z | z
      · exact .inl z
      · rw [List.mem_singleton.mp z]
        exact .inr ⟨rfl, .inl rfl⟩
theorem wds_w4 {rs : List (Str × Int)} (h : PosR rs) : ∀ w ∈ wdsL rs, w ∈ W4 := fun w hw => by
  obtain ⟨r, hr, m⟩ := List.mem_flatMap.mp hw
  rw [List.eq_of_mem_replicate m]
  exact (h r hr).1
theorem isE_len {α : Type} {xs : List α} (h : (!xs.isEmpty) = true) : 1 ≤ xs.length := by
  cases xs with
  | nil => cases h
  | cons _ _ => exact Nat.succ_le_succ (Nat.zero_le _)
/-- a walk from p by runs -/
def wayR (p : Pl) (rs : List (Str × Int)) : List Pl := wayL p (wdsL rs)
theorem wayL_rep (p : Pl) (ws : List Str) (w : Str) (n : Nat) : wayL p (ws ++ List.replicate (n + 1) w) = wayL p (ws ++ List.replicate n w) ++ [mv (ix (wayL p (ws ++ List.replicate n w)) (-1)) w] := by
  rw [List.replicate_succ', ← List.append_assoc, wayL_snoc]

def Rs__direction (dS : Addr) : Pl × Str → List Rel := fun x => [(RD (dP x.1)), (RD (dP (mv x.1 x.2)))]
def P__direction (dS : Addr) : Pl × Str → Hp → Prop := fun x H => x.2 ∈ W4
def R__direction (dS : Addr) : Pl × Str → Rel := fun x => (RD (.str x.2))
theorem ok__direction (dS : Addr) {f : Addr} {fd : FuncData} (F : Fun K "_direction" "_direction" s__direction f fd) (CD_STEPS : CDict K w dS W4 stepV) (g_STEPS : mg "STEPS" = some (.ref dS)) : FnOk P w K mg base CX0 1 f fd ["one", "other"] (Sps (Rs__direction dS) (P__direction dS) (R__direction dS)) := by
  refine fn_ok F sc__direction (fun _ => rfl) fun cdv A outer s H E0 hr => ?_
  have nd := sc__direction.nd
  refine ⟨_, (pss_cons (ps_set (i := 2) nd rfl (.inr rfl) (pe_tup (pa_cons (pe_op op_sub (pe_ix (r := rIxT K) ix_tup (pv 1) pe_int (fun _ _ => rfl)) (pe_ix (r := rIxT K) ix_tup (pv 0) pe_int (fun _ _ => rfl))) (pa_cons (pe_op op_sub (pe_ix (r := rIxT K) ix_tup (pv 1) pe_int (fun _ _ => rfl)) (pe_ix (r := rIxT K) ix_tup (pv 0) pe_int (fun _ _ => rfl))) pa_nil))))
      (pss_one (ps_ret (pe_ix (r := rIxL K) ix_list (pe_lc (own := [("word", 3)]) (g := (gName 3)) rfl nd (pi_keysC CD_STEPS (pe_glob (v := .ref dS) (by rfl) g_STEPS rfl)) (blkOk_by (N := ["one", "other", "step", "word"]) (sc := defScope s__direction) (by decide +kernel)) (fun _ _ _ _ _ => (pg_name (i := 3) nd rfl (.inl rfl))) (fun _ _ _ _ _ => pts_one (pt_cmpR (r := rEqD K) (op_eqD hr.units) (pe_ix (r := rIxD K w) ix_kdict (pe_glob (v := .ref dS) (by rfl) g_STEPS rfl) (pv 3) (fun _ _ => rfl)) (pv 2) (nomark _))) (fun _ _ _ _ _ => (pv 3))) pe_int (fun _ _ => rfl))))), ?_⟩
  rintro ⟨p, wd⟩ hs om Q hp q
  show WC ⟨hs, less hs om, om, [.fz (RD (dP p)), .fz (RD (dP (mv p wd))), .any, .any]⟩ _
  replace hp : wd ∈ W4 := hp
  replace q : ∀ H' v, Kp hs H' → (RD (.str wd)).p (less H' om) v → Q v H' := q
  have ddir := dir_filt (p := p) hp
  refine s_seq ?_
  refine s_set (e_tup (m_cons (e_op o_sub (e_op (o_ixT rfl) (e_var rfl) e_int) (e_op (o_ixT rfl) (e_var rfl) e_int)) (m_cons (e_op o_sub (e_op (o_ixT rfl) (e_var rfl) e_int) (e_op (o_ixT rfl) (e_var rfl) e_int)) m_nil))) ?_
  show WC ⟨hs, (less hs om), om, [.fz (RD (dP p)), .fz (RD (dP (mv p wd))), .fz (RD (dP (((mv p wd).1 - p.1), ((mv p wd).2 - p.2)))), .any]⟩ _
  refine s_ret (E.eq (e_op (o_ixL (ix_at (xs := ((W4.filter fun v => (decide ((stepV v) = [((mv p wd).1 - p.1), ((mv p wd).2 - p.2)]))).map fun v => v)) (i := 0) (by rw [ddir]; show -(1 : Int) ≤ _ ∧ _ < (1 : Int); omega))) (n_e (n_lcGM (xs := W4) (fe := fun v => v) (p := fun v => (decide ((stepV v) = [((mv p wd).1 - p.1), ((mv p wd).2 - p.2)]))) (encB := PyData.str) w_keysC rfl (by decide) (fun _ v hxv => g_name) (fun _ v hxv => by exact (t_T (e_op (o_eqTI (ns := (stepV v)) (ms := [((mv p wd).1 - p.1), ((mv p wd).2 - p.2)]) (hd := inferInstance)) (e_cd (x := v) CD_STEPS hxv (e_var rfl)) (e_var rfl)))) (fun _ v hxv hyv => by exact (e_var rfl)) (by decide))) e_int) (e := PyData.str wd) ?_) q
  rw [ddir]; exact congrArg PyData.str (ix_nat (xs := [wd]) (j := 0) rfl)

theorem cutL_tail {α : Type} (us : List α) : cutL us (some 1) none = us.tail := by
  unfold cutL
  rw [HT.sIx_none]
  rw [show (1 : Int) = ((1 : Nat) : Int) from rfl, HT.sIx_nat]
  cases us with
  | nil => rfl
  | cons u us => simp
theorem and_l {a b : Bool} (h : (a && b) = true) : a = true := by
  rw [Bool.and_eq_true] at h
  exact h.1
theorem addR_pos {rs : List (Str × Int)} {w : Str} {n : Int} (h : (!rs.isEmpty && decide ((ix rs (-1)).1 = w)) = true) : rs.set (rs.length - 1) (w, (ix rs (-1)).2 + n) = addR rs w n := (if_pos h).symm
theorem addR_neg {rs : List (Str × Int)} {w : Str} {n : Int} (h : (!rs.isEmpty && decide ((ix rs (-1)).1 = w)) = false) : rs ++ [(w, n)] = addR rs w n := (if_neg (by rw [h]; exact Bool.false_ne_true)).symm
theorem take_dir {ps : List (Pl × Pl)} {ws : List Str} {i : Nat} {q : Pl} {w : Str} (h : ps.map (fun q => dirW q.1 q.2) = ws) (e : ps[i]? = some (q, mv q w)) (hw : w ∈ W4) : ws.take (i + 1) = ws.take i ++ [w] := by
  have e2 : ws[i]? = some w := by
    rw [← h, List.getElem?_map, e]
    exact congrArg some (dir_mv hw)
  obtain ⟨hi, e3⟩ := List.getElem?_eq_some_iff.mp e2
  rw [List.take_succ_eq_append_getElem hi, e3]

def Rs_runs_of (dS : Addr) : Pl × (List Str) → List Rel := fun x => [(RD (.list ((wayL x.1 x.2).map dP)))]
def P_runs_of (dS : Addr) : Pl × (List Str) → Hp → Prop := fun x H => (∀ w ∈ x.2, w ∈ W4) ∧ x.2.length ≤ 1000
def R_runs_of (dS : Addr) : Pl × (List Str) → Own := fun x => OL ((runL x.2).map (eT2 PyData.str PyData.int))
theorem ok_runs_of (dS : Addr) {f : Addr} {fd : FuncData} (F : Fun K "runs_of" "runs_of" s_runs_of f fd) (z_zip : mg "zip" = none) (t__direction : TopD P w K mg base 1 "_direction" ["one", "other"] (Sps (Rs__direction dS) (P__direction dS) (R__direction dS))) : FnOk P w K mg base CX0 2 f fd ["walk"] (SpN (Rs_runs_of dS) (P_runs_of dS) (R_runs_of dS)) := by
  refine fn_okN F sc_runs_of (fun _ => rfl) fun cdv A outer s H E0 hr => ?_
  have nd := sc_runs_of.nd
  refine ⟨_, (pss_cons (ps_set (i := 1) nd rfl (.inl rfl) (pe_lst pa_nil))
      (pss_cons (ps_for PassesOwn.never rfl (pi_zip (by rfl) z_zip (pa_cons (pv 0) (pa_cons (pe_slice sl_list (pv 0) (po_some pe_int) po_none) pa_nil))) (pg_tup rfl (pgs_cons (pg_name (i := 2) nd rfl (.inl rfl)) (pgs_cons (pg_name (i := 3) nd rfl (.inl rfl)) pgs_nil))) (pss_cons (ps_set (i := 4) nd rfl (.inl rfl) (pe_call t__direction.G (by exact hr.mono (by decide)) (by rfl) t__direction.g t__direction.kp t__direction.b .nil pass0 (pa_cons (pv 2) (pa_cons (pv 3) pa_nil))))
      (pss_one (ps_if (PW.pt (pw_and (pt_truth (pv 1) (by intro _; rfl)) (pw_and1 (pt_cmpR (r := rEq) op_eq (pe_ix (r := rIxT K) ix_tup (pe_ix (r := rIxL K) ix_list (pv 1) (pe_un un_neg pe_int) (fun _ _ => rfl)) pe_int (fun _ _ => rfl)) (pv 4) (nomark _))))) (pss_one (ps_asg (pe_tup (pa_cons (pv 4) (pa_cons (pe_op op_add (pe_ix (r := rIxT K) ix_tup (pe_ix (r := rIxL K) ix_list (pv 1) (pe_un un_neg pe_int) (fun _ _ => rfl)) pe_int (fun _ _ => rfl)) pe_int) pa_nil))) (pg_sub (pv 1) (pe_un un_neg pe_int) set_list))) (pss_one (ps_expr (pe_bm PySem.F.plainAttrs_list PySem.F.slot_list_append PySem.F.type_list_append mt_append (pv 1) (pa_cons (pe_tup (pa_cons (pv 4) (pa_cons pe_int pa_nil))) pa_nil))))))))
      (pss_one (ps_ret (pv 1))))), ?_⟩
  rintro ⟨p, ws⟩ hs om Q hp q
  show WC ⟨hs, less hs om, om, [.fz (RD (.list ((wayL p ws).map dP))), .any, .any, .any, .any]⟩ _
  replace hp : (∀ w ∈ ws, w ∈ W4) ∧ ws.length ≤ 1000 := hp
  replace q : ∀ H' p o, Kp hs H' → H' p = none → (OL ((runL ws).map (eT2 PyData.str PyData.int))).p (less H' om) o → Q (.ref p) (upd H' p o) := q
  have hz := wayL_zip p ws hp.1
  have hl : ((wayL p ws).zip (wayL p ws).tail).length = ws.length := by rw [← List.length_map (f := fun q : Pl × Pl => dirW q.1 q.2), hz]
  have ct : cutL (wayL p ws) (some 1) none = (wayL p ws).tail := cutL_tail _
  refine s_seq ?_
  refine s_new (n_lst m_nil) ?_
  show WC ⟨hs, (less hs om), om, [.fz (RD (.list ((wayL p ws).map dP))), .own (OL (([] : List ((Str) × (Int))).map (eT2 PyData.str PyData.int))), .any, .any, .any]⟩ _
  refine s_seq ?_
  refine s_forG (xs := ((wayL p ws).zip (cutL (wayL p ws) (some 1) none))) (fun (i : Nat) γ => ∃ (rs : List ((Str) × (Int))), γ = [.fz (RD (.list ((wayL p ws).map dP))), .own (OL (rs.map (eT2 PyData.str PyData.int))), .any, .any, .any] ∧ (rs = runL (ws.take i) ∧ rs.length ≤ i)) (w_zip (xs := (wayL p ws)) (ys := (cutL (wayL p ws) (some 1) none)) (f := dP) (h := dP) (a_cons (e_var rfl) (a_cons (n_e (n_slM (i_of (e_var rfl)) (p_some e_int) p_none)) a_nil))) ⟨([] : List ((Str) × (Int))), rfl, ⟨rfl, Nat.le_refl _⟩⟩ ?_ ?_
  · rintro h1_1 i q γ kp hq0 ⟨rs, rfl, hi⟩
    have hq : ((wayL p ws).zip (wayL p ws).tail)[i]? = some q := by rw [← ct]; exact hq0
    obtain ⟨w, hw, ew⟩ := wayL_at hq
    obtain ⟨q1, q2⟩ := q
    replace ew : q2 = mv q1 w := ew
    subst ew
    have il : i < ws.length := by rw [← hl]; exact (List.getElem?_eq_some_iff.mp hq).1
    have ewi : ws.take (i + 1) = ws.take i ++ [w] := take_dir hz hq (hp.1 w hw)
    refine ⟨_, _, (g_tup (gs_cons g_name (gs_cons g_name gs_nil))), ?_⟩
    show WC ⟨hs, h1_1, om, [.fz (RD (.list ((wayL p ws).map dP))), .own (OL (rs.map (eT2 PyData.str PyData.int))), .fz (RD (dP q1)), .fz (RD (dP (mv q1 w))), .any]⟩ _
    refine s_seq ?_
    refine s_set (show E _ _ _ (RD (.str w)) from c_call (sok_sps (Rs := Rs__direction dS) (P := P__direction dS) (R := R__direction dS) (q1, w)) (a_cons (e_var rfl) (a_cons (e_var rfl) a_nil)) (fun H kp => by show w ∈ W4; exact hp.1 w hw)) ?_
    show WC ⟨hs, h1_1, om, [.fz (RD (.list ((wayL p ws).map dP))), .own (OL (rs.map (eT2 PyData.str PyData.int))), .fz (RD (dP q1)), .fz (RD (dP (mv q1 w))), .fz (RD (.str w))]⟩ _
    refine s_if (t_and (t_truL (i_own rfl)) (fun hbo => (t_T (e_op o_eqS (e_op (o_ixT rfl) (e_ixO (i_own rfl) (e_un o_neg e_int) (ix_at (xs := rs) (i := (-1)) (by have := isE_len hbo; omega))) e_int) (e_var rfl))))) (fun h1 => ?_) (fun h1 => ?_)
    · have := h1
      refine s_setM (xs := rs) (j := (rs.length - 1)) (a := (w, ((ix rs (-1)).2 + 1))) (k := (-1)) rfl (e_tup (m_cons (e_var rfl) (m_cons (e_op o_add (e_op (o_ixT rfl) (e_ixO (i_own rfl) (e_un o_neg e_int) (ix_at (xs := rs) (i := (-1)) (by have := isE_len (and_l this); omega))) e_int) e_int) m_nil))) (e_un o_neg e_int) (ixN_last (isE_len (and_l this))) ?_
      show WC ⟨hs, h1_1, om, [.fz (RD (.list ((wayL p ws).map dP))), .own (OL ((rs.set (rs.length - 1) (w, ((ix rs (-1)).2 + 1))).map (eT2 PyData.str PyData.int))), .fz (RD (dP q1)), .fz (RD (dP (mv q1 w))), .fz (RD (.str w))]⟩ _
      refine s_drop 2 ?_
      refine s_drop 3 ?_
      refine s_drop 4 ?_
      show WC ⟨hs, h1_1, om, [.fz (RD (.list ((wayL p ws).map dP))), .own (OL ((rs.set (rs.length - 1) (w, ((ix rs (-1)).2 + 1))).map (eT2 PyData.str PyData.int))), .any, .any, .any]⟩ _
      exact s_of ⟨(rs.set (rs.length - 1) (w, ((ix rs (-1)).2 + 1))), rfl, by rw [ewi, runL_snoc, ← hi.1]; exact ⟨addR_pos this, by rw [List.length_set]; omega⟩⟩
    · have := h1
      refine s_appM (xs := rs) (a := (w, 1)) rfl (e_tup (m_cons (e_var rfl) (m_cons e_int m_nil))) (by omega) ?_
      show WC ⟨hs, h1_1, om, [.fz (RD (.list ((wayL p ws).map dP))), .own (OL ((rs ++ [(w, 1)]).map (eT2 PyData.str PyData.int))), .fz (RD (dP q1)), .fz (RD (dP (mv q1 w))), .fz (RD (.str w))]⟩ _
      refine s_drop 2 ?_
      refine s_drop 3 ?_
      refine s_drop 4 ?_
      show WC ⟨hs, h1_1, om, [.fz (RD (.list ((wayL p ws).map dP))), .own (OL ((rs ++ [(w, 1)]).map (eT2 PyData.str PyData.int))), .any, .any, .any]⟩ _
      exact s_of ⟨(rs ++ [(w, 1)]), rfl, by rw [ewi, runL_snoc, ← hi.1]; exact ⟨addR_neg this, by rw [List.length_append]; show _ + 1 ≤ _; omega⟩⟩
  · rintro γ ⟨rs, rfl, hi⟩
    show WC ⟨hs, (less hs om), om, [.fz (RD (.list ((wayL p ws).map dP))), .own (OL (rs.map (eT2 PyData.str PyData.int))), .any, .any, .any]⟩ _
    refine s_retOwn (C := OL ((runL ws).map (eT2 PyData.str PyData.int))) (congrArg (fun z => some (Slot.own (OL (List.map (eT2 PyData.str PyData.int) z)))) (show rs = (runL ws) from ?_)) q
    rw [hi.1, ct, hl, List.take_length]

theorem take_at {α : Type} {xs : List α} {i : Nat} {a : α} (h : xs[i]? = some a) : xs.take (i + 1) = xs.take i ++ [a] := by
  obtain ⟨hi, e⟩ := List.getElem?_eq_some_iff.mp h
  rw [List.take_succ_eq_append_getElem hi, e]

def Rs_walk_by (dS : Addr) : Pl × (List (Str × Int)) → List Rel := fun x => [(RD (dP x.1)), (RD (.list (x.2.map (eT2 PyData.str PyData.int))))]
def P_walk_by (dS : Addr) : Pl × (List (Str × Int)) → Hp → Prop := fun x H => PosR x.2 ∧ x.2.length ≤ 1000
def R_walk_by (dS : Addr) : Pl × (List (Str × Int)) → Own := fun x => OL ((wayR x.1 x.2).map dP)
theorem ok_walk_by (dS : Addr) {f : Addr} {fd : FuncData} (F : Fun K "walk_by" "walk_by" s_walk_by f fd) (CD_STEPS : CDict K w dS W4 stepV) (g_STEPS : mg "STEPS" = some (.ref dS)) (z_range : mg "range" = none) : FnOk P w K mg base CX0 1 f fd ["place", "runs"] (SpN (Rs_walk_by dS) (P_walk_by dS) (R_walk_by dS)) := by
  refine fn_okN F sc_walk_by (fun _ => rfl) fun cdv A outer s H E0 hr => ?_
  have nd := sc_walk_by.nd
  refine ⟨_, (pss_cons (ps_set (i := 2) nd rfl (.inl rfl) (pe_lst (pa_cons (pv 0) pa_nil)))
      (pss_cons (ps_for PassesOwn.never rfl (pi_list (pv 1)) (pg_tup rfl (pgs_cons (pg_name (i := 3) nd rfl (.inl rfl)) (pgs_cons (pg_name (i := 4) nd rfl (.inl rfl)) pgs_nil))) (pss_cons (ps_asg (pe_ix (r := rIxD K w) ix_kdict (pe_glob (v := .ref dS) (by rfl) g_STEPS rfl) (pv 3) (fun _ _ => rfl)) (pg_tup rfl (pgs_cons (pg_name (i := 5) nd rfl (.inl rfl)) (pgs_cons (pg_name (i := 6) nd rfl (.inl rfl)) pgs_nil))))
      (pss_one (ps_for PassesOwn.never rfl (pi_range1 rfl z_range (pa_cons (pv 4) pa_nil)) (pg_name (i := 7) nd rfl (.inl rfl)) (pss_cons (ps_asg (pe_ix (r := rIxL K) ix_list (pv 2) (pe_un un_neg pe_int) (fun _ _ => rfl)) (pg_tup rfl (pgs_cons (pg_name (i := 8) nd rfl (.inl rfl)) (pgs_cons (pg_name (i := 9) nd rfl (.inl rfl)) pgs_nil))))
      (pss_one (ps_expr (pe_bm PySem.F.plainAttrs_list PySem.F.slot_list_append PySem.F.type_list_append mt_append (pv 2) (pa_cons (pe_tup (pa_cons (pe_op op_add (pv 8) (pv 5)) (pa_cons (pe_op op_add (pv 9) (pv 6)) pa_nil))) pa_nil)))))))))
      (pss_one (ps_ret (pv 2))))), ?_⟩
  rintro ⟨p0, rs⟩ hs om Q hp q
  show WC ⟨hs, less hs om, om, [.fz (RD (dP p0)), .fz (RD (.list (rs.map (eT2 PyData.str PyData.int)))), .any, .any, .any, .any, .any, .any, .any, .any]⟩ _
  replace hp : PosR rs ∧ rs.length ≤ 1000 := hp
  replace q : ∀ H' p o, Kp hs H' → H' p = none → (OL ((wayR p0 rs).map dP)).p (less H' om) o → Q (.ref p) (upd H' p o) := q
  refine s_seq ?_
  refine s_new (n_lstM (xs := [p0]) (enc := dP) (m_cons (e_var rfl) m_nil)) ?_
  show WC ⟨hs, (less hs om), om, [.fz (RD (dP p0)), .fz (RD (.list (rs.map (eT2 PyData.str PyData.int)))), .own (OL ([p0].map dP)), .any, .any, .any, .any, .any, .any, .any]⟩ _
  refine s_seq ?_
  refine s_for (xs := rs) (enc := (eT2 PyData.str PyData.int)) (fun (i : Nat) γ => ∃ (wk : List ((Int) × (Int))), γ = [.fz (RD (dP p0)), .fz (RD (.list (rs.map (eT2 PyData.str PyData.int)))), .own (OL (wk.map dP)), .any, .any, .any, .any, .any, .any, .any] ∧ (wk = wayR p0 (rs.take i) ∧ wk.length ≤ 1 + 1000 * i)) (e_var rfl) ⟨[p0], rfl, ⟨rfl, Nat.le_refl _⟩⟩ ?_ ?_
  · rintro h1_1 i0 r γ kp hr0 ⟨wk, rfl, hi⟩
    have hr1 := hp.1 r (List.mem_of_getElem? hr0)
    have il : i0 < rs.length := (List.getElem?_eq_some_iff.mp hr0).1
    refine ⟨_, _, (g_tup (gs_cons g_name (gs_cons g_name gs_nil))), ?_⟩
    show WC ⟨hs, h1_1, om, [.fz (RD (dP p0)), .fz (RD (.list (rs.map (eT2 PyData.str PyData.int)))), .own (OL (wk.map dP)), .fz (RD (.str r.1)), .fz (RD (.int r.2)), .any, .any, .any, .any, .any]⟩ _
    refine s_seq ?_
    refine s_asg (e_cd (x := r.1) CD_STEPS hr1.1 (e_var rfl)) (g_tupI (i := ix (stepV r.1) 0) (j := ix (stepV r.1) 1) (gs_cons g_name (gs_cons g_name gs_nil))) ?_
    show WC ⟨hs, h1_1, om, [.fz (RD (dP p0)), .fz (RD (.list (rs.map (eT2 PyData.str PyData.int)))), .own (OL (wk.map dP)), .fz (RD (.str r.1)), .fz (RD (.int r.2)), .fz (RD (.int (ix (stepV r.1) 0))), .fz (RD (.int (ix (stepV r.1) 1))), .any, .any, .any]⟩ _
    refine s_rng (lo := 0) (n := (r.2 : Int).toNat) (fun (i : Nat) γ => ∃ (wk : List ((Int) × (Int))), γ = [.fz (RD (dP p0)), .fz (RD (.list (rs.map (eT2 PyData.str PyData.int)))), .own (OL (wk.map dP)), .fz (RD (.str r.1)), .fz (RD (.int r.2)), .fz (RD (.int (ix (stepV r.1) 0))), .fz (RD (.int (ix (stepV r.1) 1))), .any, .any, .any] ∧ (wk = wayL p0 (wdsL (rs.take i0) ++ List.replicate i r.1) ∧ wk.length ≤ 1 + 1000 * i0 + i)) (w_rng1 (j := r.2) (e_var rfl) (by omega)) ⟨wk, rfl, ⟨by rw [hi.1]; show _ = wayL p0 (_ ++ []); rw [List.append_nil]; rfl, by omega⟩⟩ ?_ ?_
    · rintro j γ hjn ⟨wk, rfl, hj⟩
      have wl : 1 ≤ wk.length := by rw [hj.1, wayL_len]; omega
      refine ⟨_, _, g_name, ?_⟩
      show WC ⟨hs, h1_1, om, [.fz (RD (dP p0)), .fz (RD (.list (rs.map (eT2 PyData.str PyData.int)))), .own (OL (wk.map dP)), .fz (RD (.str r.1)), .fz (RD (.int r.2)), .fz (RD (.int (ix (stepV r.1) 0))), .fz (RD (.int (ix (stepV r.1) 1))), .fz (RD (.int (0 + (j : Int)))), .any, .any]⟩ _
      refine s_seq ?_
      refine s_asg (e_ixO (i_own rfl) (e_un o_neg e_int) (ix_at (xs := wk) (i := (-1)) (by omega))) (g_tup (gs_cons g_name (gs_cons g_name gs_nil))) ?_
      show WC ⟨hs, h1_1, om, [.fz (RD (dP p0)), .fz (RD (.list (rs.map (eT2 PyData.str PyData.int)))), .own (OL (wk.map dP)), .fz (RD (.str r.1)), .fz (RD (.int r.2)), .fz (RD (.int (ix (stepV r.1) 0))), .fz (RD (.int (ix (stepV r.1) 1))), .fz (RD (.int (0 + (j : Int)))), .fz (RD (.int (ix wk (-1)).1)), .fz (RD (.int (ix wk (-1)).2))]⟩ _
      refine s_appM (xs := wk) (a := (((ix wk (-1)).1 + (ix (stepV r.1) 0)), ((ix wk (-1)).2 + (ix (stepV r.1) 1)))) rfl (e_tup (m_cons (e_op o_add (e_var rfl) (e_var rfl)) (m_cons (e_op o_add (e_var rfl) (e_var rfl)) m_nil))) (by omega) ?_
      show WC ⟨hs, h1_1, om, [.fz (RD (dP p0)), .fz (RD (.list (rs.map (eT2 PyData.str PyData.int)))), .own (OL ((wk ++ [(((ix wk (-1)).1 + (ix (stepV r.1) 0)), ((ix wk (-1)).2 + (ix (stepV r.1) 1)))]).map dP)), .fz (RD (.str r.1)), .fz (RD (.int r.2)), .fz (RD (.int (ix (stepV r.1) 0))), .fz (RD (.int (ix (stepV r.1) 1))), .fz (RD (.int (0 + (j : Int)))), .fz (RD (.int (ix wk (-1)).1)), .fz (RD (.int (ix wk (-1)).2))]⟩ _
      refine s_drop 7 ?_
      refine s_drop 8 ?_
      refine s_drop 9 ?_
      show WC ⟨hs, h1_1, om, [.fz (RD (dP p0)), .fz (RD (.list (rs.map (eT2 PyData.str PyData.int)))), .own (OL ((wk ++ [(((ix wk (-1)).1 + (ix (stepV r.1) 0)), ((ix wk (-1)).2 + (ix (stepV r.1) 1)))]).map dP)), .fz (RD (.str r.1)), .fz (RD (.int r.2)), .fz (RD (.int (ix (stepV r.1) 0))), .fz (RD (.int (ix (stepV r.1) 1))), .any, .any, .any]⟩ _
      exact s_of ⟨(wk ++ [(((ix wk (-1)).1 + (ix (stepV r.1) 0)), ((ix wk (-1)).2 + (ix (stepV r.1) 1)))]), rfl, by rw [hj.1, wayL_rep, ← hj.1]; exact ⟨congrArg (fun z => wk ++ [z]) (by unfold mv; rw [ix_step0, ix_step1]), by rw [List.length_append]; show _ + 1 ≤ _; omega⟩⟩
    · rintro γ ⟨wk, rfl, hj⟩
      show WC ⟨hs, h1_1, om, [.fz (RD (dP p0)), .fz (RD (.list (rs.map (eT2 PyData.str PyData.int)))), .own (OL (wk.map dP)), .fz (RD (.str r.1)), .fz (RD (.int r.2)), .fz (RD (.int (ix (stepV r.1) 0))), .fz (RD (.int (ix (stepV r.1) 1))), .any, .any, .any]⟩ _
      refine s_drop 3 ?_
      refine s_drop 4 ?_
      refine s_drop 5 ?_
      refine s_drop 6 ?_
      show WC ⟨hs, h1_1, om, [.fz (RD (dP p0)), .fz (RD (.list (rs.map (eT2 PyData.str PyData.int)))), .own (OL (wk.map dP)), .any, .any, .any, .any, .any, .any, .any]⟩ _
      exact s_of ⟨wk, rfl, by rw [take_at hr0]; exact ⟨by rw [hj.1]; show _ = wayL p0 (wdsL (rs.take i0 ++ [r])); rw [wdsL_snoc], by omega⟩⟩
  · rintro γ ⟨wk, rfl, hi⟩
    show WC ⟨hs, (less hs om), om, [.fz (RD (dP p0)), .fz (RD (.list (rs.map (eT2 PyData.str PyData.int)))), .own (OL (wk.map dP)), .any, .any, .any, .any, .any, .any, .any]⟩ _
    refine s_retOwn (C := OL ((wayR p0 rs).map dP)) (congrArg (fun z => some (Slot.own (OL (List.map dP z)))) (show wk = (wayR p0 rs) from ?_)) q
    rw [hi.1, List.take_length]

def Rs__law_moved  : Pl × Str → List Rel := fun x => [(RD (dP x.1)), (RD (.str x.2))]
def P__law_moved  : Pl × Str → Hp → Prop := fun x H => x.2 ∈ W4
def R__law_moved  : Pl × Str → Rel := fun x => (RD (dP (mv x.1 x.2)))
theorem ok__law_moved {f : Addr} {fd : FuncData} (F : Fun K "_law_moved" "_law_moved" s__law_moved f fd) (z_int : mg "int" = none) : FnOk P w K mg base CX0 1 f fd ["place", "word"] (Sps (Rs__law_moved ) (P__law_moved ) (R__law_moved )) := by
  refine fn_ok F sc__law_moved (fun _ => rfl) fun cdv A outer s H E0 hr => ?_
  have nd := sc__law_moved.nd
  refine ⟨_, (pss_cons (ps_asg (pv 0) (pg_tup rfl (pgs_cons (pg_name (i := 2) nd rfl (.inl rfl)) (pgs_cons (pg_name (i := 3) nd rfl (.inl rfl)) pgs_nil))))
      (pss_cons (ps_if (pt_cmpR (r := rEq) op_eq (pv 1) pe_str (nomark _)) (pss_one (ps_ret (pe_tup (pa_cons (pv 2) (pa_cons (pe_op op_add (pv 3) pe_int) pa_nil))))) pss_nil)
      (pss_cons (ps_if (pt_cmpR (r := rEq) op_eq (pv 1) pe_str (nomark _)) (pss_one (ps_ret (pe_tup (pa_cons (pv 2) (pa_cons (pe_op op_sub (pv 3) pe_int) pa_nil))))) pss_nil)
      (pss_one (ps_ret (pe_tup (pa_cons (pe_op op_add (pv 2) (pe_ix (r := rIxT K) ix_tup (pe_tup (pa_cons (pe_un un_neg pe_int) (pa_cons pe_int pa_nil))) (pe_callTy call_int1 (by rfl) z_int (by decide +kernel) (pa_cons (pe_cmpR (r := rEq) op_eq (pv 1) pe_str (nomark _)) pa_nil)) (fun _ _ => rfl))) (pa_cons (pv 3) pa_nil)))))))), ?_⟩
  rintro ⟨p, wd⟩ hs om Q hp q
  show WC ⟨hs, less hs om, om, [.fz (RD (dP p)), .fz (RD (.str wd)), .any, .any]⟩ _
  replace hp : wd ∈ W4 := hp
  replace q : ∀ H' v, Kp hs H' → (RD (dP (mv p wd))).p (less H' om) v → Q v H' := q
  refine s_seq ?_
  refine s_asg (e_var rfl) (g_tup (gs_cons g_name (gs_cons g_name gs_nil))) ?_
  show WC ⟨hs, (less hs om), om, [.fz (RD (dP p)), .fz (RD (.str wd)), .fz (RD (.int p.1)), .fz (RD (.int p.2))]⟩ _
  refine s_seq ?_
  refine s_if (t_T (e_op o_eqS (e_var rfl) e_str)) (fun h1 => ?_) (fun h1 => ?_)
  · have := h1
    refine s_ret (E.eq (e_tup (m_cons (e_var rfl) (m_cons (e_op o_add (e_var rfl) e_int) m_nil))) (e := dP (mv p wd)) ?_) q
    rw [of_decide_eq_true this]; exact congrArg dP (mv_up p)
  · have := h1
    refine s_pass ?_
    refine s_seq ?_
    refine s_if (t_T (e_op o_eqS (e_var rfl) e_str)) (fun h2 => ?_) (fun h2 => ?_)
    · have := h2
      refine s_ret (E.eq (e_tup (m_cons (e_var rfl) (m_cons (e_op o_sub (e_var rfl) e_int) m_nil))) (e := dP (mv p wd)) ?_) q
      rw [of_decide_eq_true this]; exact congrArg dP (mv_down p)
    · have := h2
      refine s_pass ?_
      refine s_ret (E.eq (e_tup (m_cons (e_op o_add (e_var rfl) (e_ixTL (xs := [(-1), 1]) (f := PyData.int) (i := (if (decide (wd = ("right" : Str))) = true then 1 else 0 : Int)) (e_tup (m_cons (e_un o_neg e_int) (m_cons e_int m_nil))) (e_cb o_intB (a_cons (e_op o_eqS (e_var rfl) e_str) a_nil)) (by show -(2 : Int) ≤ _ ∧ _ < (2 : Int); omega))) (m_cons (e_var rfl) m_nil))) (e := dP (mv p wd)) ?_) q
      exact congrArg dP (mv_side p hp (of_decide_eq_false (by assumption)) (of_decide_eq_false (by assumption)))
end

section
open GxR NdefX PySem.Spec PyProof.Rows
variable {P : Program} {w : World} {K : PySem.W.Frag} {mg : Str → Option Value} {base : Heap}

theorem snocI {α : Type} {p : List α → Prop} (h0 : p []) (h1 : ∀ xs x, p xs → p (xs ++ [x])) : ∀ xs, p xs := by
  have : ∀ (n : Nat) (xs : List α), xs.length = n → p xs := fun n => by
    induction n with
    | zero => intro xs e; rw [List.length_eq_zero_iff.mp e]; exact h0
    | succ n ih =>
      intro xs e
      rcases List.eq_nil_or_concat xs with rfl | ⟨l, a, rfl⟩
      · exact h0
      · rw [List.concat_eq_append] at e ⊢
        rw [List.length_append] at e
        exact h1 l a (ih l (by simpa using e))
  exact fun xs => this _ xs rfl
theorem runL_pos : ∀ ws : List Str, (∀ w ∈ ws, w ∈ W4) → (∀ r ∈ runL ws, r.1 ∈ W4 ∧ 1 ≤ r.2 ∧ r.2 ≤ ws.length) ∧ (runL ws).length ≤ ws.length := by
  refine snocI (fun _ => ⟨fun r h => (nomatch (show r ∈ ([] : List (Str × Int)) from h)), Nat.le_refl _⟩) fun ws w ih h => ?_
  obtain ⟨h1, h2⟩ := ih fun v hv => h v (List.mem_append_left _ hv)
  rw [runL_snoc, List.length_append]
  refine ⟨fun r hr => ?_, Nat.le_trans (addR_len _ _ _) (by show _ + 1 ≤ _ + 1; omega)⟩
  rcases addR_mem hr with z | ⟨e, z⟩
  · have := h1 r z
    exact ⟨this.1, this.2.1, by have := this.2.2; rw [show [w].length = 1 from rfl]; omega⟩
  · rw [e]
    refine ⟨h w (by simp), ?_⟩
    rw [show [w].length = 1 from rfl]
    rcases z with z | ⟨m, hm, z⟩
    · rw [z]; exact ⟨Int.le_refl _, by omega⟩
    · have := h1 _ hm
      have h3 : m ≤ ws.length := this.2.2
      have h4 : 1 ≤ m := this.2.1
      rw [z]
      exact ⟨by omega, by show m + 1 ≤ ((ws.length + 1 : Nat) : Int); omega⟩
theorem wdsL_runL : ∀ ws : List Str, (∀ w ∈ ws, w ∈ W4) → ws.length ≤ 1000 → wdsL (runL ws) = ws := by
  refine snocI (fun _ _ => rfl) fun ws w ih h hl => ?_
  rw [List.length_append] at hl
  replace hl : ws.length + 1 ≤ 1000 := hl
  have hw := fun v hv => h v (List.mem_append_left _ hv)
  have := wdsL_addR (runL ws) (fun r hr => by have := (runL_pos ws hw).1 r hr; exact ⟨this.1, this.2.1, by have := this.2.2; omega⟩) w 1
  rw [runL_snoc]
  refine this.trans ?_
  rw [ih hw (by omega)]
  rfl
def PosL (pt : List (Str × Int)) : Prop := ∀ r ∈ pt, r.1 ∈ W4 ∧ 1 ≤ r.2 ∧ r.2 ≤ 3
theorem PosL.r {pt : List (Str × Int)} (h : PosL pt) : PosR pt := fun r hr => by
  have := h r hr
  exact ⟨this.1, this.2.1, by omega⟩
theorem PosL.len : ∀ {pt : List (Str × Int)}, PosL pt → (wdsL pt).length ≤ 3 * pt.length
  | [], _ => Nat.le_refl _
  | r :: pt, h => by
    have h1 := h r (.head _)
    have h2 := PosL.len (pt := pt) fun q hq => h q (.tail _ hq)
    show (List.replicate r.2.toNat r.1 ++ wdsL pt).length ≤ 3 * (pt.length + 1)
    rw [List.length_append, List.length_replicate]
    omega
theorem part_step {p0 : Pl} {pt rs rs' : List (Str × Int)} {wk : List Pl} {wd : Str} {mn i : Nat} (h1 : 1 ≤ mn) (h3 : mn ≤ 3) (hw : wd ∈ W4) (hi : wk = wayL p0 (wdsL pt ++ List.replicate mn wd)) (hr : rs = runL (wdsL pt)) (hp : PosL pt) (hl : pt.length = i) (hs : rs' = addR rs wd mn) :
    wk = wayR p0 (pt ++ [(wd, (mn : Int))]) ∧ rs' = runL (wdsL (pt ++ [(wd, (mn : Int))])) ∧ PosL (pt ++ [(wd, (mn : Int))]) ∧ (pt ++ [(wd, (mn : Int))]).length = i + 1 := by
  unfold wayR
  rw [wdsL_snoc]
  refine ⟨hi, ?_, fun r hr' => ?_, by rw [List.length_append, hl]; rfl⟩
  · rw [hs, hr]
    exact (runL_rep _ _ h1).symm
  · rcases List.mem_append.mp hr' with z | z
    · exact hp r z
    · rw [List.mem_singleton.mp z]
      exact ⟨hw, by show (1 : Int) ≤ mn; omega, by show (mn : Int) ≤ 3; omega⟩
theorem isE_dec {α : Type} (rs : List α) : decide ((0 : Int) < rs.length) = !rs.isEmpty := by
  cases rs with
  | nil => rfl
  | cons a l => exact decide_eq_true (by show (0 : Int) < ((l.length + 1 : Nat) : Int); omega)
theorem addR_pos' {rs : List (Str × Int)} {w : Str} {n : Int} (h : (decide ((0 : Int) < rs.length) && decide ((ix rs (-1)).1 = w)) = true) : rs.set (rs.length - 1) (w, (ix rs (-1)).2 + n) = addR rs w n := addR_pos (by rw [isE_dec] at h; exact h)
theorem addR_neg' {rs : List (Str × Int)} {w : Str} {n : Int} (h : (decide ((0 : Int) < rs.length) && decide ((ix rs (-1)).1 = w)) = false) : rs ++ [(w, n)] = addR rs w n := addR_neg (by rw [isE_dec] at h; exact h)
theorem len_pos' {α : Type} {xs : List α} (h : decide ((0 : Int) < xs.length) = true) : 1 ≤ xs.length := by
  have := of_decide_eq_true h
  omega
theorem sh_w4 {w : Str} (h : w ∈ W4) : ShE (.str w) 0 5 := by
  rcases w4 h with rfl | rfl | rfl | rfl
  · exact ⟨rfl, rfl, Nat.le_refl _, by decide +kernel, by decide +kernel⟩
  · exact ⟨rfl, rfl, Nat.le_refl _, by decide +kernel, by decide +kernel⟩
  · exact ⟨rfl, rfl, Nat.le_refl _, by decide +kernel, by decide +kernel⟩
  · exact ⟨rfl, rfl, Nat.le_refl _, by decide +kernel, by decide +kernel⟩
theorem ok_w4 {w : Str} (h : w ∈ W4) : PyData.strOk w = true := by
  rcases w4 h with rfl | rfl | rfl | rfl <;> decide +kernel
theorem ten12 : (100000 : Nat) < 10 ^ 12 := by decide
theorem shows_way {p : Pl} {ws : List Str} (h : p.1.natAbs ≤ 100 ∧ p.2.natAbs ≤ 100) (hl : ws.length ≤ 1000) : Shows (.list ((wayL p ws).map dP)) :=
  (sh_map (n := 1) (m := 2) (k := 1001) (fun q hq => by
    have := wayL_bd p ws 100 h q hq
    have := ten12
    exact sh_pl (by omega) (by omega)) (by rw [wayL_len]; omega)).shows (by decide) (by decide)
theorem shows_runs {rs : List (Str × Int)} (h : PosR rs) (hl : rs.length ≤ 1000) : Shows (.list (rs.map (eT2 PyData.str PyData.int))) :=
  (sh_map (n := 1) (m := 12) (k := 1000) (fun r hr => by
    have q := h r hr
    have := ten12
    exact sh_tuple (n := 0) (m := 5) fun d hd => by
      rcases List.mem_cons.mp hd with z | z
      · subst z; exact sh_w4 q.1
      · rw [List.mem_singleton.mp z]; exact (sh_int (by omega)).up (Nat.le_refl _) (by decide)) hl).shows (by decide) (by decide)
theorem ix_mem44 {α : Type} [Inhabited α] {xs : List α} {i : Int} (h0 : 0 ≤ i) (h1 : i < xs.length) : ix xs i ∈ xs := by
  obtain ⟨j, rfl⟩ : ∃ j : Nat, i = (j : Int) := ⟨i.toNat, by omega⟩
  have e := List.getElem?_eq_getElem (l := xs) (show j < xs.length by omega)
  rw [ix_nat e]
  exact List.getElem_mem _
theorem ok_law (dS : Addr) {f : Addr} {fd : FuncData} (F : Fun K "law" "law" s_law f fd) (t__law_numbers : TopD P w K mg base 2 "_law_numbers" ["script", "many"] (spNumbers K)) (z_int : mg "int" = none) (z_range : mg "range" = none) (z_len : mg "len" = none) (t__law_moved : TopD P w K mg base 1 "_law_moved" ["place", "word"] (Sps (Rs__law_moved ) (P__law_moved ) (R__law_moved ))) (z_list : mg "list" = none) (t_runs_of : TopD P w K mg base 2 "runs_of" ["walk"] (SpN (Rs_runs_of dS) (P_runs_of dS) (R_runs_of dS))) (z_repr : mg "repr" = none) (t_walk_by : TopD P w K mg base 1 "walk_by" ["place", "runs"] (SpN (Rs_walk_by dS) (P_walk_by dS) (R_walk_by dS))) : AskOk P w K mg base f fd "script" (spLawT K []) := by
  refine ask_okL F sc_law (k := 3) ⟨rfl, by decide, by decide⟩ fun cdv A outer s H E0 hr hg => ?_
  have nd := sc_law.nd
  refine ⟨_, (pss_cons (ps_set (i := 1) nd rfl (.inl rfl) (pe_call t__law_numbers.G (by exact hr.mono (by decide)) (by rfl) t__law_numbers.g t__law_numbers.kp t__law_numbers.b .nil pass0 (pa_cons (pv 0) (pa_cons pe_int pa_nil))))
      (pss_cons (ps_set (i := 2) nd rfl (.inl rfl) (pe_tup (pa_cons (pe_op op_add pe_int (pe_op op_mod (pe_callTy call_int1 (by rfl) z_int (by decide +kernel) (pa_cons (pe_ix (r := rIxL K) ix_list (pv 1) pe_int (fun _ _ => rfl)) pa_nil)) pe_int)) (pa_cons (pe_op op_add pe_int (pe_op op_mod (pe_callTy call_int1 (by rfl) z_int (by decide +kernel) (pa_cons (pe_ix (r := rIxL K) ix_list (pv 1) pe_int (fun _ _ => rfl)) pa_nil)) pe_int)) pa_nil))))
      (pss_cons (ps_set (i := 3) nd rfl (.inl rfl) (pe_lst (pa_cons (pv 2) pa_nil)))
      (pss_cons (ps_set (i := 4) nd rfl (.inl rfl) (pe_lst pa_nil))
      (pss_cons (ps_set (i := 5) nd rfl (.inl rfl) (pe_lst pa_nil))
      (pss_cons (ps_for PassesOwn.never rfl (pi_range1 rfl z_range (pa_cons (pe_op op_mod (pe_callTy call_int1 (by rfl) z_int (by decide +kernel) (pa_cons (pe_ix (r := rIxL K) ix_list (pv 1) pe_int (fun _ _ => rfl)) pa_nil)) pe_int) pa_nil)) (pg_name (i := 6) nd rfl (.inl rfl)) (pss_cons (ps_set (i := 7) nd rfl (.inl rfl) (pe_ix (r := rIxL K) ix_list (pe_lst (pa_cons pe_str (pa_cons pe_str (pa_cons pe_str (pa_cons pe_str pa_nil))))) (pe_op op_mod (pe_callTy call_int1 (by rfl) z_int (by decide +kernel) (pa_cons (pe_ix (r := rIxL K) ix_list (pv 1) (pe_op op_add pe_int (pe_op op_mul pe_int (pv 6))) (fun _ _ => rfl)) pa_nil)) pe_int) (fun _ _ => rfl)))
      (pss_cons (ps_set (i := 8) nd rfl (.inl rfl) (pe_op op_add pe_int (pe_op op_mod (pe_callTy call_int1 (by rfl) z_int (by decide +kernel) (pa_cons (pe_ix (r := rIxL K) ix_list (pv 1) (pe_op op_add pe_int (pe_op op_mul pe_int (pv 6))) (fun _ _ => rfl)) pa_nil)) pe_int)))
      (pss_cons (ps_expr (pe_bm PySem.F.plainAttrs_list PySem.F.slot_list_append PySem.F.type_list_append mt_append (pv 5) (pa_cons (pe_tup (pa_cons (pv 7) (pa_cons (pv 8) pa_nil))) pa_nil)))
      (pss_cons (ps_if (PW.pt (pw_and (pt_cmpR (r := rI0 fun i j => .bl (decide (j < i))) op_gt (pe_callB call_len (by rfl) z_len (by decide +kernel) (pa_cons (pv 4) pa_nil)) pe_int (nomark _)) (pw_and1 (pt_cmpR (r := rEq) op_eq (pe_ix (r := rIxT K) ix_tup (pe_ix (r := rIxL K) ix_list (pv 4) (pe_un un_neg pe_int) (fun _ _ => rfl)) pe_int (fun _ _ => rfl)) (pv 7) (nomark _))))) (pss_one (ps_asg (pe_tup (pa_cons (pv 7) (pa_cons (pe_op op_add (pe_ix (r := rIxT K) ix_tup (pe_ix (r := rIxL K) ix_list (pv 4) (pe_un un_neg pe_int) (fun _ _ => rfl)) pe_int (fun _ _ => rfl)) (pv 8)) pa_nil))) (pg_sub (pv 4) (pe_un un_neg pe_int) set_list))) (pss_one (ps_expr (pe_bm PySem.F.plainAttrs_list PySem.F.slot_list_append PySem.F.type_list_append mt_append (pv 4) (pa_cons (pe_tup (pa_cons (pv 7) (pa_cons (pv 8) pa_nil))) pa_nil)))))
      (pss_one (ps_for PassesOwn.never rfl (pi_range1 rfl z_range (pa_cons (pv 8) pa_nil)) (pg_name (i := 9) nd rfl (.inl rfl)) (pss_one (ps_expr (pe_bm PySem.F.plainAttrs_list PySem.F.slot_list_append PySem.F.type_list_append mt_append (pv 3) (pa_cons (pe_call t__law_moved.G (by exact hr.mono (by decide)) (by rfl) t__law_moved.g t__law_moved.kp t__law_moved.b .nil pass0 (pa_cons (pe_ix (r := rIxL K) ix_list (pv 3) (pe_un un_neg pe_int) (fun _ _ => rfl)) (pa_cons (pv 7) pa_nil))) pa_nil)))))))))))
      (pss_cons (ps_set (i := 10) nd rfl (.inl rfl) (pe_lst (pa_cons (pe_callTy call_list_of (by rfl) z_list (by decide +kernel) (pa_cons (pv 3) pa_nil)) (pa_cons (pe_callTy call_list_of (by rfl) z_list (by decide +kernel) (pa_cons (pv 4) pa_nil)) (pa_cons (pe_callTy call_list_of (by rfl) z_list (by decide +kernel) (pa_cons (pv 5) pa_nil)) pa_nil)))))
      (pss_cons (ps_set (i := 11) nd rfl (.inl rfl) (pe_call t_runs_of.G (by exact hr.mono (by decide)) (by rfl) t_runs_of.g t_runs_of.kp t_runs_of.b .nil pass0 (pa_cons (pe_ix (r := rIxL K) ix_list (pv 10) pe_int (fun _ _ => rfl)) pa_nil)))
      (pss_cons (ps_if (PW.pt (pw_or (pt_cmpR (r := rNe) op_ne (pe_callB (call_reprD hg (by exact hr.units)) (by rfl) z_repr (by decide +kernel) (pa_cons (pv 11) pa_nil)) (pe_callB (call_reprD hg (by exact hr.units)) (by rfl) z_repr (by decide +kernel) (pa_cons (pv 4) pa_nil)) (nomark _)) (pw_or (pt_cmpR (r := rNeD K) (op_neD hr.units) (pe_call t_runs_of.G (by exact hr.mono (by decide)) (by rfl) t_runs_of.g t_runs_of.kp t_runs_of.b .nil pass0 (pa_cons (pe_lst (pa_cons (pv 2) pa_nil)) pa_nil)) (pe_lst pa_nil) (nomark _)) (pw_or1 (pt_cmpR (r := rNeD K) (op_neD hr.units) (pe_call t_walk_by.G (by exact hr.mono (by decide)) (by rfl) t_walk_by.g t_walk_by.kp t_walk_by.b .nil pass0 (pa_cons (pv 2) (pa_cons (pe_lst pa_nil) pa_nil))) (pe_lst (pa_cons (pv 2) pa_nil)) (nomark _)))))) (pss_one (ps_ret pe_bl)) pss_nil)
      (pss_cons (ps_expr (pe_bm PySem.F.plainAttrs_list PySem.F.slot_list_append PySem.F.type_list_append mt_append (pv 11) (pa_cons (pe_tup (pa_cons pe_str (pa_cons pe_int pa_nil))) pa_nil)))
      (pss_cons (ps_if (PW.pt (pw_or (pt_cmpR (r := rNe) op_ne (pe_callB (call_reprD hg (by exact hr.units)) (by rfl) z_repr (by decide +kernel) (pa_cons (pe_call t_walk_by.G (by exact hr.mono (by decide)) (by rfl) t_walk_by.g t_walk_by.kp t_walk_by.b .nil pass0 (pa_cons (pv 2) (pa_cons (pe_ix (r := rIxL K) ix_list (pv 10) pe_int (fun _ _ => rfl)) pa_nil))) pa_nil)) (pe_callB (call_reprD hg (by exact hr.units)) (by rfl) z_repr (by decide +kernel) (pa_cons (pv 3) pa_nil)) (nomark _)) (pw_or1 (pt_cmpR (r := rNe) op_ne (pe_callB (call_reprD hg (by exact hr.units)) (by rfl) z_repr (by decide +kernel) (pa_cons (pe_call t_walk_by.G (by exact hr.mono (by decide)) (by rfl) t_walk_by.g t_walk_by.kp t_walk_by.b .nil pass0 (pa_cons (pv 2) (pa_cons (pe_ix (r := rIxL K) ix_list (pv 10) pe_int (fun _ _ => rfl)) pa_nil))) pa_nil)) (pe_callB (call_reprD hg (by exact hr.units)) (by rfl) z_repr (by decide +kernel) (pa_cons (pv 3) pa_nil)) (nomark _))))) (pss_one (ps_ret pe_bl)) pss_nil)
      (pss_one (ps_ret (pe_and (pe_cmpR (r := rEqD K) (op_eqD hr.units) (pv 10) (pe_lst (pa_cons (pv 3) (pa_cons (pv 4) (pa_cons (pv 5) pa_nil)))) (nomark _)) (pe_one (pe_cmpR (r := rEq) op_eq (pe_callB (call_reprD hg (by exact hr.units)) (by rfl) z_repr (by decide +kernel) (pa_cons (pe_call t_runs_of.G (by exact hr.mono (by decide)) (by rfl) t_runs_of.g t_runs_of.kp t_runs_of.b .nil pass0 (pa_cons (pv 3) pa_nil)) pa_nil)) (pe_callB (call_reprD hg (by exact hr.units)) (by rfl) z_repr (by decide +kernel) (pa_cons (pv 4) pa_nil)) (nomark _))))))))))))))))), ?_⟩
  intro ns hs Q hns hT q
  show WC ⟨hs, hs, fun _ => False, [.fz (RScr K ns), .any, .any, .any, .any, .any, .any, .any, .any, .any, .any, .any]⟩ _
  refine s_seq ?_
  refine s_setX (x_call0 (skx_numbers (m := 100)) (a_cons (e_var rfl) (a_cons e_int a_nil)) (fun H kp => ⟨hns, by decide⟩)) ?_
  rintro ns1 ⟨n100, sm⟩
  show WC ⟨hs, hs, (fun _ => False), [.fz (RScr K ns), .fz (RD (.list (ns1.map PyData.int))), .any, .any, .any, .any, .any, .any, .any, .any, .any, .any]⟩ _
  refine s_seq ?_
  obtain ⟨p0, hp0, ep0⟩ : ∃ p0 : Pl, (p0.1.natAbs ≤ 100 ∧ p0.2.natAbs ≤ 100) ∧ ((40 + ix ns1 0 % 12, 60 + ix ns1 1 % 20) : Pl) = p0 := ⟨_, ⟨by show (40 + ix ns1 0 % 12 : Int).natAbs ≤ 100; omega, by show (60 + ix ns1 1 % 20 : Int).natAbs ≤ 100; omega⟩, rfl⟩
  refine s_set (E.eq (e_tup (m_cons (e_op o_add e_int (e_op (o_mod (i := (ix ns1 0)) (j := 12) (by omega)) (e_cb o_int (a_cons (e_op (o_ixL (ix_at (xs := ns1) (i := 0) (by omega))) (e_var rfl) e_int) a_nil)) e_int)) (m_cons (e_op o_add e_int (e_op (o_mod (i := (ix ns1 1)) (j := 20) (by omega)) (e_cb o_int (a_cons (e_op (o_ixL (ix_at (xs := ns1) (i := 1) (by omega))) (e_var rfl) e_int) a_nil)) e_int)) m_nil))) (e := dP p0) (by exact congrArg dP ep0)) ?_
  show WC ⟨hs, hs, (fun _ => False), [.fz (RScr K ns), .fz (RD (.list (ns1.map PyData.int))), .fz (RD (dP p0)), .any, .any, .any, .any, .any, .any, .any, .any, .any]⟩ _
  refine s_seq ?_
  refine s_new (n_lstM (xs := [p0]) (enc := dP) (m_cons (e_var rfl) m_nil)) ?_
  show WC ⟨hs, hs, (fun _ => False), [.fz (RScr K ns), .fz (RD (.list (ns1.map PyData.int))), .fz (RD (dP p0)), .own (OL ([p0].map dP)), .any, .any, .any, .any, .any, .any, .any, .any]⟩ _
  refine s_seq ?_
  refine s_new (n_lst m_nil) ?_
  show WC ⟨hs, hs, (fun _ => False), [.fz (RScr K ns), .fz (RD (.list (ns1.map PyData.int))), .fz (RD (dP p0)), .own (OL ([p0].map dP)), .own (OL (([] : List ((Str) × (Int))).map (eT2 PyData.str PyData.int))), .any, .any, .any, .any, .any, .any, .any]⟩ _
  refine s_seq ?_
  refine s_new (n_lst m_nil) ?_
  show WC ⟨hs, hs, (fun _ => False), [.fz (RScr K ns), .fz (RD (.list (ns1.map PyData.int))), .fz (RD (dP p0)), .own (OL ([p0].map dP)), .own (OL (([] : List ((Str) × (Int))).map (eT2 PyData.str PyData.int))), .own (OL (([] : List ((Str) × (Int))).map (eT2 PyData.str PyData.int))), .any, .any, .any, .any, .any, .any]⟩ _
  refine s_seq ?_
  refine s_rng (lo := 0) (n := (((ix ns1 2) % 15) : Int).toNat) (fun (i : Nat) γ => ∃ (wk : List ((Int) × (Int))), ∃ (rs : List ((Str) × (Int))), ∃ (pt : List ((Str) × (Int))), γ = [.fz (RScr K ns), .fz (RD (.list (ns1.map PyData.int))), .fz (RD (dP p0)), .own (OL (wk.map dP)), .own (OL (rs.map (eT2 PyData.str PyData.int))), .own (OL (pt.map (eT2 PyData.str PyData.int))), .any, .any, .any, .any, .any, .any] ∧ (wk = wayR p0 pt ∧ rs = runL (wdsL pt) ∧ PosL pt ∧ pt.length = i)) (w_rng1 (j := ((ix ns1 2) % 15)) (e_op (o_mod (i := (ix ns1 2)) (j := 15) (by omega)) (e_cb o_int (a_cons (e_op (o_ixL (ix_at (xs := ns1) (i := 2) (by omega))) (e_var rfl) e_int) a_nil)) e_int) (by omega)) ⟨[p0], ([] : List ((Str) × (Int))), ([] : List ((Str) × (Int))), rfl, ⟨rfl, rfl, (fun _ h => nomatch h), rfl⟩⟩ ?_ ?_
  · rintro i0 γ hi0 ⟨wk, rs, pt, rfl, hi⟩
    have hpl := hi.2.2.2
    refine ⟨_, _, g_name, ?_⟩
    show WC ⟨hs, hs, (fun _ => False), [.fz (RScr K ns), .fz (RD (.list (ns1.map PyData.int))), .fz (RD (dP p0)), .own (OL (wk.map dP)), .own (OL (rs.map (eT2 PyData.str PyData.int))), .own (OL (pt.map (eT2 PyData.str PyData.int))), .fz (RD (.int (0 + (i0 : Int)))), .any, .any, .any, .any, .any]⟩ _
    refine s_seq ?_
    obtain ⟨wd, hwd, ewd⟩ : ∃ wd : Str, wd ∈ W4 ∧ ix (["up", "down", "right", "left"] : List Str) (ix ns1 (4 + 2 * (0 + (i0 : Int))) % 4) = wd := ⟨_, ix_mem44 (xs := (["up", "down", "right", "left"] : List Str)) (i := ix ns1 (4 + 2 * (0 + (i0 : Int))) % 4) (by omega) (by show _ < (4 : Int); omega), rfl⟩
    refine s_set (E.eq (e_op (o_ixL (ix_at (xs := [("up" : Str), ("down" : Str), ("right" : Str), ("left" : Str)]) (i := ((ix ns1 (4 + (2 * (0 + (i0 : Int))))) % 4)) (by show -(4 : Int) ≤ _ ∧ _ < (4 : Int); omega))) (n_e (n_lstM (xs := [("up" : Str), ("down" : Str), ("right" : Str), ("left" : Str)]) (enc := PyData.str) (m_cons e_str (m_cons e_str (m_cons e_str (m_cons e_str m_nil)))))) (e_op (o_mod (i := (ix ns1 (4 + (2 * (0 + (i0 : Int)))))) (j := 4) (by omega)) (e_cb o_int (a_cons (e_op (o_ixL (ix_at (xs := ns1) (i := (4 + (2 * (0 + (i0 : Int))))) (by omega))) (e_var rfl) (e_op o_add e_int (e_op (o_mul (i := 2) (j := (0 + (i0 : Int))) (mulL (by omega) (by omega))) e_int (e_var rfl)))) a_nil)) e_int)) (e := PyData.str wd) (by rw [ewd])) ?_
    show WC ⟨hs, hs, (fun _ => False), [.fz (RScr K ns), .fz (RD (.list (ns1.map PyData.int))), .fz (RD (dP p0)), .own (OL (wk.map dP)), .own (OL (rs.map (eT2 PyData.str PyData.int))), .own (OL (pt.map (eT2 PyData.str PyData.int))), .fz (RD (.int (0 + (i0 : Int)))), .fz (RD (.str wd)), .any, .any, .any, .any]⟩ _
    refine s_seq ?_
    obtain ⟨mn, hmn, emn⟩ : ∃ mn : Nat, (1 ≤ mn ∧ mn ≤ 3) ∧ 1 + ix ns1 (5 + 2 * (0 + (i0 : Int))) % 3 = (mn : Int) := ⟨(1 + ix ns1 (5 + 2 * (0 + (i0 : Int))) % 3).toNat, by omega, by omega⟩
    refine s_set (E.eq (e_op o_add e_int (e_op (o_mod (i := (ix ns1 (5 + (2 * (0 + (i0 : Int)))))) (j := 3) (by omega)) (e_cb o_int (a_cons (e_op (o_ixL (ix_at (xs := ns1) (i := (5 + (2 * (0 + (i0 : Int))))) (by omega))) (e_var rfl) (e_op o_add e_int (e_op (o_mul (i := 2) (j := (0 + (i0 : Int))) (mulL (by omega) (by omega))) e_int (e_var rfl)))) a_nil)) e_int)) (e := PyData.int (mn : Int)) (by rw [emn])) ?_
    show WC ⟨hs, hs, (fun _ => False), [.fz (RScr K ns), .fz (RD (.list (ns1.map PyData.int))), .fz (RD (dP p0)), .own (OL (wk.map dP)), .own (OL (rs.map (eT2 PyData.str PyData.int))), .own (OL (pt.map (eT2 PyData.str PyData.int))), .fz (RD (.int (0 + (i0 : Int)))), .fz (RD (.str wd)), .fz (RD (.int (mn : Int))), .any, .any, .any]⟩ _
    refine s_seq ?_
    refine s_appM (xs := pt) (a := (wd, (mn : Int))) rfl (e_tup (m_cons (e_var rfl) (m_cons (e_var rfl) m_nil))) (by omega) ?_
    show WC ⟨hs, hs, (fun _ => False), [.fz (RScr K ns), .fz (RD (.list (ns1.map PyData.int))), .fz (RD (dP p0)), .own (OL (wk.map dP)), .own (OL (rs.map (eT2 PyData.str PyData.int))), .own (OL ((pt ++ [(wd, (mn : Int))]).map (eT2 PyData.str PyData.int))), .fz (RD (.int (0 + (i0 : Int)))), .fz (RD (.str wd)), .fz (RD (.int (mn : Int))), .any, .any, .any]⟩ _
    refine s_seq ?_
    refine s_if (t_and (t_T (e_op o_cmpI0 (e_cb o_lenM (a_cons (e_own rfl) a_nil)) e_int)) (fun hbo => (t_T (e_op o_eqS (e_op (o_ixT rfl) (e_ixO (i_own rfl) (e_un o_neg e_int) (ix_at (xs := rs) (i := (-1)) (by have := len_pos' hbo; omega))) e_int) (e_var rfl))))) (fun h1 => ?_) (fun h1 => ?_)
    · have := h1
      refine s_setM (xs := rs) (j := (rs.length - 1)) (a := (wd, ((ix rs (-1)).2 + (mn : Int)))) (k := (-1)) rfl (e_tup (m_cons (e_var rfl) (m_cons (e_op o_add (e_op (o_ixT rfl) (e_ixO (i_own rfl) (e_un o_neg e_int) (ix_at (xs := rs) (i := (-1)) (by have := len_pos' (and_l this); omega))) e_int) (e_var rfl)) m_nil))) (e_un o_neg e_int) (ixN_last (len_pos' (and_l this))) ?_
      show WC ⟨hs, hs, (fun _ => False), [.fz (RScr K ns), .fz (RD (.list (ns1.map PyData.int))), .fz (RD (dP p0)), .own (OL (wk.map dP)), .own (OL ((rs.set (rs.length - 1) (wd, ((ix rs (-1)).2 + (mn : Int)))).map (eT2 PyData.str PyData.int))), .own (OL ((pt ++ [(wd, (mn : Int))]).map (eT2 PyData.str PyData.int))), .fz (RD (.int (0 + (i0 : Int)))), .fz (RD (.str wd)), .fz (RD (.int (mn : Int))), .any, .any, .any]⟩ _
      refine s_rng (lo := 0) (n := ((mn : Int) : Int).toNat) (fun (i : Nat) γ => ∃ (wk2 : List ((Int) × (Int))), γ = [.fz (RScr K ns), .fz (RD (.list (ns1.map PyData.int))), .fz (RD (dP p0)), .own (OL (wk2.map dP)), .own (OL ((rs.set (rs.length - 1) (wd, ((ix rs (-1)).2 + (mn : Int)))).map (eT2 PyData.str PyData.int))), .own (OL ((pt ++ [(wd, (mn : Int))]).map (eT2 PyData.str PyData.int))), .fz (RD (.int (0 + (i0 : Int)))), .fz (RD (.str wd)), .fz (RD (.int (mn : Int))), .any, .any, .any] ∧ (wk2 = wayL p0 (wdsL pt ++ List.replicate i wd))) (w_rng1 (j := (mn : Int)) (e_var rfl) (by omega)) ⟨wk, rfl, by rw [hi.1]; show _ = wayL p0 (_ ++ []); rw [List.append_nil]; rfl⟩ ?_ ?_
      · rintro j γ hjn ⟨wk2, rfl, hj⟩
        have wl2 : wk2.length = (wdsL pt).length + j + 1 := by rw [hj, wayL_len, List.length_append, List.length_replicate]
        have wl3 : (wdsL pt).length ≤ 3 * pt.length := hi.2.2.1.len
        refine ⟨_, _, g_name, ?_⟩
        show WC ⟨hs, hs, (fun _ => False), [.fz (RScr K ns), .fz (RD (.list (ns1.map PyData.int))), .fz (RD (dP p0)), .own (OL (wk2.map dP)), .own (OL ((rs.set (rs.length - 1) (wd, ((ix rs (-1)).2 + (mn : Int)))).map (eT2 PyData.str PyData.int))), .own (OL ((pt ++ [(wd, (mn : Int))]).map (eT2 PyData.str PyData.int))), .fz (RD (.int (0 + (i0 : Int)))), .fz (RD (.str wd)), .fz (RD (.int (mn : Int))), .fz (RD (.int (0 + (j : Int)))), .any, .any]⟩ _
        refine s_appM (xs := wk2) (a := (mv (ix wk2 (-1)) wd)) rfl (show E _ _ _ (RD (dP (mv (ix wk2 (-1)) wd))) from c_call (sok_sps (Rs := Rs__law_moved ) (P := P__law_moved ) (R := R__law_moved ) ((ix wk2 (-1)), wd)) (a_cons (e_ixO (i_own rfl) (e_un o_neg e_int) (ix_at (xs := wk2) (i := (-1)) (by omega))) (a_cons (e_var rfl) a_nil)) (fun H kp => by show wd ∈ W4; exact hwd)) (by omega) ?_
        show WC ⟨hs, hs, (fun _ => False), [.fz (RScr K ns), .fz (RD (.list (ns1.map PyData.int))), .fz (RD (dP p0)), .own (OL ((wk2 ++ [(mv (ix wk2 (-1)) wd)]).map dP)), .own (OL ((rs.set (rs.length - 1) (wd, ((ix rs (-1)).2 + (mn : Int)))).map (eT2 PyData.str PyData.int))), .own (OL ((pt ++ [(wd, (mn : Int))]).map (eT2 PyData.str PyData.int))), .fz (RD (.int (0 + (i0 : Int)))), .fz (RD (.str wd)), .fz (RD (.int (mn : Int))), .fz (RD (.int (0 + (j : Int)))), .any, .any]⟩ _
        refine s_drop 9 ?_
        show WC ⟨hs, hs, (fun _ => False), [.fz (RScr K ns), .fz (RD (.list (ns1.map PyData.int))), .fz (RD (dP p0)), .own (OL ((wk2 ++ [(mv (ix wk2 (-1)) wd)]).map dP)), .own (OL ((rs.set (rs.length - 1) (wd, ((ix rs (-1)).2 + (mn : Int)))).map (eT2 PyData.str PyData.int))), .own (OL ((pt ++ [(wd, (mn : Int))]).map (eT2 PyData.str PyData.int))), .fz (RD (.int (0 + (i0 : Int)))), .fz (RD (.str wd)), .fz (RD (.int (mn : Int))), .any, .any, .any]⟩ _
        exact s_of ⟨(wk2 ++ [(mv (ix wk2 (-1)) wd)]), rfl, by rw [hj, wayL_rep, ← hj]⟩
      · rintro γ ⟨wk2, rfl, hj⟩
        show WC ⟨hs, hs, (fun _ => False), [.fz (RScr K ns), .fz (RD (.list (ns1.map PyData.int))), .fz (RD (dP p0)), .own (OL (wk2.map dP)), .own (OL ((rs.set (rs.length - 1) (wd, ((ix rs (-1)).2 + (mn : Int)))).map (eT2 PyData.str PyData.int))), .own (OL ((pt ++ [(wd, (mn : Int))]).map (eT2 PyData.str PyData.int))), .fz (RD (.int (0 + (i0 : Int)))), .fz (RD (.str wd)), .fz (RD (.int (mn : Int))), .any, .any, .any]⟩ _
        refine s_drop 6 ?_
        refine s_drop 7 ?_
        refine s_drop 8 ?_
        show WC ⟨hs, hs, (fun _ => False), [.fz (RScr K ns), .fz (RD (.list (ns1.map PyData.int))), .fz (RD (dP p0)), .own (OL (wk2.map dP)), .own (OL ((rs.set (rs.length - 1) (wd, ((ix rs (-1)).2 + (mn : Int)))).map (eT2 PyData.str PyData.int))), .own (OL ((pt ++ [(wd, (mn : Int))]).map (eT2 PyData.str PyData.int))), .any, .any, .any, .any, .any, .any]⟩ _
        exact s_of ⟨wk2, (rs.set (rs.length - 1) (wd, ((ix rs (-1)).2 + (mn : Int)))), (pt ++ [(wd, (mn : Int))]), rfl, part_step hmn.1 hmn.2 hwd hj hi.2.1 hi.2.2.1 hi.2.2.2 (addR_pos' this)⟩
    · have := h1
      refine s_appM (xs := rs) (a := (wd, (mn : Int))) rfl (e_tup (m_cons (e_var rfl) (m_cons (e_var rfl) m_nil))) (by have := (runL_pos _ (wds_w4 hi.2.2.1.r)).2; have := hi.2.2.1.len; rw [hi.2.1]; omega) ?_
      show WC ⟨hs, hs, (fun _ => False), [.fz (RScr K ns), .fz (RD (.list (ns1.map PyData.int))), .fz (RD (dP p0)), .own (OL (wk.map dP)), .own (OL ((rs ++ [(wd, (mn : Int))]).map (eT2 PyData.str PyData.int))), .own (OL ((pt ++ [(wd, (mn : Int))]).map (eT2 PyData.str PyData.int))), .fz (RD (.int (0 + (i0 : Int)))), .fz (RD (.str wd)), .fz (RD (.int (mn : Int))), .any, .any, .any]⟩ _
      refine s_rng (lo := 0) (n := ((mn : Int) : Int).toNat) (fun (i : Nat) γ => ∃ (wk2 : List ((Int) × (Int))), γ = [.fz (RScr K ns), .fz (RD (.list (ns1.map PyData.int))), .fz (RD (dP p0)), .own (OL (wk2.map dP)), .own (OL ((rs ++ [(wd, (mn : Int))]).map (eT2 PyData.str PyData.int))), .own (OL ((pt ++ [(wd, (mn : Int))]).map (eT2 PyData.str PyData.int))), .fz (RD (.int (0 + (i0 : Int)))), .fz (RD (.str wd)), .fz (RD (.int (mn : Int))), .any, .any, .any] ∧ (wk2 = wayL p0 (wdsL pt ++ List.replicate i wd))) (w_rng1 (j := (mn : Int)) (e_var rfl) (by omega)) ⟨wk, rfl, by rw [hi.1]; show _ = wayL p0 (_ ++ []); rw [List.append_nil]; rfl⟩ ?_ ?_
      · rintro j γ hjn ⟨wk2, rfl, hj⟩
        have wl2 : wk2.length = (wdsL pt).length + j + 1 := by rw [hj, wayL_len, List.length_append, List.length_replicate]
        have wl3 : (wdsL pt).length ≤ 3 * pt.length := hi.2.2.1.len
        refine ⟨_, _, g_name, ?_⟩
        show WC ⟨hs, hs, (fun _ => False), [.fz (RScr K ns), .fz (RD (.list (ns1.map PyData.int))), .fz (RD (dP p0)), .own (OL (wk2.map dP)), .own (OL ((rs ++ [(wd, (mn : Int))]).map (eT2 PyData.str PyData.int))), .own (OL ((pt ++ [(wd, (mn : Int))]).map (eT2 PyData.str PyData.int))), .fz (RD (.int (0 + (i0 : Int)))), .fz (RD (.str wd)), .fz (RD (.int (mn : Int))), .fz (RD (.int (0 + (j : Int)))), .any, .any]⟩ _
        refine s_appM (xs := wk2) (a := (mv (ix wk2 (-1)) wd)) rfl (show E _ _ _ (RD (dP (mv (ix wk2 (-1)) wd))) from c_call (sok_sps (Rs := Rs__law_moved ) (P := P__law_moved ) (R := R__law_moved ) ((ix wk2 (-1)), wd)) (a_cons (e_ixO (i_own rfl) (e_un o_neg e_int) (ix_at (xs := wk2) (i := (-1)) (by omega))) (a_cons (e_var rfl) a_nil)) (fun H kp => by show wd ∈ W4; exact hwd)) (by omega) ?_
        show WC ⟨hs, hs, (fun _ => False), [.fz (RScr K ns), .fz (RD (.list (ns1.map PyData.int))), .fz (RD (dP p0)), .own (OL ((wk2 ++ [(mv (ix wk2 (-1)) wd)]).map dP)), .own (OL ((rs ++ [(wd, (mn : Int))]).map (eT2 PyData.str PyData.int))), .own (OL ((pt ++ [(wd, (mn : Int))]).map (eT2 PyData.str PyData.int))), .fz (RD (.int (0 + (i0 : Int)))), .fz (RD (.str wd)), .fz (RD (.int (mn : Int))), .fz (RD (.int (0 + (j : Int)))), .any, .any]⟩ _
        refine s_drop 9 ?_
        show WC ⟨hs, hs, (fun _ => False), [.fz (RScr K ns), .fz (RD (.list (ns1.map PyData.int))), .fz (RD (dP p0)), .own (OL ((wk2 ++ [(mv (ix wk2 (-1)) wd)]).map dP)), .own (OL ((rs ++ [(wd, (mn : Int))]).map (eT2 PyData.str PyData.int))), .own (OL ((pt ++ [(wd, (mn : Int))]).map (eT2 PyData.str PyData.int))), .fz (RD (.int (0 + (i0 : Int)))), .fz (RD (.str wd)), .fz (RD (.int (mn : Int))), .any, .any, .any]⟩ _
        exact s_of ⟨(wk2 ++ [(mv (ix wk2 (-1)) wd)]), rfl, by rw [hj, wayL_rep, ← hj]⟩
      · rintro γ ⟨wk2, rfl, hj⟩
        show WC ⟨hs, hs, (fun _ => False), [.fz (RScr K ns), .fz (RD (.list (ns1.map PyData.int))), .fz (RD (dP p0)), .own (OL (wk2.map dP)), .own (OL ((rs ++ [(wd, (mn : Int))]).map (eT2 PyData.str PyData.int))), .own (OL ((pt ++ [(wd, (mn : Int))]).map (eT2 PyData.str PyData.int))), .fz (RD (.int (0 + (i0 : Int)))), .fz (RD (.str wd)), .fz (RD (.int (mn : Int))), .any, .any, .any]⟩ _
        refine s_drop 6 ?_
        refine s_drop 7 ?_
        refine s_drop 8 ?_
        show WC ⟨hs, hs, (fun _ => False), [.fz (RScr K ns), .fz (RD (.list (ns1.map PyData.int))), .fz (RD (dP p0)), .own (OL (wk2.map dP)), .own (OL ((rs ++ [(wd, (mn : Int))]).map (eT2 PyData.str PyData.int))), .own (OL ((pt ++ [(wd, (mn : Int))]).map (eT2 PyData.str PyData.int))), .any, .any, .any, .any, .any, .any]⟩ _
        exact s_of ⟨wk2, (rs ++ [(wd, (mn : Int))]), (pt ++ [(wd, (mn : Int))]), rfl, part_step hmn.1 hmn.2 hwd hj hi.2.1 hi.2.2.1 hi.2.2.2 (addR_neg' this)⟩
  · rintro γ ⟨wk, rs, pt, rfl, hi⟩
    show WC ⟨hs, hs, (fun _ => False), [.fz (RScr K ns), .fz (RD (.list (ns1.map PyData.int))), .fz (RD (dP p0)), .own (OL (wk.map dP)), .own (OL (rs.map (eT2 PyData.str PyData.int))), .own (OL (pt.map (eT2 PyData.str PyData.int))), .any, .any, .any, .any, .any, .any]⟩ _
    obtain ⟨e1, e2, hpt, hlen⟩ := hi
    subst e1 e2
    show WC ⟨hs, hs, (fun _ => False), [.fz (RScr K ns), .fz (RD (.list (ns1.map PyData.int))), .fz (RD (dP p0)), .own (OL ((wayR p0 pt).map dP)), .own (OL ((runL (wdsL pt)).map (eT2 PyData.str PyData.int))), .own (OL (pt.map (eT2 PyData.str PyData.int))), .any, .any, .any, .any, .any, .any]⟩ _
    refine s_seq ?_
    refine s_set (n_e (n_lst (m_cons (n_e (n_list (i_own rfl))) (m_cons (n_e (n_list (i_own rfl))) (m_cons (n_e (n_list (i_own rfl))) m_nil))))) ?_
    show WC ⟨hs, hs, (fun _ => False), [.fz (RScr K ns), .fz (RD (.list (ns1.map PyData.int))), .fz (RD (dP p0)), .own (OL ((wayR p0 pt).map dP)), .own (OL ((runL (wdsL pt)).map (eT2 PyData.str PyData.int))), .own (OL (pt.map (eT2 PyData.str PyData.int))), .any, .any, .any, .any, .fz (RD ((eH3 (eL dP) (eL (eT2 PyData.str PyData.int)) (eL (eT2 PyData.str PyData.int))) ((wayR p0 pt), (runL (wdsL pt)), pt))), .any]⟩ _
    refine s_seq ?_
    refine s_new (show EN _ _ (OL ((runL (wdsL pt)).map (eT2 PyData.str PyData.int))) from n_call (skn_spn (Rs := Rs_runs_of dS) (P := P_runs_of dS) (C := R_runs_of dS) (p0, (wdsL pt))) (a_cons (e_op (o_ixL rfl) (e_var rfl) e_int) a_nil) (fun H kp => by show (∀ w ∈ (wdsL pt), w ∈ W4) ∧ (wdsL pt).length ≤ 1000; exact ⟨wds_w4 hpt.r, by have := hpt.len; omega⟩)) ?_
    show WC ⟨hs, hs, (fun _ => False), [.fz (RScr K ns), .fz (RD (.list (ns1.map PyData.int))), .fz (RD (dP p0)), .own (OL ((wayR p0 pt).map dP)), .own (OL ((runL (wdsL pt)).map (eT2 PyData.str PyData.int))), .own (OL (pt.map (eT2 PyData.str PyData.int))), .any, .any, .any, .any, .fz (RD ((eH3 (eL dP) (eL (eT2 PyData.str PyData.int)) (eL (eT2 PyData.str PyData.int))) ((wayR p0 pt), (runL (wdsL pt)), pt))), .own (OL ((runL (wdsL pt)).map (eT2 PyData.str PyData.int)))]⟩ _
    refine s_seq ?_
    have hW := wds_w4 hpt.r
    have hL : (wdsL pt).length ≤ 42 := by have := hpt.len; omega
    have hrp := runL_pos _ hW
    have hRR : PosR (runL (wdsL pt)) := fun r hr => ⟨(hrp.1 r hr).1, (hrp.1 r hr).2.1, by have := (hrp.1 r hr).2.2; omega⟩
    have hRl : (runL (wdsL pt)).length ≤ 42 := by have := hrp.2; omega
    refine s_if (t_or (t_T (e_op o_neS (e_cb (o_reprD (Enc.nod (enc_list (enc_T2 enc_str enc_int)) _) rfl (shows_runs hRR (by omega))) (a_cons (e_own rfl) a_nil)) (e_cb (o_reprD (Enc.nod (enc_list (enc_T2 enc_str enc_int)) _) rfl (shows_runs hRR (by omega))) (a_cons (e_own rfl) a_nil)))) (fun hbo => (t_or (t_T (e_op (o_neE (f := (fun xs : List ((Str) × (Int)) => .list (xs.map (eT2 PyData.str PyData.int)))) (a := (runL [])) (b := ([] : List ((Str) × (Int)))) (hd := inferInstance) (by exact (enc_list (enc_T2 enc_str enc_int))) (by decide) (by intro _ z; exact nomatch (show _ ∈ ([] : List (Str × Int)) from z)) (by intro _ z; exact nomatch z)) (n_e (show EN _ _ (OL ((runL []).map (eT2 PyData.str PyData.int))) from n_call (skn_spn (Rs := Rs_runs_of dS) (P := P_runs_of dS) (C := R_runs_of dS) (p0, [])) (a_cons (n_e (n_lstM (xs := [p0]) (enc := dP) (m_cons (e_var rfl) m_nil))) a_nil) (fun H kp => by show (∀ w ∈ [], w ∈ W4) ∧ [].length ≤ 1000; exact ⟨(fun w h => nomatch h), by simp⟩))) (n_e (n_lst m_nil)))) (fun hbo => (t_T (e_op (o_neE (f := (fun xs : List ((Int) × (Int)) => .list (xs.map dP))) (a := (wayR p0 ([] : List ((Str) × (Int))))) (b := [p0]) (hd := inferInstance) (by exact (enc_list enc_P)) (by decide) (by exact (fun _ _ => ⟨trivial, trivial⟩)) (by exact (fun _ _ => ⟨trivial, trivial⟩))) (n_e (show EN _ _ (OL ((wayR p0 ([] : List ((Str) × (Int)))).map dP)) from n_call (skn_spn (Rs := Rs_walk_by dS) (P := P_walk_by dS) (C := R_walk_by dS) (p0, ([] : List ((Str) × (Int))))) (a_cons (e_var rfl) (a_cons (n_e (n_lst m_nil)) a_nil)) (fun H kp => by show PosR ([] : List ((Str) × (Int))) ∧ ([] : List ((Str) × (Int))).length ≤ 1000; exact ⟨(fun r h => nomatch h), by simp⟩))) (n_e (n_lstM (xs := [p0]) (enc := dP) (m_cons (e_var rfl) m_nil))))))))) (fun h2 => absurd h2 ?_) (fun h2 => ?_)
    · simp [show runL [] = [] from rfl, show wayR p0 [] = [p0] from rfl]
    refine s_pass ?_
    refine s_seq ?_
    refine s_appM (xs := (runL (wdsL pt))) (a := (("up" : Str), 1)) rfl (e_tup (m_cons e_str (m_cons e_int m_nil))) (by omega) ?_
    show WC ⟨hs, hs, (fun _ => False), [.fz (RScr K ns), .fz (RD (.list (ns1.map PyData.int))), .fz (RD (dP p0)), .own (OL ((wayR p0 pt).map dP)), .own (OL ((runL (wdsL pt)).map (eT2 PyData.str PyData.int))), .own (OL (pt.map (eT2 PyData.str PyData.int))), .any, .any, .any, .any, .fz (RD ((eH3 (eL dP) (eL (eT2 PyData.str PyData.int)) (eL (eT2 PyData.str PyData.int))) ((wayR p0 pt), (runL (wdsL pt)), pt))), .own (OL (((runL (wdsL pt)) ++ [(("up" : Str), 1)]).map (eT2 PyData.str PyData.int)))]⟩ _
    refine s_seq ?_
    have hOK : (∀ p ∈ wayR p0 pt, True ∧ True) ∧ (∀ r ∈ runL (wdsL pt), PyData.strOk r.1 = true ∧ True) ∧ (∀ r ∈ pt, PyData.strOk r.1 = true ∧ True) := ⟨fun _ _ => ⟨trivial, trivial⟩, fun r h => ⟨ok_w4 (hRR r h).1, trivial⟩, fun r h => ⟨ok_w4 (hpt r h).1, trivial⟩⟩
    refine s_if (t_or (t_T (e_op o_neS (e_cb (o_reprD (Enc.nod (enc_list enc_P) _) rfl (by show Shows (.list ((wayR p0 _).map dP)); unfold wayR; exact shows_way hp0 (by rw [wdsL_runL _ hW (by omega)]; omega))) (a_cons (n_e (show EN _ _ (OL ((wayR p0 (runL (wdsL pt))).map dP)) from n_call (skn_spn (Rs := Rs_walk_by dS) (P := P_walk_by dS) (C := R_walk_by dS) (p0, (runL (wdsL pt)))) (a_cons (e_var rfl) (a_cons (e_op (o_ixL rfl) (e_var rfl) e_int) a_nil)) (fun H kp => by show PosR (runL (wdsL pt)) ∧ (runL (wdsL pt)).length ≤ 1000; exact ⟨hRR, by omega⟩))) a_nil)) (e_cb (o_reprD (Enc.nod (enc_list enc_P) _) rfl (shows_way hp0 (by omega))) (a_cons (e_own rfl) a_nil)))) (fun hbo => (t_T (e_op o_neS (e_cb (o_reprD (Enc.nod (enc_list enc_P) _) rfl (shows_way hp0 (by omega))) (a_cons (n_e (show EN _ _ (OL ((wayR p0 pt).map dP)) from n_call (skn_spn (Rs := Rs_walk_by dS) (P := P_walk_by dS) (C := R_walk_by dS) (p0, pt)) (a_cons (e_var rfl) (a_cons (e_op (o_ixL rfl) (e_var rfl) e_int) a_nil)) (fun H kp => by show PosR pt ∧ pt.length ≤ 1000; exact ⟨hpt.r, by omega⟩))) a_nil)) (e_cb (o_reprD (Enc.nod (enc_list enc_P) _) rfl (shows_way hp0 (by omega))) (a_cons (e_own rfl) a_nil)))))) (fun h3 => absurd h3 ?_) (fun h3 => ?_)
    · unfold wayR; rw [wdsL_runL _ hW (by omega)]; simp
    refine s_pass ?_
    refine s_fixM (i := 3) rfl ?_
    refine s_fixM (i := 4) rfl ?_
    refine s_fixM (i := 5) rfl ?_
    show WC ⟨hs, hs, (fun _ => False), [.fz (RScr K ns), .fz (RD (.list (ns1.map PyData.int))), .fz (RD (dP p0)), .fz (RD (.list ((wayR p0 pt).map dP))), .fz (RD (.list ((runL (wdsL pt)).map (eT2 PyData.str PyData.int)))), .fz (RD (.list (pt.map (eT2 PyData.str PyData.int)))), .any, .any, .any, .any, .fz (RD ((eH3 (eL dP) (eL (eT2 PyData.str PyData.int)) (eL (eT2 PyData.str PyData.int))) ((wayR p0 pt), (runL (wdsL pt)), pt))), .own (OL (((runL (wdsL pt)) ++ [(("up" : Str), 1)]).map (eT2 PyData.str PyData.int)))]⟩ _
    refine s_ret (E.eq (e_and (e_op (o_eqE (f := (eH3 (eL dP) (eL (eT2 PyData.str PyData.int)) (eL (eT2 PyData.str PyData.int)))) (a := ((wayR p0 pt), (runL (wdsL pt)), pt)) (b := ((wayR p0 pt), (runL (wdsL pt)), pt)) (hd := inferInstance) (by exact (enc_H3 (enc_list enc_P) (enc_list (enc_T2 enc_str enc_int)) (enc_list (enc_T2 enc_str enc_int)))) (by decide) (by exact hOK) (by exact hOK)) (e_var rfl) (n_e (n_lst (m_cons (e_var rfl) (m_cons (e_var rfl) (m_cons (e_var rfl) m_nil)))))) (fun hbo => (e_op o_eqS (e_cb (o_reprD (Enc.nod (enc_list (enc_T2 enc_str enc_int)) _) rfl (shows_runs hRR (by omega))) (a_cons (n_e (show EN _ _ (OL ((runL (wdsL pt)).map (eT2 PyData.str PyData.int))) from n_call (skn_spn (Rs := Rs_runs_of dS) (P := P_runs_of dS) (C := R_runs_of dS) (p0, (wdsL pt))) (a_cons (e_var rfl) a_nil) (fun H kp => by show (∀ w ∈ (wdsL pt), w ∈ W4) ∧ (wdsL pt).length ≤ 1000; exact ⟨hW, by omega⟩))) a_nil)) (e_cb (o_reprD (Enc.nod (enc_list (enc_T2 enc_str enc_int)) _) rfl (shows_runs hRR (by omega))) (a_cons (e_var rfl) a_nil))))) (e := .bool true) (congrArg PyData.bool ?_)) fun H' v k r => by cases r; exact q H'
    simp
end

/-! ### the end -/
section
open GxR NdefX PySem.Spec PyProof.Rows
theorem all_mk {l : PySem.W.OpenLaw} {w : World} {K : PySem.W.Frag} {h : Heap} {mg : Str → Option Value} {fa : Addr}  (X : K.In h) (G : h.Ns mainGlobals mg) (hfa : mg "law" = some (.ref fa))
    {f__law_row : Addr}
    {od__law_row an__law_row : Option Addr} {sl__law_row : Array (Option Value)} {oc__law_row kV__law_row dc__law_row pm__law_row cd__law_row ct__law_row : Value}
    {f__law_numbers : Addr}
    {od__law_numbers an__law_numbers : Option Addr} {sl__law_numbers : Array (Option Value)} {oc__law_numbers kV__law_numbers dc__law_numbers pm__law_numbers cd__law_numbers ct__law_numbers : Value}
    {dS : Addr}
    {es_STEPS : Array DictEntry} {nn_STEPS : Nat}
    {t_STEPS_up : Addr}
    {k0_STEPS_up k1_STEPS_up : Tok} {n_STEPS_up : Nat} {od_STEPS_up : Option Addr} {sl_STEPS_up : Array (Option Value)}
    {t_STEPS_down : Addr}
    {k0_STEPS_down k1_STEPS_down : Tok} {n_STEPS_down : Nat} {od_STEPS_down : Option Addr} {sl_STEPS_down : Array (Option Value)}
    {t_STEPS_right : Addr}
    {k0_STEPS_right k1_STEPS_right : Tok} {n_STEPS_right : Nat} {od_STEPS_right : Option Addr} {sl_STEPS_right : Array (Option Value)}
    {t_STEPS_left : Addr}
    {k0_STEPS_left k1_STEPS_left : Tok} {n_STEPS_left : Nat} {od_STEPS_left : Option Addr} {sl_STEPS_left : Array (Option Value)}
    {f__direction : Addr}
    {od__direction an__direction : Option Addr} {sl__direction : Array (Option Value)} {oc__direction kV__direction dc__direction pm__direction cd__direction ct__direction : Value}
    {f_runs_of : Addr}
    {od_runs_of an_runs_of : Option Addr} {sl_runs_of : Array (Option Value)} {oc_runs_of kV_runs_of dc_runs_of pm_runs_of cd_runs_of ct_runs_of : Value}
    {f_walk_by : Addr}
    {od_walk_by an_walk_by : Option Addr} {sl_walk_by : Array (Option Value)} {oc_walk_by kV_walk_by dc_walk_by pm_walk_by cd_walk_by ct_walk_by : Value}
    {f__law_moved : Addr}
    {od__law_moved an__law_moved : Option Addr} {sl__law_moved : Array (Option Value)} {oc__law_moved kV__law_moved dc__law_moved pm__law_moved cd__law_moved ct__law_moved : Value}
    {f_law : Addr}
    {od_law an_law : Option Addr} {sl_law : Array (Option Value)} {oc_law kV_law dc_law pm_law cd_law ct_law : Value}
    (z_abs : PySem.W.nsIn K mainGlobals "abs" = some none)
    (z_int : PySem.W.nsIn K mainGlobals "int" = some none)
    (z_range : PySem.W.nsIn K mainGlobals "range" = some none)
    (z_len : PySem.W.nsIn K mainGlobals "len" = some none)
    (z_max : PySem.W.nsIn K mainGlobals "max" = some none)
    (a__law_row : PySem.W.nsIn K mainGlobals "_law_row" = some (some (.ref f__law_row)))
    (l__law_row : K.lookup f__law_row = some ⟨oc__law_row, od__law_row, .func (PySem.W.fnOf "_law_row" "_law_row" (defArgs s__law_row) (defBody s__law_row) (defScope s__law_row) .none kV__law_row dc__law_row pm__law_row an__law_row cd__law_row ct__law_row), sl__law_row⟩)
    (c__law_row : PySem.W.codeIn K cd__law_row "_law_row" = true)
    (k__law_row : PySem.W.keepIn K (.ref f__law_row) = true)
    (a__law_numbers : PySem.W.nsIn K mainGlobals "_law_numbers" = some (some (.ref f__law_numbers)))
    (l__law_numbers : K.lookup f__law_numbers = some ⟨oc__law_numbers, od__law_numbers, .func (PySem.W.fnOf "_law_numbers" "_law_numbers" (defArgs s__law_numbers) (defBody s__law_numbers) (defScope s__law_numbers) .none kV__law_numbers dc__law_numbers pm__law_numbers an__law_numbers cd__law_numbers ct__law_numbers), sl__law_numbers⟩)
    (c__law_numbers : PySem.W.codeIn K cd__law_numbers "_law_numbers" = true)
    (k__law_numbers : PySem.W.keepIn K (.ref f__law_numbers) = true)
    (a_STEPS : PySem.W.nsIn K mainGlobals "STEPS" = some (some (.ref dS)))
    (xd_STEPS : K.lookup dS = some ⟨.type "dict", none, .dict es_STEPS nn_STEPS, #[]⟩)
    (xl_STEPS : PySem.W.KeysLit w.params es_STEPS.toList)
    (xz_STEPS : es_STEPS.size = 4)
    (xk_STEPS : (∃ (en : DictEntry) (t : Tok), es_STEPS[0]? = some en ∧ en.key = .str "up" t) ∧ (∃ (en : DictEntry) (t : Tok), es_STEPS[1]? = some en ∧ en.key = .str "down" t) ∧ (∃ (en : DictEntry) (t : Tok), es_STEPS[2]? = some en ∧ en.key = .str "right" t) ∧ (∃ (en : DictEntry) (t : Tok), es_STEPS[3]? = some en ∧ en.key = .str "left" t))
    (xo_STEPS : (dS == sysModules) = false)
    (v_STEPS_up : PySem.W.nsIn K dS "up" = some (some (.ref t_STEPS_up)))
    (l_STEPS_up : K.lookup t_STEPS_up = some ⟨.type "tuple", od_STEPS_up, .seq #[.int (0) k0_STEPS_up, .int (1) k1_STEPS_up] n_STEPS_up, sl_STEPS_up⟩)
    (v_STEPS_down : PySem.W.nsIn K dS "down" = some (some (.ref t_STEPS_down)))
    (l_STEPS_down : K.lookup t_STEPS_down = some ⟨.type "tuple", od_STEPS_down, .seq #[.int (0) k0_STEPS_down, .int (-1) k1_STEPS_down] n_STEPS_down, sl_STEPS_down⟩)
    (v_STEPS_right : PySem.W.nsIn K dS "right" = some (some (.ref t_STEPS_right)))
    (l_STEPS_right : K.lookup t_STEPS_right = some ⟨.type "tuple", od_STEPS_right, .seq #[.int (1) k0_STEPS_right, .int (0) k1_STEPS_right] n_STEPS_right, sl_STEPS_right⟩)
    (v_STEPS_left : PySem.W.nsIn K dS "left" = some (some (.ref t_STEPS_left)))
    (l_STEPS_left : K.lookup t_STEPS_left = some ⟨.type "tuple", od_STEPS_left, .seq #[.int (-1) k0_STEPS_left, .int (0) k1_STEPS_left] n_STEPS_left, sl_STEPS_left⟩)
    (a__direction : PySem.W.nsIn K mainGlobals "_direction" = some (some (.ref f__direction)))
    (l__direction : K.lookup f__direction = some ⟨oc__direction, od__direction, .func (PySem.W.fnOf "_direction" "_direction" (defArgs s__direction) (defBody s__direction) (defScope s__direction) .none kV__direction dc__direction pm__direction an__direction cd__direction ct__direction), sl__direction⟩)
    (c__direction : PySem.W.codeIn K cd__direction "_direction" = true)
    (k__direction : PySem.W.keepIn K (.ref f__direction) = true)
    (z_zip : PySem.W.nsIn K mainGlobals "zip" = some none)
    (a_runs_of : PySem.W.nsIn K mainGlobals "runs_of" = some (some (.ref f_runs_of)))
    (l_runs_of : K.lookup f_runs_of = some ⟨oc_runs_of, od_runs_of, .func (PySem.W.fnOf "runs_of" "runs_of" (defArgs s_runs_of) (defBody s_runs_of) (defScope s_runs_of) .none kV_runs_of dc_runs_of pm_runs_of an_runs_of cd_runs_of ct_runs_of), sl_runs_of⟩)
    (c_runs_of : PySem.W.codeIn K cd_runs_of "runs_of" = true)
    (k_runs_of : PySem.W.keepIn K (.ref f_runs_of) = true)
    (a_walk_by : PySem.W.nsIn K mainGlobals "walk_by" = some (some (.ref f_walk_by)))
    (l_walk_by : K.lookup f_walk_by = some ⟨oc_walk_by, od_walk_by, .func (PySem.W.fnOf "walk_by" "walk_by" (defArgs s_walk_by) (defBody s_walk_by) (defScope s_walk_by) .none kV_walk_by dc_walk_by pm_walk_by an_walk_by cd_walk_by ct_walk_by), sl_walk_by⟩)
    (c_walk_by : PySem.W.codeIn K cd_walk_by "walk_by" = true)
    (k_walk_by : PySem.W.keepIn K (.ref f_walk_by) = true)
    (a__law_moved : PySem.W.nsIn K mainGlobals "_law_moved" = some (some (.ref f__law_moved)))
    (l__law_moved : K.lookup f__law_moved = some ⟨oc__law_moved, od__law_moved, .func (PySem.W.fnOf "_law_moved" "_law_moved" (defArgs s__law_moved) (defBody s__law_moved) (defScope s__law_moved) .none kV__law_moved dc__law_moved pm__law_moved an__law_moved cd__law_moved ct__law_moved), sl__law_moved⟩)
    (c__law_moved : PySem.W.codeIn K cd__law_moved "_law_moved" = true)
    (k__law_moved : PySem.W.keepIn K (.ref f__law_moved) = true)
    (z_list : PySem.W.nsIn K mainGlobals "list" = some none)
    (z_repr : PySem.W.nsIn K mainGlobals "repr" = some none)
    (a_law : PySem.W.nsIn K mainGlobals "law" = some (some (.ref f_law)))
    (l_law : K.lookup f_law = some ⟨oc_law, od_law, .func (PySem.W.fnOf "law" "law" (defArgs s_law) (defBody s_law) (defScope s_law) .none kV_law dc_law pm_law an_law cd_law ct_law), sl_law⟩)
    (c_law : PySem.W.codeIn K cd_law "law" = true)
    (k_law : PySem.W.keepIn K (.ref f_law) = true)
    : ∃ fd : FuncData, (∀ (s : Shared) (v : Value), BindsTo s fd ⟨[v], []⟩ [("script", v)]) ∧
      ∀ base : Heap, K.In base → base.Ns mainGlobals mg → AskOk l.prog w (K) mg base fa fd "script" (spLawT (K) []) := by
  have e := hfa.symm.trans (PySem.W.mg_of X G a_law)
  cases e
  have z_abs := PySem.W.mg_none_of X G z_abs
  have z_int := PySem.W.mg_none_of X G z_int
  have z_range := PySem.W.mg_none_of X G z_range
  have z_len := PySem.W.mg_none_of X G z_len
  have z_max := PySem.W.mg_none_of X G z_max
  have z_zip := PySem.W.mg_none_of X G z_zip
  have z_list := PySem.W.mg_none_of X G z_list
  have z_repr := PySem.W.mg_none_of X G z_repr
  have F_law := fun_mk (st := s_law) l_law c_law k_law
  refine ⟨PySem.W.fnOf "law" "law" (defArgs s_law) (defBody s_law) (defScope s_law) .none kV_law dc_law pm_law an_law cd_law ct_law, fun s v => .of_eq rfl, fun base _ _ => ?_⟩
  have F__law_row := fun_mk (st := s__law_row) l__law_row c__law_row k__law_row
  have b__law_row := F__law_row.binds (ps := ["cell", "many"]) fun _ _ _ _ _ _ us hl => match us, hl with | [_, _], _ => rfl
  have F__law_numbers := fun_mk (st := s__law_numbers) l__law_numbers c__law_numbers k__law_numbers
  have b__law_numbers := F__law_numbers.binds (ps := ["script", "many"]) fun _ _ _ _ _ _ us hl => match us, hl with | [_, _], _ => rfl
  have D : DrawTxt mg f__law_row := ⟨z_abs, z_int, z_range, z_len, z_max, PySem.W.mg_of X G a__law_row⟩
  have t__law_numbers : TopD l.prog w K mg base 2 "_law_numbers" ["script", "many"] (spNumbers K) := ⟨f__law_numbers, _, ok_numbers F__law_numbers D F__law_row b__law_row, b__law_numbers, PySem.W.mg_of X G a__law_numbers, k__law_numbers⟩
  have g_STEPS := PySem.W.mg_of X G a_STEPS
  have CD_STEPS : CDict K w dS W4 stepV := by
    refine { at_ := ⟨es_STEPS, nn_STEPS, xd_STEPS, xl_STEPS, xz_STEPS, fun i y h => ?_⟩, low := xo_STEPS, val := fun y h => ?_ }
    · obtain ⟨e0, e1, e2, e3⟩ := xk_STEPS
      rcases i with _ | _ | _ | _ | i
      · cases h; exact e0
      · cases h; exact e1
      · cases h; exact e2
      · cases h; exact e3
      · cases h
    · replace h : y = "up" ∨ y = "down" ∨ y = "right" ∨ y = "left" := by simpa [W4] using h
      rcases h with rfl | rfl | rfl | rfl
      · exact ⟨t_STEPS_up, _, v_STEPS_up, l_STEPS_up, rfl, _, _, rfl, (by show 2 ≤ sizeLine; decide), (.cons ⟨_, rfl⟩ (.cons ⟨_, rfl⟩ .nil))⟩
      · exact ⟨t_STEPS_down, _, v_STEPS_down, l_STEPS_down, rfl, _, _, rfl, (by show 2 ≤ sizeLine; decide), (.cons ⟨_, rfl⟩ (.cons ⟨_, rfl⟩ .nil))⟩
      · exact ⟨t_STEPS_right, _, v_STEPS_right, l_STEPS_right, rfl, _, _, rfl, (by show 2 ≤ sizeLine; decide), (.cons ⟨_, rfl⟩ (.cons ⟨_, rfl⟩ .nil))⟩
      · exact ⟨t_STEPS_left, _, v_STEPS_left, l_STEPS_left, rfl, _, _, rfl, (by show 2 ≤ sizeLine; decide), (.cons ⟨_, rfl⟩ (.cons ⟨_, rfl⟩ .nil))⟩
  have F__direction := fun_mk (st := s__direction) l__direction c__direction k__direction
  have b__direction := F__direction.binds (ps := ["one", "other"]) fun _ _ _ _ _ _ us hl => match us, hl with | [_, _], _ => rfl
  have t__direction : TopD l.prog w K mg base 1 "_direction" ["one", "other"] (Sps (Rs__direction dS) (P__direction dS) (R__direction dS)) := ⟨f__direction, _, ok__direction dS (P := l.prog) (w := w) (mg := mg) (base := base) F__direction CD_STEPS g_STEPS, b__direction, PySem.W.mg_of X G a__direction, k__direction⟩
  have F_runs_of := fun_mk (st := s_runs_of) l_runs_of c_runs_of k_runs_of
  have b_runs_of := F_runs_of.binds (ps := ["walk"]) fun _ _ _ _ _ _ us hl => match us, hl with | [_], _ => rfl
  have t_runs_of : TopD l.prog w K mg base 2 "runs_of" ["walk"] (SpN (Rs_runs_of dS) (P_runs_of dS) (R_runs_of dS)) := ⟨f_runs_of, _, ok_runs_of dS (P := l.prog) (w := w) (mg := mg) (base := base) F_runs_of z_zip t__direction, b_runs_of, PySem.W.mg_of X G a_runs_of, k_runs_of⟩
  have F_walk_by := fun_mk (st := s_walk_by) l_walk_by c_walk_by k_walk_by
  have b_walk_by := F_walk_by.binds (ps := ["place", "runs"]) fun _ _ _ _ _ _ us hl => match us, hl with | [_, _], _ => rfl
  have t_walk_by : TopD l.prog w K mg base 1 "walk_by" ["place", "runs"] (SpN (Rs_walk_by dS) (P_walk_by dS) (R_walk_by dS)) := ⟨f_walk_by, _, ok_walk_by dS (P := l.prog) (w := w) (mg := mg) (base := base) F_walk_by CD_STEPS g_STEPS z_range, b_walk_by, PySem.W.mg_of X G a_walk_by, k_walk_by⟩
  have F__law_moved := fun_mk (st := s__law_moved) l__law_moved c__law_moved k__law_moved
  have b__law_moved := F__law_moved.binds (ps := ["place", "word"]) fun _ _ _ _ _ _ us hl => match us, hl with | [_, _], _ => rfl
  have t__law_moved : TopD l.prog w K mg base 1 "_law_moved" ["place", "word"] (Sps (Rs__law_moved ) (P__law_moved ) (R__law_moved )) := ⟨f__law_moved, _, ok__law_moved (P := l.prog) (w := w) (mg := mg) (base := base) F__law_moved z_int, b__law_moved, PySem.W.mg_of X G a__law_moved, k__law_moved⟩
  exact ok_law dS (P := l.prog) (w := w) (mg := mg) (base := base) F_law t__law_numbers z_int z_range z_len t__law_moved z_list t_runs_of z_repr t_walk_by
theorem tabB0 {base : Heap} {mg : Str → Option Value} {c P : Addr} (h : LamX.TabB base mg c P) : TabB base mg c P := ⟨h.code, h.bm, h.gP⟩
theorem tabG0 {H : Hp} {P : Addr} (h : H P = some (.tbl #[])) : TabG H P := ⟨#[], h, trivial⟩
theorem walk {l : PySem.W.OpenLaw} {q : Program} {loose : List Str} {XP : (Str → Option Value) → Heap → Prop} {YP : World → Heap → Prop} {d : DefRec} {K : Params → PySem.W.Frag} 
    (hn : l.most = some 63) (hdf : d.params.defaults = []) (hY : ∀ (w : World) (h : Heap), YP w h → (K w.params).In h) (hT : ∀ (w : World) (h : Heap), YP w h → ∀ P ∈ [], h.get? P = some (PySem.W.tabObj #[]))
    (F : ∀ (w : World) (mg : Str → Option Value) (fa : Addr) (h : Heap), (K w.params).In h → h.Ns mainGlobals mg → mg d.name = some (.ref fa) →
      ∃ fd : FuncData, (∀ (s : Shared) (u : Value), BindsTo s fd ⟨[u], []⟩ [("script", u)]) ∧
        ∀ base : Heap, (K w.params).In base → base.Ns mainGlobals mg → AskOk l.prog w (K w.params) mg base fa fd "script" (spLawT (K w.params) [])) :
    PySem.W.WalkO q loose XP YP l.row.toRowW d [] (fun f vs => PySem.call f vs) := by
  refine ask_walk (x := "script") hn hdf hY (fun w mg fa h Y KX G hmg => ?_)
  obtain ⟨fd, hb, hF⟩ := F w mg fa h KX G hmg
  refine ⟨fd, [], spLawT (K w.params) [], fun p hp => ?_, hb, fun H a ns hl hH hS => ⟨a, ns, rfl, hS, hl, fun T hT => ?_, fun _ => rfl⟩, fun base b1 b2 T => hF base b1 b2⟩
  · cases hp
  · cases hT
end

end Pk
open PySem PySem.W PyProof.Rows
set_option maxRecDepth 100000 in
set_option maxHeartbeats 0 in
theorem PySem.Challenge.cw_pickaisle_k44_walks_told_in_short_holds : PySem.Challenge.rw_pickaisle_k44_walks_told_in_short.Holds := by
  w_on; o_law; o_head (kmHook hd.heap_39 [2, 3, 6, 15, 16, 17, 18, 19, 20, 22, 23, 25, 26, 27, 29, 30, 32, 33, 34, 37, 38, 39, 41, 42, 44, 45, 46, 48, 49, 51, 52, 53, 55, 56, 58, 59, 60, 62, 63, 65, 66] (fun _ => by kernel_rfl) []); (case hw => w_witness2)
  k_fill
  refine Pk.walk (l := PySem.Challenge.rw_pickaisle_k44_walks_told_in_short)   rfl rfl (fun w h Y => km_in_of Y) (fun w h Y => km_tabs_of Y)  ?F
  case F =>
    intro w mg fa h KX G hmg
    refine' Pk.all_mk KX G hmg ?z_abs ?z_int ?z_range ?z_len ?z_max ?a__law_row ?l__law_row ?c__law_row ?k__law_row ?a__law_numbers ?l__law_numbers ?c__law_numbers ?k__law_numbers ?a_STEPS ?xd_STEPS ?xl_STEPS ?xz_STEPS ?xk_STEPS ?xo_STEPS ?v_STEPS_up ?l_STEPS_up ?v_STEPS_down ?l_STEPS_down ?v_STEPS_right ?l_STEPS_right ?v_STEPS_left ?l_STEPS_left ?a__direction ?l__direction ?c__direction ?k__direction ?z_zip ?a_runs_of ?l_runs_of ?c_runs_of ?k_runs_of ?a_walk_by ?l_walk_by ?c_walk_by ?k_walk_by ?a__law_moved ?l__law_moved ?c__law_moved ?k__law_moved ?z_list ?z_repr ?a_law ?l_law ?c_law ?k_law
    (case z_abs => k_is)
    (case z_int => k_is)
    (case z_range => k_is)
    (case z_len => k_is)
    (case z_max => k_is)
    (case a__law_row => k_is)
    (case l__law_row => k_is)
    (case c__law_row => k_is)
    (case k__law_row => k_is)
    (case a__law_numbers => k_is)
    (case l__law_numbers => k_is)
    (case c__law_numbers => k_is)
    (case k__law_numbers => k_is)
    (case a_STEPS => k_is)
    (case xd_STEPS => k_is)
    (case xl_STEPS => exact ⟨⟨_, _, rfl, rfl⟩, ⟨_, _, rfl, rfl⟩, ⟨_, _, rfl, rfl⟩, ⟨_, _, rfl, rfl⟩, trivial⟩)
    (case xz_STEPS => rfl)
    (case xk_STEPS => exact ⟨⟨_, _, rfl, rfl⟩, ⟨_, _, rfl, rfl⟩, ⟨_, _, rfl, rfl⟩, ⟨_, _, rfl, rfl⟩⟩)
    (case xo_STEPS => rfl)
    (case v_STEPS_up => k_is)
    (case l_STEPS_up => k_is)
    (case v_STEPS_down => k_is)
    (case l_STEPS_down => k_is)
    (case v_STEPS_right => k_is)
    (case l_STEPS_right => k_is)
    (case v_STEPS_left => k_is)
    (case l_STEPS_left => k_is)
    (case a__direction => k_is)
    (case l__direction => k_is)
    (case c__direction => k_is)
    (case k__direction => k_is)
    (case z_zip => k_is)
    (case a_runs_of => k_is)
    (case l_runs_of => k_is)
    (case c_runs_of => k_is)
    (case k_runs_of => k_is)
    (case a_walk_by => k_is)
    (case l_walk_by => k_is)
    (case c_walk_by => k_is)
    (case k_walk_by => k_is)
    (case a__law_moved => k_is)
    (case l__law_moved => k_is)
    (case c__law_moved => k_is)
    (case k__law_moved => k_is)
    (case z_list => k_is)
    (case z_repr => k_is)
    (case a_law => k_is)
    (case l_law => k_is)
    (case c_law => k_is)
    (case k_law => k_is)

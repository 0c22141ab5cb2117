import PyProof.Rows.All
import Wide.All
import OpenK.AllK
import Wide.FinOn
import KE.KExcIs
import KE.SortData
import PyProof.StrBlock2
import HandS.ForMost
import HandS.Deep
import HandS.TupSets
import HandS.SortRule
import HandS.ForExc
import HandS.ExcInit
import HandS.ExcIs
import HandS.ExcField
import HandS.ExcValue
import HandS.ExcOwn
import HandS.Property
import HandS.CallSlots
import HandS.Style
import HandS.IsInst
import HandS.Codes
import PySem.Challenge.RW_pickaisle_k05_tasks
set_option Elab.async false
set_option linter.all false
set_option maxRecDepth 100000
set_option maxHeartbeats 8000000
namespace Pk
open PySem L2
/-! ### errors as values -/
/-! ### errors that are held as values -/
/-- at a: an error of the class at D that is held; fs: its own attributes -/
def XvAt (H : Hp) (a D : Addr) (fs : List (Str × V)) : Prop :=
  (H a = some (ExO (.ref D) a) ∧ fs = []) ∨ ∃ d, H a = some (exo a D (some d)) ∧ H d = some (exd d fs)
theorem XvAt.same {H H' : Hp} {a D : Addr} {fs : List (Str × V)} (h : XvAt H a D fs) (k : Same H H') : XvAt H' a D fs := by
  rcases h with ⟨h, e⟩ | ⟨d, h, e⟩
  · exact .inl ⟨k _ _ h, e⟩
  · exact .inr ⟨d, k _ _ h, k _ _ e⟩
section
variable {X : Cx} {pins : List (Addr × Obj)} {σ : St} {H : Hp} {s : Shared}
theorem xv_inst {a D : Addr} {fs : List (Str × V)} (I : Inv X pins σ H s) (h : XvAt H a D fs) :
    ∃ oe od, PySem.W.InstAt s.heap a oe D od ∧ ∀ (f : Str) (v : V), fs.lookup f = some v → ∃ o u, od = some o ∧ PySem.W.lookIn f o = some (some u) ∧ RelV v u := by
  rcases h with ⟨h, rfl⟩ | ⟨d, h, e⟩
  · obtain ⟨⟨oe, vs, ho, hz, hd, h1, _⟩, _, _⟩ := I.hok a _ h
    refine ⟨oe, none, ⟨ho, hz.1, by unfold PySem.W.notCls; rw [hd], by rw [hz.2]; trivial⟩, fun f v l => ?_⟩
    cases l
  · obtain ⟨t1, ho⟩ := exo_at I.hok h
    obtain ⟨mA, hn, hr⟩ := exd_at I.hok e
    obtain ⟨od, hod, hl⟩ := lookIn_ns hn
    refine ⟨_, some od, ⟨ho, rfl, rfl, hod⟩, fun f v l => ?_⟩
    have q := hr f
    rw [l] at q
    obtain ⟨u, hu, ru⟩ := RelO.some_of q
    exact ⟨od, u, rfl, by rw [hl, hu], ru⟩
end
/-- isinstance(e, c), e an error that is held -/
def rIsV (K : PySem.W.Frag) : List V → Hp → VK → Prop := fun xs H Q => ∃ (a D : Addr) (fs : List (Str × V)) (c : V) (cv : Value) (b : Bool),
  xs = [.ref a, c] ∧ XvAt H a D fs ∧ ExcC K D ∧ (∀ u, RelV c u → u = cv) ∧ PySem.W.kitOne K (.ref D) cv = some b ∧ Q (.bl b) H
theorem call_isV {X : Cx} : CallR X (.builtin "isinstance") (rIsV X.K) := by
  intro pins s σ H xs us Q I r h
  obtain ⟨a, D, fs, c, cv, b, rfl, hx, C, hcv, e, q⟩ := h
  cases r with
  | cons rx rr =>
    cases rr with
    | cons rt rr =>
      cases rr
      cases rx
      obtain rfl := hcv _ rt
      obtain ⟨oe, od, J, _⟩ := xv_inst I hx
      have hcl : (PySem.W.clsIn X.K D).isSome = true := by
        obtain ⟨cd, hc, _⟩ := PySem.W.any_some C.hd
        rw [hc]
        rfl
      exact PySem.W.kia_one (PySem.W.kitx_exc hcl C.hg C.hk C.hs C.ha C.hn C.ht C.hm) I.kIn J e (fun z => nomatch z)
        fun tk => ⟨.bl b, H, I.kept (t' := tk) (fun _ _ z => z), rfl, q⟩
/-- e.f, e an error that is held -/
def tXvF (K : PySem.W.Frag) (n : Str) (te : TE) : TE := fun σ H Q => te σ H fun x H1 => ∃ (a C : Addr) (fs : List (Str × V)) (v : V),
  x = .ref a ∧ XvAt H1 a C fs ∧ XfC K C ∧ PySem.W.findIn K (.ref C) n = some none ∧ fs.lookup n = some v ∧ Q v H1
theorem pe_xvF {X : Cx} {e : Expr} {te : TE} {pos : Pos} {n : Str} (he : PE X e te) (hb : attributeBase e n X.env (eval e X.env) = eval e X.env := by rfl) :
    PE X (.Attribute e n pos) (tXvF X.K n te) := by
  refine ⟨fun pins s σ H Q I h => attr_of hb (thn (he.run pins s σ H _ I h) fun u s1 hh => ?_)⟩
  obtain ⟨x, H1, I1, rx, a, C, fs, v, rfl, hx, T, hno, l, q⟩ := hh
  obtain rfl : u = Value.ref a := rx
  obtain ⟨oe, od, J, hf⟩ := xv_inst I1 hx
  obtain ⟨o, u, rfl, hl, ru⟩ := hf n v l
  exact HandSPX.exc_get I1.kIn J T.ga T.gg T.exC (PySem.W.findObj_own T.hdC hno rfl hl) (handed_of ru) ⟨v, H1, I1.tok _, ru, q⟩
/-- C(e, ..) as a value, C an own class of errors whose __init__ keeps sp -/
def tMkV (C : Addr) (sp : Sp) (dvs : List V) (ta : TA) : TE := fun σ H Q => ta σ H fun vs H1 => vs.length ≤ 1000 ∧ ∀ a, H1 a = none →
  sp (.ref a :: (vs ++ dvs)) (upd H1 a (exo a C none)) (fun v H2 => v = .non ∧ Q (.ref a) H2) (fun _ _ _ => False)
section
variable {X : Cx} {e : Expr} {es : List Expr} {te : TE} {ta : TA} {p pos : Pos}
theorem pe_oexV {CX : CXT} {x : Str} {C fI : Addr} {k : Nat} {fd : FuncData} {ps : List Str} {sp : Sp} {ds : List Value} {dvs : List V} (T : OexC X.K C)
    (iC : PySem.W.findIn X.K (.ref C) "__init__" = some (some (.ref fI))) (tI : PySem.W.typeIn X.K (.ref fI) = some (.type "function"))
    (F1 : FnOk X.prog X.w X.K X.mg X.base CX k fI fd ps sp) (hr : Room (k + 1) X.A) (hb : Binds X.K fd ps ds) (hd : Vals dvs ds) (hx : Passes CX X (fun _ _ _ => False)) (hg : Gl X x) (hm : X.mg x = some (.ref C)) (ha : PA X (e :: es) ta)
    (hdb : (x == ("__debug__" : Str)) = false := by decide) (he : starEach (e :: es) X.env = (false, eval e X.env) :: starEach es X.env := by rfl) (hpl : (backTo pos (starEach es X.env)).any (·.1) = false := by rfl) :
    PE X (.Call (.Name x p) (e :: es) [] pos) (tMkV C sp dvs ta) := by
  refine ⟨fun pins s σ H Q I h => ?_⟩
  obtain ⟨nm, qn, N, bs, bm, sn, sb, ab, co, dd, k0, k1, k2, k3, k5, hC, hbm⟩ := T.cls
  refine wpAny_Call_Name_kw (ld_glob I hg hm ?_ hdb)
  refine PySem.W.callWith_K (h₀ := X.base) I.ok.mod.kin T.kC (thn (ha.run pos pins s σ H _ I h) fun us s1 hh => ?_) he hpl
  obtain ⟨vs, H1, I1, r1, hz, q1⟩ := hh
  refine ⟨I1.kIn, ?_⟩
  show wpAny _ _ (call (.ref C) us) _ _ _
  obtain ⟨hp, g, dr, tk, os⟩ := s1
  have hsz : hp.objs.size ≤ hp.objs.size + 1 := Nat.le_add_right _ 1
  have hn : H1 (hp.objs.size + 1) = none := I1.hok.fresh hsz
  have kk : ∀ b o, hp.get? b = some o → ((hp.push (PySem.W.kdv_tup us)).push (PySem.HandSPX.excO C hp.objs.size)).get? b = some o :=
    fun b o z => Heap.get?_push_of_some _ (Heap.get?_push_of_some _ z)
  have hget : ((hp.push (PySem.W.kdv_tup us)).push (PySem.HandSPX.excO C hp.objs.size)).get? (hp.objs.size + 1) = some (PySem.HandSPX.excO C hp.objs.size) := by
    heap_get
  have I2 : Inv X pins σ (upd H1 (hp.objs.size + 1) (exo (hp.objs.size + 1) C none))
      ⟨(hp.push (PySem.W.kdv_tup us)).push (PySem.HandSPX.excO C hp.objs.size), g, dr, tk, os⟩ := I1.laid (t' := tk) kk hsz (exo_ok hget)
  have r2 : Vals (V.ref (hp.objs.size + 1) :: (vs ++ dvs)) (Value.ref (hp.objs.size + 1) :: (us ++ ds)) := .cons rfl (r1.append hd)
  have hq := q1 (hp.objs.size + 1) hn
  have hl : (Value.ref (hp.objs.size + 1) :: us ++ ds).length = ps.length := by
    have z := r2.length
    rw [F1.len _ _ _ _ hq] at z
    exact z.symm
  have hus : us.length ≤ sizeLine := by
    have z := Paired.length r1
    rw [sizeLine_eq]
    omega
  refine wpAny_call (PySem.HandSPX.call_own F.excBase_ValueError (fun Y => PySem.HandSPX.refsVE_contains Y bm hbm) (I1.kIn _ _ hC)
    (PySem.W.looks_findIn I1.kIn iC) (fun self => PySem.W.bind_fn I1.kIn self tI) hus ?_)
  refine codeAny_mono (F1.run _ X.stack _ _ ⟨Value.ref (hp.objs.size + 1) :: us, []⟩ (Value.ref (hp.objs.size + 1) :: (us ++ ds)) _ _
    (fun _ _ _ => False) (hr.make C us []) (I2.env0.make C us []) (hb _ (Value.ref (hp.objs.size + 1) :: us) I2.kIn hl) r2 hq) fun r s' hq' => ?_
  cases r with
  | error er => exact hx pins σ _ _ er s' I2 hq'
  | ok fl =>
    cases fl with
    | ret u =>
      obtain ⟨v, H3, I3, rv, ev, q3⟩ := I2.after hq'
      subst ev
      exact ⟨rv, V.ref (hp.objs.size + 1), H3, I3, rfl, q3⟩
    | next => exact hq'.elim
    | brk => exact hq'.elim
    | cont => exact hq'.elim
end
/-- __init__(self, v): self.f = v, of an own class of errors -/
def spXI (K : PySem.W.Frag) (C : Addr) (f : Str) : Sp := fun vs H Q _ => ∃ (a : Addr) (v : V), vs = [.ref a, v] ∧ OexC K C ∧ PySem.W.findIn K (.ref C) f = some none ∧ H a = some (exo a C none) ∧
  ∀ dx, H dx = none → dx ≠ a → Q .non (upd (upd H dx (exd dx [(f, v)])) a (exo a C (some dx)))
/-- text * n -/
theorem op_rep_str {X : Cx} : OpR X (binaryOp .Mult) (fun x y H Q => ∃ z i, x = .str z ∧ y = .int i ∧ MulOk z i ∧ Q (.str (Txt.mul z i)) H) := by
  intro pins s σ H x y v u Q I rx ry h
  obtain ⟨z, i, rfl, rfl, hc, q⟩ := h
  obtain ⟨t, rfl⟩ := rx
  obtain ⟨t', rfl⟩ := ry
  exact SB.mul hc fun t' k => ⟨.str (Txt.mul z i), H, I.tok _, ⟨_, rfl⟩, q⟩

/-! ### places: tuples of two numbers, lists of them -/
abbrev Pl := Int × Int
/-- v is a tuple that holds the place p -/
def Pr (H : Hp) (v : V) (p : Pl) : Prop := ∃ t, v = .ref t ∧ H t = some (.tup [.int p.1, .int p.2])
theorem Pr.same {H H' : Hp} {v : V} {p : Pl} (h : Pr H v p) (k : Same H H') : Pr H' v p := by
  obtain ⟨t, rfl, h⟩ := h
  exact ⟨t, rfl, k _ _ h⟩
inductive Prs (H : Hp) : List V → List Pl → Prop
  | nil : Prs H [] []
  | cons {v : V} {p : Pl} {vs : List V} {ps : List Pl} : Pr H v p → Prs H vs ps → Prs H (v :: vs) (p :: ps)
theorem Prs.same {H H' : Hp} {vs : List V} {ps : List Pl} (h : Prs H vs ps) (k : Same H H') : Prs H' vs ps := by
  induction h with
  | nil => exact .nil
  | cons a _ ih => exact .cons (a.same k) ih
theorem Prs.len {H : Hp} {vs : List V} {ps : List Pl} (h : Prs H vs ps) : vs.length = ps.length := by
  induction h with
  | nil => rfl
  | cons a _ ih => exact congrArg (· + 1) ih
theorem Prs.app {H : Hp} {vs us : List V} {ps qs : List Pl} (h : Prs H vs ps) (k : Prs H us qs) : Prs H (vs ++ us) (ps ++ qs) := by
  induction h with
  | nil => exact k
  | cons a _ ih => exact .cons a ih
theorem Prs.snoc {H : Hp} {vs : List V} {v : V} {ps : List Pl} {p : Pl} (h : Prs H vs ps) (k : Pr H v p) : Prs H (vs ++ [v]) (ps ++ [p]) := h.app (.cons k .nil)
theorem Prs.at {H : Hp} {vs : List V} {ps : List Pl} (h : Prs H vs ps) : ∀ {i : Nat} {v : V}, vs[i]? = some v → ∃ p, ps[i]? = some p ∧ Pr H v p := by
  induction h with
  | nil => intro i v e; cases e
  | cons a _ ih =>
    intro i v e
    cases i with
    | zero => cases e; exact ⟨_, rfl, a⟩
    | succ i => exact ih e
theorem Prs.take {H : Hp} {vs : List V} {ps : List Pl} (h : Prs H vs ps) : ∀ n, Prs H (vs.take n) (ps.take n) := by
  induction h with
  | nil => intro n; cases n <;> exact .nil
  | cons a _ ih => intro n; cases n with
    | zero => exact .nil
    | succ n => exact .cons a (ih n)
theorem Prs.drop {H : Hp} {vs : List V} {ps : List Pl} (h : Prs H vs ps) : ∀ n, Prs H (vs.drop n) (ps.drop n) := by
  induction h with
  | nil => intro n; cases n <;> exact .nil
  | cons a r ih => intro n; cases n with
    | zero => exact .cons a r
    | succ n => exact ih n
theorem Prs.mem {H : Hp} {vs : List V} {ps : List Pl} (h : Prs H vs ps) {v : V} (m : v ∈ vs) : ∃ p ∈ ps, Pr H v p := by
  induction h with
  | nil => cases m
  | cons a _ ih =>
    rcases List.mem_cons.mp m with e | m
    · subst e; exact ⟨_, List.mem_cons_self, a⟩
    · obtain ⟨p, hp, k⟩ := ih m
      exact ⟨p, List.mem_cons_of_mem _ hp, k⟩
theorem Prs.rev {H : Hp} {vs : List V} {ps : List Pl} (h : Prs H vs ps) : Prs H vs.reverse ps.reverse := by
  induction h with
  | nil => exact .nil
  | cons a _ ih => rw [List.reverse_cons, List.reverse_cons]; exact ih.snoc a
/-! ### their data -/
def dP (p : Pl) : PyData := .tuple [.int p.1, .int p.2]
def dL (ps : List Pl) : PyData := .list (ps.map dP)
theorem Pr.dp {K : PySem.W.Frag} {H : Hp} {v : V} {p : Pl} (h : Pr H v p) : Dp K H v (dP p) := by
  obtain ⟨t, rfl, h⟩ := h
  exact .tup (SqT.of h) (.cons (.int _) (.cons (.int _) .nil))
theorem Prs.dps {K : PySem.W.Frag} {H : Hp} {vs : List V} {ps : List Pl} (h : Prs H vs ps) : DpAll K H vs (ps.map dP) := by
  induction h with
  | nil => exact .nil
  | cons a _ ih => exact .cons a.dp ih
theorem Prs.dl {K : PySem.W.Frag} {H : Hp} {l : Addr} {vs : List V} {ps : List Pl} (h : Prs H vs ps) (e : SqL K H l vs) : Dp K H (.ref l) (dL ps) := .lst e h.dps
theorem eqv_int (a b : Int) : PyData.eqv (.int a) (.int b) = decide (a = b) := by
  rw [PyData.eqv]
  rfl
theorem eqv_dP (p q : Pl) : PyData.eqv (dP p) (dP q) = decide (p = q) := by
  obtain ⟨a, b⟩ := p
  obtain ⟨c, d⟩ := q
  show PyData.eqvAll [.int a, .int b] [.int c, .int d] = _
  simp only [PyData.eqvAll, eqv_int, Prod.ext_iff, Bool.and_true, Bool.decide_and]
theorem eqvAll_dP : ∀ ps qs : List Pl, PyData.eqvAll (ps.map dP) (qs.map dP) = decide (ps = qs)
  | [], [] => by simp [PyData.eqvAll]
  | [], _ :: _ => by simp [PyData.eqvAll]
  | _ :: _, [] => by simp [PyData.eqvAll]
  | p :: ps, q :: qs => by
    simp only [List.map_cons, PyData.eqvAll, eqv_dP, eqvAll_dP ps qs, List.cons.injEq]
    by_cases h1 : p = q <;> by_cases h2 : ps = qs <;> simp [h1, h2]
theorem eqv_dL (ps qs : List Pl) : PyData.eqv (dL ps) (dL qs) = decide (ps = qs) := by
  unfold dL
  rw [PyData.eqv, eqvAll_dP]
theorem lay_dPs : ∀ ps : List Pl, PyData.canLayAll0 (ps.map dP) = true
  | [] => rfl
  | _ :: ps => by
    show (true && PyData.canLayAll0 (ps.map dP)) = true
    rw [lay_dPs ps]
    rfl
theorem depth_dPs : ∀ ps : List Pl, PyData.depthAll (ps.map dP) ≤ 1
  | [] => by show 0 ≤ 1; omega
  | _ :: ps => by
    have ih := depth_dPs ps
    show max 1 (PyData.depthAll (ps.map dP)) ≤ 1
    omega
theorem sh_dP (p : Pl) : SeqAt.shaped (dP p) = true := rfl
theorem sh_dL (ps : List Pl) : SeqAt.shaped (dL ps) = true := by
  have h := depth_dPs ps
  unfold SeqAt.shaped dL
  rw [show PyData.canLay0 (.list (ps.map dP)) = PyData.canLayAll0 (ps.map dP) from rfl, lay_dPs]
  refine decide_eq_true ?_
  show PyData.depthAll (ps.map dP) + 1 ≤ 64
  omega
theorem any_dP (ps : List Pl) (p : Pl) : ((ps.map dP).any fun z => PyData.eqv z (dP p)) = decide (p ∈ ps) := by
  induction ps with
  | nil => simp
  | cons q ps ih =>
    rw [List.map_cons, List.any_cons, ih, eqv_dP]
    by_cases h1 : q = p
    · subst h1; simp
    · have h2 : ¬ p = q := fun z => h1 z.symm
      simp [h1, h2]

/-! ### the order of places, lists in order, each place once -/
def lp (p q : Pl) : Prop := p.1 < q.1 ∨ (p.1 = q.1 ∧ p.2 ≤ q.2)
instance : DecidableRel lp := fun p q => inferInstanceAs (Decidable (p.1 < q.1 ∨ (p.1 = q.1 ∧ p.2 ≤ q.2)))
theorem lp_trans {p q r : Pl} (h : lp p q) (k : lp q r) : lp p r := by unfold lp at *; omega
theorem lp_total (p q : Pl) : lp p q ∨ lp q p := by unfold lp; omega
theorem lp_anti {p q : Pl} (h : lp p q) (k : lp q p) : p = q := by
  unfold lp at *
  exact Prod.ext (by omega) (by omega)
def insP (p : Pl) : List Pl → List Pl
  | [] => [p]
  | q :: r => if lp p q then p :: q :: r else q :: insP p r
def sortP : List Pl → List Pl
  | [] => []
  | p :: r => insP p (sortP r)
theorem insP_perm (p : Pl) : ∀ r, (insP p r).Perm (p :: r)
  | [] => .refl _
  | q :: r => by
    unfold insP
    split
    · exact .refl _
    · exact ((insP_perm p r).cons q).trans (.swap p q r)
theorem sortP_perm : ∀ r, (sortP r).Perm r
  | [] => .nil
  | p :: r => (insP_perm p (sortP r)).trans ((sortP_perm r).cons p)
theorem insP_pw (p : Pl) : ∀ {r}, List.Pairwise lp r → (insP p r).Pairwise lp
  | [], _ => List.pairwise_singleton _ _
  | q :: r, h => by
    unfold insP
    have hq : ∀ {x}, x ∈ r → lp q x := fun m => List.rel_of_pairwise_cons h m
    split
    · rename_i c
      refine List.pairwise_cons.mpr ⟨fun x hx => ?_, h⟩
      rcases List.mem_cons.mp hx with e | hx
      · rw [e]; exact c
      · exact lp_trans c (hq hx)
    · rename_i c
      refine List.pairwise_cons.mpr ⟨fun x hx => ?_, insP_pw p (List.Pairwise.of_cons h)⟩
      rcases List.mem_cons.mp ((insP_perm p r).mem_iff.mp hx) with e | hx
      · rw [e]; exact (lp_total p q).resolve_left c
      · exact hq hx
theorem sortP_pw : ∀ r, (sortP r).Pairwise lp
  | [] => .nil
  | p :: r => insP_pw p (sortP_pw r)
theorem pw_uniq : ∀ {a b : List Pl}, a.Perm b → a.Pairwise lp → b.Pairwise lp → a = b
  | [], b, h, _, _ => h.nil_eq
  | p :: a, [], h, _, _ => absurd h.length_eq (by simp)
  | p :: a, q :: b, h, ha, hb => by
    have e : p = q := by
      rcases List.mem_cons.mp (h.mem_iff.mp List.mem_cons_self) with e | m
      · exact e
      · rcases List.mem_cons.mp (h.mem_iff.mpr List.mem_cons_self) with e | m'
        · exact e.symm
        · exact lp_anti (List.rel_of_pairwise_cons ha m') (List.rel_of_pairwise_cons hb m)
    subst e
    rw [pw_uniq ((List.perm_cons p).mp h) ha.of_cons hb.of_cons]
theorem sortP_of {a b : List Pl} (h : a.Perm b) (ha : a.Pairwise lp) : a = sortP b := pw_uniq (h.trans (sortP_perm b).symm) ha (sortP_pw b)
theorem sortP_congr {a b : List Pl} (h : a.Perm b) : sortP a = sortP b := sortP_of ((sortP_perm a).trans h) (sortP_pw a)
theorem sortP_mem {p : Pl} {r : List Pl} : p ∈ sortP r ↔ p ∈ r := (sortP_perm r).mem_iff
theorem sortP_len (r : List Pl) : (sortP r).length = r.length := (sortP_perm r).length_eq
theorem sortP_nd {r : List Pl} : (sortP r).Nodup ↔ r.Nodup := (sortP_perm r).nodup_iff
theorem sortP_id {r : List Pl} (h : r.Pairwise lp) : sortP r = r := (sortP_of (.refl _) h).symm
theorem sortP_idem (r : List Pl) : sortP (sortP r) = sortP r := sortP_id (sortP_pw r)
/-- each place once -/
def nub : List Pl → List Pl
  | [] => []
  | p :: r => if p ∈ r then nub r else p :: nub r
theorem nub_mem {p : Pl} : ∀ {r : List Pl}, p ∈ nub r ↔ p ∈ r
  | [] => Iff.rfl
  | q :: r => by
    unfold nub
    split
    · rename_i h
      rw [nub_mem (r := r), List.mem_cons]
      exact ⟨.inr, fun k => k.elim (fun e => by rw [e]; exact h) id⟩
    · rw [List.mem_cons, List.mem_cons, nub_mem (r := r)]
theorem nub_nd : ∀ r : List Pl, (nub r).Nodup
  | [] => .nil
  | p :: r => by
    unfold nub
    split
    · exact nub_nd r
    · rename_i h
      exact List.nodup_cons.mpr ⟨fun m => h (nub_mem.mp m), nub_nd r⟩
theorem nub_le : ∀ r : List Pl, (nub r).length ≤ r.length
  | [] => Nat.le_refl _
  | p :: r => by
    unfold nub
    have := nub_le r
    split
    · rw [List.length_cons]; omega
    · rw [List.length_cons, List.length_cons]; omega
theorem nub_lt : ∀ r : List Pl, (nub r).length < r.length ↔ ¬ r.Nodup
  | [] => by simp [nub]
  | p :: r => by
    have ih := nub_lt r
    have hl := nub_le r
    unfold nub
    rw [List.nodup_cons]
    split
    · rename_i h
      rw [List.length_cons]
      exact ⟨fun _ k => k.1 h, fun _ => by omega⟩
    · rename_i h
      rw [List.length_cons, List.length_cons, Nat.add_lt_add_iff_right, ih]
      exact ⟨fun k z => k z.2, fun k z => k ⟨h, z⟩⟩
theorem nub_id : ∀ {r : List Pl}, r.Nodup → nub r = r
  | [], _ => rfl
  | p :: r, h => by
    unfold nub
    rw [if_neg (List.nodup_cons.mp h).1, nub_id (List.nodup_cons.mp h).2]
/-- in order, each once -/
def marksP (r : List Pl) : List Pl := sortP (nub r)
theorem marksP_of {a r : List Pl} (hn : a.Nodup) (hm : ∀ p, p ∈ a ↔ p ∈ r) (ho : a.Pairwise lp) : a = marksP r :=
  sortP_of ((List.perm_ext_iff_of_nodup hn (nub_nd r)).mpr fun p => (hm p).trans nub_mem.symm) ho
theorem marksP_congr {a r : List Pl} (h : ∀ p, p ∈ a ↔ p ∈ r) : marksP a = marksP r :=
  sortP_congr ((List.perm_ext_iff_of_nodup (nub_nd a) (nub_nd r)).mpr fun p => nub_mem.trans ((h p).trans nub_mem.symm))
/-! ### the rules -/
theorem perm_lift {α β : Type} {f : α → β} {us vs : List β} (h : us.Perm vs) : ∀ L : List α, us = L.map f → ∃ L1 : List α, vs = L1.map f ∧ L1.Perm L := by
  induction h with
  | nil =>
    intro L e
    cases L with
    | nil => exact ⟨[], rfl, .nil⟩
    | cons b L => cases e
  | cons x _ ih =>
    intro L e
    cases L with
    | nil => cases e
    | cons b L =>
      injection e with e1 e2
      obtain ⟨L1, e3, p⟩ := ih L e2
      exact ⟨b :: L1, by rw [List.map_cons, e1, e3], p.cons b⟩
  | swap x y l =>
    intro L e
    match L, e with
    | b :: c :: L, e =>
      injection e with e1 e
      injection e with e2 e3
      exact ⟨c :: b :: L, by rw [List.map_cons, List.map_cons, e1, e2, e3], .swap b c L⟩
  | trans _ _ ih1 ih2 =>
    intro L e
    obtain ⟨L1, e1, p1⟩ := ih1 L e
    obtain ⟨L2, e2, p2⟩ := ih2 L1 e1
    exact ⟨L2, e2, p2.trans p1⟩
/-- a set of places stands at a -/
def SetOf (P : Program) (w : World) (H : Hp) (a : Addr) (ps : List Pl) : Prop := ∃ L : List (Addr × List Int), H a = some (SetTO P w a L) ∧
  (∀ x ∈ L, ∃ p ∈ ps, x.2 = [p.1, p.2] ∧ H x.1 = some (.tup [.int p.1, .int p.2])) ∧ ∀ p ∈ ps, [p.1, p.2] ∈ L.map (·.2)
section
variable {X : Cx} {pins : List (Addr × Obj)} {σ : St} {H : Hp} {s : Shared}
def toP (x : Addr × List Int) : Pl := (x.2.getD 0 0, x.2.getD 1 0)
theorem setOf_list {P : Program} {w : World} {a : Addr} {ps : List Pl} {L : List (Addr × List Int)}
    (h1 : ∀ x ∈ L, ∃ p ∈ ps, x.2 = [p.1, p.2] ∧ H x.1 = some (.tup [.int p.1, .int p.2])) (h2 : ∀ p ∈ ps, [p.1, p.2] ∈ L.map (·.2)) (nd : (L.map (·.2)).Nodup) :
    (L.map toP).Nodup ∧ ∀ p, p ∈ L.map toP ↔ p ∈ ps := by
  constructor
  · refine List.pairwise_map.mpr (List.Pairwise.imp_of_mem (fun {x y} hx hy ne e => ?_) (List.pairwise_map.mp nd))
    obtain ⟨p, _, ep, _⟩ := h1 x hx
    obtain ⟨q, _, eq, _⟩ := h1 y hy
    unfold toP at e
    rw [ep, eq] at e
    apply ne
    rw [ep, eq]
    have e1 : p.1 = q.1 := (Prod.mk.inj e).1
    have e2 : p.2 = q.2 := (Prod.mk.inj e).2
    rw [e1, e2]
  · intro p
    constructor
    · intro m
      obtain ⟨x, hx, rfl⟩ := List.mem_map.mp m
      obtain ⟨p, hp, ep, _⟩ := h1 x hx
      unfold toP
      rw [ep]
      exact hp
    · intro m
      obtain ⟨x, hx, e⟩ := List.mem_map.mp (h2 p m)
      refine List.mem_map.mpr ⟨x, hx, ?_⟩
      unfold toP
      rw [e]
      rfl
/-- set(xs), xs a list of places -/
def rSetP (K : PySem.W.Frag) (P : Program) (w : World) : List V → Hp → VK → Prop := fun xs H Q => ∃ (l : Addr) (vs : List V) (ps : List Pl), xs = [.ref l] ∧ SqL K H l vs ∧ Prs H vs ps ∧ ps.length < 64 ∧
  ∀ (H' : Hp) (a : Addr), H a = none → Same H H' → SetOf P w H' a ps → Q (.ref a) H'
theorem prs_ks {K : PySem.W.Frag} {vs : List V} {ps : List Pl} (h : Prs H vs ps) : ∃ ks : List (Addr × List Int), vs = ks.map (fun p => V.ref p.1) ∧ (∀ x ∈ ks, ∃ p ∈ ps, x.2 = [p.1, p.2] ∧ H x.1 = some (.tup [.int p.1, .int p.2])) ∧ ks.map (·.2) = ps.map (fun p => [p.1, p.2]) := by
  induction h with
  | nil => exact ⟨[], rfl, fun x hx => (nomatch hx), rfl⟩
  | @cons v p vs ps a _ ih =>
    obtain ⟨t, rfl, ht⟩ := a
    obtain ⟨ks, e, k, m⟩ := ih
    refine ⟨(t, [p.1, p.2]) :: ks, by rw [e]; rfl, fun x hx => ?_, by rw [List.map_cons, m]; rfl⟩
    rcases List.mem_cons.mp hx with z | z
    · subst z
      exact ⟨p, List.mem_cons_self, rfl, ht⟩
    · obtain ⟨q, hq, r⟩ := k x z
      exact ⟨q, List.mem_cons_of_mem _ hq, r⟩
theorem cr_setP (hc : X.calm = true) (hu : X.A.units + 64 < cLine) : CallR X (.type "set") (rSetP X.K X.prog X.w) := by
  intro pins s σ H xs us Q I r h
  obtain ⟨l, vs, ps, rfl, hl, hp, hn, q⟩ := h
  obtain ⟨ks, rfl, hk, hm⟩ := prs_ks (K := X.K) hp
  refine cr_setOfT hc hu pins s σ H [.ref l] us Q I r ⟨l, ks, rfl, hl, fun x hx => ?_, ?_, fun a L ha h1 h2 => ?_⟩
  · obtain ⟨p, _, e, k⟩ := hk x hx
    rw [e]
    exact SqT.of k
  · have e := congrArg List.length hm
    rw [List.length_map, List.length_map] at e
    omega
  · have sm : Same H (upd H a (SetTO X.prog X.w a L)) := fun b o e => by
      rw [upd_ne (ne_of_none e ha)]
      exact e
    refine q _ a ha sm ⟨L, upd_same, fun x hx => ?_, fun p hp => ?_⟩
    · obtain ⟨p, hp, e, k⟩ := hk x (h1 x hx)
      exact ⟨p, hp, e, sm _ _ k⟩
    · have m : [p.1, p.2] ∈ ks.map (·.2) := by
        rw [hm]
        exact List.mem_map.mpr ⟨p, hp, rfl⟩
      obtain ⟨x, hx, e⟩ := List.mem_map.mp m
      rw [← e]
      exact h2 x hx
/-- len(s), s a set of places -/
theorem call_lenP : CallR X (.builtin "len") (fun xs H Q => ∃ (a : Addr) (ps : List Pl), xs = [.ref a] ∧ SetOf X.prog X.w H a ps ∧ Q (.int (nub ps).length) H) := by
  intro pins s σ H xs us Q I r h
  obtain ⟨a, ps, rfl, ⟨L, ha, h1, h2⟩, q⟩ := h
  rw [Vals.ref1 r]
  have R0 : SetT0 X.prog X.w s.heap a L := (I.hok a _ ha).1
  obtain ⟨es, ep, t, R⟩ := R0.full fun x hx => by
    obtain ⟨p, _, e, k⟩ := h1 x hx
    have z : SqT X.K H x.1 (x.2.map V.int) := by rw [e]; exact SqT.of k
    exact I.isT z
  obtain ⟨o, ho, hex, hd⟩ := R.ob
  obtain ⟨n1, n2⟩ := setOf_list (P := X.prog) (w := X.w) (a := a) h1 h2 R0.ex.choose_spec.choose_spec.choose_spec.2.2.2.1
  have hl : L.length = (nub ps).length := by
    have z : (L.map toP).Perm (nub ps) := (List.perm_ext_iff_of_nodup n1 (nub_nd ps)).mpr fun p => (n2 p).trans nub_mem.symm
    have z2 := z.length_eq
    rw [List.length_map] at z2
    exact z2
  have hsz := R.size
  have hfew := R.few
  refine call_len_set ho hex hd R.fits (by omega) ⟨.int (nub ps).length, H, I.tok _, ⟨_, by rw [hsz, hl]⟩, q⟩
end

section
open PyProof.Rows
/-! ### sorted(xs), xs a list of places; sorted(s), s a set of places -/
/-- what place a value stands for -/
def plAt (H : Hp) (v : V) : Pl := match v with
  | .ref t => (match H t with
    | some (.tup [.int a, .int b]) => (a, b)
    | _ => (0, 0))
  | _ => (0, 0)
theorem plAt_of {H : Hp} {v : V} {p : Pl} (h : Pr H v p) : plAt H v = p := by
  obtain ⟨t, rfl, h⟩ := h
  show (match H t with
    | some (.tup [.int a, .int b]) => (a, b)
    | _ => (0, 0)) = p
  rw [h]
theorem prs_plAt {H : Hp} {vs : List V} {ps : List Pl} (h : Prs H vs ps) : vs.map (plAt H) = ps := by
  induction h with
  | nil => rfl
  | cons a _ ih => rw [List.map_cons, ih, plAt_of a]
theorem prs_of_mem {H : Hp} : ∀ {ys : List V}, (∀ y ∈ ys, ∃ p, Pr H y p) → Prs H ys (ys.map (plAt H))
  | [], _ => .nil
  | y :: ys, h => by
    obtain ⟨p, hp⟩ := h y List.mem_cons_self
    refine .cons ?_ (prs_of_mem fun z hz => h z (List.mem_cons_of_mem _ hz))
    rw [plAt_of hp]
    exact hp
theorem prs_perm {H : Hp} {xs ys : List V} {ps : List Pl} (h : Prs H xs ps) (m : ys.Perm xs) : Prs H ys (ys.map (plAt H)) ∧ (ys.map (plAt H)).Perm ps := by
  refine ⟨prs_of_mem fun y hy => ?_, ?_⟩
  · obtain ⟨p, _, k⟩ := h.mem (m.mem_iff.mp hy)
    exact ⟨p, k⟩
  · have e := m.map (plAt H)
    rw [prs_plAt h] at e
    exact e
def rSortP (K : PySem.W.Frag) : List V → Hp → VK → Prop := fun vs H Q => ∃ (a : Addr) (xs : List V) (ps : List Pl), vs = [.ref a] ∧ SqL K H a xs ∧ Prs H xs ps ∧
  ∀ (p : Addr) (ys : List V), H p = none → Prs H ys (sortP ps) → Q (.ref p) (upd H p (.lst ys))
section
variable {X : Cx}
theorem call_sortP : CallR X (.builtin "sorted") (rSortP X.K) := by
  intro pins s σ H vs us Q I r h
  obtain ⟨a, xs, ps, rfl, hs, hp, q⟩ := h
  refine cr_sortedPO pins s σ H [.ref a] us Q I r ⟨a, xs, plAt H, rfl, hs, fun x hx => ?_, fun ys p h1 h2 hn => ?_⟩
  · obtain ⟨p, _, t, e, k⟩ := hp.mem hx
    refine ⟨t, e, ?_⟩
    have z : plAt H x = p := plAt_of ⟨t, e, k⟩
    rw [z]
    exact k
  · obtain ⟨k1, k2⟩ := prs_perm hp h2.perm
    have e : ys.map (plAt H) = sortP ps := sortP_of k2 (List.pairwise_map.mpr (List.Pairwise.imp (fun {x y} z => by
      have z1 : SrtO.lexB (plAt H y) (plAt H x) = false := z
      have z2 := SrtO.lexB_no.mp z1
      unfold lp
      omega) h1))
    rw [e] at k1
    exact q p ys hn k1
def rSortS (P : Program) (w : World) : List V → Hp → VK → Prop := fun vs H Q => ∃ (a : Addr) (ps : List Pl), vs = [.ref a] ∧ SetOf P w H a ps ∧
  ∀ (p : Addr) (ys : List V), H p = none → Prs H ys (marksP ps) → Q (.ref p) (upd H p (.lst ys))
theorem eachIs_map {α β : Type} {R : α → β → Prop} (f : β → α) : ∀ {bs : List β}, (∀ b ∈ bs, R (f b) b) → PySem.W.EachIs R (bs.map f) bs
  | [], _ => .nil
  | b :: bs, h => .cons (h b List.mem_cons_self) (eachIs_map f fun c hc => h c (List.mem_cons_of_mem _ hc))
theorem eachIs_back {α β : Type} {f : β → α} : ∀ {out : List α} {bs : List β}, PySem.W.EachIs (fun v b => v = f b) out bs → out = bs.map f
  | _, _, .nil => rfl
  | _, _, .cons e r => by rw [e, eachIs_back r]; rfl
theorem reads_two {h : Heap} {t : Addr} {a b : Int} (k : TS.TupInts h (.ref t) [a, b]) : ∃ as, Reads h (.ref t) (.tuple [.int a, .int b]) as ∧ as = [] := by
  obtain ⟨t', its, e, ⟨o, ho, hc, n, hd⟩, hi⟩ := k
  cases e
  generalize he : its.toList = l at hi
  cases hi with
  | cons _ t1 hi =>
    cases hi with
    | cons _ t2 hi =>
      cases hi
      exact ⟨[], .tuple ho hc hd (by rw [he]; exact .cons (.int _ _) (.cons (.int _ _) .nil)), rfl⟩
section
variable {P : Program} {w : World} {A : Around} {E : Value → Shared → Prop} {s : Shared}
theorem sorted_setP {a : Addr} {L : List (Addr × List Int)} {es : Array (Int × Value)} {ep : Nat} {t : SetTable} {Q : Value → Shared → Prop} (R : SetTR P w s.heap a L es ep t) (hh : A.handled = none) (hu : A.units + 64 < cLine)
    (hxy : ∀ b ∈ L, b.2 = [(toP b).1, (toP b).2])
    (hQ : ∀ (s' : Shared) (p : Addr) (out : Array Value) (c : Nat) (L' : List (Addr × List Int)), (∀ b o, s.heap.get? b = some o → s'.heap.get? b = some o) → s'.gens = s.gens → s'.os = s.os → s.heap.objs.size ≤ p →
      s'.heap.get? p = some (seqObj "list" out c) → out.toList = L'.map (fun q => Value.ref q.1) → L'.Perm L → L'.Pairwise (fun q r => lp (toP q) (toP r)) → Q (.ref p) s') :
    wpAny (model P w) A (call (.builtin "sorted") [.ref a]) Q E s := by
  obtain ⟨so, sho, shex, shd⟩ := R.ob
  have ssz := R.size
  have sfew := R.few
  have hcl : cLine = 10000 ∨ True := .inr trivial
  refine Calls.call_function_entry kind_sorted plain_sorted entry_sorted (args_sorted1 _) ?_
  unfold Builtin.«sorted»
  refine wpAny_bind (m := checkCount "sorted" 1 1 _) (wpAny_pure ?_)
  refine wpAny_bind (collect_set (A := A.in1) hh ⟨so, sho, shex.1, shd⟩ R.fits (by unfold scanBound; omega) R.tab.ris R.led fun s1 vs k1 z1 g1 o1 pm => ?_)
  have hes : es.toList.map (·.2) = L.map fun q => Value.ref q.1 := by
    rw [R.rows]
    unfold rowsOf
    rw [List.map_map]
    rfl
  rw [hes] at pm
  obtain ⟨L1, rfl, p1⟩ := perm_lift pm.symm L rfl
  have hvl : (L1.map fun q : Addr × List Int => Value.ref q.1).length < 64 := by
    rw [List.length_map, p1.length_eq]
    exact sfew
  refine wpAny_bind (wpAny_newList ?_ (by rw [sizeLine_eq]; omega))
  generalize hvs : (L1.map fun q : Addr × List Int => Value.ref q.1) = vs at *
  have hoL : (s1.heap.push (seqObj "list" vs.toArray 0)).get? s1.heap.objs.size = some (seqObj "list" vs.toArray 0) := Heap.get?_push_size _ rfl
  have tk : ∀ q ∈ L1, TS.TupInts (s1.heap.push (seqObj "list" vs.toArray 0)) (.ref q.1) [(toP q).1, (toP q).2] := fun q hq => by
    have hq' := p1.mem_iff.mp hq
    have z : TS.TupInts (s1.heap.push (seqObj "list" vs.toArray 0)) (.ref q.1) q.2 := tupInts_of (P := P) (w := w) (isT_keep (R.tup q hq') fun b u e => Heap.get?_push_of_some _ (k1 b u e))
    rw [hxy q hq'] at z
    exact z
  have er : PySem.W.EachIs (fun v (b : Addr × List Int) => ∃ as, Reads (s1.heap.push (seqObj "list" vs.toArray 0)) v (.tuple [.int (toP b).1, .int (toP b).2]) as ∧ s1.heap.objs.size ∉ as) vs L1 := by
    subst hvs
    refine eachIs_map _ fun b hb => ?_
    obtain ⟨as, k, e⟩ := reads_two (tk b hb)
    exact ⟨as, k, by rw [e]; simp⟩
  have ev : PySem.W.EachIs (fun v (b : Addr × List Int) => v = Value.ref b.1) vs L1 := by
    rw [← hvs]
    exact eachIs_map _ fun b _ => rfl
  refine wpAny_bind (wpAny_holding (PySem.W.list_sort_data (s := { s1 with heap := s1.heap.push (seqObj "list" vs.toArray 0) }) (enc := fun b : Addr × List Int => .tuple [.int (toP b).1, .int (toP b).2]) hoL ev er
    (PySem.W.AllAlike.of fun b b' => by rfl) (PySem.W.Sortable.tuples fun b => ⟨_, _, rfl⟩) ?_ (fun b _ => ?_) fun out ho he => ?_))
  · rw [← hvs, List.length_map] at hvl
    rw [sizeLine_eq]
    omega
  · have z : A.in1.units ≤ A.units + 3 := by
      unfold Around.in1
      simp
    show A.in1.units + 1 + 1 < cLine
    omega
  obtain ⟨c, hc⟩ := sortedHeap_at (vs := vs) (out := out.toArray) hoL
  have eo := eachIs_back he
  refine wpAny_pure ⟨_, rfl, hQ _ s1.heap.objs.size out.toArray c _ (fun b u e => ?_) g1 o1 z1 hc (by rw [List.toList_toArray]; exact eo) ((List.mergeSort_perm _ _).trans p1) ?_⟩
  · have q := k1 b u e
    have hlt := Heap.lt_size q
    show (sortedHeap _ s1.heap.objs.size vs out.toArray).get? b = some u
    rw [sortedHeap_old (Nat.ne_of_lt hlt) (by rw [size_push']; exact Nat.lt_succ_of_lt hlt)]
    exact Heap.get?_push_of_some _ q
  · rw [PySem.W.dataLe_ii]
    have z := List.pairwise_mergeSort (le := fun p q : Addr × List Int => decide ((toP p).1 < (toP q).1 ∨ ((toP p).1 = (toP q).1 ∧ (toP p).2 ≤ (toP q).2)))
      (fun a b c h1 h2 => decide_eq_true (by have k1 := of_decide_eq_true h1; have k2 := of_decide_eq_true h2; omega))
      (fun a b => by
        rw [Bool.or_eq_true, decide_eq_true_eq, decide_eq_true_eq]
        omega) L1
    exact List.Pairwise.imp (fun h => of_decide_eq_true h) z
end
theorem call_sortS (hc : X.calm = true) (hu : X.A.units + 64 < cLine) : CallR X (.builtin "sorted") (rSortS X.prog X.w) := by
  intro pins s σ H vs us Q I r h
  obtain ⟨a, ps, rfl, ⟨L, ha, h1, h2⟩, q⟩ := h
  rw [Vals.ref1 r]
  have R0 : SetT0 X.prog X.w s.heap a L := (I.hok a _ ha).1
  obtain ⟨es, ep, t, R⟩ := R0.full fun x hx => by
    obtain ⟨p, _, e, k⟩ := h1 x hx
    have z : SqT X.K H x.1 (x.2.map V.int) := by rw [e]; exact SqT.of k
    exact I.isT z
  obtain ⟨n1, n2⟩ := setOf_list (P := X.prog) (w := X.w) (a := a) h1 h2 R.nd
  have hxy : ∀ b ∈ L, b.2 = [(toP b).1, (toP b).2] := fun b hb => by
    obtain ⟨p, _, e, _⟩ := h1 b hb
    unfold toP
    rw [e]
    rfl
  refine sorted_setP R (I.ok.hd hc) hu hxy fun s' p out c L' kp kg ko hp hg hout pm pw => ?_
  have few := R.few
  have hl' : L'.length < 64 := by rw [pm.length_eq]; exact few
  have fresh : H p = none := I.hok.fresh hp
  have hz : (L'.map fun q => V.ref q.1).length ≤ sizeLine := by
    rw [List.length_map, sizeLine_eq]
    omega
  have hv : Vals (L'.map fun q => V.ref q.1) out.toList := by
    rw [hout]
    exact vals_of_refs L'
  have J : Inv X pins σ (upd H p (.lst (L'.map fun q => V.ref q.1))) { s with heap := s'.heap, gens := s'.gens, drawn := s'.drawn, toks := s'.toks } :=
    I.call (ch := []) (Un.laid kp hp fresh) (I.hok.laid kp hp ⟨hz, out.toList, c, hv, hg⟩) (by rw [kg]; exact I.bare) (fun _ z => nomatch z)
  have es' : s' = { s with heap := s'.heap, gens := s'.gens, drawn := s'.drawn, toks := s'.toks } := by
    obtain ⟨a1, a2, a3, a4, a5⟩ := s'
    obtain ⟨b1, b2, b3, b4, b5⟩ := s
    cases ko
    rfl
  rw [es']
  refine ⟨.ref p, _, J, rfl, q p _ fresh ?_⟩
  have e : L'.map toP = marksP ps := by
    refine marksP_of ((pm.map toP).nodup_iff.mpr n1) (fun p => ((pm.map toP).mem_iff).trans (n2 p)) (List.pairwise_map.mpr pw)
  rw [← e]
  have all : ∀ M : List (Addr × List Int), (∀ x ∈ M, x ∈ L) → Prs H (M.map fun q => V.ref q.1) (M.map toP) := by
    intro M
    induction M with
    | nil => intro _; exact .nil
    | cons x M ih =>
      intro hm
      obtain ⟨p, _, ep, k⟩ := h1 x (hm x List.mem_cons_self)
      refine .cons ⟨x.1, rfl, ?_⟩ (ih fun y hy => hm y (List.mem_cons_of_mem _ hy))
      rw [k]
      unfold toP
      rw [ep]
      rfl
  exact all L' fun x hx => pm.mem_iff.mp hx
end

end

section
open PySem.Spec PyProof.Rows
/-! ### try with several clauses, with and without names -/
/-- the ends of a clause whose name stands in slot i: behind it the slot is empty -/
def asEnds (i : Nat) (D : Ends) : Ends := { nx := fun τ G => D.nx (τ.set i none) G, rt := D.rt, bk := fun τ G => D.bk (τ.set i none) G, ct := fun τ G => D.ct (τ.set i none) G }
abbrev Sui := Addr → Value → Option Addr → TS
/-- what the clauses wish of an error of the body -/
def wNext (K : PySem.W.Frag) (Wo : WX) (D : Ends) : List (Value × Option Nat × Sui) → WX
  | [] => Wo
  | (c, none, ts) :: more => fun cls d τ G => ∃ b, PySem.W.exmOne K cls c = some b ∧ (b = true → ∀ x, G x = none → ts x cls d D τ G) ∧ (b = false → wNext K Wo D more cls d τ G)
  | (c, some i, ts) :: more => fun cls d τ G => ∃ b, PySem.W.exmOne K cls c = some b ∧ (b = true → ∀ x, G x = none → ts x cls d (asEnds i D) (τ.set i (some (.ref x))) G) ∧ (b = false → wNext K Wo D more cls d τ G)
/-- try: the body's reading, its errors wished for as the clauses take them -/
def tTry (K : PySem.W.Frag) (Wo : WX) (l : List (Value × Option Nat × Sui)) (tb : WX → TS) : TS := fun D τ G => tb (wNext K Wo D l) D τ G
inductive Clauses (X : Cx) : List ExceptHandler → List (Value × Option Nat × Sui) → Prop
  | nil : Clauses X [] []
  | plain {x : Str} {c : Value} {ts : Sui} {s0 : Stmt} {su : List Stmt} {p1 p2 : Pos} {hs : List ExceptHandler} {l : List (Value × Option Nat × Sui)} (hc : Names X x c)
      (hsu : ∀ (a : Addr) (oe : Obj) (cls : Value) (d : Option Addr) (pn : List (Addr × Obj)), Zc cls d oe → (∃ vs, oe.data = .fields vs) → PSs (X.suite a ((a, oe) :: pn)) (s0 :: su) (ts a cls d)) (more : Clauses X hs l) :
      Clauses X (.ExceptHandler (some (.Name x p1)) none (s0 :: su) p2 :: hs) ((c, none, ts) :: l)
  | named {x n : Str} {i : Nat} {c : Value} {ts : Sui} {s0 : Stmt} {su : List Stmt} {p1 p2 : Pos} {hs : List ExceptHandler} {l : List (Value × Option Nat × Sui)} (hN : X.N.Nodup) (hi : X.N[i]? = some n) (hn : X.env.kindOf n = some .local) (hc : Names X x c)
      (hsu : ∀ (a : Addr) (oe : Obj) (cls : Value) (d : Option Addr) (pn : List (Addr × Obj)), Zc cls d oe → (∃ vs, oe.data = .fields vs) → PSs (X.suite a ((a, oe) :: pn)) (s0 :: su) (ts a cls d)) (more : Clauses X hs l) :
      Clauses X (.ExceptHandler (some (.Name x p1)) (some n) (s0 :: su) p2 :: hs) ((c, some i, ts) :: l)
section
variable {X : Cx} {body : List Stmt} {c0 : ExceptHandler} {cs : List ExceptHandler} {l : List (Value × Option Nat × Sui)} {pos : Pos} {tb : WX → TS} {Wo : WX}
theorem ps_try_next (hst : X.stack = X.env :: X.outer) (hfm : X.env.frame = some X.env.locals) (tk : Takes X Wo)
    (hbody : ∀ (W : WX) (pn : List (Addr × Obj)) (xe : Value → Shared → Prop), Takes (X.tr pn xe) W → PassesOwn (model X.prog X.w) X.A X.env xe → PSs (X.tr pn xe) body (tb W))
    (hcs : Clauses X (c0 :: cs) l) : PS X (.Try body (c0 :: cs) [] [] pos) (tTry X.K Wo l tb) := by
  refine ⟨fun pins s τ G D I hw => ?_⟩
  have kk := I.ok
  have hfrs : X.A.frames = some (X.env :: X.outer) := by rw [kk.frames, hst]
  let M := model X.prog X.w
  refine wpAny_Try_except ?_
  refine wpAny_mono ((hbody (wNext X.K Wo D l) (X.pn ++ pins) (fun e s₁ => wpAny M X.A (noteFrame e X.env) (fun _ s₂ => wpAny M X.A (setFlight e none) (fun _ s₃ => wpAny M X.A (handleBy e X.env (c0 :: cs)) (SP X pins D) X.xe s₃) X.xe s₂) X.xe s₁)
    (fun u s' xx => ?_) PassesOwn.looking).run [] s τ G D (I.toTry _) hw) (fun fl s1 hsp => ?_) (fun e s1 he => he)
  · obtain ⟨a, B, sI, pins', τ', G', cls, d, rfl, J0, nb, up, sky, na, hos, hag, wish⟩ := xx
    have J : Inv X pins τ' G' sI := J0.ofTry kk
    have sk : Sky B (X.env :: X.outer) a (Zc cls d) X.env.locals s'.heap := hst ▸ sky
    show wpAny M X.A (noteFrame (.ref a) X.env) _ _ _
    refine Sky.land Zc.steady hfrs hfm sk fun h3 fl3 up3 => ?_
    have J3 : Inv X pins τ' G' { s' with heap := h3 } := J.landed nb fl3.1 (up.trans up3) hos hag
    obtain ⟨oe3, vs3, he3, hz3, hd3⟩ := fl3.there
    have nfr : a ∉ frs (X.env :: X.outer) := fun hm => by
      obtain ⟨_, o', e', hnf⟩ := fl3.2.2.1.mem hm
      rw [he3] at e'
      cases e'
      exact hnf _ hd3
    have nL : a ≠ X.env.locals := fun z => nfr (List.mem_filterMap.mpr ⟨X.env, List.mem_cons_self, by rw [hfm, z]⟩)
    have nF : a ∉ X.fs := fun hm => by
      obtain ⟨e, he, q⟩ := List.mem_filterMap.mp hm
      exact nfr (List.mem_filterMap.mpr ⟨e, List.mem_cons_of_mem _ he, q⟩)
    have S3 := J3.suite he3 hd3 na nL nF
    have LT : PySem.W.Looks M h3 (typeOf (.ref a)) cls := fun A Q E s k q => wpAny_typeOf_ref (k _ _ he3) (by rw [hz3.1]; exact q)
    have test : ∀ {x : Str} {c : Value} {p1 : Pos} {Q : Value → Shared → Prop} {E : Value → Shared → Prop}, Names X x c → Q c { s' with heap := h3 } → wpAny M (X.A.mark (some (.ref a))) (eval (.Name x p1) X.env) Q E { s' with heap := h3 } :=
      fun {x c p1 Q E} hc q => by
        obtain ⟨hg, hdbg, hm | ⟨hm, hv, hnn⟩⟩ := hc
        · exact ld_glob (X := X.suite a ((a, oe3) :: (X.pn ++ pins))) S3 hg hm q hdbg
        · exact ld_blt (X := X.suite a ((a, oe3) :: (X.pn ++ pins))) S3 hg hm hv q hnn hdbg
    have each : ∀ {hs : List ExceptHandler} {l' : List (Value × Option Nat × Sui)}, Clauses X hs l' → wNext X.K Wo D l' cls d τ' G' → wpAny M X.A (handleBy (.ref a) X.env hs) (SP X pins D) X.xe { s' with heap := h3 } := by
      intro hs l' hk
      induction hk with
      | nil =>
        intro wish
        refine wpAny_handleBy_nil ?_
        obtain ⟨k1, k2, k3, oe, vs, T, oT, ts', he, hz, hd, hf1, hr⟩ := id fl3
        unfold PySem.passOn
        refine wpAny_bind (wpAny_field he hd hf1 ?_)
        rw [if_neg (show ¬ ((Value.ref T == Value.none) = true) from by simp)]
        have out : wpAny M X.A (setFlight (.ref a) X.env.frame) (fun _ s4 => wpAny M X.A (throw (.ref a) : Sem Flow) (SP X pins D) X.xe s4) X.xe { s' with heap := h3 } := by
          rw [hfm]
          refine HandSPX.setFlight_upZ fl3 fun h4 hh4 up4 => wpAny_throw (tk _ _ ?_)
          exact ⟨a, B, sI, pins, τ', G', cls, d, rfl, J, nb, (up.trans up3).trans up4, .inr (.inr (hst ▸ hh4)), na, hos, hag, wish⟩
        first
          | exact wpAny_bind (wpAny_pure (wpAny_bind out))
          | exact wpAny_bind out
      | plain hc hsu more ih =>
        intro wish
        obtain ⟨b, hb1, yes, no⟩ := wish
        refine wpAny_handleBy_cons (codeAny_handlers_test ?_) (by intro q; cases q)
        refine test hc ((PySem.W.exm_one (M := M) J3.kIn LT hb1).here ?_)
        cases b with
        | false => exact ih (no rfl)
        | true =>
          refine codeAny_handlers_suite (HandSPX.lands_againZ fl3 fun h4 fl4 up4 => ?_)
          have J4 : Inv X pins τ' G' { s' with heap := h4 } := J.landed nb fl4.1 ((up.trans up3).trans up4) hos hag
          obtain ⟨oe4, vs4, he4, hz4, hd4⟩ := fl4.there
          refine wpAny_mono ((hsu a oe4 cls d (X.pn ++ pins) hz4 ⟨_, hd4⟩).run [] _ _ G' _ (J4.suite he4 hd4 na nL nF) (yes rfl a na)) (fun f s6 hsp => ?_) (fun _ _ z => z.elim)
          cases f with
          | ret u =>
            obtain ⟨v6, τ6, G6, S6, r6, q6⟩ := hsp
            exact ⟨v6, τ6, G6, S6.unsuite kk, r6, q6⟩
          | next =>
            obtain ⟨τ6, G6, S6, q6⟩ := hsp
            exact ⟨τ6, G6, S6.unsuite kk, q6⟩
          | brk =>
            obtain ⟨τ6, G6, S6, q6⟩ := hsp
            exact ⟨τ6, G6, S6.unsuite kk, q6⟩
          | cont =>
            obtain ⟨τ6, G6, S6, q6⟩ := hsp
            exact ⟨τ6, G6, S6.unsuite kk, q6⟩
      | named hN hi hn hc hsu more ih =>
        intro wish
        obtain ⟨b, hb1, yes, no⟩ := wish
        refine wpAny_handleBy_cons (codeAny_handlers_test ?_) (by intro q; cases q)
        refine test hc ((PySem.W.exm_one (M := M) J3.kIn LT hb1).here ?_)
        cases b with
        | false => exact ih (no rfl)
        | true =>
          refine codeAny_handlers_suite_as (HandSPX.lands_againZ fl3 fun h4 fl4 up4 => ?_)
          have J4 : Inv X pins τ' G' { s' with heap := h4 } := J.landed nb fl4.1 ((up.trans up3).trans up4) hos hag
          obtain ⟨oe4, vs4, he4, hz4, hd4⟩ := fl4.there
          refine store_ok (X := X.suite a ((a, oe4) :: (X.pn ++ pins))) (v := .ref a) (J4.suite he4 hd4 na nL nF) hN hi (.inl hn) rfl (fun s5 S5 => ?_) (.inr hn)
          refine wpAny_mono ((hsu a oe4 cls d (X.pn ++ pins) hz4 ⟨_, hd4⟩).run [] s5 _ G' _ S5 (yes rfl a na)) (fun f s6 hsp => ?_) (fun _ _ z => z.elim)
          cases f with
          | ret u =>
            obtain ⟨v6, τ6, G6, S6, r6, q6⟩ := hsp
            exact gone_ok (S6.unsuite kk) hN hi hn fun s7 J7 => ⟨v6, _, G6, J7, r6, q6⟩
          | next =>
            obtain ⟨τ6, G6, S6, q6⟩ := hsp
            exact gone_ok (S6.unsuite kk) hN hi hn fun s7 J7 => ⟨_, G6, J7, q6⟩
          | brk =>
            obtain ⟨τ6, G6, S6, q6⟩ := hsp
            exact gone_ok (S6.unsuite kk) hN hi hn fun s7 J7 => ⟨_, G6, J7, q6⟩
          | cont =>
            obtain ⟨τ6, G6, S6, q6⟩ := hsp
            exact gone_ok (S6.unsuite kk) hN hi hn fun s7 J7 => ⟨_, G6, J7, q6⟩
    exact each hcs wish
  · cases fl with
    | ret u =>
      obtain ⟨v, τ', G', J', r, q⟩ := hsp
      exact ⟨v, τ', G', J'.ofTry kk, r, q⟩
    | next =>
      obtain ⟨τ', G', J', q⟩ := hsp
      exact wpAny_execs_nil ⟨τ', G', J'.ofTry kk, q⟩
    | brk =>
      obtain ⟨τ', G', J', q⟩ := hsp
      exact ⟨τ', G', J'.ofTry kk, q⟩
    | cont =>
      obtain ⟨τ', G', J', q⟩ := hsp
      exact ⟨τ', G', J'.ofTry kk, q⟩
end

end

section
open PySem.Spec PyProof.Rows
/-! ### calls of methods and of classes whose errors are wished for at the caller's slots -/
section
variable {X : Cx} {CX : CXT} {k : Nat} {C f : Addr} {fd : FuncData} {ps : List Str} {sp : Sp} {E : L2.St → XK} {x m : Str} {p pos apos : Pos} {o e : Expr} {es : List Expr} {ta : TE} {t : TA}
def tMethS (C : Addr) (m : Str) (sp : Sp) (E : L2.St → XK) (ta : TE) (t : TA) : TE := fun τ G Q => ta τ G fun x G1 => ∃ a dx fs, x = .ref a ∧ G1 a = some (.ins C dx fs) ∧ fs.lookup m = none ∧ t τ G1 fun vs G2 => sp (x :: vs) G2 Q (E τ)
theorem pe_methS {pl : Sem Bool} (ho : PE X o ta) (c : Cls X.K C) (hm : Meth X.K C m f) (F : FnOk X.prog X.w X.K X.mg X.base CX k f fd ps sp) (hr : Room k X.A) (hb : Binds X.K fd ps []) (hx : ∀ τ, PassesAt CX X τ (E τ)) (ha : PA X (e :: es) t)
    (h1 : starEach (e :: es) X.env = (false, eval e X.env) :: starEach es X.env := by rfl) (h2 : (backTo pos (starEach es X.env)).any (·.1) = false := by rfl)
    (h3 : eval (.Call (.Attribute o m apos) (e :: es) [] pos) X.env = (do
      let recv ← eval o X.env
      standAt apos.atName
      let (g, first) ← holding [recv] (getMethod recv m pl)
      callWith pos g first (backTo pos (starEach (e :: es) X.env)) (backToKw pos (keywordEach [] X.env))) := by rfl) :
    PE X (.Call (.Attribute o m apos) (e :: es) [] pos) (tMethS C m sp E ta t) := by
  refine ⟨fun pins s τ G Q I h => PySem.W.methodCall_KW (pl := pl) (thn (ho.run pins s τ G _ I h) fun u s1 hh => ?_) h3⟩
  obtain ⟨y, G1, I1, ry, a, dx, fs, rfl, ea, l, q⟩ := hh
  obtain rfl : u = Value.ref a := ry
  refine getmeth_ok I1 ea c hm l (PySem.W.callWith_K (first := [.ref a]) (h₀ := X.base) I.ok.mod.kin hm.kp (thn (ha.run pos pins s1 τ G1 _ I1 q) fun us s2 hh => ?_) h1 h2)
  obtain ⟨vs, G2, I2, r, q2⟩ := hh
  refine ⟨I2.kIn, run_fnSD (dvs := []) (ds := []) (E := E) (us := .ref a :: us) (vs := .ref a :: vs) F hr hb .nil (hx τ) I2 (.cons rfl r) ?_⟩
  rw [List.append_nil]
  exact q2
def tMakeS (C : Addr) (sp : Sp) (E : L2.St → XK) (t : TA) : TE := fun τ G Q => t τ G fun vs G1 => ∀ x dx, G1 x = none → G1 dx = none → dx ≠ x →
  sp (.ref x :: vs) (upd (upd G1 dx (.own x)) x (.ins C dx [])) (fun v G2 => v = .non ∧ Q (.ref x) G2) (E τ)
theorem pe_makeS (M : Mk X.K C f) (F : FnOk X.prog X.w X.K X.mg X.base CX k f fd ps sp) (hr : Room (k + 1) X.A) (hg : Gl X x) (hm : X.mg x = some (.ref C)) (hb : Binds X.K fd ps []) (hx : ∀ τ, PassesAt CX X τ (E τ)) (ha : PA X (e :: es) t)
    (hdb : (x == ("__debug__" : Str)) = false := by decide) (h1 : starEach (e :: es) X.env = (false, eval e X.env) :: starEach es X.env := by rfl) (h2 : (backTo pos (starEach es X.env)).any (·.1) = false := by rfl) :
    PE X (.Call (.Name x p) (e :: es) [] pos) (tMakeS C sp E t) := by
  refine ⟨fun pins s τ G Q I h => wpAny_Call_Name_kw (ld_glob I hg hm ?_ hdb)⟩
  refine PySem.W.callWith_K (h₀ := X.base) I.ok.mod.kin M.kp (thn (ha.run pos pins s τ G _ I h) fun us s1 hh => ?_) h1 h2
  obtain ⟨vs, G1, I1, r, q⟩ := hh
  refine ⟨I1.kIn, ?_⟩
  show wpAny _ _ (call (.ref C) us) _ _ _
  let n := s1.heap.objs.size
  have hq := q (n + 1) n (I1.hok.fresh (Nat.le_succ _)) (I1.hok.fresh (Nat.le_refl _)) (Nat.ne_of_lt (Nat.lt_succ_self _))
  have I2 := Inv.made (C := C) I1
  have r2 : Vals (V.ref (n + 1) :: vs) (Value.ref (n + 1) :: us) := .cons rfl r
  have hl : (Value.ref (n + 1) :: us).length = ps.length := by
    have z := r2.length
    rw [F.len _ _ _ _ hq] at z
    exact z.symm
  have hbb := hb _ (Value.ref (n + 1) :: us) I2.kIn (by rw [List.append_nil]; exact hl)
  rw [List.append_nil] at hbb
  refine wpAny_call (make_map (f := f) I1.kIn M.makes M.init (beq_iff_eq.mp M.fn) (codeAny_mono (F.run _ X.stack _ _ ⟨Value.ref (n + 1) :: us, []⟩ (Value.ref (n + 1) :: us) _ _ (E τ) (hr.make C us []) (I2.env0.make C us []) hbb r2 hq) fun r s' hq' => ?_))
  cases r with
  | error z => exact hx τ pins _ _ z s' I2 hq'
  | ok fl =>
    cases fl with
    | ret u =>
      obtain ⟨v, G', I3, rv, ev, q3⟩ := I2.after hq'
      subst ev
      exact ⟨rv, V.ref (n + 1), G', I3, rfl, q3⟩
    | next => exact hq'.elim
    | brk => exact hq'.elim
    | cont => exact hq'.elim
end
/-! ### what was said of places stays when a list is written anew -/
theorem Pr.over {H : Hp} {m : Addr} {zs ws : List V} {v : V} {p : Pl} (h : Pr H v p) (hm : H m = some (.lst zs)) : Pr (upd H m (.lst ws)) v p := by
  obtain ⟨t, rfl, h⟩ := h
  exact ⟨t, rfl, by rw [upd_ne (ne_of h hm (by intro z; cases z))]; exact h⟩
theorem Prs.over {H : Hp} {m : Addr} {zs ws vs : List V} {ps : List Pl} (h : Prs H vs ps) (hm : H m = some (.lst zs)) : Prs (upd H m (.lst ws)) vs ps := by
  induction h with
  | nil => exact .nil
  | cons a _ ih => exact .cons (a.over hm) ih
theorem Same.over {H0 H : Hp} {m : Addr} {o : HO} (k : Same H0 H) (n : H0 m = none) : Same H0 (upd H m o) := fun b u e => by
  rw [upd_ne (ne_of_none e n)]
  exact k b u e
/-! ### lists of two lists of places -/
def dLL (a b : List Pl) : PyData := .list [dL a, dL b]
theorem eqv_dLL (a b a' b' : List Pl) : PyData.eqv (dLL a b) (dLL a' b') = decide (a = a' ∧ b = b') := by
  show PyData.eqvAll [dL a, dL b] [dL a', dL b'] = _
  simp only [PyData.eqvAll, eqv_dL, Bool.and_true, Bool.decide_and]
theorem sh_dLL (a b : List Pl) : SeqAt.shaped (dLL a b) = true := by
  have h1 := depth_dPs a
  have h2 := depth_dPs b
  have e : PyData.canLay0 (dLL a b) = (PyData.canLayAll0 (a.map dP) && (PyData.canLayAll0 (b.map dP) && true)) := rfl
  unfold SeqAt.shaped
  rw [e, lay_dPs, lay_dPs]
  refine decide_eq_true ?_
  show max (PyData.depthAll (a.map dP) + 1) (max (PyData.depthAll (b.map dP) + 1) 0) + 1 ≤ 64
  omega
def dPP (a b : Pl) : PyData := .tuple [dP a, dP b]
theorem eqv_dPP (a b a' b' : Pl) : PyData.eqv (dPP a b) (dPP a' b') = decide (a = a' ∧ b = b') := by
  show PyData.eqvAll [dP a, dP b] [dP a', dP b'] = _
  simp only [PyData.eqvAll, eqv_dP, Bool.and_true, Bool.decide_and]
theorem sh_dPP (a b : Pl) : SeqAt.shaped (dPP a b) = true := rfl

end

-- program pickaisle_k05_tasks
def topS (i : Nat) : Stmt := PySem.Challenge.pw_pickaisle_k05_tasks.main.body.getD i (.Pass ⟨0, 0, 0, 0⟩)
abbrev s_PickTaken___init__ : Stmt := inClass (topS 4) 0
theorem sc_PickTaken___init__ : FnScope ["self", "place"] ["self", "place"] (defScope s_PickTaken___init__) := ⟨rfl, rfl, rfl, by decide +kernel, rfl, by decide +kernel, by decide +kernel⟩
abbrev s_UnknownPick___init__ : Stmt := inClass (topS 5) 0
theorem sc_UnknownPick___init__ : FnScope ["self", "place"] ["self", "place"] (defScope s_UnknownPick___init__) := ⟨rfl, rfl, rfl, by decide +kernel, rfl, by decide +kernel, by decide +kernel⟩
abbrev s_Task___init__ : Stmt := inClass (topS 8) 0
theorem sc_Task___init__ : FnScope ["self", "start", "end", "picks"] ["self", "start", "end", "picks"] (defScope s_Task___init__) := ⟨rfl, rfl, rfl, by decide +kernel, rfl, by decide +kernel, by decide +kernel⟩
abbrev s_Task_picks : Stmt := inClass (topS 8) 1
theorem sc_Task_picks : FnScope ["self"] ["self"] (defScope s_Task_picks) := ⟨rfl, rfl, rfl, by decide +kernel, rfl, by decide +kernel, by decide +kernel⟩
abbrev s_Task_marks : Stmt := inClass (topS 8) 2
theorem sc_Task_marks : FnScope ["self"] ["self"] (defScope s_Task_marks) := ⟨rfl, rfl, rfl, by decide +kernel, rfl, by decide +kernel, by decide +kernel⟩
abbrev s_Task_has_pick : Stmt := inClass (topS 8) 3
theorem sc_Task_has_pick : FnScope ["self", "place"] ["self", "place"] (defScope s_Task_has_pick) := ⟨rfl, rfl, rfl, by decide +kernel, rfl, by decide +kernel, by decide +kernel⟩
abbrev s_Task_with_pick : Stmt := inClass (topS 8) 4
theorem sc_Task_with_pick : FnScope ["self", "place"] ["self", "place"] (defScope s_Task_with_pick) := ⟨rfl, rfl, rfl, by decide +kernel, rfl, by decide +kernel, by decide +kernel⟩
abbrev s_Task_without_pick : Stmt := inClass (topS 8) 5
theorem sc_Task_without_pick : FnScope ["self", "place", "pick"] ["self", "place"] (defScope s_Task_without_pick) := ⟨rfl, rfl, rfl, by decide +kernel, rfl, by decide +kernel, by decide +kernel⟩
abbrev s_Task_with_ends : Stmt := inClass (topS 8) 6
theorem sc_Task_with_ends : FnScope ["self", "start", "end"] ["self", "start", "end"] (defScope s_Task_with_ends) := ⟨rfl, rfl, rfl, by decide +kernel, rfl, by decide +kernel, by decide +kernel⟩
abbrev s_Task_turned : Stmt := inClass (topS 8) 7
theorem sc_Task_turned : FnScope ["self"] ["self"] (defScope s_Task_turned) := ⟨rfl, rfl, rfl, by decide +kernel, rfl, by decide +kernel, by decide +kernel⟩
abbrev s_Task_same_as : Stmt := inClass (topS 8) 8
theorem sc_Task_same_as : FnScope ["self", "other"] ["self", "other"] (defScope s_Task_same_as) := ⟨rfl, rfl, rfl, by decide +kernel, rfl, by decide +kernel, by decide +kernel⟩
abbrev s__law_row : Stmt := topS 10
theorem sc__law_row : FnScope ["cell", "many", "row", "rest", "state", "k"] ["cell", "many"] (defScope s__law_row) := ⟨rfl, rfl, rfl, by decide +kernel, rfl, by decide +kernel, by decide +kernel⟩
abbrev s__law_numbers : Stmt := topS 11
theorem sc__law_numbers : FnScope ["script", "many", "cells", "each", "numbers", "cell", "number"] ["script", "many"] (defScope s__law_numbers) := ⟨rfl, rfl, rfl, by decide +kernel, rfl, by decide +kernel, by decide +kernel⟩
abbrev s__law_place : Stmt := topS 12
theorem sc__law_place : FnScope ["number"] ["number"] (defScope s__law_place) := ⟨rfl, rfl, rfl, by decide +kernel, rfl, by decide +kernel, by decide +kernel⟩
abbrev s__law_is : Stmt := topS 13
theorem sc__law_is : FnScope ["task", "start", "end", "picks", "marks", "turn", "told", "twin"] ["task", "start", "end", "picks"] (defScope s__law_is) := ⟨rfl, rfl, rfl, by decide +kernel, rfl, by decide +kernel, by decide +kernel⟩
abbrev s__law_changed : Stmt := topS 14
theorem sc__law_changed : FnScope ["task", "kind", "place", "error"] ["task", "kind", "place"] (defScope s__law_changed) := ⟨rfl, rfl, rfl, by decide +kernel, rfl, by decide +kernel, by decide +kernel⟩
abbrev s__law_full : Stmt := topS 15
theorem sc__law_full : FnScope ["many", "task", "found", "picks"] [] (defScope s__law_full) := ⟨rfl, rfl, rfl, by decide +kernel, rfl, by decide +kernel, by decide +kernel⟩
abbrev s__law_grid : Stmt := topS 16
theorem sc__law_grid : FnScope ["wide", "high", "found", "one", "other"] ["wide", "high"] (defScope s__law_grid) := ⟨rfl, rfl, rfl, by decide +kernel, rfl, by decide +kernel, by decide +kernel⟩
abbrev s_law : Stmt := topS 17
theorem sc_law : FnScope ["script", "numbers", "start", "end", "picks", "k", "place", "given", "task", "kind", "told", "before", "code", "made", "pick"] ["script"] (defScope s_law) := ⟨rfl, rfl, rfl, by decide +kernel, rfl, by decide +kernel, by decide +kernel⟩

/-! ### heaps -/
theorem same_upd {H : Hp} {p : Addr} {o : HO} (h : H p = none) : Same H (upd H p o) := fun b x e => by
  rw [upd_ne (ne_of_none e h)]
  exact e
/-- a list of numbers below 1009 -/
def Small (ns : List Int) : Prop := ∀ n ∈ ns, 0 ≤ n ∧ n < 1009
theorem Small.nil : Small [] := fun _ h => nomatch h
theorem Small.snoc {ns : List Int} (h : Small ns) {n : Int} (h0 : 0 ≤ n) (h1 : n < 1009) : Small (ns ++ [n]) := fun k hk => by
  rcases List.mem_append.mp hk with z | z
  · exact h k z
  · rw [List.mem_singleton] at z
    subst z
    exact ⟨h0, h1⟩
theorem small1e7 {n : Nat} (h : n ≤ 100000) : n < sizeLine := Nat.lt_of_le_of_lt h (by decide)
section
local macro_rules | `(tactic| walk_at "rd1") => `(tactic| first
  | (refine Exists.intro _ (And.intro rfl ?_))
  | (refine ⟨_, _, rfl, rfl, ?_⟩)
  | (refine Or.inl (Exists.intro _ (And.intro rfl ?_)))
  | (refine ⟨_, _, _, rfl, rfl, by assumption, by assumption, ?_⟩)
  | (refine And.intro (Or.inl ⟨rfl, _, SqL.of (by assumption)⟩) ?_)
  | (refine And.intro (by (first | omega | (dsimp only; omega) | (constructor <;> omega) | (refine Or.inl ?_; constructor <;> omega) | (refine Or.inr ?_; constructor <;> omega) | exact ⟨by decide, by decide, by decide⟩)) ?_))
local macro_rules | `(tactic| walk_at "rd") => `(tactic| repeat walk_at "rd1")
variable {P : Program} {w : World} {K : PySem.W.Frag} {mg : Str → Option Value} {base : Heap}
/-- the names of built-ins that no def of the text hides -/
structure DrawTxt (mg : Str → Option Value) (fR : Addr) : Prop where
  abs : mg "abs" = none
  int : mg "int" = none
  range : mg "range" = none
  len : mg "len" = none
  max : mg "max" = none
  row : mg "_law_row" = some (.ref fR)
/-- a row of numbers: a new list of as many numbers as asked, each from 0 to 1008 -/
def spRow : Sp := fun vs H Q _ => ∃ (c : Int) (m : Nat), vs = [.int c, .int m] ∧ m ≤ 1000 ∧
  ∀ (H' : Hp) (p : Addr) (ns : List Int), Same H H' → H p = none → H' p = some (.lst (ns.map V.int)) → ns.length = m → Small ns → Q (.ref p) H'
theorem ok_row {f fR : Addr} {fd : FuncData} {k : Nat} (F : Fun K "_law_row" "_law_row" s__law_row f fd) (T : DrawTxt mg fR) : FnOk P w K mg base CX0 (k + 1) f fd ["cell", "many"] spRow := by
  refine F.ok sc__law_row (fun vs H Q E h => ?_) (fun cdv A outer s H vs Q E hr h => ?_)
  · obtain ⟨c, m, rfl, _⟩ := h
    rfl
  · obtain ⟨c, m, rfl, hm, q⟩ := h
    have nd := sc__law_row.nd
    refine ⟨_, pss_cons (ps_set (i := 2) nd rfl (.inl rfl) (pe_lst pa_nil))
      (pss_cons (ps_set (i := 3) nd rfl (.inl rfl) pe_int)
      (pss_cons (ps_if (pt_cmpR op_ge (pe_callB call_abs (by rfl) T.abs (by decide +kernel) (pa_cons (pv 0) pa_nil)) (pe_op op_pow pe_int pe_int) (nomark _))
          (pss_one (ps_set (i := 3) nd rfl (.inl rfl) (pe_callB call_abs (by rfl) T.abs (by decide +kernel) (pa_cons (pv 0) pa_nil)))) pss_nil)
      (pss_cons (ps_set (i := 4) nd rfl (.inl rfl) (pe_op op_mod (pe_callTy call_int1 (by rfl) T.int (by decide +kernel) (pa_cons (pe_callB call_abs (by rfl) T.abs (by decide +kernel) (pa_cons (pv 0) pa_nil)) pa_nil)) pe_int))
      (pss_cons (ps_for PassesOwn.never rfl (pi_range1 rfl T.range (pa_cons (pv 1) pa_nil)) (pg_name (i := 5) nd rfl (.inl rfl))
        (pss_cons (ps_set (i := 4) nd rfl (.inl rfl) (pe_op op_mod (pe_callTy call_int1 (by rfl) T.int (by decide +kernel)
            (pa_cons (pe_op op_add (pe_op op_mul (pe_op op_add (pv 4) pe_int) pe_int) (pe_op op_mul pe_int (pv 5))) pa_nil)) pe_int))
        (pss_one (ps_if (pt_cmpR op_gt (pv 3) pe_int (nomark _))
          (pss_cons (ps_expr (pe_bm PySem.F.plainAttrs_list PySem.F.slot_list_append PySem.F.type_list_append mt_append (pv 2)
              (pa_cons (pe_op op_mod (pe_callTy call_int1 (by rfl) T.int (by decide +kernel) (pa_cons (pv 3) pa_nil)) pe_int) pa_nil)))
            (pss_one (ps_set (i := 3) nd rfl (.inl rfl) (pe_op op_fdiv (pv 3) pe_int))))
          (pss_one (ps_expr (pe_bm PySem.F.plainAttrs_list PySem.F.slot_list_append PySem.F.type_list_append mt_append (pv 2)
              (pa_cons (pe_op op_mod (pe_callTy call_int1 (by rfl) T.int (by decide +kernel) (pa_cons (pe_op op_fdiv (pv 4) pe_int) pa_nil)) pe_int) pa_nil))))))))
      (pss_one (ps_ret (pv 2))))))), ?_⟩
    refine ⟨Nat.zero_le _, fun r nr => ?_⟩
    have s1 : Same H (upd H r (.lst [])) := same_upd nr
    walk_at "rd"
    refine ite2 (fun hc => ?_) (fun hc => ?_)
    all_goals
      walk_at "rd"
      refine for_range (lo := 0) (n := m) (fun i σ H' => ∃ (ns : List Int) (rst st : Int) (vk : Option V), σ = [some (.int c), some (.int m), some (.ref r), some (.int rst), some (.int st), vk] ∧ Same H H' ∧ H' r = some (.lst (ns.map V.int)) ∧ ns.length = i ∧ Small ns ∧ 0 ≤ st ∧ st < 2147483647)
        ⟨[], _, _, none, rfl, s1, upd_same, rfl, Small.nil, Int.emod_nonneg _ (by decide), Int.emod_lt_of_pos _ (by decide)⟩ ?_ ?_
      · rintro i σ H' hi ⟨ns, rst, st, vk, rfl, sm, hrow, hl, hs, h0, h1⟩
        have hlen : (ns.map V.int).length < sizeLine := by
          rw [List.length_map]
          exact small1e7 (by omega)
        walk_at "rd"
        refine ite2 (fun hc2 => ?_) (fun hc2 => ?_)
        · walk_at "rd"
          refine ⟨ns ++ [rst % 1009], _, _, _, rfl, fun b o e => ?_, ?_, ?_, hs.snoc (Int.emod_nonneg _ (by decide)) (Int.emod_lt_of_pos _ (by decide)), Int.emod_nonneg _ (by decide), Int.emod_lt_of_pos _ (by decide)⟩
          · rw [upd_ne (ne_of_none e nr)]
            exact sm b o e
          · rw [upd_same, List.map_append]
            rfl
          · rw [List.length_append, hl]
            rfl
        · walk_at "rd"
          refine ⟨ns ++ [((st + 1) * 48271 + 69621 * (0 + (i : Int))) % 2147483647 / 2048 % 1009], _, _, _, rfl, fun b o e => ?_, ?_, ?_, hs.snoc (Int.emod_nonneg _ (by decide)) (Int.emod_lt_of_pos _ (by decide)), Int.emod_nonneg _ (by decide), Int.emod_lt_of_pos _ (by decide)⟩
          · rw [upd_ne (ne_of_none e nr)]
            exact sm b o e
          · rw [upd_same, List.map_append]
            rfl
          · rw [List.length_append, hl]
            rfl
      · rintro σ H' ⟨ns, rst, st, vk, rfl, sm, hrow, hl, hs, h0, h1⟩
        exact ⟨_, rfl, q H' r ns sm nr hrow hl hs⟩
/-- as many numbers as asked, drawn from the script: a new list, each from 0 to 1008 -/
def spNumbers (K : PySem.W.Frag) : Sp := fun vs H Q _ => ∃ (a : Addr) (xs : List Int) (m : Nat), vs = [.ref a, .int m] ∧ SqL K H a (xs.map V.int) ∧ xs.length ≤ 63 ∧ m ≤ 200 ∧
  ∀ (H' : Hp) (p : Addr) (ns : List Int), Same H H' → H p = none → H' p = some (.lst (ns.map V.int)) → ns.length = m → Small ns → Q (.ref p) H'
theorem cut_all (xs : List V) (h : xs.length ≤ 63) : cutV xs none (some 63) = xs := by
  unfold cutV
  rw [show HT.sIx xs.length xs.length (some 63) = min 63 xs.length from HT.sIx_nat xs.length xs.length 63, HT.sIx_none, List.drop_zero, Nat.sub_zero, Nat.min_eq_right h, List.take_length]
theorem cut_to (xs : List V) (m : Nat) : cutV xs none (some (m : Int)) = xs.take m := by
  unfold cutV
  rw [HT.sIx_nat, HT.sIx_none, List.drop_zero, Nat.sub_zero]
  rcases Nat.le_total m xs.length with h | h
  · rw [Nat.min_eq_left h]
  · rw [Nat.min_eq_right h, List.take_length, List.take_of_length_le h]
def lenAt (H : Hp) (p : Addr) : Nat := match H p with
  | some (.lst xs) => xs.length
  | _ => 0
theorem lenAt_of {H : Hp} {p : Addr} {xs : List V} (h : H p = some (.lst xs)) : lenAt H p = xs.length := by
  unfold lenAt
  rw [h]
theorem each_nat (m n : Nat) (hm : m ≤ 200) : ∃ e : Nat, 1 + (m : Int).fdiv (if (n : Int) > 1 then (n : Int) else 1) = (e : Int) ∧ e ≤ 201 := by
  have hp : 0 < (if (n : Int) > 1 then (n : Int) else 1) := by split <;> omega
  have e1 : (m : Int).fdiv (if (n : Int) > 1 then (n : Int) else 1) = (m : Int) / (if (n : Int) > 1 then (n : Int) else 1) := Int.fdiv_eq_ediv_of_nonneg _ (Int.le_of_lt hp)
  have h0 : 0 ≤ (m : Int) / (if (n : Int) > 1 then (n : Int) else 1) := Int.ediv_nonneg (by omega) (Int.le_of_lt hp)
  have h1 : (m : Int) / (if (n : Int) > 1 then (n : Int) else 1) ≤ m := Int.ediv_le_self _ (by omega)
  rw [e1]
  exact ⟨(1 + (m : Int) / (if (n : Int) > 1 then (n : Int) else 1)).toNat, by omega, by omega⟩
theorem ok_numbers {f fR : Addr} {fd fdR : FuncData} (F : Fun K "_law_numbers" "_law_numbers" s__law_numbers f fd) (T : DrawTxt mg fR) (FR : Fun K "_law_row" "_law_row" s__law_row fR fdR) (bR : Binds K fdR ["cell", "many"] []) :
    FnOk P w K mg base CX0 2 f fd ["script", "many"] (spNumbers K) := by
  have GR : FnOk P w K mg base CX0 1 fR fdR ["cell", "many"] spRow := ok_row FR T
  refine F.ok sc__law_numbers (fun vs H Q E h => ?_) (fun cdv A outer s H vs Q E hr h => ?_)
  · obtain ⟨a, xs, m, rfl, _⟩ := h
    rfl
  · obtain ⟨a, xs, m, rfl, hS, hx, hm, q⟩ := h
    have nd := sc__law_numbers.nd
    refine ⟨_, pss_cons (ps_set (i := 2) nd rfl (.inl rfl) (pe_slice sl_list (pv 0) po_none (po_some pe_int)))
      (pss_cons (ps_set (i := 3) nd rfl (.inl rfl) (pe_op op_add pe_int (pe_op op_fdivN (pv 1) (pe_callB (call_max2 rfl) (by rfl) T.max (by decide +kernel)
          (pa_cons pe_int (pa_cons (pe_callB call_len (by rfl) T.len (by decide +kernel) (pa_cons (pv 2) pa_nil)) pa_nil))))))
      (pss_cons (ps_set (i := 4) nd rfl (.inl rfl) (pe_lst pa_nil))
      (pss_cons (ps_for PassesOwn.never rfl (pi_list (pv 2)) (pg_name (i := 5) nd rfl (.inl rfl))
        (pss_one (ps_for PassesOwn.never rfl (pi_list (pe_call GR hr (by rfl) T.row FR.kp bR .nil pass0 (pa_cons (pv 5) (pa_cons (pv 3) pa_nil)))) (pg_name (i := 6) nd rfl (.inl rfl))
          (pss_one (ps_expr (pe_bm PySem.F.plainAttrs_list PySem.F.slot_list_append PySem.F.type_list_append mt_append (pv 4) (pa_cons (pv 6) pa_nil)))))))
      (pss_cons (ps_while PassesOwn.never (pt_cmpR op_lt (pe_callB call_len (by rfl) T.len (by decide +kernel) (pa_cons (pv 4) pa_nil)) (pv 1) (nomark _))
        (pss_one (ps_expr (pe_bm PySem.F.plainAttrs_list PySem.F.slot_list_append PySem.F.type_list_append mt_append (pv 4) (pa_cons pe_int pa_nil)))))
      (pss_one (ps_ret (pe_slice sl_list (pv 4) po_none (po_some (pv 1))))))))), ?_⟩
    refine ⟨_, rfl, _, rfl, a, _, rfl, hS, fun c nc => ?_⟩
    rw [cut_all _ (by rw [List.length_map]; exact hx)]
    have s1 : Same H (upd H c (.lst (xs.map V.int))) := same_upd nc
    refine ⟨_, rfl, _, rfl, _, _, rfl, .inl ⟨_, SqL.of upd_same, rfl⟩, _, _, rfl, _, _, rfl, rfl, ?_, ?_⟩
    · constructor
      · rw [List.length_map]
        split <;> omega
      · rw [List.length_map]
        split <;> omega
    refine ⟨_, _, rfl, rfl, ?_⟩
    dsimp only
    obtain ⟨e, he, hle⟩ := each_nat m (List.map V.int xs).length hm
    rw [he]
    refine ⟨Nat.zero_le _, fun b nb => ?_⟩
    have s2 : Same (upd H c (.lst (xs.map V.int))) (upd (upd H c (.lst (xs.map V.int))) b (.lst [])) := same_upd nb
    have nbc : c ≠ b := ne_of_none upd_same nb
    have nb0 : H b = none := s1.free nb
    -- for cell in cells
    refine ⟨_, rfl, c, rfl, ⟨_, SqL.of (s2 _ _ upd_same)⟩, for_list (K := K) (a := c) (xs := xs.map V.int) (fun i σ H' => ∃ (ns : List Int) (v5 v6 : Option V), σ = [some (.ref a), some (.int m), some (.ref c), some (.int e), some (.ref b), v5, v6] ∧ Same H H' ∧ H' c = some (.lst (xs.map V.int)) ∧ H' b = some (.lst (ns.map V.int)) ∧ ns.length ≤ i * 201 ∧ Small ns)
      ⟨[], none, none, rfl, s1.trans s2, s2 _ _ upd_same, upd_same, Nat.zero_le _, Small.nil⟩ (fun i σ H' _ ⟨_, _, _, _, _, hc, _⟩ => SqL.of hc) ?_ ?_⟩
    · rintro i y σ H' hi ⟨ns, v5, v6, rfl, sm, hc, hb, hl, hs⟩
      obtain ⟨z, hz, rfl⟩ : ∃ z, xs[i]? = some z ∧ y = V.int z := by
        rw [List.getElem?_map] at hi
        cases e : xs[i]? with
        | none =>
          rw [e] at hi
          cases hi
        | some z =>
          rw [e] at hi
          exact ⟨z, rfl, (Option.some.inj hi).symm⟩
      have hil : i < xs.length := (List.getElem?_eq_some_iff.mp hz).1
      -- for number in _law_row(cell, each)
      refine ⟨_, rfl, _, rfl, z, e, rfl, by omega, fun H2 r rs s3 nr hr2 hrl hrs => ?_⟩
      refine ⟨r, rfl, ⟨_, SqL.of hr2⟩, for_list (K := K) (a := r) (xs := rs.map V.int) (fun j σ H3 => ∃ (ms : List Int) (v6 : Option V), σ = [some (.ref a), some (.int m), some (.ref c), some (.int e), some (.ref b), some (.int z), v6] ∧ Same H H3 ∧ H3 r = some (.lst (rs.map V.int)) ∧ H3 c = some (.lst (xs.map V.int)) ∧ H3 b = some (.lst (ms.map V.int)) ∧ ms.length = ns.length + j ∧ Small ms)
        ⟨ns, v6, rfl, sm.trans s3, hr2, s3 _ _ hc, s3 _ _ hb, rfl, hs⟩ (fun j σ H3 _ ⟨_, _, _, _, h, _⟩ => SqL.of h) ?_ ?_⟩
      · rintro j y σ H3 hj ⟨ms, v6, rfl, sm3, hr3, hc3, hb3, hl3, hs3⟩
        obtain ⟨n, hn, rfl⟩ : ∃ n, rs[j]? = some n ∧ y = V.int n := by
          rw [List.getElem?_map] at hj
          cases e : rs[j]? with
          | none =>
            rw [e] at hj
            cases hj
          | some z =>
            rw [e] at hj
            exact ⟨z, rfl, (Option.some.inj hj).symm⟩
        have hjl : j < rs.length := (List.getElem?_eq_some_iff.mp hn).1
        have hb3l : (ms.map V.int).length < sizeLine := by
          rw [List.length_map]
          exact small1e7 (by omega)
        have nrb : r ≠ b := fun z => by
          rw [z] at nr
          rw [nr] at hb
          cases hb
        obtain ⟨g0, g1⟩ := hrs n (List.mem_of_getElem? hn)
        walk_at "rd"
        refine ⟨ms ++ [n], _, rfl, fun d o e => ?_, by rw [upd_ne nrb]; exact hr3, by rw [upd_ne nbc]; exact hc3, ?_, ?_, hs3.snoc g0 g1⟩
        · rw [upd_ne (ne_of_none e nb0)]
          exact sm3 d o e
        · rw [upd_same, List.map_append]
          rfl
        · rw [List.length_append, hl3]
          rfl
      · rintro σ H3 ⟨ms, v6, rfl, sm3, hr3, hc3, hb3, hl3, hs3⟩
        rw [List.length_map] at hl3
        exact ⟨ms, _, _, rfl, sm3, hc3, hb3, by rw [Nat.succ_mul]; omega, hs3⟩
    · rintro σ H' ⟨ns, v5, v6, rfl, sm, hc, hb, hl, hs⟩
      rw [List.length_map] at hl
      -- while len(numbers) < many
      refine while_by (fun σ H' => ∃ ns : List Int, σ = [some (.ref a), some (.int m), some (.ref c), some (.int e), some (.ref b), v5, v6] ∧ Same H H' ∧ H' b = some (.lst (ns.map V.int)) ∧ Small ns) (fun _ H' => m - lenAt H' b)
        ⟨ns, rfl, sm, hb, hs⟩ ?_ ?_
      · rintro σ H' ⟨ns, rfl, sm, hb, hs⟩
        refine ⟨_, rfl, _, _, rfl, .inl ⟨_, SqL.of hb, rfl⟩, _, rfl, _, _, rfl, rfl, _, rfl, ?_⟩
        rw [List.length_map]
        refine ite2 (fun hlt => ?_) (fun hlt => ?_)
        · have hlt' : ns.length < m := by
            have := of_decide_eq_true hlt
            omega
          have hbl : (ns.map V.int).length < sizeLine := by
            rw [List.length_map]
            exact small1e7 (by omega)
          walk_at "rd"
          refine ⟨⟨ns ++ [0], rfl, fun d o e => ?_, ?_, hs.snoc (by decide) (by decide)⟩, ?_⟩
          · rw [upd_ne (ne_of_none e nb0)]
            exact sm d o e
          · rw [upd_same, List.map_append]
            rfl
          · rw [lenAt_of upd_same, lenAt_of hb, List.length_append, List.length_map]
            show m - (ns.length + 1) < m - ns.length
            omega
        · have hge : m ≤ ns.length := by
            have : ¬ ((ns.length : Int) < (m : Int)) := fun z => hlt (decide_eq_true z)
            omega
          refine ⟨_, rfl, _, rfl, _, rfl, b, _, rfl, SqL.of hb, fun p np => ?_⟩
          rw [cut_to, ← List.map_take]
          refine q _ p (ns.take m) (fun d o e => ?_) (sm.free np) upd_same (by rw [List.length_take]; omega) (fun n hn => hs n (List.mem_of_mem_take hn))
          rw [upd_ne (ne_of_none (sm d o e) np)]
          exact sm d o e
      · rintro σ H Q Q' h ⟨v, e1, x, n, e2, l, u, e3, i, j, ei, ej, k, ek, q⟩
        exact ⟨v, e1, x, n, e2, l, u, e3, i, j, ei, ej, k, ek, h _ _ q⟩
end

/-! ### small things -/
theorem made {H : Hp} {a : Addr} {o : HO} (h : H a = none) : ∃ H', upd H a o = H' ∧ Same H H' ∧ H' a = some o := ⟨_, rfl, same_upd h, upd_same⟩
section
variable {P : Program} {w : World} {K : PySem.W.Frag} {mg : Str → Option Value} {base : Heap}
theorem ok_taken {f C : Addr} {fd : FuncData} (F : Fun K "__init__" "PickTaken.__init__" s_PickTaken___init__ f fd) : FnOk P w K mg base CX0 1 f fd ["self", "place"] (spXI K C "place") := by
  refine F.ok sc_PickTaken___init__ (fun vs H Q E h => ?_) (fun cdv A outer s H vs Q E hr h => ?_)
  · obtain ⟨a, v, rfl, _⟩ := h
    rfl
  · obtain ⟨a, v, rfl, T, hno, ha, q⟩ := h
    exact ⟨_, pss_one (ps_ost (pv 0) (pv 1)), v, rfl, _, rfl, a, C, rfl, T, hno, .inl ⟨ha, q⟩⟩
theorem ok_unknown {f C : Addr} {fd : FuncData} (F : Fun K "__init__" "UnknownPick.__init__" s_UnknownPick___init__ f fd) : FnOk P w K mg base CX0 1 f fd ["self", "place"] (spXI K C "place") := by
  refine F.ok sc_UnknownPick___init__ (fun vs H Q E h => ?_) (fun cdv A outer s H vs Q E hr h => ?_)
  · obtain ⟨a, v, rfl, _⟩ := h
    rfl
  · obtain ⟨a, v, rfl, T, hno, ha, q⟩ := h
    exact ⟨_, pss_one (ps_ost (pv 0) (pv 1)), v, rfl, _, rfl, a, C, rfl, T, hno, .inl ⟨ha, q⟩⟩
end

/-! ### tasks -/
theorem ks1 : ¬ (("start" : Str) = "end") := by decide +kernel
theorem ks2 : ¬ (("start" : Str) = "_picks") := by decide +kernel
theorem ks3 : ¬ (("end" : Str) = "_picks") := by decide +kernel
def tf (a b : V) (l : Addr) : List (Str × V) := putF "_picks" (.ref l) (putF "end" b (putF "start" a []))
theorem tf_len2 (a b : V) : (putF "end" b (putF "start" a ([] : List (Str × V)))).length = 2 := by
  show (if ("start" : Str) = "end" then [(("start" : Str), b)] else (("start" : Str), a) :: putF "end" b []).length = 2
  rw [if_neg ks1]
  rfl
theorem tf_start (a b : V) (l : Addr) : (tf a b l).lookup ("start" : Str) = some a := by
  unfold tf
  rw [lookup_putF, if_neg ks2, lookup_putF, if_neg ks1, lookup_putF, if_pos rfl]
theorem tf_end (a b : V) (l : Addr) : (tf a b l).lookup ("end" : Str) = some b := by
  unfold tf
  rw [lookup_putF, if_neg ks3, lookup_putF, if_pos rfl]
theorem tf_picks (a b : V) (l : Addr) : (tf a b l).lookup ("_picks" : Str) = some (.ref l) := by
  unfold tf
  rw [lookup_putF, if_pos rfl]
theorem tf_no (a b : V) (l : Addr) {m : Str} (h1 : ¬ m = "start") (h2 : ¬ m = "end") (h3 : ¬ m = "_picks") : (tf a b l).lookup m = none := by
  unfold tf
  rw [lookup_putF, if_neg h3, lookup_putF, if_neg h2, lookup_putF, if_neg h1]
  rfl
/-- a task stands at p: its start, its end, its picks in order -/
def TaskAt (C : Addr) (H : Hp) (p : Addr) (st en : Pl) (ps : List Pl) : Prop := ∃ (dx l : Addr) (a b : V) (xs : List V),
  H p = some (.ins C dx (tf a b l)) ∧ Pr H a st ∧ Pr H b en ∧ H l = some (.lst xs) ∧ Prs H xs ps ∧ ps.Pairwise lp ∧ ps.Nodup ∧ ps.length ≤ 60
theorem TaskAt.same {C : Addr} {H H' : Hp} {p : Addr} {st en : Pl} {ps : List Pl} (h : TaskAt C H p st en ps) (k : Same H H') : TaskAt C H' p st en ps := by
  obtain ⟨dx, l, a, b, xs, h1, h2, h3, h4, h5, h6⟩ := h
  exact ⟨dx, l, a, b, xs, k _ _ h1, h2.same k, h3.same k, k _ _ h4, h5.same k, h6⟩
theorem TaskAt.over {C : Addr} {H : Hp} {p m : Addr} {st en : Pl} {ps : List Pl} {zs ws : List V} (h : TaskAt C H p st en ps) (hm : H m = some (.lst zs)) (hn : ∀ dx a b r, H p = some (.ins C dx (tf a b r)) → r ≠ m) : TaskAt C (upd H m (.lst ws)) p st en ps := by
  obtain ⟨dx, l, a, b, xs, h1, h2, h3, h4, h5, h6⟩ := h
  exact ⟨dx, l, a, b, xs, by rw [upd_ne (ne_of h1 hm (by intro z; cases z))]; exact h1, h2.over hm, h3.over hm, by rw [upd_ne (hn _ _ _ _ h1)]; exact h4, h5.over hm, h6⟩
/-- what the top has left of the class of tasks and of its errors -/
structure TaskTxt (K : PySem.W.Frag) (mg : Str → Option Value) (C CI : Addr) : Prop where
  cl : Cls K C
  nS : NoAttr K C "start"
  nE : NoAttr K C "end"
  nP : NoAttr K C "_picks"
  mgC : mg "Task" = some (.ref C)
  len : mg "len" = none
  set : mg "set" = none
  sorted : mg "sorted" = none
  list : mg "list" = none
  most : ∃ t, mg "MOST_PICKS" = some (.int 60 t)
  gI : mg "InvalidTask" = some (.ref CI)
  kI : PySem.W.keepIn K (.ref CI) = true
  xI : PySem.W.excIn K CI [.type "ValueError", .type "Exception", .type "BaseException", .type "object"] "ValueError.__new__" = true
  bI : PySem.W.subIn K (.ref CI) (.type "BaseException") = some true
  tI : PySem.W.typeIn K (.ref CI) = some (.type "type")
section
variable {P : Program} {w : World} {K : PySem.W.Frag} {mg : Str → Option Value} {base : Heap}
/-- all but what is at p is as it was -/
def But (p : Addr) (H H' : Hp) : Prop := ∀ b o, H b = some o → b ≠ p → H' b = some o
def spTask (K : PySem.W.Frag) (C CI : Addr) : Sp := fun vs H Q E => ∃ (p dx l : Addr) (a b : V) (st en : Pl) (xs : List V) (ps : List Pl), vs = [.ref p, a, b, .ref l] ∧ H p = some (.ins C dx []) ∧ Pr H a st ∧ Pr H b en ∧
  SqL K H l xs ∧ Prs H xs ps ∧ ps.length ≤ 1000 ∧
  (ps.length ≤ 60 → ps.Nodup → ∀ H', TaskAt C H' p st en (sortP ps) → But p H H' → (∀ dx a b r, H' p = some (.ins C dx (tf a b r)) → H r = none) → Q .non H') ∧
  (¬ (ps.length ≤ 60 ∧ ps.Nodup) → ∀ H', Same H H' → E (.ref CI) none H')
theorem ok_task {f C CI : Addr} {fd : FuncData} (F : Fun K "__init__" "Task.__init__" s_Task___init__ f fd) (T : TaskTxt K mg C CI) : FnOk P w K mg base (L2.CX P w) 2 f fd ["self", "start", "end", "picks"] (spTask K C CI) := by
  refine F.okX sc_Task___init__ (fun vs H Q E h => ?_) (fun cdv A outer s H vs Q E hr h => ?_)
  · obtain ⟨p, dx, l, a, b, st, en, xs, ps, rfl, _⟩ := h
    rfl
  · obtain ⟨p, dx, l, a, b, st, en, xs, ps, rfl, hp, ha, hb, hl, hx, hn, q, e⟩ := h
    obtain ⟨t, hmost⟩ := T.most
    have hxl := hx.len
    refine ⟨_, (pss_cons (ps_if (pt_cmpR op_gt (pe_callB call_len (by rfl) T.len (by decide +kernel) (pa_cons (pv 3) pa_nil)) (pe_glob (v := .int 60) rfl hmost ⟨_, rfl⟩) (nomark _)) (pss_one (ps_raise rfl (takes_of rfl rfl rfl rfl) (pmk_own PySem.F.excBase_ValueError T.xI T.gI T.kI (raises_own T.bI T.tI) rfl))) pss_nil)
      (pss_cons (ps_if (pt_cmpR op_lt (pe_callB call_lenP (by rfl) T.len (by decide +kernel) (pa_cons (pe_callTy (cr_setP rfl hr.units) (by rfl) T.set (by decide +kernel) (pa_cons (pv 3) pa_nil)) pa_nil)) (pe_callB call_len (by rfl) T.len (by decide +kernel) (pa_cons (pv 3) pa_nil)) (nomark _)) (pss_one (ps_raise rfl (takes_of rfl rfl rfl rfl) (pmk_own PySem.F.excBase_ValueError T.xI T.gI T.kI (raises_own T.bI T.tI) rfl))) pss_nil)
      (pss_cons (ps_fld (pv 0) (pv 1) rfl)
      (pss_cons (ps_fld (pv 0) (pv 2) rfl)
      (pss_one (ps_fld (pv 0) (pe_callB call_sortP (by rfl) T.sorted (by decide +kernel) (pa_cons (pv 3) pa_nil)) rfl)))))), ?_⟩
    -- len(picks) > MOST_PICKS
    refine ⟨_, rfl, _, _, rfl, .inl ⟨_, hl, rfl⟩, _, _, rfl, rfl, _, rfl, ?_⟩
    refine ite2 (fun hc => ?_) (fun hc => ?_)
    · have hc' := of_decide_eq_true hc
      exact e (fun z => by omega) H (Same.refl _)
    · have hc' : ps.length ≤ 60 := by
        have : ¬ ((60 : Int) < (xs.length : Int)) := fun z => hc (decide_eq_true z)
        omega
      -- len(set(picks)) < len(picks)
      refine ⟨_, rfl, l, xs, ps, rfl, hl, hx, by omega, fun H1 s0 ns0 k1 hs0 => ⟨s0, ps, rfl, hs0, _, rfl, _, _, rfl, .inl ⟨_, k1.seq hl, rfl⟩, _, _, rfl, rfl, _, rfl, ?_⟩⟩
      refine ite2 (fun hd => ?_) (fun hd => ?_)
      · have hd' := of_decide_eq_true hd
        exact e (fun z => (nub_lt ps).mp (by omega) z.2) H1 k1
      · have hnd : ps.Nodup := by
          have z : ¬ (((nub ps).length : Int) < (xs.length : Int)) := fun z => hd (decide_eq_true z)
          exact Decidable.byContradiction fun y => z (by have := (nub_lt ps).mpr y; omega)
        -- self.start, self.end, self._picks
        have hp1 := k1 _ _ hp
        refine ⟨_, rfl, _, rfl, p, C, dx, [], rfl, hp1, T.cl, T.nS, (by show 0 < 1000; decide), ?_⟩
        refine ⟨_, rfl, _, rfl, p, C, dx, _, rfl, upd_same, T.cl, T.nE, (by show 1 < 1000; decide), ?_⟩
        have hl' : SqL K (upd (upd H1 p (.ins C dx (putF "start" a []))) p (.ins C dx (putF "end" b (putF "start" a [])))) l xs := by
          rcases k1.seq hl with (h | ⟨o, h⟩) | h
          · exact .inl (.inl (by rw [upd_ne (ne_of hp1 h (by intro z; cases z)).symm, upd_ne (ne_of hp1 h (by intro z; cases z)).symm]; exact h))
          · exact .inl (.inr ⟨o, by rw [upd_ne (ne_of hp1 h (by intro z; cases z)).symm, upd_ne (ne_of hp1 h (by intro z; cases z)).symm]; exact h⟩)
          · exact .inr h
        have keep : ∀ c o, H1 c = some o → c ≠ p → (upd (upd H1 p (.ins C dx (putF "start" a []))) p (.ins C dx (putF "end" b (putF "start" a [])))) c = some o := fun c o h n => by
          rw [upd_ne n, upd_ne n]
          exact h
        have tupne : ∀ {v : V} {z : Pl}, Pr H1 v z → Pr (upd (upd H1 p (.ins C dx (putF "start" a []))) p (.ins C dx (putF "end" b (putF "start" a [])))) v z := fun {v z} h => by
          obtain ⟨t, rfl, h⟩ := h
          exact ⟨t, rfl, keep _ _ h (ne_of hp1 h (by intro z; cases z)).symm⟩
        have prsne : ∀ {vs : List V} {zs : List Pl}, Prs H1 vs zs → Prs (upd (upd H1 p (.ins C dx (putF "start" a []))) p (.ins C dx (putF "end" b (putF "start" a [])))) vs zs := fun h => by
          induction h with
          | nil => exact .nil
          | cons x _ ih => exact .cons (tupne x) ih
        refine ⟨_, rfl, l, xs, ps, rfl, hl', prsne (hx.same k1), fun r ys nr hys => ⟨_, rfl, p, C, dx, putF "end" b (putF "start" a []), rfl, ?_, T.cl, T.nP, ?_, ?_⟩⟩
        · rw [upd_ne (ne_of_none upd_same nr)]
          exact upd_same
        · rw [tf_len2]
          decide
        · have npr : p ≠ r := ne_of_none upd_same nr
          have sm : But p H1 (upd (upd (upd (upd H1 p (.ins C dx (putF "start" a []))) p (.ins C dx (putF "end" b (putF "start" a [])))) r (.lst ys)) p (.ins C dx (tf a b r))) := fun c o h n => by
            rw [upd_ne n, upd_ne (ne_of_none (keep c o h n) nr)]
            exact keep c o h n
          have back : ∀ {c : Addr} {xs : List V}, (upd (upd (upd H1 p (.ins C dx (putF "start" a []))) p (.ins C dx (putF "end" b (putF "start" a [])))) r (.lst ys)) c = some (.tup xs) →
              (upd (upd (upd (upd H1 p (.ins C dx (putF "start" a []))) p (.ins C dx (putF "end" b (putF "start" a [])))) r (.lst ys)) p (.ins C dx (tf a b r))) c = some (.tup xs) := fun {c xs} h => by
            rw [upd_ne (show c ≠ p from fun z => by rw [z, upd_ne npr, upd_same] at h; cases h)]
            exact h
          have pr1 : ∀ {v : V} {z : Pl}, Pr (upd (upd H1 p (.ins C dx (putF "start" a []))) p (.ins C dx (putF "end" b (putF "start" a [])))) v z → Pr (upd (upd (upd (upd H1 p (.ins C dx (putF "start" a []))) p (.ins C dx (putF "end" b (putF "start" a [])))) r (.lst ys)) p (.ins C dx (tf a b r))) v z := fun {v z} h => by
            obtain ⟨t, rfl, h⟩ := h
            exact ⟨t, rfl, back (by rw [upd_ne (ne_of_none h nr)]; exact h)⟩
          have pr2 : ∀ {vs : List V} {zs : List Pl}, Prs (upd (upd H1 p (.ins C dx (putF "start" a []))) p (.ins C dx (putF "end" b (putF "start" a [])))) vs zs → Prs (upd (upd (upd (upd H1 p (.ins C dx (putF "start" a []))) p (.ins C dx (putF "end" b (putF "start" a [])))) r (.lst ys)) p (.ins C dx (tf a b r))) vs zs := fun h => by
            induction h with
            | nil => exact .nil
            | cons x _ ih => exact .cons (pr1 x) ih
          refine q hc' hnd _ ⟨dx, r, a, b, ys, upd_same, pr1 (tupne (ha.same k1)), pr1 (tupne (hb.same k1)), ?_, pr2 hys, sortP_pw ps, sortP_nd.mpr hnd, by rw [sortP_len]; exact hc'⟩ (fun c o h n => sm c o (k1 _ _ h) n) fun dx' a' b' r' z => ?_
          · rw [upd_ne npr.symm]
            exact upd_same
          · rw [upd_same] at z
            have z2 := Option.some.inj z
            injection z2 with _ _ z3
            have z4 := tf_picks a b r
            have z6 : tf a b r = tf a' b' r' := z3
            rw [z6, tf_picks] at z4
            have z5 : r' = r := V.ref.inj (Option.some.inj z4)
            subst z5
            rw [upd_ne npr.symm, upd_ne npr.symm] at nr
            exact k1.free nr

theorem room65 {k : Nat} {A : Around} (r : Room k A) : A.units + 65 < cLine := by
  have := r.un
  omega
def spPicks (C : Addr) : Sp := fun vs H Q _ => ∃ (p : Addr) (st en : Pl) (ps : List Pl), vs = [.ref p] ∧ TaskAt C H p st en ps ∧
  ∀ (r : Addr) (xs : List V), H r = none → Prs H xs ps → Q (.ref r) (upd H r (.lst xs))
theorem ok_picks {f C CI : Addr} {fd : FuncData} (F : Fun K "picks" "Task.picks" s_Task_picks f fd) (T : TaskTxt K mg C CI) : FnOk P w K mg base CX0 1 f fd ["self"] (spPicks C) := by
  refine F.ok sc_Task_picks (fun vs H Q E h => ?_) (fun cdv A outer s H vs Q E hr h => ?_)
  · obtain ⟨p, st, en, ps, rfl, _⟩ := h
    rfl
  · obtain ⟨p, st, en, ps, rfl, ⟨dx, l, a, b, xs, h1, h2, h3, h4, h5, _⟩, q⟩ := h
    exact ⟨_, (pss_one (ps_ret (pe_callTy call_list_of (by rfl) T.list (by decide +kernel) (pa_cons (pe_fld (pv 0) rfl) pa_nil)))), _, rfl, p, C, dx, _, _, rfl, h1, T.cl, T.nP, tf_picks _ _ _, l, xs, rfl, .inl (SqL.of h4), fun r nr => q r xs nr h5⟩
def spMarks (C : Addr) : Sp := fun vs H Q _ => ∃ (p : Addr) (st en : Pl) (ps : List Pl), vs = [.ref p] ∧ TaskAt C H p st en ps ∧
  ∀ (H' : Hp) (r : Addr) (xs : List V), Same H H' → H r = none → H' r = some (.lst xs) → Prs H' xs (marksP (st :: en :: ps)) → Q (.ref r) H'
theorem ok_marks {f C CI : Addr} {fd : FuncData} (F : Fun K "marks" "Task.marks" s_Task_marks f fd) (T : TaskTxt K mg C CI) : FnOk P w K mg base CX0 1 f fd ["self"] (spMarks C) := by
  refine F.ok sc_Task_marks (fun vs H Q E h => ?_) (fun cdv A outer s H vs Q E hr h => ?_)
  · obtain ⟨p, st, en, ps, rfl, _⟩ := h
    rfl
  · obtain ⟨p, st, en, ps, rfl, ⟨dx, l, a, b, xs, h1, h2, h3, h4, h5, _, _, h8⟩, q⟩ := h
    have hl := h5.len
    refine ⟨_, (pss_one (ps_ret (pe_callB (call_sortS rfl hr.units) (by rfl) T.sorted (by decide +kernel) (pa_cons (pe_callTy (cr_setP rfl hr.units) (by rfl) T.set (by decide +kernel) (pa_cons (pe_op op_cat (pe_lst (pa_cons (pe_fld (pv 0) rfl) (pa_cons (pe_fld (pv 0) rfl) pa_nil))) (pe_fld (pv 0) rfl)) pa_nil)) pa_nil)))), ?_⟩
    refine ⟨_, rfl, p, C, dx, _, _, rfl, h1, T.cl, T.nS, tf_start _ _ _, _, rfl, p, C, dx, _, _, rfl, h1, T.cl, T.nE, tf_end _ _ _, (by show 2 ≤ sizeLine; decide), fun m nm => ?_⟩
    obtain ⟨H1, e1, k1, g1⟩ := made (o := .lst [a, b]) nm
    rw [e1]
    refine ⟨_, rfl, p, C, dx, _, _, rfl, k1 _ _ h1, T.cl, T.nP, tf_picks _ _ _, m, l, _, _, rfl, rfl, g1, k1 _ _ h4, ?_, fun c nc => ?_⟩
    · show 2 + xs.length ≤ sizeLine
      rw [sizeLine_eq]
      omega
    obtain ⟨H2, e2, k2, g2⟩ := made (o := .lst ([a, b] ++ xs)) nc
    rw [e2]
    have hx : Prs H2 ([a, b] ++ xs) (st :: en :: ps) := .cons (h2.same (k1.trans k2)) (.cons (h3.same (k1.trans k2)) (h5.same (k1.trans k2)))
    refine ⟨c, _, _, rfl, SqL.of g2, hx, by show ps.length + 2 < 64; omega, fun H3 s ns k3 hs => ⟨s, _, rfl, hs, fun r ys nr hys => ?_⟩⟩
    obtain ⟨H4, e4, k4, g4⟩ := made (o := .lst ys) nr
    rw [e4]
    exact q H4 r ys (((k1.trans k2).trans k3).trans k4) (((k1.trans k2).trans k3).free nr) g4 (hys.same k4)
def spHas (C : Addr) : Sp := fun vs H Q _ => ∃ (p : Addr) (v : V) (st en z : Pl) (ps : List Pl), vs = [.ref p, v] ∧ TaskAt C H p st en ps ∧ Pr H v z ∧ Q (.bl (decide (z ∈ ps))) H
theorem ok_has {f C CI : Addr} {fd : FuncData} (F : Fun K "has_pick" "Task.has_pick" s_Task_has_pick f fd) (T : TaskTxt K mg C CI) : FnOk P w K mg base CX0 1 f fd ["self", "place"] (spHas C) := by
  refine F.ok sc_Task_has_pick (fun vs H Q E h => ?_) (fun cdv A outer s H vs Q E hr h => ?_)
  · obtain ⟨p, v, st, en, z, ps, rfl, _⟩ := h
    rfl
  · obtain ⟨p, v, st, en, z, ps, rfl, ⟨dx, l, a, b, xs, h1, h2, h3, h4, h5, _⟩, hv, q⟩ := h
    refine ⟨_, (pss_one (ps_ret (pe_cmpR (op_inD (room65 hr)) (pv 1) (pe_fld (pv 0) rfl) (by rfl)))), ?_⟩
    refine ⟨_, rfl, _, rfl, p, C, dx, _, _, rfl, h1, T.cl, T.nP, tf_picks _ _ _, dP z, ps.map dP, hv.dp, h5.dl (SqL.of h4), sh_dP z, sh_dL ps, ?_⟩
    rw [any_dP]
    exact q
/-- an object of the class made: the heap as it is handed to __init__ -/
theorem mkSame {H : Hp} {x dx : Addr} {o u : HO} (n : H x = none) (m : H dx = none) : Same H (upd (upd H dx u) x o) := fun b o e => by
  rw [upd_ne (ne_of_none e n), upd_ne (ne_of_none e m)]
  exact e
theorem mkBut {H H' : Hp} {x dx : Addr} {o u : HO} (n : H x = none) (m : H dx = none) (k : But x (upd (upd H dx u) x o) H') : Same H H' := fun b o e => k b o (mkSame n m b o e) (ne_of_none e n)
/-- behind raise X(v), X a class with one attribute f -/
theorem raised {H : Hp} {a d C : Addr} {f : Str} {v : V} (ha : H a = none) (hd : (upd H a (exo a C none)) d = none) (hne : d ≠ a) :
    (upd (upd (upd H a (exo a C none)) d (exd d [(f, v)])) a (exo a C (some d))) a = some (exo a C (some d)) ∧ (upd (upd (upd H a (exo a C none)) d (exd d [(f, v)])) a (exo a C (some d))) d = some (exd d [(f, v)]) ∧ H d = none ∧
    Same H (upd (del (upd (upd (upd H a (exo a C none)) d (exd d [(f, v)])) a (exo a C (some d))) a) d (.xd [(f, v)])) := by
  have hdn : H d = none := by
    rw [upd_ne hne] at hd
    exact hd
  refine ⟨upd_same, by rw [upd_ne hne, upd_same], hdn, fun b o e => ?_⟩
  have h1 : b ≠ a := ne_of_none e ha
  have h2 : b ≠ d := ne_of_none e hdn
  rw [upd_ne h2, del_ne h1, upd_ne h1, upd_ne h2, upd_ne h1]
  exact e
/-- the errors of the changes: PickTaken, UnknownPick (with their __init__), TooLarge -/
structure ChgTxt (K : PySem.W.Frag) (mg : Str → Option Value) (CT CU CL fT fU : Addr) : Prop where
  gT : mg "PickTaken" = some (.ref CT)
  oT : OexC K CT
  nT : PySem.W.findIn K (.ref CT) "place" = some none
  iT : PySem.W.findIn K (.ref CT) "__init__" = some (some (.ref fT))
  yT : PySem.W.typeIn K (.ref fT) = some (.type "function")
  gU : mg "UnknownPick" = some (.ref CU)
  oU : OexC K CU
  nU : PySem.W.findIn K (.ref CU) "place" = some none
  iU : PySem.W.findIn K (.ref CU) "__init__" = some (some (.ref fU))
  yU : PySem.W.typeIn K (.ref fU) = some (.type "function")
  gL : mg "TooLarge" = some (.ref CL)
  kL : PySem.W.keepIn K (.ref CL) = true
  xL : PySem.W.excIn K CL [.type "ValueError", .type "Exception", .type "BaseException", .type "object"] "ValueError.__new__" = true
  bL : PySem.W.subIn K (.ref CL) (.type "BaseException") = some true
  tL : PySem.W.typeIn K (.ref CL) = some (.type "type")
def spWith (C CT CL : Addr) : Sp := fun vs H Q E => ∃ (p : Addr) (v : V) (st en z : Pl) (ps : List Pl), vs = [.ref p, v] ∧ TaskAt C H p st en ps ∧ Pr H v z ∧
  (z ∈ ps → ∀ (H' : Hp) (d : Addr), Same H H' → H' d = some (.xd [("place", v)]) → E (.ref CT) (some d) H') ∧
  (z ∉ ps → 60 ≤ ps.length → ∀ H' : Hp, Same H H' → E (.ref CL) none H') ∧
  (z ∉ ps → ps.length < 60 → ∀ (H' : Hp) (r : Addr), Same H H' → H r = none → TaskAt C H' r st en (sortP (ps ++ [z])) → Q (.ref r) H')
theorem ok_with {f C CI fI fH CT CU CL fT fU : Addr} {fd fdI fdH fdT : FuncData} (F : Fun K "with_pick" "Task.with_pick" s_Task_with_pick f fd) (T : TaskTxt K mg C CI) (U : ChgTxt K mg CT CU CL fT fU)
    (M : Mk K C fI) (FI : Fun K "__init__" "Task.__init__" s_Task___init__ fI fdI) (bI : Binds K fdI ["self", "start", "end", "picks"] []) (FH : Fun K "has_pick" "Task.has_pick" s_Task_has_pick fH fdH) (bH : Binds K fdH ["self", "place"] []) (mH : Meth K C "has_pick" fH)
    (FT : Fun K "__init__" "PickTaken.__init__" s_PickTaken___init__ fT fdT) (bT : Binds K fdT ["self", "place"] []) : FnOk P w K mg base (L2.CX P w) 4 f fd ["self", "place"] (spWith C CT CL) := by
  have GI : FnOk P w K mg base (L2.CX P w) 2 fI fdI ["self", "start", "end", "picks"] (spTask K C CI) := ok_task FI T
  have GH : FnOk P w K mg base CX0 1 fH fdH ["self", "place"] (spHas C) := ok_has FH T
  have GT : FnOk P w K mg base CX0 1 fT fdT ["self", "place"] (spXI K CT "place") := ok_taken FT
  refine F.okX sc_Task_with_pick (fun vs H Q E h => ?_) (fun cdv A outer s H vs Q E hr h => ?_)
  · obtain ⟨p, v, st, en, z, ps, rfl, _⟩ := h
    rfl
  · obtain ⟨p, v, st, en, z, ps, rfl, hT, hv, q1, q2, q3⟩ := h
    obtain ⟨dx, l, a, b, xs, h1, h2, h3, h4, h5, h6, h7, h8⟩ := id hT
    obtain ⟨t, hmost⟩ := T.most
    have hxl := h5.len
    refine ⟨_, (pss_cons (ps_if (pt_val (pe_meth (pv 0) T.cl mH GH (by exact hr.mono (by decide)) bH .nil pass0 (pa_cons (pv 1) pa_nil))) (pss_one (ps_raise rfl (takes_of rfl rfl rfl rfl) (pmk_oex U.oT U.iT U.yT GT (by exact hr.mono (by decide)) bT .nil pass0 (by rfl) U.gT (pa_cons (pv 1) pa_nil)))) pss_nil)
      (pss_cons (ps_if (pt_cmpR op_ge (pe_callB call_len (by rfl) T.len (by decide +kernel) (pa_cons (pe_fld (pv 0) rfl) pa_nil)) (pe_glob (v := .int 60) rfl hmost ⟨_, rfl⟩) (nomark _)) (pss_one (ps_raise rfl (takes_of rfl rfl rfl rfl) (pmk_own PySem.F.excBase_ValueError U.xL U.gL U.kL (raises_own U.bL U.tL) rfl))) pss_nil)
      (pss_one (ps_ret (pe_make M GI hr (by rfl) T.mgC bI .nil (passes_call (takes_of rfl rfl rfl rfl) fun _ _ _ _ h => h) (pa_cons (pe_fld (pv 0) rfl) (pa_cons (pe_fld (pv 0) rfl) (pa_cons (pe_op op_cat (pe_fld (pv 0) rfl) (pe_lst (pa_cons (pv 1) pa_nil))) pa_nil)))))))), ?_⟩
    refine ⟨_, rfl, p, dx, _, rfl, h1, tf_no _ _ _ (by decide +kernel) (by decide +kernel) (by decide +kernel), _, rfl, p, v, st, en, z, ps, rfl, hT, hv, _, rfl, ?_⟩
    refine ite2 (fun hc => ?_) (fun hc => ?_)
    · have hz := of_decide_eq_true hc
      refine ⟨_, rfl, by show 1 ≤ 1000; decide, fun e ne => ⟨e, v, rfl, U.oT, U.nT, upd_same, fun d hd hne => ⟨rfl, d, [("place", v)], ?_⟩⟩⟩
      obtain ⟨g1, g2, g3, g4⟩ := raised (f := "place") (v := v) ne hd hne
      exact ⟨g1, g2, g3, q1 hz _ d g4 upd_same⟩
    · have hz : z ∉ ps := fun m => hc (decide_eq_true m)
      refine ⟨_, rfl, p, C, dx, _, _, rfl, h1, T.cl, T.nP, tf_picks _ _ _, _, _, rfl, .inl ⟨_, SqL.of h4, rfl⟩, _, _, rfl, rfl, _, rfl, ?_⟩
      refine ite2 (fun hd => ?_) (fun hd => ?_)
      · have hd' := of_decide_eq_true hd
        exact q2 hz (by omega) H (Same.refl _)
      · have hlt : ps.length < 60 := by
          have : ¬ ((60 : Int) ≤ (xs.length : Int)) := fun y => hd (decide_eq_true y)
          omega
        refine ⟨_, rfl, p, C, dx, _, _, rfl, h1, T.cl, T.nS, tf_start _ _ _, _, rfl, p, C, dx, _, _, rfl, h1, T.cl, T.nE, tf_end _ _ _, _, rfl, p, C, dx, _, _, rfl, h1, T.cl, T.nP, tf_picks _ _ _, _, rfl, (by show 1 ≤ sizeLine; decide), fun m nm => ?_⟩
        obtain ⟨H1, e1, k1, g1⟩ := made (o := .lst [v]) nm
        rw [e1]
        refine ⟨l, m, _, _, rfl, rfl, k1 _ _ h4, g1, ?_, fun c nc => ?_⟩
        · show xs.length + 1 ≤ sizeLine
          rw [sizeLine_eq]
          omega
        obtain ⟨H2, e2, k2, g2⟩ := made (o := .lst (xs ++ [v])) nc
        rw [e2]
        intro x dy nx ndy nexy
        have k3 := mkSame (o := .ins C dy []) (u := .own x) nx ndy
        have k := (k1.trans k2).trans k3
        refine ⟨x, dy, c, a, b, st, en, xs ++ [v], ps ++ [z], rfl, upd_same, h2.same k, h3.same k, SqL.of (k3 _ _ g2), (h5.same k).snoc (hv.same k), ?_, fun _ _ H' hT' hb' _ => ⟨rfl, ?_⟩, fun hbad => ?_⟩
        · rw [List.length_append]
          show ps.length + 1 ≤ 1000
          omega
        · exact q3 hz hlt H' x ((k1.trans k2).trans (mkBut nx ndy hb')) (((k1.trans k2)).free nx) hT'
        · refine (hbad ⟨?_, ?_⟩).elim
          · rw [List.length_append]
            show ps.length + 1 ≤ 60
            omega
          · exact List.nodup_append.mpr ⟨h7, List.nodup_cons.mpr ⟨by simp, .nil⟩, fun y hy y' hy' e => hz (by rw [List.mem_singleton.mp hy'] at e; rw [← e]; exact hy)⟩
def spWithout (C CU : Addr) : Sp := fun vs H Q E => ∃ (p : Addr) (v : V) (st en z : Pl) (ps : List Pl), vs = [.ref p, v] ∧ TaskAt C H p st en ps ∧ Pr H v z ∧
  (z ∉ ps → ∀ (H' : Hp) (d : Addr), Same H H' → H' d = some (.xd [("place", v)]) → E (.ref CU) (some d) H') ∧
  (z ∈ ps → ∀ (H' : Hp) (r : Addr), Same H H' → H r = none → TaskAt C H' r st en (sortP (ps.filter fun q => !decide (q = z))) → Q (.ref r) H')
theorem ok_without {f C CI fI fH CT CU CL fT fU : Addr} {fd fdI fdH fdU : FuncData} (F : Fun K "without_pick" "Task.without_pick" s_Task_without_pick f fd) (T : TaskTxt K mg C CI) (U : ChgTxt K mg CT CU CL fT fU)
    (M : Mk K C fI) (FI : Fun K "__init__" "Task.__init__" s_Task___init__ fI fdI) (bI : Binds K fdI ["self", "start", "end", "picks"] []) (FH : Fun K "has_pick" "Task.has_pick" s_Task_has_pick fH fdH) (bH : Binds K fdH ["self", "place"] []) (mH : Meth K C "has_pick" fH)
    (FU : Fun K "__init__" "UnknownPick.__init__" s_UnknownPick___init__ fU fdU) (bU : Binds K fdU ["self", "place"] []) : FnOk P w K mg base (L2.CX P w) 4 f fd ["self", "place"] (spWithout C CU) := by
  have GI : FnOk P w K mg base (L2.CX P w) 2 fI fdI ["self", "start", "end", "picks"] (spTask K C CI) := ok_task FI T
  have GH : FnOk P w K mg base CX0 1 fH fdH ["self", "place"] (spHas C) := ok_has FH T
  have GU : FnOk P w K mg base CX0 1 fU fdU ["self", "place"] (spXI K CU "place") := ok_unknown FU
  refine F.okX sc_Task_without_pick (fun vs H Q E h => ?_) (fun cdv A outer s H vs Q E hr h => ?_)
  · obtain ⟨p, v, st, en, z, ps, rfl, _⟩ := h
    rfl
  · obtain ⟨p, v, st, en, z, ps, rfl, hT, hv, q1, q2⟩ := h
    obtain ⟨dx, l, a, b, xs, h1, h2, h3, h4, h5, h6, h7, h8⟩ := id hT
    have hxl := h5.len
    have nd := sc_Task_without_pick.nd
    refine ⟨_, (pss_cons (ps_if (pt_not (pt_val (pe_meth (pv 0) T.cl mH GH (by exact hr.mono (by decide)) bH .nil pass0 (pa_cons (pv 1) pa_nil)))) (pss_one (ps_raise rfl (takes_of rfl rfl rfl rfl) (pmk_oex U.oU U.iU U.yU GU (by exact hr.mono (by decide)) bU .nil pass0 (by rfl) U.gU (pa_cons (pv 1) pa_nil)))) pss_nil)
      (pss_one (ps_ret (pe_make M GI hr (by rfl) T.mgC bI .nil (passes_call (takes_of rfl rfl rfl rfl) fun _ _ _ _ h => h) (pa_cons (pe_fld (pv 0) rfl) (pa_cons (pe_fld (pv 0) rfl) (pa_cons (pe_lc (own := [("pick", 2)]) (g := gName 2) (tt := _) rfl nd (pi_list (pe_fld (pv 0) rfl)) (blkOk_by (N := ["self", "place", "pick"]) (sc := defScope s_Task_without_pick) (by decide +kernel)) (fun _ _ _ _ _ => pg_name (i := 2) nd rfl (Or.inl rfl)) (fun _ _ _ _ _ => pts_one (pt_cmpR (r := rNeD K) (op_neD (by exact hr.units)) (pv 2) (pv 1) (nomark _))) (fun _ _ _ _ _ => pv 2)) pa_nil))))))), ?_⟩
    refine ⟨_, rfl, p, dx, _, rfl, h1, tf_no _ _ _ (by decide +kernel) (by decide +kernel) (by decide +kernel), _, rfl, p, v, st, en, z, ps, rfl, hT, hv, _, rfl, ?_⟩
    refine ite2 (fun hc => ?_) (fun hc => ?_)
    · have hz : z ∉ ps := fun m => by
        rw [decide_eq_true m] at hc
        cases hc
      refine ⟨_, rfl, by show 1 ≤ 1000; decide, fun e ne => ⟨e, v, rfl, U.oU, U.nU, upd_same, fun d hd hne => ⟨rfl, d, [("place", v)], ?_⟩⟩⟩
      obtain ⟨g1, g2, g3, g4⟩ := raised (f := "place") (v := v) ne hd hne
      exact ⟨g1, g2, g3, q1 hz _ d g4 upd_same⟩
    · have hz : z ∈ ps := Decidable.byContradiction fun m => hc (by rw [decide_eq_false m]; rfl)
      refine ⟨_, rfl, p, C, dx, _, _, rfl, h1, T.cl, T.nS, tf_start _ _ _, _, rfl, p, C, dx, _, _, rfl, h1, T.cl, T.nE, tf_end _ _ _, _, rfl, p, C, dx, _, _, rfl, h1, T.cl, T.nP, tf_picks _ _ _, l, rfl, ⟨_, SqL.of h4⟩, fun D hD => ?_⟩
      have sD : Same H (upd H D (.lst [])) := same_upd hD
      refine lc_list (K := K) (a := l) (xs := xs) (fun i H' => ∃ vs : List V, Same H H' ∧ H' D = some (.lst vs) ∧ Prs H' vs ((ps.take i).filter fun q => !decide (q = z)) ∧ vs.length ≤ i) ?_ ?_ ?_ ?_
      · exact ⟨[], sD, upd_same, .nil, Nat.le_refl _⟩
      · exact fun i H' _ ⟨_, k, _⟩ => SqL.of (k _ _ h4)
      · rintro i y H' hi ⟨vs, k, hd, hp, hle⟩
        have hil : i < xs.length := (List.getElem?_eq_some_iff.mp hi).1
        obtain ⟨q, hq, hy⟩ := (h5.same k).at hi
        have etake : ps.take (i + 1) = ps.take i ++ [q] := by
          rw [List.take_add_one, hq]
          rfl
        refine ⟨rfl, _, rfl, _, rfl, dP q, dP z, hy.dp, (hv.same k).dp, sh_dP q, sh_dP z, _, rfl, ?_⟩
        rw [eqv_dP]
        have sU : ∀ o, Same H (upd H' D o) := fun o b u e => by
          rw [upd_ne (ne_of_none e hD)]
          exact k b u e
        have keepU : ∀ o {ws : List V} {qs : List Pl}, Prs H' ws qs → Prs (upd H' D o) ws qs := fun o {ws qs} h => by
          induction h with
          | nil => exact .nil
          | cons x _ ih =>
            obtain ⟨t, rfl, ht⟩ := x
            exact .cons ⟨t, rfl, by rw [upd_ne (ne_of ht hd (by intro z; cases z))]; exact ht⟩ ih
        refine ite2 (fun he => ?_) (fun he => ?_)
        · have hne : ¬ q = z := fun e => by
            rw [decide_eq_true e] at he
            cases he
          refine ⟨_, rfl, vs, hd, Nat.lt_of_le_of_lt hle (by rw [sizeLine_eq]; omega), vs ++ [y], sU _, upd_same, ?_, by rw [List.length_append]; show vs.length + 1 ≤ i + 1; omega⟩
          rw [etake, List.filter_append]
          have hf : ([q].filter fun q => !decide (q = z)) = [q] := by simp [hne]
          rw [hf]
          exact keepU _ (hp.snoc hy)
        · have heq : q = z := Decidable.byContradiction fun m => he (by rw [decide_eq_false m]; rfl)
          refine ⟨vs, k, hd, ?_, by omega⟩
          rw [etake, List.filter_append]
          have hf : ([q].filter fun q => !decide (q = z)) = [] := by simp [heq]
          rw [hf, List.append_nil]
          exact hp
      · rintro H' ⟨vs, k, hd, hp, hle⟩
        rw [hxl, List.take_length] at hp
        intro x dy nx ndy nexy
        have k3 := mkSame (o := .ins C dy []) (u := .own x) nx ndy
        have kk := k.trans k3
        have hfl : (ps.filter fun q => !decide (q = z)).length ≤ ps.length := List.length_filter_le _ _
        refine ⟨x, dy, D, a, b, st, en, vs, _, rfl, upd_same, h2.same kk, h3.same kk, SqL.of (k3 _ _ hd), hp.same k3, by omega, fun _ _ H2 hT' hb' _ => ⟨rfl, ?_⟩, fun hbad => ?_⟩
        · exact q2 hz H2 x (k.trans (mkBut nx ndy hb')) (k.free nx) hT'
        · exact (hbad ⟨by omega, h7.filter _⟩).elim
/-- a task with these ends and just the picks of the one that is asked: with_ends, turned -/
def spEnds (C : Addr) : Sp := fun vs H Q _ => ∃ (p : Addr) (v u : V) (st en y z : Pl) (ps : List Pl), vs = [.ref p, v, u] ∧ TaskAt C H p st en ps ∧ Pr H v y ∧ Pr H u z ∧
  ∀ (H' : Hp) (r : Addr), Same H H' → H r = none → TaskAt C H' r y z ps → Q (.ref r) H'
theorem ok_ends {f C CI fI : Addr} {fd fdI : FuncData} (F : Fun K "with_ends" "Task.with_ends" s_Task_with_ends f fd) (T : TaskTxt K mg C CI) (M : Mk K C fI) (FI : Fun K "__init__" "Task.__init__" s_Task___init__ fI fdI) (bI : Binds K fdI ["self", "start", "end", "picks"] []) :
    FnOk P w K mg base CX0 4 f fd ["self", "start", "end"] (spEnds C) := by
  have GI : FnOk P w K mg base (L2.CX P w) 2 fI fdI ["self", "start", "end", "picks"] (spTask K C CI) := ok_task FI T
  refine F.ok sc_Task_with_ends (fun vs H Q E h => ?_) (fun cdv A outer s H vs Q E hr h => ?_)
  · obtain ⟨p, v, u, st, en, y, z, ps, rfl, _⟩ := h
    rfl
  · obtain ⟨p, v, u, st, en, y, z, ps, rfl, ⟨dx, l, a, b, xs, h1, h2, h3, h4, h5, h6, h7, h8⟩, hv, hu, q⟩ := h
    refine ⟨_, (pss_one (ps_ret (pe_make M GI hr (by rfl) T.mgC bI .nil (passes_call takes0 fun _ _ _ _ h => h) (pa_cons (pv 1) (pa_cons (pv 2) (pa_cons (pe_fld (pv 0) rfl) pa_nil)))))), ?_⟩
    refine ⟨_, rfl, _, rfl, _, rfl, p, C, dx, _, _, rfl, h1, T.cl, T.nP, tf_picks _ _ _, ?_⟩
    intro x dy nx ndy nexy
    have k := mkSame (o := .ins C dy []) (u := .own x) nx ndy
    refine ⟨x, dy, l, v, u, y, z, xs, ps, rfl, upd_same, hv.same k, hu.same k, SqL.of (k _ _ h4), h5.same k, by omega, fun _ _ H2 hT' hb' _ => ⟨rfl, ?_⟩, fun hbad => (hbad ⟨h8, h7⟩).elim⟩
    rw [sortP_id h6] at hT'
    exact q H2 x (mkBut nx ndy hb') nx hT'
def spTurned (C : Addr) : Sp := fun vs H Q _ => ∃ (p : Addr) (st en : Pl) (ps : List Pl), vs = [.ref p] ∧ TaskAt C H p st en ps ∧
  ∀ (H' : Hp) (r : Addr), Same H H' → H r = none → TaskAt C H' r en st ps → Q (.ref r) H'
theorem ok_turned {f C CI fI : Addr} {fd fdI : FuncData} (F : Fun K "turned" "Task.turned" s_Task_turned f fd) (T : TaskTxt K mg C CI) (M : Mk K C fI) (FI : Fun K "__init__" "Task.__init__" s_Task___init__ fI fdI) (bI : Binds K fdI ["self", "start", "end", "picks"] []) :
    FnOk P w K mg base CX0 4 f fd ["self"] (spTurned C) := by
  have GI : FnOk P w K mg base (L2.CX P w) 2 fI fdI ["self", "start", "end", "picks"] (spTask K C CI) := ok_task FI T
  refine F.ok sc_Task_turned (fun vs H Q E h => ?_) (fun cdv A outer s H vs Q E hr h => ?_)
  · obtain ⟨p, st, en, ps, rfl, _⟩ := h
    rfl
  · obtain ⟨p, st, en, ps, rfl, ⟨dx, l, a, b, xs, h1, h2, h3, h4, h5, h6, h7, h8⟩, q⟩ := h
    refine ⟨_, (pss_one (ps_ret (pe_make M GI hr (by rfl) T.mgC bI .nil (passes_call takes0 fun _ _ _ _ h => h) (pa_cons (pe_fld (pv 0) rfl) (pa_cons (pe_fld (pv 0) rfl) (pa_cons (pe_fld (pv 0) rfl) pa_nil)))))), ?_⟩
    refine ⟨_, rfl, p, C, dx, _, _, rfl, h1, T.cl, T.nE, tf_end _ _ _, _, rfl, p, C, dx, _, _, rfl, h1, T.cl, T.nS, tf_start _ _ _, _, rfl, p, C, dx, _, _, rfl, h1, T.cl, T.nP, tf_picks _ _ _, ?_⟩
    intro x dy nx ndy nexy
    have k := mkSame (o := .ins C dy []) (u := .own x) nx ndy
    refine ⟨x, dy, l, b, a, en, st, xs, ps, rfl, upd_same, h3.same k, h2.same k, SqL.of (k _ _ h4), h5.same k, by omega, fun _ _ H2 hT' hb' _ => ⟨rfl, ?_⟩, fun hbad => (hbad ⟨h8, h7⟩).elim⟩
    rw [sortP_id h6] at hT'
    exact q H2 x (mkBut nx ndy hb') nx hT'
/-- start, end and picks, as a tuple -/
def dT (st en : Pl) (ps : List Pl) : PyData := .tuple [dP st, dP en, dL ps]
theorem eqv_dT (st en : Pl) (ps : List Pl) (st' en' : Pl) (ps' : List Pl) : PyData.eqv (dT st en ps) (dT st' en' ps') = decide (st = st' ∧ en = en' ∧ ps = ps') := by
  show PyData.eqvAll [dP st, dP en, dL ps] [dP st', dP en', dL ps'] = _
  simp only [PyData.eqvAll, eqv_dP, eqv_dL, Bool.and_true, Bool.decide_and]
theorem sh_dT (st en : Pl) (ps : List Pl) : SeqAt.shaped (dT st en ps) = true := by
  have h := depth_dPs ps
  have e : PyData.canLay0 (dT st en ps) = PyData.canLayAll0 (ps.map dP) := by
    show (true && (true && (PyData.canLayAll0 (ps.map dP) && true))) = _
    simp
  unfold SeqAt.shaped
  rw [e, lay_dPs]
  refine decide_eq_true ?_
  show max 1 (max 1 (max (PyData.depthAll (ps.map dP) + 1) 0)) + 1 ≤ 64
  omega
def spSame (C : Addr) : Sp := fun vs H Q _ => ∃ (p r : Addr) (st en st' en' : Pl) (ps ps' : List Pl), vs = [.ref p, .ref r] ∧ TaskAt C H p st en ps ∧ TaskAt C H r st' en' ps' ∧
  ∀ H', Same H H' → Q (.bl (decide (st = st' ∧ en = en' ∧ ps = ps'))) H'
theorem ok_same {f C CI fP pp : Addr} {fd fdP : FuncData} (F : Fun K "same_as" "Task.same_as" s_Task_same_as f fd) (T : TaskTxt K mg C CI) (FP : Fun K "picks" "Task.picks" s_Task_picks fP fdP) (bP : Binds K fdP ["self"] []) (hP : PropOf K C "picks" pp fP) :
    FnOk P w K mg base CX0 3 f fd ["self", "other"] (spSame C) := by
  have GP : FnOk P w K mg base CX0 1 fP fdP ["self"] (spPicks C) := ok_picks FP T
  refine F.ok sc_Task_same_as (fun vs H Q E h => ?_) (fun cdv A outer s H vs Q E hr h => ?_)
  · obtain ⟨p, r, st, en, st', en', ps, ps', rfl, _⟩ := h
    rfl
  · obtain ⟨p, r, st, en, st', en', ps, ps', rfl, hT, hR, q⟩ := h
    obtain ⟨dx, l, a, b, xs, h1, h2, h3, h4, h5, h6, h7, h8⟩ := id hT
    refine ⟨_, (pss_one (ps_ret (pe_cmpR (op_eqD hr.units) (pe_tup (pa_cons (pe_fld (pv 0) rfl) (pa_cons (pe_fld (pv 0) rfl) (pa_cons (pe_prop (pv 0) T.cl hP GP hr bP .nil pass0 rfl) pa_nil)))) (pe_tup (pa_cons (pe_fld (pv 1) rfl) (pa_cons (pe_fld (pv 1) rfl) (pa_cons (pe_prop (pv 1) T.cl hP GP hr bP .nil pass0 rfl) pa_nil)))) (nomark _)))), ?_⟩
    refine ⟨_, rfl, p, C, dx, _, _, rfl, h1, T.cl, T.nS, tf_start _ _ _, _, rfl, p, C, dx, _, _, rfl, h1, T.cl, T.nE, tf_end _ _ _, _, rfl, p, dx, _, rfl, h1, p, st, en, ps, rfl, hT, fun m ys nm hys => ⟨(by show 3 ≤ sizeLine; decide), fun t nt => ?_⟩⟩
    obtain ⟨H1, e1, k1, g1⟩ := made (o := .lst ys) nm
    rw [e1] at nt ⊢
    obtain ⟨H2, e2, k2, g2⟩ := made (o := .tup [a, b, .ref m]) nt
    rw [e2]
    have k := k1.trans k2
    obtain ⟨dx', l', a', b', xs', h1', h2', h3', h4', h5', _⟩ := id (hR.same k)
    refine ⟨_, rfl, r, C, dx', _, _, rfl, h1', T.cl, T.nS, tf_start _ _ _, _, rfl, r, C, dx', _, _, rfl, h1', T.cl, T.nE, tf_end _ _ _, _, rfl, r, dx', _, rfl, h1', r, st', en', ps', rfl, hR.same k, fun m' ys' nm' hys' => ⟨(by show 3 ≤ sizeLine; decide), fun t' nt' => ?_⟩⟩
    obtain ⟨H3, e3, k3, g3⟩ := made (o := .lst ys') nm'
    rw [e3] at nt' ⊢
    obtain ⟨H4, e4, k4, g4⟩ := made (o := .tup [a', b', .ref m']) nt'
    rw [e4]
    have kk := k3.trans k4
    have d1 : Dp K H4 (.ref t) (dT st en ps) := .tup (SqT.of (kk _ _ g2)) (.cons (h2.same (k.trans kk)).dp (.cons (h3.same (k.trans kk)).dp (.cons ((hys.same (k1.trans (k2.trans kk))).dl (SqL.of (kk _ _ (k2 _ _ g1)))) .nil)))
    have d2 : Dp K H4 (.ref t') (dT st' en' ps') := .tup (SqT.of g4) (.cons (h2'.same kk).dp (.cons (h3'.same kk).dp (.cons ((hys'.same kk).dl (SqL.of (k4 _ _ g3))) .nil)))
    refine ⟨_, _, d1, d2, sh_dT _ _ _, sh_dT _ _ _, ?_⟩
    rw [eqv_dT]
    exact q H4 (k.trans kk)
end
section
variable {P : Program} {w : World} {K : PySem.W.Frag} {mg : Str → Option Value} {base : Heap}
structure TopDef (P : Program) (w : World) (K : PySem.W.Frag) (mg : Str → Option Value) (base : Heap) (CX : CXT) (k : Nat) (x : Str) (ps : List Str) (sp : Sp) where
  f : Addr
  fd : FuncData
  G : FnOk P w K mg base CX k f fd ps sp
  b : Binds K fd ps []
  g : mg x = some (.ref f)
  kp : PySem.W.keepIn K (.ref f) = true
structure MethDef (P : Program) (w : World) (K : PySem.W.Frag) (mg : Str → Option Value) (base : Heap) (C : Addr) (CX : CXT) (k : Nat) (x : Str) (ps : List Str) (sp : Sp) where
  f : Addr
  fd : FuncData
  G : FnOk P w K mg base CX k f fd ps sp
  b : Binds K fd ps []
  m : Meth K C x f
/-- the class of tasks as the law finds it -/
structure Tasks (P : Program) (w : World) (K : PySem.W.Frag) (mg : Str → Option Value) (base : Heap) where
  C : Addr
  CI : Addr
  CT : Addr
  CU : Addr
  CL : Addr
  T : TaskTxt K mg C CI
  fT : Addr
  fU : Addr
  U : ChgTxt K mg CT CU CL fT fU
  fI : Addr
  fdI : FuncData
  M : Mk K C fI
  GI : FnOk P w K mg base (L2.CX P w) 2 fI fdI ["self", "start", "end", "picks"] (spTask K C CI)
  bI : Binds K fdI ["self", "start", "end", "picks"] []
  fP : Addr
  pp : Addr
  fdP : FuncData
  hP : PropOf K C "picks" pp fP
  GP : FnOk P w K mg base CX0 1 fP fdP ["self"] (spPicks C)
  bP : Binds K fdP ["self"] []
  marks : MethDef P w K mg base C CX0 1 "marks" ["self"] (spMarks C)
  has : MethDef P w K mg base C CX0 1 "has_pick" ["self", "place"] (spHas C)
  wth : MethDef P w K mg base C (L2.CX P w) 4 "with_pick" ["self", "place"] (spWith C CT CL)
  wto : MethDef P w K mg base C (L2.CX P w) 4 "without_pick" ["self", "place"] (spWithout C CU)
  ends : MethDef P w K mg base C CX0 4 "with_ends" ["self", "start", "end"] (spEnds C)
  turned : MethDef P w K mg base C CX0 4 "turned" ["self"] (spTurned C)
  same : MethDef P w K mg base C CX0 3 "same_as" ["self", "other"] (spSame C)
  range : mg "range" = none
  int : mg "int" = none
  isi : mg "isinstance" = none
  eT : PySem.W.exmOne K (.ref CT) (.ref CT) = some true
  eU : PySem.W.exmOne K (.ref CU) (.ref CU) = some true
  eUT : PySem.W.exmOne K (.ref CU) (.ref CT) = some false
  eL : PySem.W.exmOne K (.ref CL) (.ref CL) = some true
  eI : PySem.W.exmOne K (.ref CI) (.ref CI) = some true
  xT : XfC K CT
  xU : XfC K CU
/-- the place that a number gives -/
def plc (n : Int) : Pl := (n % 5 - 1, n / 5 % 7 - 1)
def spPlace : Sp := fun vs H Q _ => ∃ n : Int, vs = [.int n] ∧ ∀ (H' : Hp) (v : V), Same H H' → Pr H' v (plc n) → Q v H'
theorem ok_place {f : Addr} {fd : FuncData} (F : Fun K "_law_place" "_law_place" s__law_place f fd) (hint : mg "int" = none) : FnOk P w K mg base CX0 1 f fd ["number"] spPlace := by
  refine F.ok sc__law_place (fun vs H Q E h => ?_) (fun cdv A outer s H vs Q E hr h => ?_)
  · obtain ⟨n, rfl, _⟩ := h
    rfl
  · obtain ⟨n, rfl, q⟩ := h
    refine ⟨_, (pss_one (ps_ret (pe_tup (pa_cons (pe_op op_sub (pe_op op_mod (pe_callTy call_int1 (by rfl) hint (by decide +kernel) (pa_cons (pv 0) pa_nil)) pe_int) pe_int) (pa_cons (pe_op op_sub (pe_op op_mod (pe_op op_fdiv (pe_callTy call_int1 (by rfl) hint (by decide +kernel) (pa_cons (pv 0) pa_nil)) pe_int) pe_int) pe_int) pa_nil))))), ?_⟩
    refine ⟨_, rfl, .inl ⟨_, rfl, _, _, rfl, rfl, (by show (0 : Int) < 5; decide), _, _, rfl, rfl, _, rfl, .inl ⟨_, rfl, _, _, rfl, rfl, ⟨by decide, by decide⟩, _, _, rfl, rfl, (by show (0 : Int) < 7; decide), _, _, rfl, rfl, (by show 2 ≤ sizeLine; decide), fun t nt => ?_⟩⟩⟩
    exact q _ _ (same_upd nt) ⟨t, rfl, upd_same⟩
def spIs (C : Addr) : Sp := fun vs H Q _ => ∃ (p l : Addr) (a b : V) (st en : Pl) (xs : List V) (ps : List Pl), vs = [.ref p, a, b, .ref l] ∧ TaskAt C H p st en (sortP ps) ∧ Pr H a st ∧ Pr H b en ∧ H l = some (.lst xs) ∧ Prs H xs ps ∧ ps.Nodup ∧ ps.length ≤ 40 ∧
  ∀ H', Same H H' → Q (.bl true) H'
theorem marks_eq (st en : Pl) (ps : List Pl) : marksP (st :: en :: sortP ps) = marksP (ps ++ [st, en]) := marksP_congr fun p => by
  simp only [List.mem_cons, List.mem_append, sortP_mem, List.not_mem_nil, or_false]
  exact ⟨fun h => h.elim (fun h => .inr (.inl h)) fun h => h.elim (fun h => .inr (.inr h)) .inl, fun h => h.elim (fun h => .inr (.inr h)) fun h => h.elim .inl fun h => .inr (.inl h)⟩
theorem ok_is {f : Addr} {fd : FuncData} (F : Fun K "_law_is" "_law_is" s__law_is f fd) (Z : Tasks P w K mg base) : FnOk P w K mg base CX0 6 f fd ["task", "start", "end", "picks"] (spIs Z.C) := by
  refine F.ok sc__law_is (fun vs H Q E h => ?_) (fun cdv A outer s H vs Q E hr h => ?_)
  · obtain ⟨p, l, a, b, st, en, xs, ps, rfl, _⟩ := h
    rfl
  · obtain ⟨p, l, a, b, st, en, xs, ps, rfl, hT, ha, hb, hl, hx, hn, hz, q⟩ := h
    have nd := sc__law_is.nd
    have hxl := hx.len
    refine ⟨_, (pss_cons (ps_set (i := 4) nd rfl (.inl rfl) (pe_callB (call_sortS rfl hr.units) (by rfl) Z.T.sorted (by decide +kernel) (pa_cons (pe_callTy (cr_setP rfl hr.units) (by rfl) Z.T.set (by decide +kernel) (pa_cons (pe_op op_cat (pv 3) (pe_lst (pa_cons (pv 1) (pa_cons (pv 2) pa_nil)))) pa_nil)) pa_nil)))
      (pss_cons (ps_for PassesOwn.never rfl (pi_range1 rfl Z.range (pa_cons pe_int pa_nil)) (pg_name (i := 5) nd rfl (.inl rfl)) (pss_cons (ps_set (i := 6) nd rfl (.inl rfl) (pe_lst (pa_cons (pe_prop (pv 0) Z.T.cl Z.hP Z.GP (by exact hr.mono (by decide)) Z.bP .nil pass0 rfl) (pa_cons (pe_meth0 (pv 0) Z.T.cl Z.marks.m Z.marks.G (by exact hr.mono (by decide)) Z.marks.b .nil pass0) pa_nil))))
      (pss_cons (ps_if (PW.pt (pw_or (pt_cmpR (op_neD hr.units) (pe_tup (pa_cons (pe_fld (pv 0) rfl) (pa_cons (pe_fld (pv 0) rfl) pa_nil))) (pe_tup (pa_cons (pv 1) (pa_cons (pv 2) pa_nil))) (nomark _)) (pw_or1 (pt_cmpR (op_neD hr.units) (pv 6) (pe_lst (pa_cons (pe_callB call_sortP (by rfl) Z.T.sorted (by decide +kernel) (pa_cons (pv 3) pa_nil)) (pa_cons (pv 4) pa_nil))) (nomark _))))) (pss_one (ps_ret pe_bl)) pss_nil)
      (pss_cons (ps_expr (pe_bm PySem.F.plainAttrs_list PySem.F.slot_list_append PySem.F.type_list_append mt_append (pe_ix ix_list (pv 6) pe_int (fun _ _ => rfl)) (pa_cons pe_int pa_nil)))
      (pss_one (ps_expr (pe_bm PySem.F.plainAttrs_list PySem.F.slot_list_append PySem.F.type_list_append mt_append (pe_ix ix_list (pv 6) pe_int (fun _ _ => rfl)) (pa_cons pe_int pa_nil))))))))
      (pss_cons (ps_set (i := 7) nd rfl (.inl rfl) (pe_make Z.M Z.GI (by exact hr.mono (by decide)) (by rfl) Z.T.mgC Z.bI .nil (passes_call takes0 fun _ _ _ _ h => h) (pa_cons (pv 1) (pa_cons (pv 2) (pa_cons (pe_revL (pv 3)) pa_nil)))))
      (pss_one (ps_ret (pe_and (pe_cmpR op_isBl (pe_meth (pv 0) Z.T.cl Z.same.m Z.same.G (by exact hr.mono (by decide)) Z.same.b .nil pass0 (pa_cons (pv 7) pa_nil)) pe_bl (nomark _)) (pe_one (pe_cmpR op_isBl (pe_meth (pv 7) Z.T.cl Z.same.m Z.same.G (by exact hr.mono (by decide)) Z.same.b .nil pass0 (pa_cons (pv 0) pa_nil)) pe_bl (nomark _))))))))), ?_⟩
    -- marks
    refine ⟨_, rfl, _, rfl, _, rfl, (by show 2 ≤ sizeLine; decide), fun m nm => ?_⟩
    obtain ⟨H1, e1, k1, g1⟩ := made (o := .lst [a, b]) nm
    rw [e1]
    refine ⟨l, m, _, _, rfl, rfl, k1 _ _ hl, g1, ?_, fun c nc => ?_⟩
    · show xs.length + 2 ≤ sizeLine
      rw [sizeLine_eq]
      omega
    obtain ⟨H2, e2, k2, g2⟩ := made (o := .lst (xs ++ [a, b])) nc
    rw [e2]
    have k12 := k1.trans k2
    have hm : Prs H2 (xs ++ [a, b]) (ps ++ [st, en]) := (hx.same k12).app (.cons (ha.same k12) (.cons (hb.same k12) .nil))
    refine ⟨c, _, _, rfl, SqL.of g2, hm, by rw [List.length_append]; show ps.length + 2 < 64; omega, fun H3 s0 ns0 k3 hs0 => ⟨s0, _, rfl, hs0, fun r ys nr hys => ?_⟩⟩
    obtain ⟨H4, e4, k4, g4⟩ := made (o := .lst ys) nr
    rw [e4]
    have k14 := (k12.trans k3).trans k4
    have nr0 : H r = none := (k12.trans k3).free nr
    have hys4 := hys.same k4
    generalize hmk : marksP (ps ++ [st, en]) = ms at hys4
    -- for turn in range(2)
    refine ⟨_, rfl, by decide, by decide, ?_⟩
    refine for_range (lo := 0) (n := 2) (fun i σ H' => ∃ v5 v6 : Option V, σ = [some (.ref p), some a, some b, some (.ref l), some (.ref r), v5, v6, none] ∧ Same H H' ∧ H' r = some (.lst ys) ∧ Prs H' ys ms) ?_ ?_ ?_
    · exact ⟨none, none, rfl, k14, g4, hys4⟩
    · rintro i σ H' hi ⟨v5, v6, rfl, k, gr, hr'⟩
      obtain ⟨dx, l2, a', b', zs, t1, t2, t3, t4, t5, t6⟩ := id (hT.same k)
      -- told = [task.picks, task.marks()]
      refine ⟨_, rfl, p, dx, _, rfl, t1, p, st, en, _, rfl, hT.same k, fun u1 us nu1 hus => ?_⟩
      obtain ⟨H5, e5, k5, g5⟩ := made (o := .lst us) nu1
      rw [e5]
      refine ⟨_, rfl, p, dx, _, rfl, k5 _ _ t1, tf_no _ _ _ (by decide +kernel) (by decide +kernel) (by decide +kernel), p, st, en, _, rfl, hT.same (k.trans k5), fun H6 u2 ws k6 nu2 g6 hws => ⟨(by show 2 ≤ sizeLine; decide), fun tl ntl => ?_⟩⟩
      obtain ⟨H7, e7, k7, g7⟩ := made (o := .lst [.ref u1, .ref u2]) ntl
      rw [e7]
      rw [marks_eq, hmk] at hws
      have k57 := (k5.trans k6).trans k7
      have k0 := k.trans k57
      -- (task.start, task.end) != (start, end)
      have t1' := k57 _ _ t1
      refine ⟨_, rfl, p, Z.C, dx, _, _, rfl, t1', Z.T.cl, Z.T.nS, tf_start _ _ _, _, rfl, p, Z.C, dx, _, _, rfl, t1', Z.T.cl, Z.T.nE, tf_end _ _ _, (by show 2 ≤ sizeLine; decide), fun w1 nw1 => ?_⟩
      obtain ⟨H8, e8, k8, g8⟩ := made (o := .tup [a', b']) nw1
      rw [e8]
      refine ⟨_, rfl, _, rfl, (by show 2 ≤ sizeLine; decide), fun w2 nw2 => ?_⟩
      obtain ⟨H9, e9, k9, g9⟩ := made (o := .tup [a, b]) nw2
      rw [e9]
      have k79 := k8.trans k9
      have k09 := k0.trans k79
      have kt := k57.trans k79
      refine ⟨dPP st en, dPP st en, .tup (SqT.of (k9 _ _ g8)) (.cons (t2.same kt).dp (.cons (t3.same kt).dp .nil)), .tup (SqT.of g9) (.cons (ha.same k09).dp (.cons (hb.same k09).dp .nil)), sh_dPP _ _, sh_dPP _ _, _, rfl, ?_⟩
      rw [eqv_dPP]
      refine iteNS ⟨rfl, rfl⟩ ?_
      -- told != [sorted(picks), marks]
      refine ⟨_, rfl, _, rfl, l, xs, ps, rfl, SqL.of (k09 _ _ hl), hx.same k09, fun w3 zs3 nw3 hz3 => ?_⟩
      obtain ⟨H10, e10, k10, g10⟩ := made (o := .lst zs3) nw3
      rw [e10]
      refine ⟨_, rfl, (by show 2 ≤ sizeLine; decide), fun w4 nw4 => ?_⟩
      obtain ⟨H11, e11, k11, g11⟩ := made (o := .lst [.ref w3, .ref r]) nw4
      rw [e11]
      have kA := (k79.trans k10).trans k11
      have kB := (k6.trans k7).trans kA
      have gu1 := kB _ _ g5
      have gu2 := (k7.trans kA) _ _ g6
      have gtl := kA _ _ g7
      have kC := kt.trans (k10.trans k11)
      have gr' := kC _ _ gr
      have hr'' := hr'.same kC
      refine ⟨dLL (sortP ps) ms, dLL (sortP ps) ms, .lst (SqL.of gtl) (.cons ((hus.same kC).dl (SqL.of gu1)) (.cons ((hws.same (k7.trans kA)).dl (SqL.of gu2)) .nil)),
        .lst (SqL.of g11) (.cons ((hz3.same (k10.trans k11)).dl (SqL.of (k11 _ _ g10))) (.cons (hr''.dl (SqL.of gr')) .nil)), sh_dLL _ _, sh_dLL _ _, _, rfl, ?_⟩
      rw [eqv_dLL]
      refine iteNS ⟨rfl, rfl⟩ ?_
      -- told[0].append(1); told[1].append(1)
      have n12 : u2 ≠ u1 := (ne_of_none g5 nu2).symm
      have nt1 : tl ≠ u1 := (ne_of_none (k6 _ _ g5) ntl).symm
      have nr1 : r ≠ u1 := ne_of_none gr nu1
      have nr2 : r ≠ u2 := ne_of_none (k5 _ _ gr) nu2
      have hu1 : H u1 = none := k.free nu1
      have hu2 : H u2 = none := (k.trans k5).free nu2
      have hl1 := hus.len
      have hl2 := hws.len
      have lm : ms.length ≤ 42 := by
        rw [← hmk]
        unfold marksP
        rw [sortP_len]
        have := nub_le (ps ++ [st, en])
        rw [List.length_append] at this
        exact Nat.le_trans this (by show ps.length + 2 ≤ 42; omega)
      have lp' := sortP_len ps
      refine ⟨_, rfl, tl, _, _, .ref u1, rfl, rfl, SqL.of gtl, rfl, Or.inl ⟨rfl, _, SqL.of gu1⟩, u1, _, _, rfl, rfl, gu1, small1000 (by omega), ?_⟩
      refine ⟨_, rfl, tl, _, _, .ref u2, rfl, rfl, SqL.of (by rw [upd_ne nt1]; exact gtl), rfl, Or.inl ⟨rfl, _, SqL.of (by rw [upd_ne n12]; exact gu2)⟩, u2, _, _, rfl, rfl, (by rw [upd_ne n12]; exact gu2), small1000 (by omega), ?_⟩
      have kH : Same H H11 := k09.trans (k10.trans k11)
      exact ⟨_, _, rfl, Same.over (Same.over kH hu1) hu2, by rw [upd_ne nr2, upd_ne nr1]; exact gr', (hr''.over gu1).over (by rw [upd_ne n12]; exact gu2)⟩
    · rintro σ H' ⟨v5, v6, rfl, k, gr, hr'⟩
      -- twin = Task(start, end, picks[::-1])
      refine ⟨_, rfl, _, rfl, _, rfl, l, xs, rfl, SqL.of (k _ _ hl), fun c2 nc2 => ?_⟩
      obtain ⟨H5, e5, k5, g5⟩ := made (o := .lst xs.reverse) nc2
      rw [e5]
      intro x dy nx ndy nexy
      have k6 := mkSame (o := .ins Z.C dy []) (u := .own x) nx ndy
      have k06 := (k.trans k5).trans k6
      refine ⟨x, dy, c2, a, b, st, en, xs.reverse, ps.reverse, rfl, upd_same, ha.same k06, hb.same k06, SqL.of (k6 _ _ g5), (hx.same k06).rev, by rw [List.length_reverse]; omega, fun _ _ H7 hX hB _ => ⟨rfl, ?_⟩, fun hbad => ?_⟩
      · have k7 : Same H H7 := (k.trans k5).trans (mkBut nx ndy hB)
        rw [sortP_congr (List.reverse_perm ps)] at hX
        obtain ⟨dx, l2, a', b', zs, t1, t2⟩ := id (hT.same k7)
        refine ⟨_, rfl, p, dx, _, rfl, t1, tf_no _ _ _ (by decide +kernel) (by decide +kernel) (by decide +kernel), _, rfl, p, x, st, en, st, en, _, _, rfl, hT.same k7, hX, fun H8 k8 => ⟨_, _, rfl, rfl, _, rfl, ?_⟩⟩
        rw [decide_eq_true (show st = st ∧ en = en ∧ sortP ps = sortP ps from ⟨rfl, rfl, rfl⟩)]
        refine iteT ?_
        obtain ⟨dx3, l3, a3, b3, zs3, u1, u2⟩ := id (hX.same k8)
        refine ⟨_, rfl, x, dx3, _, rfl, u1, tf_no _ _ _ (by decide +kernel) (by decide +kernel) (by decide +kernel), _, rfl, x, p, st, en, st, en, _, _, rfl, hX.same k8, hT.same (k7.trans k8), fun H9 k9 => ⟨_, _, rfl, rfl, ?_⟩⟩
        rw [decide_eq_true (show st = st ∧ en = en ∧ sortP ps = sortP ps from ⟨rfl, rfl, rfl⟩)]
        exact q H9 ((k7.trans k8).trans k9)
      · exact (hbad ⟨by rw [List.length_reverse]; omega, (List.reverse_perm ps).nodup_iff.mpr hn⟩).elim

def spChanged (C : Addr) : Sp := fun vs H Q _ => ∃ (p : Addr) (kd : Int) (v : V) (st en z : Pl) (ps : List Pl), vs = [.ref p, .int kd, v] ∧ TaskAt C H p st en ps ∧ Pr H v z ∧ ps.length < 60 ∧
  (kd = 0 → z ∈ ps → ∀ (H' : Hp) (t : Addr), Same H H' → H' t = some (.tup [.int 1, v]) → Q (.ref t) H') ∧
  (kd = 0 → z ∉ ps → ∀ (H' : Hp) (t r : Addr), Same H H' → H' t = some (.tup [.int 0, .ref r]) → TaskAt C H' r st en (sortP (ps ++ [z])) → Q (.ref t) H') ∧
  (kd ≠ 0 → z ∉ ps → ∀ (H' : Hp) (t : Addr), Same H H' → H' t = some (.tup [.int 2, v]) → Q (.ref t) H') ∧
  (kd ≠ 0 → z ∈ ps → ∀ (H' : Hp) (t r : Addr), Same H H' → H' t = some (.tup [.int 0, .ref r]) → TaskAt C H' r st en (sortP (ps.filter fun q => !decide (q = z))) → Q (.ref t) H')
theorem ok_changed {f : Addr} {fd : FuncData} (F : Fun K "_law_changed" "_law_changed" s__law_changed f fd) (Z : Tasks P w K mg base) : FnOk P w K mg base CX0 6 f fd ["task", "kind", "place"] (spChanged Z.C) := by
  refine F.ok sc__law_changed (fun vs H Q E h => ?_) (fun cdv A outer s H vs Q E hr h => ?_)
  · obtain ⟨p, kd, v, st, en, z, ps, rfl, _⟩ := h
    rfl
  · obtain ⟨p, kd, v, st, en, z, ps, rfl, hT, hv, hn, q1, q2, q3, q4⟩ := h
    have nd := sc__law_changed.nd
    obtain ⟨dx, l2, a', b', zs, t1, t2⟩ := id hT
    refine ⟨_, pss_one (ps_try_next (l := [(.ref Z.CT, some 3, _), (.ref Z.CU, some 3, _)]) rfl rfl takes0 (fun W pn xe tk _ => (pss_cons (ps_if (pt_cmpR op_eq (pv 1) pe_int (nomark _)) (pss_one (ps_ret (pe_tup (pa_cons pe_int (pa_cons (pe_methS (pv 0) Z.T.cl Z.wth.m Z.wth.G (by exact hr.mono (by decide)) Z.wth.b (fun τ => passAt tk τ) (pa_cons (pv 2) pa_nil)) pa_nil))))) pss_nil)
      (pss_one (ps_ret (pe_tup (pa_cons pe_int (pa_cons (pe_methS (pv 0) Z.T.cl Z.wto.m Z.wto.G (by exact hr.mono (by decide)) Z.wto.b (fun τ => passAt tk τ) (pa_cons (pv 2) pa_nil)) pa_nil)))))))
      (Clauses.named nd rfl rfl ⟨rfl, by decide, .inl Z.U.gT⟩ (fun a oe cls d pn hz hf => (pss_one (ps_ret (pe_tup (pa_cons pe_int (pa_cons (pe_xf Z.xT Z.U.nT hz hf (pv 3)) pa_nil)))))) (Clauses.named nd rfl rfl ⟨rfl, by decide, .inl Z.U.gU⟩ (fun a oe cls d pn hz hf => (pss_one (ps_ret (pe_tup (pa_cons pe_int (pa_cons (pe_xf Z.xU Z.U.nU hz hf (pv 3)) pa_nil)))))) .nil))), ?_⟩
    refine ⟨_, rfl, rfl, _, rfl, ?_⟩
    refine ite2 (fun hc => ?_) (fun hc => ?_)
    · have hk : kd = 0 := V.int.inj (of_decide_eq_true hc)
      refine ⟨_, rfl, p, dx, _, rfl, t1, tf_no _ _ _ (by decide +kernel) (by decide +kernel) (by decide +kernel), _, rfl, p, v, st, en, z, ps, rfl, hT, hv, fun hz H' d k hd => ?_, fun hz hl => absurd hl (by omega), fun hz hl H' r k nr hR => ⟨(by show 2 ≤ sizeLine; decide), fun t nt => ?_⟩⟩
      · refine ⟨true, Z.eT, fun _ x nx => ?_, fun y => nomatch y⟩
        refine ⟨_, rfl, rfl, rfl, d, _, v, rfl, hd, rfl, (by show 2 ≤ sizeLine; decide), fun t nt => ?_⟩
        exact q1 hk hz _ t (k.trans (same_upd nt)) upd_same
      · exact q2 hk hz _ t r (k.trans (same_upd nt)) upd_same (hR.same (same_upd nt))
    · have hk : kd ≠ 0 := fun e => hc (decide_eq_true (by rw [e]))
      refine ⟨_, rfl, p, dx, _, rfl, t1, tf_no _ _ _ (by decide +kernel) (by decide +kernel) (by decide +kernel), _, rfl, p, v, st, en, z, ps, rfl, hT, hv, fun hz H' d k hd => ?_, fun hz H' r k nr hR => ⟨(by show 2 ≤ sizeLine; decide), fun t nt => ?_⟩⟩
      · refine ⟨false, Z.eUT, (fun y => nomatch y), fun _ => ⟨true, Z.eU, fun _ x nx => ?_, fun y => nomatch y⟩⟩
        refine ⟨_, rfl, rfl, rfl, d, _, v, rfl, hd, rfl, (by show 2 ≤ sizeLine; decide), fun t nt => ?_⟩
        exact q3 hk hz _ t (k.trans (same_upd nt)) upd_same
      · exact q4 hk hz _ t r (k.trans (same_upd nt)) upd_same (hR.same (same_upd nt))
/-- the places of a grid, aisle by aisle -/
def gridP (wd hg : Nat) : List Pl := (List.range wd).flatMap fun (a : Nat) => (List.range hg).map fun (b : Nat) => ((a : Int), (b : Int))
theorem grid_succ (wd hg : Nat) : gridP (wd + 1) hg = gridP wd hg ++ (List.range hg).map fun (b : Nat) => ((wd : Int), (b : Int)) := by
  unfold gridP
  rw [List.range_succ, List.flatMap_append]
  simp
theorem grid_len (wd hg : Nat) : (gridP wd hg).length = wd * hg := by
  induction wd with
  | zero => simp [gridP]
  | succ n ih => rw [grid_succ, List.length_append, ih, List.length_map, List.length_range, Nat.succ_mul]
def spGrid : Sp := fun vs H Q _ => ∃ (wd hg : Nat), vs = [.int wd, .int hg] ∧ wd ≤ 100 ∧ hg ≤ 100 ∧ ∀ (H' : Hp) (r : Addr) (xs : List V), Same H H' → H r = none → H' r = some (.lst xs) → Prs H' xs (gridP wd hg) → Q (.ref r) H'
theorem ok_grid {f : Addr} {fd : FuncData} (F : Fun K "_law_grid" "_law_grid" s__law_grid f fd) (hrange : mg "range" = none) : FnOk P w K mg base CX0 1 f fd ["wide", "high"] spGrid := by
  refine F.ok sc__law_grid (fun vs H Q E h => ?_) (fun cdv A outer s H vs Q E hr h => ?_)
  · obtain ⟨wd, hg, rfl, _⟩ := h
    rfl
  · obtain ⟨wd, hg, rfl, hw, hh, q⟩ := h
    have nd := sc__law_grid.nd
    refine ⟨_, (pss_cons (ps_set (i := 2) nd rfl (.inl rfl) (pe_lst pa_nil))
      (pss_cons (ps_for PassesOwn.never rfl (pi_range1 rfl hrange (pa_cons (pv 0) pa_nil)) (pg_name (i := 3) nd rfl (.inl rfl)) (pss_one (ps_for PassesOwn.never rfl (pi_range1 rfl hrange (pa_cons (pv 1) pa_nil)) (pg_name (i := 4) nd rfl (.inl rfl)) (pss_one (ps_expr (pe_bm PySem.F.plainAttrs_list PySem.F.slot_list_append PySem.F.type_list_append mt_append (pv 2) (pa_cons (pe_tup (pa_cons (pv 3) (pa_cons (pv 4) pa_nil))) pa_nil)))))))
      (pss_one (ps_ret (pv 2))))), ?_⟩
    refine ⟨Nat.zero_le _, fun r nr => ?_⟩
    refine ⟨_, rfl, wd, rfl, by omega, by omega, ?_⟩
    refine for_range (lo := 0) (n := wd) (fun i σ H' => ∃ (xs : List V) (v3 v4 : Option V), σ = [some (.int wd), some (.int hg), some (.ref r), v3, v4] ∧ Same H H' ∧ H' r = some (.lst xs) ∧ Prs H' xs (gridP i hg)) ?_ ?_ ?_
    · exact ⟨[], none, none, rfl, same_upd nr, upd_same, .nil⟩
    · rintro i σ H' hi ⟨xs, v3, v4, rfl, k, g, hx⟩
      refine ⟨_, rfl, hg, rfl, by omega, by omega, ?_⟩
      refine for_range (lo := 0) (n := hg) (fun j σ H' => ∃ (xs : List V) (v4 : Option V), σ = [some (.int wd), some (.int hg), some (.ref r), some (.int (0 + i)), v4] ∧ Same H H' ∧ H' r = some (.lst xs) ∧ Prs H' xs (gridP i hg ++ (List.range j).map fun (b : Nat) => ((i : Int), (b : Int)))) ?_ ?_ ?_
      · exact ⟨xs, v4, rfl, k, g, by simpa using hx⟩
      · rintro j σ H' hj ⟨xs, v4, rfl, k, g, hx⟩
        have hxl := hx.len
        rw [List.length_append, grid_len, List.length_map, List.length_range] at hxl
        have hb : i * hg ≤ 100 * 100 := Nat.mul_le_mul (by omega) hh
        refine ⟨_, rfl, .inl ⟨rfl, _, SqL.of g⟩, _, rfl, _, rfl, (by show 2 ≤ sizeLine; decide), fun t nt => ?_⟩
        have nrt : r ≠ t := ne_of_none g nt
        refine ⟨r, xs, _, rfl, rfl, by rw [upd_ne nrt]; exact g, small1e7 (by omega), ?_⟩
        have kt : Same H' (upd H' t (.tup [.int (0 + i), .int (0 + j)])) := same_upd nt
        refine ⟨_, _, rfl, Same.over (k.trans kt) nr, upd_same, ?_⟩
        rw [List.range_succ, List.map_append, ← List.append_assoc]
        refine ((hx.same kt).snoc (p := ((i : Int), (j : Int))) ⟨t, rfl, ?_⟩).over (zs := xs) (by rw [upd_ne nrt]; exact g)
        rw [upd_same]
        simp
      · rintro σ H' ⟨xs, v4, rfl, k, g, hx⟩
        rw [← grid_succ] at hx
        exact ⟨xs, _, _, rfl, k, g, hx⟩
    · rintro σ H' ⟨xs, v3, v4, rfl, k, g, hx⟩
      exact ⟨_, rfl, q H' r xs k nr g hx⟩
def spFull : Sp := fun vs H Q _ => vs = [] ∧ ∀ H', Same H H' → Q (.bl true) H'
theorem grid_nd : ((gridP 8 8).take 60).Nodup := by decide +kernel
theorem grid_60 : (gridP 8 8)[60]? = some (7, 4) := by decide +kernel
theorem grid_not : (7, 4) ∉ (gridP 8 8).take 60 := by decide +kernel
theorem grid_marks : ((0, 9) :: (gridP 8 8).take 60).Nodup ∧ (0, 0) ∈ (gridP 8 8).take 60 := by decide +kernel
theorem marks_61 : (marksP ((0, 9) :: (0, 0) :: sortP ((gridP 8 8).take 60))).length = 61 := by
  obtain ⟨h1, h2⟩ := grid_marks
  have e : marksP ((0, 9) :: (0, 0) :: sortP ((gridP 8 8).take 60)) = marksP ((0, 9) :: (gridP 8 8).take 60) := marksP_congr fun p => by
    simp only [List.mem_cons, sortP_mem]
    exact ⟨fun h => h.elim .inl fun h => h.elim (fun e => .inr (e ▸ h2)) .inr, fun h => h.elim .inl fun h => .inr (.inr h)⟩
  rw [e]
  unfold marksP
  rw [sortP_len, nub_id h1, List.length_cons, List.length_take, grid_len]
  rfl
theorem ok_full {f : Addr} {fd : FuncData} (F : Fun K "_law_full" "_law_full" s__law_full f fd) (Z : Tasks P w K mg base) (G : TopDef P w K mg base CX0 1 "_law_grid" ["wide", "high"] spGrid) : FnOk P w K mg base CX0 6 f fd [] spFull := by
  refine F.ok sc__law_full (fun vs H Q E h => ?_) (fun cdv A outer s H vs Q E hr h => ?_)
  · rw [h.1]
    rfl
  · obtain ⟨rfl, q⟩ := h
    have nd := sc__law_full.nd
    refine ⟨_, (pss_cons (ps_set (i := 0) nd rfl (.inl rfl) (pe_call G.G (by exact hr.mono (by decide)) (by rfl) G.g G.kp G.b .nil pass0 (pa_cons pe_int (pa_cons pe_int pa_nil))))
      (pss_cons (ps_set (i := 1) nd rfl (.inl rfl) (pe_make Z.M Z.GI (by exact hr.mono (by decide)) (by rfl) Z.T.mgC Z.bI .nil (passes_call takes0 fun _ _ _ _ h => h) (pa_cons (pe_tup (pa_cons pe_int (pa_cons pe_int pa_nil))) (pa_cons (pe_tup (pa_cons pe_int (pa_cons pe_int pa_nil))) (pa_cons (pe_slice sl_list (pv 0) po_none (po_some pe_int)) pa_nil)))))
      (pss_cons (ps_set (i := 2) nd rfl (.inl rfl) pe_int)
      (pss_cons (ps_try_next (l := [(.ref Z.CL, none, _)]) rfl rfl takes0 (fun W pn xe tk _ => (pss_one (ps_expr (pe_methS (pv 1) Z.T.cl Z.wth.m Z.wth.G (by exact hr.mono (by decide)) Z.wth.b (fun τ => passAt tk τ) (pa_cons (pe_ix (r := rIxL K) ix_list (pv 0) pe_int (fun _ _ => rfl)) pa_nil))))) (Clauses.plain ⟨rfl, by decide, .inl Z.U.gL⟩ (fun a oe cls d pn _ _ => (pss_one (ps_set (i := 2) nd rfl (.inl rfl) (by exact (pe_op op_add (pv 2) pe_int))))) .nil))
      (pss_cons (ps_for PassesOwn.never rfl (pi_list (pe_lst (pa_cons (pe_slice sl_list (pv 0) po_none (po_some pe_int)) (pa_cons (pe_lst (pa_cons (pe_tup (pa_cons pe_int (pa_cons pe_int pa_nil))) (pa_cons (pe_tup (pa_cons pe_int (pa_cons pe_int pa_nil))) (pa_cons (pe_tup (pa_cons pe_int (pa_cons pe_int pa_nil))) pa_nil)))) pa_nil)))) (pg_name (i := 3) nd rfl (.inl rfl)) (pss_one (ps_try_next (l := [(.ref Z.CI, none, _)]) rfl rfl takes0 (fun W pn xe tk _ => (pss_one (ps_expr (pe_makeS Z.M Z.GI (by exact hr.mono (by decide)) (by rfl) Z.T.mgC Z.bI (fun τ => passAt tk τ) (pa_cons (pe_tup (pa_cons pe_int (pa_cons pe_int pa_nil))) (pa_cons (pe_tup (pa_cons pe_int (pa_cons pe_int pa_nil))) (pa_cons (pv 3) pa_nil))))))) (Clauses.plain ⟨rfl, by decide, .inl Z.T.gI⟩ (fun a oe cls d pn _ _ => (pss_one (ps_set (i := 2) nd rfl (.inl rfl) (by exact (pe_op op_add (pv 2) pe_int))))) .nil))))
      (pss_one (ps_ret (pe_and (pe_cmpR op_eq (pv 2) pe_int (nomark _)) (pe_and (pe_cmpR op_eq (pe_callB call_len (by rfl) Z.T.len (by decide +kernel) (pa_cons (pe_prop (pv 1) Z.T.cl Z.hP Z.GP (by exact hr.mono (by decide)) Z.bP .nil pass0 rfl) pa_nil)) pe_int (nomark _)) (pe_one (pe_cmpR op_eq (pe_callB call_len (by rfl) Z.T.len (by decide +kernel) (pa_cons (pe_meth0 (pe_make Z.M Z.GI (by exact hr.mono (by decide)) (by rfl) Z.T.mgC Z.bI .nil (passes_call takes0 fun _ _ _ _ h => h) (pa_cons (pe_tup (pa_cons pe_int (pa_cons pe_int pa_nil))) (pa_cons (pe_tup (pa_cons pe_int (pa_cons pe_int pa_nil))) (pa_cons (pe_slice sl_list (pv 0) po_none (po_some pe_int)) pa_nil)))) Z.T.cl Z.marks.m Z.marks.G (by exact hr.mono (by decide)) Z.marks.b .nil pass0) pa_nil)) pe_int (nomark _)))))))))))), ?_⟩
    refine ⟨8, 8, rfl, by decide, by decide, fun H1 g xs k1 ng hg hx => ?_⟩
    have hxl := hx.len
    rw [grid_len] at hxl
    -- task = Task((0, 0), (0, 0), many[:60])
    refine ⟨(by show 2 ≤ sizeLine; decide), fun a1 na1 => ?_⟩
    obtain ⟨H2, e2, k2, g2⟩ := made (o := .tup [.int 0, .int 0]) na1
    rw [e2]
    refine ⟨(by show 2 ≤ sizeLine; decide), fun a2 na2 => ?_⟩
    obtain ⟨H3, e3, k3, g3⟩ := made (o := .tup [.int 0, .int 0]) na2
    rw [e3]
    refine ⟨_, rfl, _, rfl, g, xs, rfl, SqL.of ((k2.trans k3) _ _ hg), fun l4 nl4 => ?_⟩
    have hcut : ∀ n : Nat, cutV xs none (some (n : Int)) = xs.take n := cut_to xs
    obtain ⟨H4, e4, k4, g4⟩ := made (o := .lst (cutV xs none (some ((60 : Nat) : Int)))) nl4
    rw [show upd H3 l4 (.lst (cutV xs none (some 60))) = H4 from e4]
    rw [hcut] at g4
    have k14 := (k2.trans k3).trans k4
    intro x dy nx ndy nexy
    have kx := mkSame (o := .ins Z.C dy []) (u := .own x) nx ndy
    have hG : ((gridP 8 8).take 60).length = 60 := by rw [List.length_take, grid_len]; rfl
    refine ⟨x, dy, l4, .ref a1, .ref a2, (0, 0), (0, 0), xs.take 60, (gridP 8 8).take 60, rfl, upd_same, ⟨a1, rfl, kx _ _ (k4 _ _ (k3 _ _ g2))⟩, ⟨a2, rfl, kx _ _ (k4 _ _ g3)⟩, SqL.of (kx _ _ g4), (hx.same (k14.trans kx)).take 60, by rw [hG]; decide,
      fun _ _ H5 hT5 hB5 _ => ⟨rfl, ?_⟩, fun bad => (bad ⟨by rw [hG]; decide, grid_nd⟩).elim⟩
    have k5 : Same H4 H5 := mkBut nx ndy hB5
    have k15 := k14.trans k5
    obtain ⟨dx, l2, a', b', zs, t1, t2, t3, t4, t5, t6⟩ := id hT5
    -- try: task.with_pick(many[60])
    obtain ⟨v60, h60, hv60⟩ : ∃ v, xs[60]? = some v ∧ Pr H5 v (7, 4) := by
      have hlt : 60 < xs.length := by omega
      refine ⟨xs[60], List.getElem?_eq_getElem hlt, ?_⟩
      obtain ⟨z, hz, hp⟩ := (hx.same k15).at (List.getElem?_eq_getElem hlt)
      rw [grid_60] at hz
      cases hz
      exact hp
    have hS : (sortP ((gridP 8 8).take 60)).length = 60 := by rw [sortP_len, hG]
    refine ⟨_, rfl, x, dx, _, rfl, t1, tf_no _ _ _ (by decide +kernel) (by decide +kernel) (by decide +kernel), _, rfl, g, xs, _, v60, rfl, rfl, SqL.of (k15 _ _ hg), atI_nat (j := 60) h60,
      x, v60, (0, 0), (0, 0), (7, 4), _, rfl, hT5, hv60, fun hz => absurd (sortP_mem.mp hz) grid_not, fun hz hl H6 k6 => ⟨true, Z.eL, fun _ y ny => ?_, fun z => nomatch z⟩, fun hz hl => absurd hl (by omega)⟩
    refine ⟨_, rfl, _, _, rfl, rfl, ?_⟩
    -- for picks in [many[:61], [(1, 1), (2, 2), (1, 1)]]
    have k16 := k15.trans k6
    refine ⟨_, rfl, _, rfl, g, xs, rfl, SqL.of (k16 _ _ hg), fun l5 nl5 => ?_⟩
    obtain ⟨H7, e7, k7, g7⟩ := made (o := .lst (cutV xs none (some ((61 : Nat) : Int)))) nl5
    rw [show upd H6 l5 (.lst (cutV xs none (some 61))) = H7 from e7]
    rw [hcut] at g7
    refine ⟨(by show 2 ≤ sizeLine; decide), fun b1 nb1 => ?_⟩
    obtain ⟨H8, e8, k8, g8⟩ := made (o := .tup [.int 1, .int 1]) nb1
    rw [e8]
    refine ⟨(by show 2 ≤ sizeLine; decide), fun b2 nb2 => ?_⟩
    obtain ⟨H9, e9, k9, g9⟩ := made (o := .tup [.int 2, .int 2]) nb2
    rw [e9]
    refine ⟨(by show 2 ≤ sizeLine; decide), fun b3 nb3 => ?_⟩
    obtain ⟨Ha, ea, ka, ga⟩ := made (o := .tup [.int 1, .int 1]) nb3
    rw [ea]
    refine ⟨(by show 3 ≤ sizeLine; decide), fun l6 nl6 => ?_⟩
    obtain ⟨Hb, eb, kb, gb⟩ := made (o := .lst [.ref b1, .ref b2, .ref b3]) nl6
    rw [eb]
    refine ⟨(by show 2 ≤ sizeLine; decide), fun lo nlo => ?_⟩
    obtain ⟨Hc, ec, kc, gc⟩ := made (o := .lst [.ref l5, .ref l6]) nlo
    rw [ec]
    have k8c := (((k8.trans k9).trans ka).trans kb).trans kc
    have all : ∀ (i : Nat) (u : V), ([.ref l5, .ref l6] : List V)[i]? = some u → ∃ (l : Addr) (vs : List V) (ps : List Pl), u = .ref l ∧ Hc l = some (.lst vs) ∧ Prs Hc vs ps ∧ ps.length ≤ 1000 ∧ ¬ (ps.length ≤ 60 ∧ ps.Nodup) := by
      intro i u hi
      match i, hi with
      | 0, hi =>
        cases hi
        refine ⟨l5, _, (gridP 8 8).take 61, rfl, k8c _ _ g7, (hx.same (k16.trans (k7.trans k8c))).take 61, ?_, fun z => ?_⟩
        · rw [List.length_take, grid_len]; decide
        · have := z.1
          rw [List.length_take, grid_len] at this
          exact absurd this (by decide)
      | 1, hi =>
        cases hi
        exact ⟨l6, _, [(1, 1), (2, 2), (1, 1)], rfl, kc _ _ gb, .cons ⟨b1, rfl, (((k9.trans ka).trans kb).trans kc) _ _ g8⟩ (.cons ⟨b2, rfl, ((ka.trans kb).trans kc) _ _ g9⟩ (.cons ⟨b3, rfl, (kb.trans kc) _ _ ga⟩ .nil)), by decide, fun z => absurd z.2 (by decide)⟩
      | n + 2, hi => cases hi
    refine ⟨lo, rfl, ⟨_, SqL.of gc⟩, ?_⟩
    refine for_list (K := K) (a := lo) (xs := [.ref l5, .ref l6]) (fun i σ H' => ∃ v3 : Option V, σ = [some (.ref g), some (.ref x), some (.int (1 + (i : Int))), v3] ∧ Same Hc H') ?_ ?_ ?_ ?_
    · exact ⟨none, rfl, Same.refl _⟩
    · exact fun i σ H' _ ⟨_, _, k⟩ => SqL.of (k _ _ gc)
    · rintro i u σ H' hi ⟨v3, rfl, k⟩
      obtain ⟨l, vs, ps, rfl, hl, hps, h1000, hbad⟩ := all i u hi
      refine ⟨(by show 2 ≤ sizeLine; decide), fun c1 nc1 => ?_⟩
      obtain ⟨J1, f1, m1, y1⟩ := made (o := .tup [.int 0, .int 0]) nc1
      rw [f1]
      refine ⟨(by show 2 ≤ sizeLine; decide), fun c2 nc2 => ?_⟩
      obtain ⟨J2, f2, m2, y2⟩ := made (o := .tup [.int 0, .int 0]) nc2
      rw [f2]
      refine ⟨_, rfl, ?_⟩
      intro x' dz nx' ndz nexz
      have mx := mkSame (o := .ins Z.C dz []) (u := .own x') nx' ndz
      have mm := ((k.trans m1).trans m2).trans mx
      refine ⟨x', dz, l, .ref c1, .ref c2, (0, 0), (0, 0), vs, ps, rfl, upd_same, ⟨c1, rfl, mx _ _ (m2 _ _ y1)⟩, ⟨c2, rfl, mx _ _ y2⟩, SqL.of (mm _ _ hl), hps.same mm, h1000, fun h1 h2 => absurd ⟨h1, h2⟩ hbad, fun _ J3 m3 => ⟨true, Z.eI, fun _ y ny => ?_, fun z => nomatch z⟩⟩
      refine ⟨_, rfl, _, _, rfl, rfl, ?_⟩
      exact ⟨some (.ref l), congrArg (fun z => [some (V.ref g), some (V.ref x), some (V.int z), some (V.ref l)]) (by omega : 1 + (i : Int) + 1 = 1 + ((i + 1 : Nat) : Int)), mm.trans m3⟩
    · rintro σ H' ⟨v3, rfl, k⟩
      have kz := ((k6.trans k7).trans k8c).trans k
      refine ⟨_, rfl, rfl, _, rfl, iteT ?_⟩
      refine ⟨_, rfl, x, dx, _, rfl, kz _ _ t1, x, (0, 0), (0, 0), _, rfl, hT5.same kz, fun r zs nr hz => ⟨_, _, rfl, .inl ⟨_, SqL.of upd_same, rfl⟩, ?_⟩⟩
      have hzl := hz.len
      rw [hS] at hzl
      rw [hzl]
      obtain ⟨J4, f4, m4, y4⟩ := made (o := .lst zs) nr
      rw [f4]
      refine ⟨rfl, _, rfl, iteT ?_⟩
      refine ⟨(by show 2 ≤ sizeLine; decide), fun c1 nc1 => ?_⟩
      obtain ⟨J5, f5, m5, y5⟩ := made (o := .tup [.int 0, .int 9]) nc1
      rw [f5]
      refine ⟨(by show 2 ≤ sizeLine; decide), fun c2 nc2 => ?_⟩
      obtain ⟨J6, f6, m6, y6⟩ := made (o := .tup [.int 0, .int 0]) nc2
      rw [f6]
      have mz := (kz.trans m4).trans (m5.trans m6)
      refine ⟨_, rfl, _, rfl, g, xs, rfl, SqL.of ((k15.trans mz) _ _ hg), fun l7 nl7 => ?_⟩
      obtain ⟨J7, f7, m7, y7⟩ := made (o := .lst (cutV xs none (some ((60 : Nat) : Int)))) nl7
      rw [show upd J6 l7 (.lst (cutV xs none (some 60))) = J7 from f7]
      rw [hcut] at y7
      intro x' dz nx' ndz nexz
      have mx := mkSame (o := .ins Z.C dz []) (u := .own x') nx' ndz
      have m57 := m6.trans m7
      refine ⟨x', dz, l7, .ref c1, .ref c2, (0, 9), (0, 0), xs.take 60, (gridP 8 8).take 60, rfl, upd_same, ⟨c1, rfl, mx _ _ (m57 _ _ y5)⟩, ⟨c2, rfl, mx _ _ (m7 _ _ y6)⟩, SqL.of (mx _ _ y7), (hx.same (((k15.trans mz).trans m7).trans mx)).take 60, by rw [hG]; decide,
        fun _ _ J8 hT8 hB8 _ => ⟨rfl, ?_⟩, fun bad => (bad ⟨by rw [hG]; decide, grid_nd⟩).elim⟩
      have m8 : Same J7 J8 := mkBut nx' ndz hB8
      obtain ⟨dw, l8, a8, b8, zs8, w1, w2⟩ := id hT8
      refine ⟨x', dw, _, rfl, w1, tf_no _ _ _ (by decide +kernel) (by decide +kernel) (by decide +kernel), x', (0, 9), (0, 0), _, rfl, hT8, fun J9 r9 xs9 m9 nr9 g9 h9 => ⟨_, _, rfl, .inl ⟨_, SqL.of g9, rfl⟩, ?_⟩⟩
      have hl9 := h9.len
      rw [marks_61] at hl9
      rw [hl9]
      refine ⟨rfl, ?_⟩
      exact q J9 ((k1.trans (k15.trans mz)).trans ((m7.trans m8).trans m9))
def dC (c : Int) (z : Pl) : PyData := .tuple [.int c, dP z]
theorem eqv_dC (c c' : Int) (z z' : Pl) : PyData.eqv (dC c z) (dC c' z') = decide (c = c' ∧ z = z') := by
  show PyData.eqvAll [.int c, dP z] [.int c', dP z'] = _
  simp only [PyData.eqvAll, eqv_int, eqv_dP, Bool.and_true, Bool.decide_and]
theorem iteP {c A B : Prop} [Decidable c] (hc : c) (h : A) : if decide c = true then A else B := by
  rw [decide_eq_true hc]
  exact iteT h
theorem iteN {c A B : Prop} [Decidable c] (hc : ¬ c) (h : B) : if decide c = true then A else B := by
  rw [decide_eq_false hc]
  exact iteF h
abbrev NLaw : List Str := ["script", "numbers", "start", "end", "picks", "k", "place", "given", "task", "kind", "told", "before", "code", "made", "pick"]
def spLaw (K : PySem.W.Frag) : Sp := fun vs H Q _ => ∃ (a : Addr) (ns : List Int), vs = [.ref a] ∧ SqL K H a (ns.map V.int) ∧ ns.length ≤ 63 ∧ ∀ H', Q (.bl true) H'
theorem ok_law {f : Addr} {fd : FuncData} (F : Fun K "law" "law" s_law f fd) (Z : Tasks P w K mg base) (hbool : mg "bool" = none) (Nu : TopDef P w K mg base CX0 2 "_law_numbers" ["script", "many"] (spNumbers K)) (Pc : TopDef P w K mg base CX0 1 "_law_place" ["number"] spPlace)
    (S : TopDef P w K mg base CX0 6 "_law_is" ["task", "start", "end", "picks"] (spIs Z.C)) (Ch : TopDef P w K mg base CX0 6 "_law_changed" ["task", "kind", "place"] (spChanged Z.C)) (Fu : TopDef P w K mg base CX0 6 "_law_full" [] spFull) :
    FnOk P w K mg base CX0 8 f fd ["script"] (spLaw K) := by
  refine F.ok sc_law (fun vs H Q E h => ?_) (fun cdv A outer s H vs Q E hr h => ?_)
  · obtain ⟨a, xs, rfl, _⟩ := h
    rfl
  · obtain ⟨a0, sc, rfl, hS, hlen, q⟩ := h
    have nd : NLaw.Nodup := sc_law.nd
    refine ⟨_, (pss_cons (ps_set (i := 1) nd rfl (.inl rfl) (pe_call Nu.G (by exact hr.mono (by decide)) (by rfl) Nu.g Nu.kp Nu.b .nil pass0 (pa_cons (pv 0) (pa_cons pe_int pa_nil))))
      (pss_cons (ps_set (i := 2) nd rfl (.inl rfl) (pe_call Pc.G (by exact hr.mono (by decide)) (by rfl) Pc.g Pc.kp Pc.b .nil pass0 (pa_cons (pe_ix ix_list (pv 1) pe_int (fun _ _ => rfl)) pa_nil)))
      (pss_cons (ps_set (i := 3) nd rfl (.inl rfl) (pe_call Pc.G (by exact hr.mono (by decide)) (by rfl) Pc.g Pc.kp Pc.b .nil pass0 (pa_cons (pe_ix ix_list (pv 1) pe_int (fun _ _ => rfl)) pa_nil)))
      (pss_cons (ps_set (i := 4) nd rfl (.inl rfl) (pe_lst pa_nil))
      (pss_cons (ps_for PassesOwn.never rfl (pi_range1 rfl Z.range (pa_cons (pe_op op_mod (pe_callTy call_int1 (by rfl) Z.int (by decide +kernel) (pa_cons (pe_ix ix_list (pv 1) pe_int (fun _ _ => rfl)) pa_nil)) pe_int) pa_nil)) (pg_name (i := 5) nd rfl (.inl rfl)) (pss_cons (ps_set (i := 6) nd rfl (.inr rfl) (pe_call Pc.G (by exact hr.mono (by decide)) (by rfl) Pc.g Pc.kp Pc.b .nil pass0 (pa_cons (pe_ix ix_list (pv 1) (pe_op op_add pe_int (pv 5)) (fun _ _ => rfl)) pa_nil)))
      (pss_one (ps_if (pt_cmpR (op_notInD (room65 hr)) (pv 6) (pv 4) (by rfl)) (pss_one (ps_expr (pe_bm PySem.F.plainAttrs_list PySem.F.slot_list_append PySem.F.type_list_append mt_append (pv 4) (pa_cons (pv 6) pa_nil)))) pss_nil))))
      (pss_cons (ps_set (i := 7) nd rfl (.inl rfl) (pe_callTy call_list_of (by rfl) Z.T.list (by decide +kernel) (pa_cons (pv 4) pa_nil)))
      (pss_cons (ps_set (i := 8) nd rfl (.inl rfl) (pe_make Z.M Z.GI (by exact hr.mono (by decide)) (by rfl) Z.T.mgC Z.bI .nil (passes_call takes0 fun _ _ _ _ h => h) (pa_cons (pv 2) (pa_cons (pv 3) (pa_cons (pv 7) pa_nil)))))
      (pss_cons (ps_expr (pe_bm PySem.F.plainAttrs_list PySem.F.slot_list_append PySem.F.type_list_append mt_append (pv 7) (pa_cons (pe_tup (pa_cons pe_int (pa_cons pe_int pa_nil))) pa_nil)))
      (pss_cons (ps_if (pt_not (pt_val (pe_call S.G (by exact hr.mono (by decide)) (by rfl) S.g S.kp S.b .nil pass0 (pa_cons (pv 8) (pa_cons (pv 2) (pa_cons (pv 3) (pa_cons (pv 4) pa_nil))))))) (pss_one (ps_ret pe_bl)) pss_nil)
      (pss_cons (ps_for PassesOwn.never rfl (pi_range1 rfl Z.range (pa_cons pe_int pa_nil)) (pg_name (i := 5) nd rfl (.inl rfl)) (pss_cons (ps_set (i := 6) nd rfl (.inr rfl) (pe_call Pc.G (by exact hr.mono (by decide)) (by rfl) Pc.g Pc.kp Pc.b .nil pass0 (pa_cons (pe_ix ix_list (pv 1) (pe_op op_add pe_int (pe_op op_mul pe_int (pv 5))) (fun _ _ => rfl)) pa_nil)))
 (pss_cons (ps_set (i := 9) nd rfl (.inl rfl) (pe_op op_mod (pe_callTy call_int1 (by rfl) Z.int (by decide +kernel) (pa_cons (pe_ix ix_list (pv 1) (pe_op op_add pe_int (pe_op op_mul pe_int (pv 5))) (fun _ _ => rfl)) pa_nil)) pe_int))
 (pss_cons (ps_set (i := 10) nd rfl (.inl rfl) (pe_meth (pv 8) Z.T.cl Z.has.m Z.has.G (by exact hr.mono (by decide)) Z.has.b .nil pass0 (pa_cons (pv 6) pa_nil)))
 (pss_cons (ps_if (PW.pt (pw_or (pt_not (pt_val (pe_callB call_isi (by rfl) Z.isi (by decide +kernel) (pa_cons (pv 10) (pa_cons (pe_bltn (v := .ty "bool") (by rfl) hbool (by decide +kernel) rfl) pa_nil))))) (pw_or1 (pt_cmpR op_ne (pv 10) (pe_cmpR (op_inD (room65 hr)) (pv 6) (pv 4) (by rfl)) (nomark _))))) (pss_one (ps_ret pe_bl)) pss_nil)
 (pss_cons (ps_set (i := 11) nd rfl (.inl rfl) (pe_tup (pa_cons (pv 8) (pa_cons (pv 2) (pa_cons (pv 3) (pa_cons (pv 4) pa_nil))))))
 (C8.pss_cut (ps_if (pt_cmpR op_eq (pv 9) pe_int (nomark _)) (pss_cons (ps_par (i := 2) (j := 3) rfl nd rfl rfl (by decide) rfl rfl (pa_cons (pv 6) (pa_cons (pv 2) pa_nil)) (by rfl))
      (pss_one (ps_set (i := 8) nd rfl (.inl rfl) (pe_meth (pv 8) Z.T.cl Z.ends.m Z.ends.G (by exact hr.mono (by decide)) Z.ends.b .nil pass0 (pa_cons (pv 2) (pa_cons (pv 3) pa_nil)))))) (pss_one (ps_if (pt_cmpR op_eq (pv 9) pe_int (nomark _)) (pss_cons (ps_par (i := 2) (j := 3) rfl nd rfl rfl (by decide) rfl rfl (pa_cons (pv 3) (pa_cons (pv 2) pa_nil)) (by rfl))
      (pss_one (ps_set (i := 8) nd rfl (.inl rfl) (pe_meth0 (pv 8) Z.T.cl Z.turned.m Z.turned.G (by exact hr.mono (by decide)) Z.turned.b .nil pass0)))) (pss_cons (ps_asg (pe_call Ch.G (by exact hr.mono (by decide)) (by rfl) Ch.g Ch.kp Ch.b .nil pass0 (pa_cons (pv 8) (pa_cons (pv 9) (pa_cons (pv 6) pa_nil)))) (pg_tup rfl (pgs_cons (pg_name (i := 12) nd rfl (.inl rfl)) (pgs_cons (pg_name (i := 13) nd rfl (.inl rfl)) pgs_nil))))
      (pss_one (ps_if (pt_cmpR op_eq (pe_cmpR (op_inD (room65 hr)) (pv 6) (pv 4) (by rfl)) (pe_cmpR op_eq (pv 9) pe_int (nomark _)) (nomark _)) (pss_one (ps_if (pt_cmpR (op_neD hr.units) (pe_tup (pa_cons (pv 12) (pa_cons (pv 13) pa_nil))) (pe_tup (pa_cons (pe_op op_add pe_int (pv 9)) (pa_cons (pv 6) pa_nil))) (nomark _)) (pss_one (ps_ret pe_bl)) pss_nil)) (pss_cons (ps_set (i := 4) nd rfl (.inl rfl) (pe_ifExp (pt_cmpR op_eq (pv 9) pe_int (nomark _)) (pe_op op_cat (pv 4) (pe_lst (pa_cons (pv 6) pa_nil))) (pe_lc (own := [("pick", 14)]) (g := gName 14) (tt := _) rfl nd (pi_list (pv 4)) (blkOk_by (N := NLaw) (sc := defScope s_law) (by decide +kernel)) (fun _ _ _ _ _ => pg_name (i := 14) nd rfl (Or.inl rfl)) (fun _ _ _ _ _ => pts_one (pt_cmpR (r := rNeD K) (op_neD (by exact hr.units)) (pv 14) (pv 6) (nomark _))) (fun _ _ _ _ _ => pv 14))))
      (pss_cons (ps_set (i := 8) nd rfl (.inl rfl) (pv 13))
      (pss_one (ps_if (PW.pt (pw_or (pt_cmpR op_ne (pv 12) pe_int (nomark _)) (pw_or1 (pt_cmpR op_notBl (pe_meth (pv 8) Z.T.cl Z.same.m Z.same.G (by exact hr.mono (by decide)) Z.same.b .nil pass0 (pa_cons (pe_ix ix_tup (pv 11) pe_int (fun _ _ => rfl)) pa_nil)) pe_bl (nomark _))))) (pss_one (ps_ret pe_bl)) pss_nil))))))))))
 (pss_one (ps_if (PW.pt (pw_or (pt_not (pt_val (pe_call S.G (by exact hr.mono (by decide)) (by rfl) S.g S.kp S.b .nil pass0 (pa_cons (pv 8) (pa_cons (pv 2) (pa_cons (pv 3) (pa_cons (pv 4) pa_nil))))))) (pw_or1 (pt_not (pt_val (pe_call S.G (by exact hr.mono (by decide)) (by rfl) S.g S.kp S.b .nil pass0 (pa_cons (pe_ix ix_tup (pv 11) pe_int (fun _ _ => rfl)) (pa_cons (pe_ix ix_tup (pv 11) pe_int (fun _ _ => rfl)) (pa_cons (pe_ix ix_tup (pv 11) pe_int (fun _ _ => rfl)) (pa_cons (pe_ix ix_tup (pv 11) pe_int (fun _ _ => rfl)) pa_nil)))))))))) (pss_one (ps_ret pe_bl)) pss_nil)))))))))
      (pss_one (ps_ret (pe_and (pe_cmpR op_isBl (pe_meth (pe_make Z.M Z.GI (by exact hr.mono (by decide)) (by rfl) Z.T.mgC Z.bI .nil (passes_call takes0 fun _ _ _ _ h => h) (pa_cons (pv 2) (pa_cons (pe_tup (pa_cons pe_int (pa_cons pe_int pa_nil))) (pa_cons (pv 4) pa_nil)))) Z.T.cl Z.same.m Z.same.G (by exact hr.mono (by decide)) Z.same.b .nil pass0 (pa_cons (pe_make Z.M Z.GI (by exact hr.mono (by decide)) (by rfl) Z.T.mgC Z.bI .nil (passes_call takes0 fun _ _ _ _ h => h) (pa_cons (pv 2) (pa_cons (pe_tup (pa_cons pe_int (pa_cons pe_int pa_nil))) (pa_cons (pv 4) pa_nil)))) pa_nil)) pe_bl (nomark _)) (pe_one (pe_call0 Fu.G (by exact hr.mono (by decide)) (by rfl) Fu.g Fu.kp Fu.b .nil pass0))))))))))))))), ?_⟩
    refine ⟨_, rfl, a0, sc, 70, rfl, hS, hlen, by decide, fun H1 p ns k1 np hp hl hs => ?_⟩
    have nums : ∀ z : Int, 0 ≤ z → z < 70 → ∃ n : Int, atI (ns.map V.int) z = some (.int n) := fun z z0 z1 => by
      have hlt : z.toNat < ns.length := by omega
      refine ⟨ns[z.toNat], at_of (j := z.toNat) (by omega) ?_⟩
      rw [List.getElem?_map, List.getElem?_eq_getElem hlt]
      rfl
    -- start, end
    obtain ⟨n0, h0⟩ := nums 0 (by decide) (by decide)
    obtain ⟨n1, h1⟩ := nums 1 (by decide) (by decide)
    obtain ⟨n2, h2⟩ := nums 2 (by decide) (by decide)
    refine ⟨_, rfl, p, _, _, _, rfl, rfl, SqL.of hp, h0, n0, rfl, fun H2 a k2 ha => ?_⟩
    refine ⟨_, rfl, p, _, _, _, rfl, rfl, SqL.of (k2 _ _ hp), h1, n1, rfl, fun H3 b k3 hb => ?_⟩
    have ha3 := ha.same k3
    have hp3 := k3 _ _ (k2 _ _ hp)
    generalize plc n0 = st at ha3
    generalize plc n1 = en at hb
    -- picks
    refine ⟨Nat.zero_le _, fun l nl => ?_⟩
    have kl : Same H3 (upd H3 l (.lst [])) := same_upd nl
    refine ⟨_, rfl, p, _, _, _, rfl, rfl, SqL.of (kl _ _ hp3), h2, .inl ⟨_, rfl, _, _, rfl, rfl, (by show (0 : Int) < 11; decide), ?_⟩⟩
    have hm0 : 0 ≤ n2 % 11 := Int.emod_nonneg _ (by decide)
    have hm1 : n2 % 11 < 11 := Int.emod_lt_of_pos _ (by decide)
    obtain ⟨m, hm⟩ : ∃ m : Nat, n2 % 11 = (m : Int) := ⟨(n2 % 11).toNat, by omega⟩
    refine ⟨n2 % 11, rfl, by omega, by omega, ?_⟩
    rw [hm]
    have hm11 : m < 11 := by omega
    refine for_range (lo := 0) (n := m) (fun i σ H' => ∃ (xs : List V) (ps : List Pl) (v5 v6 : Option V), σ = [some (.ref a0), some (.ref p), some a, some b, some (.ref l), v5, v6, none, none, none, none, none, none, none, none] ∧
      H' p = some (.lst (ns.map V.int)) ∧ Pr H' a st ∧ Pr H' b en ∧ H' l = some (.lst xs) ∧ Prs H' xs ps ∧ ps.Nodup ∧ ps.length ≤ i) ?_ ?_ ?_
    · exact ⟨[], [], none, none, rfl, kl _ _ hp3, ha3.same kl, hb.same kl, upd_same, .nil, .nil, Nat.le_refl _⟩
    · rintro i σ H' hi ⟨xs, ps, v5, v6, rfl, gp, pa, pb, gl, px, pn, pl⟩
      obtain ⟨n, hn⟩ := nums (3 + (0 + (i : Int))) (by omega) (by omega)
      refine ⟨_, rfl, _, rfl, _, _, rfl, rfl, p, _, _, _, rfl, rfl, SqL.of gp, hn, n, rfl, fun H4 u k4 hu => ?_⟩
      generalize plc n = z at hu
      have px4 := px.same k4
      have hxl := px.len
      refine ⟨_, rfl, _, rfl, dP z, ps.map dP, hu.dp, px4.dl (SqL.of (k4 _ _ gl)), sh_dP z, sh_dL ps, _, rfl, ?_⟩
      rw [any_dP]
      have npl : p ≠ l := fun e => by
        rw [e] at hp3
        rw [hp3] at nl
        cases nl
      refine ite2 (fun hc => ?_) (fun hc => ?_)
      · have hz : z ∉ ps := fun m => by
          rw [decide_eq_true m] at hc
          cases hc
        have gl4 := k4 _ _ gl
        refine ⟨_, rfl, Or.inl ⟨rfl, _, SqL.of gl4⟩, _, rfl, l, xs, _, rfl, rfl, gl4, small1000 (by omega), ?_⟩
        exact ⟨_, ps ++ [z], _, _, rfl, by rw [upd_ne npl]; exact k4 _ _ gp, (pa.same k4).over gl4, (pb.same k4).over gl4, upd_same, (px4.snoc hu).over gl4,
          List.nodup_append.mpr ⟨pn, List.nodup_cons.mpr ⟨by simp, .nil⟩, fun y hy y' hy' e => hz (by rw [List.mem_singleton.mp hy'] at e; rw [← e]; exact hy)⟩, by rw [List.length_append]; show ps.length + 1 ≤ i + 1; omega⟩
      · exact ⟨xs, ps, _, _, rfl, k4 _ _ gp, pa.same k4, pb.same k4, k4 _ _ gl, px4, pn, by omega⟩
    · rintro σ H' ⟨xs, ps, v5, v6, rfl, gp, pa, pb, gl, px, pn, pl⟩
      have hxl := px.len
      -- given = list(picks); task = Task(start, end, given); given.append((9, 9))
      refine ⟨_, rfl, l, xs, rfl, .inl (SqL.of gl), fun gv ngv => ?_⟩
      obtain ⟨H4, e4, k4, g4⟩ := made (o := .lst xs) ngv
      rw [e4]
      refine ⟨_, rfl, _, rfl, _, rfl, ?_⟩
      intro x dy nx ndy nexy
      have kx := mkSame (o := .ins Z.C dy []) (u := .own x) nx ndy
      have k4x := k4.trans kx
      refine ⟨x, dy, gv, a, b, st, en, xs, ps, rfl, upd_same, pa.same k4x, pb.same k4x, SqL.of (kx _ _ g4), px.same k4x, by omega, fun _ _ H5 hT5 hB5 hF5 => ⟨rfl, ?_⟩, fun bad => (bad ⟨by omega, pn⟩).elim⟩
      have k5 : Same H4 H5 := mkBut nx ndy hB5
      refine ⟨_, rfl, Or.inl ⟨rfl, _, SqL.of (k5 _ _ g4)⟩, (by show 2 ≤ sizeLine; decide), fun t9 nt9 => ?_⟩
      obtain ⟨H6, e6, k6, g6⟩ := made (o := .tup [.int 9, .int 9]) nt9
      rw [e6]
      have k46 := k5.trans k6
      have gv6 := k46 _ _ g4
      refine ⟨gv, xs, _, rfl, rfl, gv6, small1000 (by omega), ?_⟩
      have tn : ∀ dx a b r, H6 x = some (.ins Z.C dx (tf a b r)) → r ≠ gv := fun dx a b r e z => by
        obtain ⟨dx', l', a', b', zs', t1, _⟩ := id hT5
        have e5 := k6 _ _ t1
        rw [e] at e5
        have z2 := Option.some.inj e5
        injection z2 with _ _ z3
        have z4 := tf_picks a b r
        rw [z3, tf_picks] at z4
        have z5 : l' = r := V.ref.inj (Option.some.inj z4)
        have fr := hF5 _ _ _ _ t1
        rw [z5, z, kx _ _ g4] at fr
        cases fr
      have hT7 : TaskAt Z.C (upd H6 gv (.lst (xs ++ [.ref t9]))) x st en (sortP ps) := (hT5.same k6).over gv6 tn
      have k06 := k4.trans k46
      have ngp : p ≠ gv := ne_of_none gp ngv
      have ngl : l ≠ gv := ne_of_none gl ngv
      have pa7 := (pa.same k06).over (ws := xs ++ [.ref t9]) gv6
      have pb7 := (pb.same k06).over (ws := xs ++ [.ref t9]) gv6
      have px7 := (px.same k06).over (ws := xs ++ [.ref t9]) gv6
      have gp7 : (upd H6 gv (.lst (xs ++ [.ref t9]))) p = some (.lst (ns.map V.int)) := by rw [upd_ne ngp]; exact k06 _ _ gp
      have gl7 : (upd H6 gv (.lst (xs ++ [.ref t9]))) l = some (.lst xs) := by rw [upd_ne ngl]; exact k06 _ _ gl
      generalize upd H6 gv (.lst (xs ++ [.ref t9])) = H7 at hT7 pa7 pb7 px7 gp7 gl7
      -- if not _law_is(task, start, end, picks)
      refine ⟨_, rfl, _, rfl, _, rfl, _, rfl, x, l, a, b, st, en, xs, ps, rfl, hT7, pa7, pb7, gl7, px7, pn, by omega, fun H8 k8 => ⟨_, rfl, iteF ?_⟩⟩
      -- for k in range(10)
      refine ⟨_, rfl, by decide, by decide, ?_⟩
      refine for_range (lo := 0) (n := 10) (fun i σ H' => ∃ (t l : Addr) (a b : V) (xs : List V) (st en : Pl) (ps : List Pl) (v5 v6 v9 v10 v11 v12 v13 : Option V), σ = [some (.ref a0), some (.ref p), some a, some b, some (.ref l), v5, v6, some (.ref gv), some (.ref t), v9, v10, v11, v12, v13, none] ∧
        H' p = some (.lst (ns.map V.int)) ∧ TaskAt Z.C H' t st en (sortP ps) ∧ Pr H' a st ∧ Pr H' b en ∧ H' l = some (.lst xs) ∧ Prs H' xs ps ∧ ps.Nodup ∧ ps.length ≤ 11 + i) ?_ ?_ ?_
      · exact ⟨x, l, a, b, xs, st, en, ps, _, _, none, none, none, none, none, rfl, k8 _ _ gp7, hT7.same k8, pa7.same k8, pb7.same k8, k8 _ _ gl7, px7.same k8, pn, by omega⟩
      · clear hT7 pa7 pb7 px7 gp7 gl7 k8 tn k06 ngp ngl hT5 hB5 hF5 gv6 k46 k4x kx nx ndy px pa pb pl pn gl gp hxl g6 k6 nt9 k5 g4 k4 ngv
        rintro i σ H' hi ⟨t, l, a, b, xs, st, en, ps, v5, v6, v9, v10, v11, v12, v13, rfl, gp, hT, pa, pb, gl, px, pn, pl⟩
        have hxl := px.len
        obtain ⟨nA, hA⟩ := nums (20 + 3 * (0 + (i : Int))) (by omega) (by omega)
        obtain ⟨nB, hB⟩ := nums (21 + 3 * (0 + (i : Int))) (by omega) (by omega)
        -- place
        refine ⟨_, rfl, _, rfl, _, _, rfl, rfl, .inl ⟨by decide, by decide⟩, _, _, rfl, rfl, p, _, _, _, rfl, rfl, SqL.of gp, hA, nA, rfl, fun H1 u k1 hu => ?_⟩
        generalize plc nA = z at hu
        -- kind
        refine ⟨_, rfl, _, rfl, _, _, rfl, rfl, .inl ⟨by decide, by decide⟩, _, _, rfl, rfl, p, _, _, _, rfl, rfl, SqL.of (k1 _ _ gp), hB, .inl ⟨_, rfl, _, _, rfl, rfl, (by show (0 : Int) < 4; decide), ?_⟩⟩
        dsimp (config := { proj := false }) only
        have hk0 : 0 ≤ nB % 4 := Int.emod_nonneg _ (by decide)
        have hk4 : nB % 4 < 4 := Int.emod_lt_of_pos _ (by decide)
        generalize nB % 4 = kd at hk0 hk4
        -- told
        have hT1 := hT.same k1
        obtain ⟨dx, l2, a', b', zs, t1, t2⟩ := id hT1
        refine ⟨_, rfl, t, dx, _, rfl, t1, tf_no _ _ _ (by decide +kernel) (by decide +kernel) (by decide +kernel), _, rfl, t, u, st, en, z, _, rfl, hT1, hu, ?_⟩
        have gl1 := k1 _ _ gl
        have px1 := px.same k1
        refine ⟨_, rfl, _, _, _, _, true, rfl, .ty "bool", .base (.bl _), kit_ty (by decide +kernel), _, rfl, iteF ?_⟩
        refine ⟨_, rfl, _, rfl, _, rfl, dP z, ps.map dP, hu.dp, px1.dl (SqL.of gl1), sh_dP z, sh_dL ps, rfl, _, rfl, ?_⟩
        rw [any_dP]
        have hmem : decide (z ∈ sortP ps) = decide (z ∈ ps) := by simp only [sortP_mem]
        rw [hmem]
        refine iteNS rfl ?_
        -- before
        refine ⟨_, rfl, _, rfl, _, rfl, _, rfl, (by show 4 ≤ sizeLine; decide), fun bt nbt => ?_⟩
        obtain ⟨H2, e2, k2, g2⟩ := made (o := .tup [.ref t, a, b, .ref l]) nbt
        rw [e2]
        have k12 := k1.trans k2
        have gl2 := k12 _ _ gl
        have px2 := px.same k12
        have hT2 := hT.same k12
        have hu2 := hu.same k2
        have pa2 := pa.same k12
        have pb2 := pb.same k12
        have gp2 := k12 _ _ gp
        have t12 := k2 _ _ t1
        have lps : (sortP ps).length = ps.length := sortP_len ps
        refine ⟨fun σ' H' => ∃ (t' l' : Addr) (a1 b1 : V) (xs' : List V) (st' en' : Pl) (ps' : List Pl) (w12 w13 : Option V), σ' = [some (.ref a0), some (.ref p), some a1, some b1, some (.ref l'), some (.int (0 + (i : Int))), some u, some (.ref gv), some (.ref t'), some (.int kd), some (.bl (decide (z ∈ ps))), some (.ref bt), w12, w13, none] ∧
          TaskAt Z.C H' t' st' en' (sortP ps') ∧ Pr H' a1 st' ∧ Pr H' b1 en' ∧ H' l' = some (.lst xs') ∧ Prs H' xs' ps' ∧ ps'.Nodup ∧ ps'.length ≤ 12 + i ∧ Same H2 H', ?_, ?_⟩
        · -- kind == 2
          refine ⟨_, rfl, rfl, _, rfl, ?_⟩
          refine ite2 (fun hc => ?_) (fun hc2 => ?_)
          · refine ⟨_, rfl, _, rfl, _, _, rfl, ?_⟩
            refine ⟨_, rfl, t, dx, _, rfl, t12, tf_no _ _ _ (by decide +kernel) (by decide +kernel) (by decide +kernel), _, rfl, _, rfl, t, u, a, st, en, z, st, _, rfl, hT2, hu2, pa2, fun H3 r k3 nr hR => ?_⟩
            exact ⟨r, l, u, a, xs, z, st, ps, v12, v13, rfl, hR, hu2.same k3, pa2.same k3, k3 _ _ gl2, px2.same k3, pn, by omega, k3⟩
          -- kind == 3
          refine ⟨_, rfl, rfl, _, rfl, ?_⟩
          refine ite2 (fun hc => ?_) (fun hc3 => ?_)
          · refine ⟨_, rfl, _, rfl, _, _, rfl, ?_⟩
            refine ⟨_, rfl, t, dx, _, rfl, t12, tf_no _ _ _ (by decide +kernel) (by decide +kernel) (by decide +kernel), t, st, en, _, rfl, hT2, fun H3 r k3 nr hR => ?_⟩
            exact ⟨r, l, b, a, xs, en, st, ps, v12, v13, rfl, hR, pb2.same k3, pa2.same k3, k3 _ _ gl2, px2.same k3, pn, by omega, k3⟩
          have hkd : kd = 0 ∨ kd = 1 := by
            have d2 : kd ≠ 2 := fun e => hc2 (decide_eq_true (by rw [e]))
            have d3 : kd ≠ 3 := fun e => hc3 (decide_eq_true (by rw [e]))
            omega
          -- code, made = _law_changed(task, kind, place)
          refine ⟨_, rfl, _, rfl, _, rfl, t, kd, u, st, en, z, _, rfl, hT2, hu2, by omega, ?_, ?_, ?_, ?_⟩
          · intro h0 hz H3 tt k3 ht
            refine ⟨tt, _, rfl, SqT.of ht, rfl, _, _, rfl, _, _, rfl, rfl, ?_⟩
            refine ⟨_, rfl, _, rfl, dP z, ps.map dP, (hu2.same k3).dp, (px2.same k3).dl (SqL.of (k3 _ _ gl2)), sh_dP z, sh_dL ps, _, rfl, rfl, rfl, _, rfl, ?_⟩
            rw [any_dP]
            refine iteP (by rw [decide_eq_true (sortP_mem.mp hz), h0]; rfl) ?_
            refine ⟨_, rfl, _, rfl, (by show 2 ≤ sizeLine; decide), fun w1 nw1 => ?_⟩
            obtain ⟨H4, e4, k4, g4⟩ := made (o := .tup [.int 1, u]) nw1
            rw [e4]
            refine ⟨_, rfl, _, _, rfl, rfl, _, rfl, (by show 2 ≤ sizeLine; decide), fun w2 nw2 => ?_⟩
            obtain ⟨H5, e5, k5, g5⟩ := made (o := .tup [.int (1 + kd), u]) nw2
            rw [e5]
            have k35 := (k3.trans k4).trans k5
            refine ⟨dC 1 z, dC (1 + kd) z, .tup (SqT.of (k5 _ _ g4)) (.cons (.int _) (.cons (hu2.same k35).dp .nil)), .tup (SqT.of g5) (.cons (.int _) (.cons (hu2.same k35).dp .nil)), rfl, rfl, _, rfl, ?_⟩
            rw [eqv_dC]
            refine iteNS ⟨by omega, rfl⟩ ?_
            exact ⟨t, l, a, b, xs, st, en, ps, _, _, rfl, hT2.same k35, pa2.same k35, pb2.same k35, k35 _ _ gl2, px2.same k35, pn, by omega, k35⟩
          · intro h0 hz H3 tt r k3 ht hR
            have hz' : z ∉ ps := fun m => hz (sortP_mem.mpr m)
            refine ⟨tt, _, rfl, SqT.of ht, rfl, _, _, rfl, _, _, rfl, rfl, ?_⟩
            refine ⟨_, rfl, _, rfl, dP z, ps.map dP, (hu2.same k3).dp, (px2.same k3).dl (SqL.of (k3 _ _ gl2)), sh_dP z, sh_dL ps, _, rfl, rfl, rfl, _, rfl, ?_⟩
            rw [any_dP]
            refine iteN (by rw [decide_eq_false hz', h0]; decide) ?_
            refine ⟨_, rfl, rfl, _, rfl, iteP (by rw [h0]) ?_⟩
            refine ⟨_, rfl, _, rfl, (by show 1 ≤ sizeLine; decide), fun m nm => ?_⟩
            obtain ⟨H4, e4, k4, g4⟩ := made (o := .lst [u]) nm
            rw [e4]
            refine ⟨l, m, _, _, rfl, rfl, k4 _ _ (k3 _ _ gl2), g4, ?_, fun c nc => ?_⟩
            · show xs.length + 1 ≤ sizeLine
              rw [sizeLine_eq]
              omega
            obtain ⟨H5, e5, k5, g5⟩ := made (o := .lst (xs ++ [u])) nc
            rw [e5]
            have k35 := (k3.trans k4).trans k5
            have hR5 := hR.same (k4.trans k5)
            obtain ⟨dx5, l5, a5, b5, zs5, u1, u2⟩ := id hR5
            refine ⟨_, rfl, ?_⟩
            refine ⟨_, rfl, rfl, _, rfl, iteNS rfl ?_⟩
            refine ⟨_, rfl, r, dx5, _, rfl, u1, tf_no _ _ _ (by decide +kernel) (by decide +kernel) (by decide +kernel), _, rfl, bt, _, _, .ref t, rfl, rfl, SqT.of (k35 _ _ g2), rfl, r, t, st, en, st, en, _, _, rfl, hR5, hT2.same k35, fun H6 k6 => ⟨_, _, rfl, rfl, _, rfl, ?_⟩⟩
            have hne : ¬ (st = st ∧ en = en ∧ sortP (sortP ps ++ [z]) = sortP ps) := fun e => by
              have e2 := congrArg List.length e.2.2
              rw [sortP_len, sortP_len, List.length_append, sortP_len] at e2
              exact absurd e2 (by show ¬ ps.length + 1 = ps.length; omega)
            rw [decide_eq_false hne]
            refine iteF ?_
            have k26 := k35.trans k6
            have hnew : TaskAt Z.C H6 r st en (sortP (ps ++ [z])) := by
              have e : sortP (sortP ps ++ [z]) = sortP (ps ++ [z]) := sortP_congr ((sortP_perm ps).append_right [z])
              rw [← e]
              exact hR5.same k6
            exact ⟨r, c, a, b, xs ++ [u], st, en, ps ++ [z], _, _, rfl, hnew, pa2.same k26, pb2.same k26, k6 _ _ g5, (px2.same k26).snoc (hu2.same k26),
              List.nodup_append.mpr ⟨pn, List.nodup_cons.mpr ⟨by simp, .nil⟩, fun y hy y' hy' e => hz' (by rw [List.mem_singleton.mp hy'] at e; rw [← e]; exact hy)⟩, by rw [List.length_append]; show ps.length + 1 ≤ 12 + i; omega, k26⟩
          · intro h0 hz H3 tt k3 ht
            have h1 : kd = 1 := by omega
            have hz' : z ∉ ps := fun m => hz (sortP_mem.mpr m)
            refine ⟨tt, _, rfl, SqT.of ht, rfl, _, _, rfl, _, _, rfl, rfl, ?_⟩
            refine ⟨_, rfl, _, rfl, dP z, ps.map dP, (hu2.same k3).dp, (px2.same k3).dl (SqL.of (k3 _ _ gl2)), sh_dP z, sh_dL ps, _, rfl, rfl, rfl, _, rfl, ?_⟩
            rw [any_dP]
            refine iteP (by rw [decide_eq_false hz', h1]; rfl) ?_
            refine ⟨_, rfl, _, rfl, (by show 2 ≤ sizeLine; decide), fun w1 nw1 => ?_⟩
            obtain ⟨H4, e4, k4, g4⟩ := made (o := .tup [.int 2, u]) nw1
            rw [e4]
            refine ⟨_, rfl, _, _, rfl, rfl, _, rfl, (by show 2 ≤ sizeLine; decide), fun w2 nw2 => ?_⟩
            obtain ⟨H5, e5, k5, g5⟩ := made (o := .tup [.int (1 + kd), u]) nw2
            rw [e5]
            have k35 := (k3.trans k4).trans k5
            refine ⟨dC 2 z, dC (1 + kd) z, .tup (SqT.of (k5 _ _ g4)) (.cons (.int _) (.cons (hu2.same k35).dp .nil)), .tup (SqT.of g5) (.cons (.int _) (.cons (hu2.same k35).dp .nil)), rfl, rfl, _, rfl, ?_⟩
            rw [eqv_dC]
            refine iteNS ⟨by omega, rfl⟩ ?_
            exact ⟨t, l, a, b, xs, st, en, ps, _, _, rfl, hT2.same k35, pa2.same k35, pb2.same k35, k35 _ _ gl2, px2.same k35, pn, by omega, k35⟩
          · intro h0 hz H3 tt r k3 ht hR
            have h1 : kd = 1 := by omega
            have hz' : z ∈ ps := sortP_mem.mp hz
            refine ⟨tt, _, rfl, SqT.of ht, rfl, _, _, rfl, _, _, rfl, rfl, ?_⟩
            refine ⟨_, rfl, _, rfl, dP z, ps.map dP, (hu2.same k3).dp, (px2.same k3).dl (SqL.of (k3 _ _ gl2)), sh_dP z, sh_dL ps, _, rfl, rfl, rfl, _, rfl, ?_⟩
            rw [any_dP]
            refine iteN (by rw [decide_eq_true hz', h1]; decide) ?_
            refine ⟨_, rfl, rfl, _, rfl, iteN (by rw [h1]; decide) ?_⟩
            refine ⟨_, rfl, l, rfl, ⟨_, SqL.of (k3 _ _ gl2)⟩, fun D hD => ?_⟩
            refine lc_list (K := K) (a := l) (xs := xs) (fun i H' => ∃ vs : List V, Same H3 H' ∧ H' D = some (.lst vs) ∧ Prs H' vs ((ps.take i).filter fun q => !decide (q = z)) ∧ vs.length ≤ i) ?_ ?_ ?_ ?_
            · exact ⟨[], same_upd hD, upd_same, .nil, Nat.le_refl _⟩
            · exact fun i H' _ ⟨_, k, _⟩ => SqL.of (k _ _ (k3 _ _ gl2))
            · rintro j y H' hj ⟨vs, k, hd, hp', hle⟩
              have hil : j < xs.length := (List.getElem?_eq_some_iff.mp hj).1
              obtain ⟨q1, hq1, hy⟩ := (px2.same (k3.trans k)).at hj
              have etake : ps.take (j + 1) = ps.take j ++ [q1] := by
                rw [List.take_add_one, hq1]
                rfl
              refine ⟨rfl, _, rfl, _, rfl, dP q1, dP z, hy.dp, (hu2.same (k3.trans k)).dp, sh_dP q1, sh_dP z, _, rfl, ?_⟩
              rw [eqv_dP]
              refine ite2 (fun he => ?_) (fun he => ?_)
              · have hne : ¬ q1 = z := fun e => by
                  rw [decide_eq_true e] at he
                  cases he
                refine ⟨_, rfl, vs, hd, small1000 (by omega), vs ++ [y], Same.over k hD, upd_same, ?_, by rw [List.length_append]; show vs.length + 1 ≤ j + 1; omega⟩
                rw [etake, List.filter_append]
                have hf : ([q1].filter fun q => !decide (q = z)) = [q1] := by simp [hne]
                rw [hf]
                exact (hp'.snoc hy).over hd
              · have heq : q1 = z := Decidable.byContradiction fun m => he (by rw [decide_eq_false m]; rfl)
                refine ⟨vs, k, hd, ?_, by omega⟩
                rw [etake, List.filter_append]
                have hf : ([q1].filter fun q => !decide (q = z)) = [] := by simp [heq]
                rw [hf, List.append_nil]
                exact hp'
            · rintro H5 ⟨vs, k35, hd, hp', hle⟩
              rw [hxl, List.take_length] at hp'
              have k25 := k3.trans k35
              have hR5 := hR.same k35
              obtain ⟨dx5, l5, a5, b5, zs5, u1, u2⟩ := id hR5
              refine ⟨_, rfl, ?_⟩
              refine ⟨_, rfl, rfl, _, rfl, iteNS rfl ?_⟩
              refine ⟨_, rfl, r, dx5, _, rfl, u1, tf_no _ _ _ (by decide +kernel) (by decide +kernel) (by decide +kernel), _, rfl, bt, _, _, .ref t, rfl, rfl, SqT.of (k25 _ _ g2), rfl, r, t, st, en, st, en, _, _, rfl, hR5, hT2.same k25, fun H6 k6 => ⟨_, _, rfl, rfl, _, rfl, ?_⟩⟩
              have hne : ¬ (st = st ∧ en = en ∧ sortP ((sortP ps).filter fun q => !decide (q = z)) = sortP ps) := fun e => by
                have m : z ∈ sortP ((sortP ps).filter fun q => !decide (q = z)) := by
                  rw [e.2.2]
                  exact hz
                have m2 := (List.mem_filter.mp (sortP_mem.mp m)).2
                simp at m2
              rw [decide_eq_false hne]
              refine iteF ?_
              have k26 := k25.trans k6
              have hnew : TaskAt Z.C H6 r st en (sortP (ps.filter fun q => !decide (q = z))) := by
                have e : sortP ((sortP ps).filter fun q => !decide (q = z)) = sortP (ps.filter fun q => !decide (q = z)) := sortP_congr ((sortP_perm ps).filter _)
                rw [← e]
                exact hR5.same k6
              have hfl : (ps.filter fun q => !decide (q = z)).length ≤ ps.length := List.length_filter_le _ _
              exact ⟨r, D, a, b, vs, st, en, _, _, _, rfl, hnew, pa2.same k26, pb2.same k26, k6 _ _ hd, hp'.same k6, pn.filter _, by omega, k26⟩
        · rintro σ' H3 ⟨t', l', a1, b1, xs', st', en', ps', w12, w13, rfl, hT3, pa3, pb3, gl3, px3, pn3, pl3, k3⟩
          refine ⟨_, rfl, _, rfl, _, rfl, _, rfl, t', l', a1, b1, st', en', xs', ps', rfl, hT3, pa3, pb3, gl3, px3, pn3, by omega, fun H4 k4 => ⟨_, rfl, iteF ?_⟩⟩
          have k34 := k3.trans k4
          have gb : SqT K H4 bt [.ref t, a, b, .ref l] := SqT.of (k34 _ _ g2)
          refine ⟨_, rfl, bt, _, _, .ref t, rfl, rfl, gb, rfl, _, rfl, bt, _, _, a, rfl, rfl, gb, rfl, _, rfl, bt, _, _, b, rfl, rfl, gb, rfl, _, rfl, bt, _, _, .ref l, rfl, rfl, gb, rfl, ?_⟩
          refine ⟨t, l, a, b, st, en, xs, ps, rfl, hT2.same k34, pa2.same k34, pb2.same k34, k34 _ _ gl2, px2.same k34, pn, by omega, fun H5 k5 => ⟨_, rfl, iteF ?_⟩⟩
          have k45 := k4.trans k5
          exact ⟨t', l', a1, b1, xs', st', en', ps', _, _, _, _, _, _, _, rfl, (k34.trans k5) _ _ gp2, hT3.same k45, pa3.same k45, pb3.same k45, k45 _ _ gl3, px3.same k45, pn3, by omega⟩
      · rintro σ H' ⟨t, l, a, b, xs, st, en, ps, v5, v6, v9, v10, v11, v12, v13, rfl, gp, hT, pa, pb, gl, px, pn, pl⟩
        have hxl := px.len
        refine ⟨_, rfl, (by show 2 ≤ sizeLine; decide), fun t1 nt1 => ?_⟩
        obtain ⟨H2, e2, k2, g2⟩ := made (o := .tup [.int 7, .int 7]) nt1
        rw [e2]
        refine ⟨_, rfl, ?_⟩
        intro x dy nx ndy nexy
        have kx := mkSame (o := .ins Z.C dy []) (u := .own x) nx ndy
        have k2x := k2.trans kx
        refine ⟨x, dy, l, a, .ref t1, st, (7, 7), xs, ps, rfl, upd_same, pa.same k2x, ⟨t1, rfl, kx _ _ g2⟩, SqL.of (k2x _ _ gl), px.same k2x, by omega, fun _ _ H3 hX hB _ => ⟨rfl, ?_⟩, fun bad => (bad ⟨by omega, pn⟩).elim⟩
        have k3 : Same H2 H3 := mkBut nx ndy hB
        have k23 := k2.trans k3
        obtain ⟨dx, lx, ax, bx, zsx, u1, u2⟩ := id hX
        refine ⟨x, dx, _, rfl, u1, tf_no _ _ _ (by decide +kernel) (by decide +kernel) (by decide +kernel), ?_⟩
        refine ⟨_, rfl, (by show 2 ≤ sizeLine; decide), fun t2 nt2 => ?_⟩
        obtain ⟨H4, e4, k4, g4⟩ := made (o := .tup [.int 7, .int 8]) nt2
        rw [e4]
        refine ⟨_, rfl, ?_⟩
        intro y dz ny ndz nexz
        have ky := mkSame (o := .ins Z.C dz []) (u := .own y) ny ndz
        have k24 := (k23.trans k4).trans ky
        refine ⟨y, dz, l, a, .ref t2, st, (7, 8), xs, ps, rfl, upd_same, pa.same k24, ⟨t2, rfl, ky _ _ g4⟩, SqL.of (k24 _ _ gl), px.same k24, by omega, fun _ _ H5 hY hB2 _ => ⟨rfl, ?_⟩, fun bad => (bad ⟨by omega, pn⟩).elim⟩
        have k5 : Same H4 H5 := mkBut ny ndz hB2
        refine ⟨x, y, st, (7, 7), st, (7, 8), _, _, rfl, hX.same (k4.trans k5), hY, fun H6 k6 => ⟨_, _, rfl, rfl, _, rfl, ?_⟩⟩
        have hne : ¬ (st = st ∧ ((7, 7) : Pl) = (7, 8) ∧ sortP ps = sortP ps) := fun e => absurd e.2.1 (by decide)
        rw [decide_eq_false hne]
        refine iteT ?_
        exact ⟨rfl, fun H7 _ => q H7⟩
end
/-! ### what the top has left -/
theorem all_mk {l : PySem.W.OpenLaw} {w : World} {K : PySem.W.Frag} {h : Heap} {mg : Str → Option Value} {fa : Addr} (X : K.In h) (G : h.Ns mainGlobals mg) (hfa : mg "law" = some (.ref fa))
    {C : Addr}
    {CI : Addr}
    {CL : Addr}
    {CT : Addr}
    {CU : Addr}
    {Pe : Addr}
    {nm0 qn0 : Str} {N0 : Addr} {bs0 : List Value} {sn0 : List Str} {sb0 : List Value} {ab0 : Bool} {co0 : Option Bool} {dd0 : Option Addr} {ma0 mb0 mc0 md0 me0 : Option Value}
    {f_iCT : Addr}
    {od_iCT an_iCT : Option Addr} {sl_iCT : Array (Option Value)} {oc_iCT kV_iCT dc_iCT pm_iCT cd_iCT ct_iCT : Value}
    {nm1 qn1 : Str} {N1 : Addr} {bs1 : List Value} {sn1 : List Str} {sb1 : List Value} {ab1 : Bool} {co1 : Option Bool} {dd1 : Option Addr} {ma1 mb1 mc1 md1 me1 : Option Value}
    {f_iCU : Addr}
    {od_iCU an_iCU : Option Addr} {sl_iCU : Array (Option Value)} {oc_iCU kV_iCU dc_iCU pm_iCU cd_iCU ct_iCU : Value}
    {tk : Tok}
    {f_ini : Addr}
    {od_ini an_ini : Option Addr} {sl_ini : Array (Option Value)} {oc_ini kV_ini dc_ini pm_ini cd_ini ct_ini : Value}
    {f_marks : Addr}
    {od_marks an_marks : Option Addr} {sl_marks : Array (Option Value)} {oc_marks kV_marks dc_marks pm_marks cd_marks ct_marks : Value}
    {f_has : Addr}
    {od_has an_has : Option Addr} {sl_has : Array (Option Value)} {oc_has kV_has dc_has pm_has cd_has ct_has : Value}
    {f_wth : Addr}
    {od_wth an_wth : Option Addr} {sl_wth : Array (Option Value)} {oc_wth kV_wth dc_wth pm_wth cd_wth ct_wth : Value}
    {f_wto : Addr}
    {od_wto an_wto : Option Addr} {sl_wto : Array (Option Value)} {oc_wto kV_wto dc_wto pm_wto cd_wto ct_wto : Value}
    {f_ends : Addr}
    {od_ends an_ends : Option Addr} {sl_ends : Array (Option Value)} {oc_ends kV_ends dc_ends pm_ends cd_ends ct_ends : Value}
    {f_turned : Addr}
    {od_turned an_turned : Option Addr} {sl_turned : Array (Option Value)} {oc_turned kV_turned dc_turned pm_turned cd_turned ct_turned : Value}
    {f_same : Addr}
    {od_same an_same : Option Addr} {sl_same : Array (Option Value)} {oc_same kV_same dc_same pm_same cd_same ct_same : Value}
    {pp : Addr}
    {prest : List Value}
    {f_picks : Addr}
    {od_picks an_picks : Option Addr} {sl_picks : Array (Option Value)} {oc_picks kV_picks dc_picks pm_picks cd_picks ct_picks : Value}
    {f_row : Addr}
    {od_row an_row : Option Addr} {sl_row : Array (Option Value)} {oc_row kV_row dc_row pm_row cd_row ct_row : Value}
    {f_num : Addr}
    {od_num an_num : Option Addr} {sl_num : Array (Option Value)} {oc_num kV_num dc_num pm_num cd_num ct_num : Value}
    {f_pl : Addr}
    {od_pl an_pl : Option Addr} {sl_pl : Array (Option Value)} {oc_pl kV_pl dc_pl pm_pl cd_pl ct_pl : Value}
    {f_is : Addr}
    {od_is an_is : Option Addr} {sl_is : Array (Option Value)} {oc_is kV_is dc_is pm_is cd_is ct_is : Value}
    {f_ch : Addr}
    {od_ch an_ch : Option Addr} {sl_ch : Array (Option Value)} {oc_ch kV_ch dc_ch pm_ch cd_ch ct_ch : Value}
    {f_fu : Addr}
    {od_fu an_fu : Option Addr} {sl_fu : Array (Option Value)} {oc_fu kV_fu dc_fu pm_fu cd_fu ct_fu : Value}
    {f_gr : Addr}
    {od_gr an_gr : Option Addr} {sl_gr : Array (Option Value)} {oc_gr kV_gr dc_gr pm_gr cd_gr ct_gr : Value}
    {f_law : Addr}
    {od_law an_law : Option Addr} {sl_law : Array (Option Value)} {oc_law kV_law dc_law pm_law cd_law ct_law : Value}
    (a_C : PySem.W.nsIn K mainGlobals "Task" = some (some (.ref C)))
    (pg_C : PySem.W.plainGet K C Str.empty = true)
    (hd_C : PySem.W.hasDictIn K C = true)
    (po_C : PySem.W.plainOver K C = true)
    (sa_C : PySem.W.findIn K (.ref C) "__setattr__" = some (some (.builtin "object.__setattr__")))
    (mk_C : PySem.W.makesIn K C = true)
    (kc_C : PySem.W.keepIn K (.ref C) = true)
    (nstart : PySem.W.findIn K (.ref C) "start" = some none)
    (nend : PySem.W.findIn K (.ref C) "end" = some none)
    (nppicks : PySem.W.findIn K (.ref C) "_picks" = some none)
    (a_CI : PySem.W.nsIn K mainGlobals "InvalidTask" = some (some (.ref CI)))
    (a_CL : PySem.W.nsIn K mainGlobals "TooLarge" = some (some (.ref CL)))
    (a_CT : PySem.W.nsIn K mainGlobals "PickTaken" = some (some (.ref CT)))
    (a_CU : PySem.W.nsIn K mainGlobals "UnknownPick" = some (some (.ref CU)))
    (a_Pe : PySem.W.nsIn K mainGlobals "PickError" = some (some (.ref Pe)))
    (kpCI : PySem.W.keepIn K (.ref CI) = true)
    (exCI : PySem.W.excIn K CI [.type "ValueError", .type "Exception", .type "BaseException", .type "object"] "ValueError.__new__" = true)
    (kpCL : PySem.W.keepIn K (.ref CL) = true)
    (exCL : PySem.W.excIn K CL [.type "ValueError", .type "Exception", .type "BaseException", .type "object"] "ValueError.__new__" = true)
    (sbCI : PySem.W.subIn K (.ref CI) (.type "BaseException") = some true)
    (tyCI : PySem.W.typeIn K (.ref CI) = some (.type "type"))
    (dcCI : PySem.W.hasDictIn K CI = true)
    (ssCI : PySem.W.subIn K (.ref CI) (.ref CI) = some true)
    (sbCL : PySem.W.subIn K (.ref CL) (.type "BaseException") = some true)
    (tyCL : PySem.W.typeIn K (.ref CL) = some (.type "type"))
    (dcCL : PySem.W.hasDictIn K CL = true)
    (ssCL : PySem.W.subIn K (.ref CL) (.ref CL) = some true)
    (sbCT : PySem.W.subIn K (.ref CT) (.type "BaseException") = some true)
    (tyCT : PySem.W.typeIn K (.ref CT) = some (.type "type"))
    (dcCT : PySem.W.hasDictIn K CT = true)
    (ssCT : PySem.W.subIn K (.ref CT) (.ref CT) = some true)
    (sbCU : PySem.W.subIn K (.ref CU) (.type "BaseException") = some true)
    (tyCU : PySem.W.typeIn K (.ref CU) = some (.type "type"))
    (dcCU : PySem.W.hasDictIn K CU = true)
    (ssCU : PySem.W.subIn K (.ref CU) (.ref CU) = some true)
    (sUT : PySem.W.subIn K (.ref CU) (.ref CT) = some false)
    (xlCT : K.lookup CT = some (excClassObj nm0 qn0 CT N0 bs0 [.ref Pe, .type "ValueError", .type "Exception", .type "BaseException", .type "object"] true sn0 sb0 ab0 co0 dd0 ma0 mb0 mc0 md0 me0 "ValueError.__new__"))
    (saCT : PySem.W.findIn K (.ref CT) "__setattr__" = some (some (.builtin "object.__setattr__")))
    (kpCT : PySem.W.keepIn K (.ref CT) = true)
    (noCT : PySem.W.findIn K (.ref CT) "place" = some none)
    (gaCT : PySem.W.findIn K (.ref CT) "__getattribute__" = some (some (.builtin "BaseException.__getattribute__")))
    (ggCT : PySem.W.findIn K (.ref CT) "__getattr__" = some none)
    (a_iCT : PySem.W.findIn K (.ref CT) "__init__" = some (some (.ref f_iCT)))
    (tiCT : PySem.W.typeIn K (.ref f_iCT) = some (.type "function"))
    (l_iCT : K.lookup f_iCT = some ⟨oc_iCT, od_iCT, .func (PySem.W.fnOf "__init__" "PickTaken.__init__" (defArgs s_PickTaken___init__) (defBody s_PickTaken___init__) (defScope s_PickTaken___init__) .none kV_iCT dc_iCT pm_iCT an_iCT cd_iCT ct_iCT), sl_iCT⟩)
    (c_iCT : PySem.W.codeIn K cd_iCT "PickTaken.__init__" = true)
    (k_iCT : PySem.W.keepIn K (.ref f_iCT) = true)
    (xlCU : K.lookup CU = some (excClassObj nm1 qn1 CU N1 bs1 [.ref Pe, .type "ValueError", .type "Exception", .type "BaseException", .type "object"] true sn1 sb1 ab1 co1 dd1 ma1 mb1 mc1 md1 me1 "ValueError.__new__"))
    (saCU : PySem.W.findIn K (.ref CU) "__setattr__" = some (some (.builtin "object.__setattr__")))
    (kpCU : PySem.W.keepIn K (.ref CU) = true)
    (noCU : PySem.W.findIn K (.ref CU) "place" = some none)
    (gaCU : PySem.W.findIn K (.ref CU) "__getattribute__" = some (some (.builtin "BaseException.__getattribute__")))
    (ggCU : PySem.W.findIn K (.ref CU) "__getattr__" = some none)
    (a_iCU : PySem.W.findIn K (.ref CU) "__init__" = some (some (.ref f_iCU)))
    (tiCU : PySem.W.typeIn K (.ref f_iCU) = some (.type "function"))
    (l_iCU : K.lookup f_iCU = some ⟨oc_iCU, od_iCU, .func (PySem.W.fnOf "__init__" "UnknownPick.__init__" (defArgs s_UnknownPick___init__) (defBody s_UnknownPick___init__) (defScope s_UnknownPick___init__) .none kV_iCU dc_iCU pm_iCU an_iCU cd_iCU ct_iCU), sl_iCU⟩)
    (c_iCU : PySem.W.codeIn K cd_iCU "UnknownPick.__init__" = true)
    (k_iCU : PySem.W.keepIn K (.ref f_iCU) = true)
    (most : PySem.W.nsIn K mainGlobals "MOST_PICKS" = some (some (.int 60 tk)))
    (a_ini : PySem.W.findIn K (.ref C) "__init__" = some (some (.ref f_ini)))
    (i_ini : PySem.W.isFn K (.ref f_ini) = true)
    (l_ini : K.lookup f_ini = some ⟨oc_ini, od_ini, .func (PySem.W.fnOf "__init__" "Task.__init__" (defArgs s_Task___init__) (defBody s_Task___init__) (defScope s_Task___init__) .none kV_ini dc_ini pm_ini an_ini cd_ini ct_ini), sl_ini⟩)
    (c_ini : PySem.W.codeIn K cd_ini "Task.__init__" = true)
    (k_ini : PySem.W.keepIn K (.ref f_ini) = true)
    (a_marks : PySem.W.findIn K (.ref C) "marks" = some (some (.ref f_marks)))
    (i_marks : PySem.W.isFn K (.ref f_marks) = true)
    (l_marks : K.lookup f_marks = some ⟨oc_marks, od_marks, .func (PySem.W.fnOf "marks" "Task.marks" (defArgs s_Task_marks) (defBody s_Task_marks) (defScope s_Task_marks) .none kV_marks dc_marks pm_marks an_marks cd_marks ct_marks), sl_marks⟩)
    (c_marks : PySem.W.codeIn K cd_marks "Task.marks" = true)
    (k_marks : PySem.W.keepIn K (.ref f_marks) = true)
    (a_has : PySem.W.findIn K (.ref C) "has_pick" = some (some (.ref f_has)))
    (i_has : PySem.W.isFn K (.ref f_has) = true)
    (l_has : K.lookup f_has = some ⟨oc_has, od_has, .func (PySem.W.fnOf "has_pick" "Task.has_pick" (defArgs s_Task_has_pick) (defBody s_Task_has_pick) (defScope s_Task_has_pick) .none kV_has dc_has pm_has an_has cd_has ct_has), sl_has⟩)
    (c_has : PySem.W.codeIn K cd_has "Task.has_pick" = true)
    (k_has : PySem.W.keepIn K (.ref f_has) = true)
    (a_wth : PySem.W.findIn K (.ref C) "with_pick" = some (some (.ref f_wth)))
    (i_wth : PySem.W.isFn K (.ref f_wth) = true)
    (l_wth : K.lookup f_wth = some ⟨oc_wth, od_wth, .func (PySem.W.fnOf "with_pick" "Task.with_pick" (defArgs s_Task_with_pick) (defBody s_Task_with_pick) (defScope s_Task_with_pick) .none kV_wth dc_wth pm_wth an_wth cd_wth ct_wth), sl_wth⟩)
    (c_wth : PySem.W.codeIn K cd_wth "Task.with_pick" = true)
    (k_wth : PySem.W.keepIn K (.ref f_wth) = true)
    (a_wto : PySem.W.findIn K (.ref C) "without_pick" = some (some (.ref f_wto)))
    (i_wto : PySem.W.isFn K (.ref f_wto) = true)
    (l_wto : K.lookup f_wto = some ⟨oc_wto, od_wto, .func (PySem.W.fnOf "without_pick" "Task.without_pick" (defArgs s_Task_without_pick) (defBody s_Task_without_pick) (defScope s_Task_without_pick) .none kV_wto dc_wto pm_wto an_wto cd_wto ct_wto), sl_wto⟩)
    (c_wto : PySem.W.codeIn K cd_wto "Task.without_pick" = true)
    (k_wto : PySem.W.keepIn K (.ref f_wto) = true)
    (a_ends : PySem.W.findIn K (.ref C) "with_ends" = some (some (.ref f_ends)))
    (i_ends : PySem.W.isFn K (.ref f_ends) = true)
    (l_ends : K.lookup f_ends = some ⟨oc_ends, od_ends, .func (PySem.W.fnOf "with_ends" "Task.with_ends" (defArgs s_Task_with_ends) (defBody s_Task_with_ends) (defScope s_Task_with_ends) .none kV_ends dc_ends pm_ends an_ends cd_ends ct_ends), sl_ends⟩)
    (c_ends : PySem.W.codeIn K cd_ends "Task.with_ends" = true)
    (k_ends : PySem.W.keepIn K (.ref f_ends) = true)
    (a_turned : PySem.W.findIn K (.ref C) "turned" = some (some (.ref f_turned)))
    (i_turned : PySem.W.isFn K (.ref f_turned) = true)
    (l_turned : K.lookup f_turned = some ⟨oc_turned, od_turned, .func (PySem.W.fnOf "turned" "Task.turned" (defArgs s_Task_turned) (defBody s_Task_turned) (defScope s_Task_turned) .none kV_turned dc_turned pm_turned an_turned cd_turned ct_turned), sl_turned⟩)
    (c_turned : PySem.W.codeIn K cd_turned "Task.turned" = true)
    (k_turned : PySem.W.keepIn K (.ref f_turned) = true)
    (a_same : PySem.W.findIn K (.ref C) "same_as" = some (some (.ref f_same)))
    (i_same : PySem.W.isFn K (.ref f_same) = true)
    (l_same : K.lookup f_same = some ⟨oc_same, od_same, .func (PySem.W.fnOf "same_as" "Task.same_as" (defArgs s_Task_same_as) (defBody s_Task_same_as) (defScope s_Task_same_as) .none kV_same dc_same pm_same an_same cd_same ct_same), sl_same⟩)
    (c_same : PySem.W.codeIn K cd_same "Task.same_as" = true)
    (k_same : PySem.W.keepIn K (.ref f_same) = true)
    (pa : PySem.W.findIn K (.ref C) "picks" = some (some (.ref pp)))
    (pg : PySem.W.specialIn K (.ref pp) "__get__" = some (some (.builtin "property.__get__")))
    (pt : PySem.W.takesIn K (.ref pp) = some true)
    (pr : PySem.W.recIn K pp "property" = some (.ref f_picks :: prest))
    (l_picks : K.lookup f_picks = some ⟨oc_picks, od_picks, .func (PySem.W.fnOf "picks" "Task.picks" (defArgs s_Task_picks) (defBody s_Task_picks) (defScope s_Task_picks) .none kV_picks dc_picks pm_picks an_picks cd_picks ct_picks), sl_picks⟩)
    (c_picks : PySem.W.codeIn K cd_picks "Task.picks" = true)
    (k_picks : PySem.W.keepIn K (.ref f_picks) = true)
    (a_row : PySem.W.nsIn K mainGlobals "_law_row" = some (some (.ref f_row)))
    (l_row : K.lookup f_row = some ⟨oc_row, od_row, .func (PySem.W.fnOf "_law_row" "_law_row" (defArgs s__law_row) (defBody s__law_row) (defScope s__law_row) .none kV_row dc_row pm_row an_row cd_row ct_row), sl_row⟩)
    (c_row : PySem.W.codeIn K cd_row "_law_row" = true)
    (k_row : PySem.W.keepIn K (.ref f_row) = true)
    (a_num : PySem.W.nsIn K mainGlobals "_law_numbers" = some (some (.ref f_num)))
    (l_num : K.lookup f_num = some ⟨oc_num, od_num, .func (PySem.W.fnOf "_law_numbers" "_law_numbers" (defArgs s__law_numbers) (defBody s__law_numbers) (defScope s__law_numbers) .none kV_num dc_num pm_num an_num cd_num ct_num), sl_num⟩)
    (c_num : PySem.W.codeIn K cd_num "_law_numbers" = true)
    (k_num : PySem.W.keepIn K (.ref f_num) = true)
    (a_pl : PySem.W.nsIn K mainGlobals "_law_place" = some (some (.ref f_pl)))
    (l_pl : K.lookup f_pl = some ⟨oc_pl, od_pl, .func (PySem.W.fnOf "_law_place" "_law_place" (defArgs s__law_place) (defBody s__law_place) (defScope s__law_place) .none kV_pl dc_pl pm_pl an_pl cd_pl ct_pl), sl_pl⟩)
    (c_pl : PySem.W.codeIn K cd_pl "_law_place" = true)
    (k_pl : PySem.W.keepIn K (.ref f_pl) = true)
    (a_is : PySem.W.nsIn K mainGlobals "_law_is" = some (some (.ref f_is)))
    (l_is : K.lookup f_is = some ⟨oc_is, od_is, .func (PySem.W.fnOf "_law_is" "_law_is" (defArgs s__law_is) (defBody s__law_is) (defScope s__law_is) .none kV_is dc_is pm_is an_is cd_is ct_is), sl_is⟩)
    (c_is : PySem.W.codeIn K cd_is "_law_is" = true)
    (k_is : PySem.W.keepIn K (.ref f_is) = true)
    (a_ch : PySem.W.nsIn K mainGlobals "_law_changed" = some (some (.ref f_ch)))
    (l_ch : K.lookup f_ch = some ⟨oc_ch, od_ch, .func (PySem.W.fnOf "_law_changed" "_law_changed" (defArgs s__law_changed) (defBody s__law_changed) (defScope s__law_changed) .none kV_ch dc_ch pm_ch an_ch cd_ch ct_ch), sl_ch⟩)
    (c_ch : PySem.W.codeIn K cd_ch "_law_changed" = true)
    (k_ch : PySem.W.keepIn K (.ref f_ch) = true)
    (a_fu : PySem.W.nsIn K mainGlobals "_law_full" = some (some (.ref f_fu)))
    (l_fu : K.lookup f_fu = some ⟨oc_fu, od_fu, .func (PySem.W.fnOf "_law_full" "_law_full" (defArgs s__law_full) (defBody s__law_full) (defScope s__law_full) .none kV_fu dc_fu pm_fu an_fu cd_fu ct_fu), sl_fu⟩)
    (c_fu : PySem.W.codeIn K cd_fu "_law_full" = true)
    (k_fu : PySem.W.keepIn K (.ref f_fu) = true)
    (a_gr : PySem.W.nsIn K mainGlobals "_law_grid" = some (some (.ref f_gr)))
    (l_gr : K.lookup f_gr = some ⟨oc_gr, od_gr, .func (PySem.W.fnOf "_law_grid" "_law_grid" (defArgs s__law_grid) (defBody s__law_grid) (defScope s__law_grid) .none kV_gr dc_gr pm_gr an_gr cd_gr ct_gr), sl_gr⟩)
    (c_gr : PySem.W.codeIn K cd_gr "_law_grid" = true)
    (k_gr : PySem.W.keepIn K (.ref f_gr) = true)
    (a_law : PySem.W.nsIn K mainGlobals "law" = some (some (.ref f_law)))
    (l_law : K.lookup f_law = some ⟨oc_law, od_law, .func (PySem.W.fnOf "law" "law" (defArgs s_law) (defBody s_law) (defScope s_law) .none kV_law dc_law pm_law an_law cd_law ct_law), sl_law⟩)
    (c_law : PySem.W.codeIn K cd_law "law" = true)
    (k_law : PySem.W.keepIn K (.ref f_law) = true)
    (z_abs : PySem.W.nsIn K mainGlobals "abs" = some none)
    (z_int : PySem.W.nsIn K mainGlobals "int" = some none)
    (z_range : PySem.W.nsIn K mainGlobals "range" = some none)
    (z_len : PySem.W.nsIn K mainGlobals "len" = some none)
    (z_max : PySem.W.nsIn K mainGlobals "max" = some none)
    (z_isinstance : PySem.W.nsIn K mainGlobals "isinstance" = some none)
    (z_bool : PySem.W.nsIn K mainGlobals "bool" = some none)
    (z_set : PySem.W.nsIn K mainGlobals "set" = some none)
    (z_sorted : PySem.W.nsIn K mainGlobals "sorted" = some none)
    (z_list : PySem.W.nsIn K mainGlobals "list" = some none)
    : ∃ fd : FuncData, (∀ (s : Shared) (v : Value), BindsTo s fd ⟨[v], []⟩ [("script", v)]) ∧
      ∀ base : Heap, K.In base → base.Ns mainGlobals mg → FnOk l.prog w K mg base CX0 8 fa fd ["script"] (spLaw K) := by
  have e := hfa.symm.trans (PySem.W.mg_of X G a_law)
  cases e
  have F_ini := fun_mk (st := s_Task___init__) l_ini c_ini k_ini
  have F_marks := fun_mk (st := s_Task_marks) l_marks c_marks k_marks
  have F_has := fun_mk (st := s_Task_has_pick) l_has c_has k_has
  have F_wth := fun_mk (st := s_Task_with_pick) l_wth c_wth k_wth
  have F_wto := fun_mk (st := s_Task_without_pick) l_wto c_wto k_wto
  have F_ends := fun_mk (st := s_Task_with_ends) l_ends c_ends k_ends
  have F_turned := fun_mk (st := s_Task_turned) l_turned c_turned k_turned
  have F_same := fun_mk (st := s_Task_same_as) l_same c_same k_same
  have F_picks := fun_mk (st := s_Task_picks) l_picks c_picks k_picks
  have F_iCT := fun_mk (st := s_PickTaken___init__) l_iCT c_iCT k_iCT
  have F_iCU := fun_mk (st := s_UnknownPick___init__) l_iCU c_iCU k_iCU
  have F_row := fun_mk (st := s__law_row) l_row c_row k_row
  have F_num := fun_mk (st := s__law_numbers) l_num c_num k_num
  have F_pl := fun_mk (st := s__law_place) l_pl c_pl k_pl
  have F_is := fun_mk (st := s__law_is) l_is c_is k_is
  have F_ch := fun_mk (st := s__law_changed) l_ch c_ch k_ch
  have F_fu := fun_mk (st := s__law_full) l_fu c_fu k_fu
  have F_gr := fun_mk (st := s__law_grid) l_gr c_gr k_gr
  have F_law := fun_mk (st := s_law) l_law c_law k_law
  have b_ini := F_ini.binds (ps := ["self", "start", "end", "picks"]) fun _ _ _ _ _ _ us hl => match us, hl with | [_, _, _, _], _ => rfl
  have b_marks := F_marks.binds (ps := ["self"]) fun _ _ _ _ _ _ us hl => match us, hl with | [_], _ => rfl
  have b_has := F_has.binds (ps := ["self", "place"]) fun _ _ _ _ _ _ us hl => match us, hl with | [_, _], _ => rfl
  have b_wth := F_wth.binds (ps := ["self", "place"]) fun _ _ _ _ _ _ us hl => match us, hl with | [_, _], _ => rfl
  have b_wto := F_wto.binds (ps := ["self", "place"]) fun _ _ _ _ _ _ us hl => match us, hl with | [_, _], _ => rfl
  have b_ends := F_ends.binds (ps := ["self", "start", "end"]) fun _ _ _ _ _ _ us hl => match us, hl with | [_, _, _], _ => rfl
  have b_turned := F_turned.binds (ps := ["self"]) fun _ _ _ _ _ _ us hl => match us, hl with | [_], _ => rfl
  have b_same := F_same.binds (ps := ["self", "other"]) fun _ _ _ _ _ _ us hl => match us, hl with | [_, _], _ => rfl
  have b_picks := F_picks.binds (ps := ["self"]) fun _ _ _ _ _ _ us hl => match us, hl with | [_], _ => rfl
  have b_iCT := F_iCT.binds (ps := ["self", "place"]) fun _ _ _ _ _ _ us hl => match us, hl with | [_, _], _ => rfl
  have b_iCU := F_iCU.binds (ps := ["self", "place"]) fun _ _ _ _ _ _ us hl => match us, hl with | [_, _], _ => rfl
  have b_row := F_row.binds (ps := ["cell", "many"]) fun _ _ _ _ _ _ us hl => match us, hl with | [_, _], _ => rfl
  have b_num := F_num.binds (ps := ["script", "many"]) fun _ _ _ _ _ _ us hl => match us, hl with | [_, _], _ => rfl
  have b_pl := F_pl.binds (ps := ["number"]) fun _ _ _ _ _ _ us hl => match us, hl with | [_], _ => rfl
  have b_is := F_is.binds (ps := ["task", "start", "end", "picks"]) fun _ _ _ _ _ _ us hl => match us, hl with | [_, _, _, _], _ => rfl
  have b_ch := F_ch.binds (ps := ["task", "kind", "place"]) fun _ _ _ _ _ _ us hl => match us, hl with | [_, _, _], _ => rfl
  have b_fu := F_fu.binds (ps := []) fun _ _ _ _ _ _ us hl => match us, hl with | [], _ => rfl
  have b_gr := F_gr.binds (ps := ["wide", "high"]) fun _ _ _ _ _ _ us hl => match us, hl with | [_, _], _ => rfl
  have b_law := F_law.binds (ps := ["script"]) fun _ _ _ _ _ _ us hl => match us, hl with | [_], _ => rfl
  have T : TaskTxt K mg C CI := { cl := ⟨pg_C, hd_C, po_C, sa_C⟩, nS := nstart, nE := nend, nP := nppicks, mgC := PySem.W.mg_of X G a_C, len := PySem.W.mg_none_of X G z_len, set := PySem.W.mg_none_of X G z_set, sorted := PySem.W.mg_none_of X G z_sorted, list := PySem.W.mg_none_of X G z_list, most := ⟨tk, PySem.W.mg_of X G most⟩, gI := PySem.W.mg_of X G a_CI, kI := kpCI, xI := exCI, bI := sbCI, tI := tyCI }
  have U : ChgTxt K mg CT CU CL f_iCT f_iCU := { gT := PySem.W.mg_of X G a_CT, oT := ⟨⟨nm0, qn0, N0, bs0, _, sn0, sb0, ab0, co0, dd0, ma0, mb0, mc0, md0, me0, xlCT, rfl⟩, saCT, sbCT, tyCT, kpCT⟩, nT := noCT, iT := a_iCT, yT := tiCT, gU := PySem.W.mg_of X G a_CU, oU := ⟨⟨nm1, qn1, N1, bs1, _, sn1, sb1, ab1, co1, dd1, ma1, mb1, mc1, md1, me1, xlCU, rfl⟩, saCU, sbCU, tyCU, kpCU⟩, nU := noCU, iU := a_iCU, yU := tiCU, gL := PySem.W.mg_of X G a_CL, kL := kpCL, xL := exCL, bL := sbCL, tL := tyCL }
  have MI : Mk K C f_ini := ⟨mk_C, a_ini, i_ini, kc_C⟩
  have D : DrawTxt mg f_row := ⟨PySem.W.mg_none_of X G z_abs, PySem.W.mg_none_of X G z_int, PySem.W.mg_none_of X G z_range, PySem.W.mg_none_of X G z_len, PySem.W.mg_none_of X G z_max, PySem.W.mg_of X G a_row⟩
  refine ⟨PySem.W.fnOf "law" "law" (defArgs s_law) (defBody s_law) (defScope s_law) .none kV_law dc_law pm_law an_law cd_law ct_law, fun s v => .of_eq rfl, fun base _ _ => ?_⟩
  have mHas : Meth K C "has_pick" f_has := ⟨a_has, i_has, k_has⟩
  have hPr : PropOf K C "picks" pp f_picks := ⟨pa, pg, pt, prest, pr⟩
  let Z : Tasks l.prog w K mg base := { C := C, CI := CI, CT := CT, CU := CU, CL := CL, T := T, fT := f_iCT, fU := f_iCU, U := U, fI := f_ini, fdI := _, M := MI, GI := ok_task F_ini T, bI := b_ini, fP := f_picks, pp := pp, fdP := _, hP := hPr, GP := ok_picks F_picks T, bP := b_picks, marks := ⟨f_marks, _, ok_marks F_marks T, b_marks, ⟨a_marks, i_marks, k_marks⟩⟩, has := ⟨f_has, _, ok_has F_has T, b_has, ⟨a_has, i_has, k_has⟩⟩, wth := ⟨f_wth, _, ok_with F_wth T U MI F_ini b_ini F_has b_has mHas F_iCT b_iCT, b_wth, ⟨a_wth, i_wth, k_wth⟩⟩, wto := ⟨f_wto, _, ok_without F_wto T U MI F_ini b_ini F_has b_has mHas F_iCU b_iCU, b_wto, ⟨a_wto, i_wto, k_wto⟩⟩, ends := ⟨f_ends, _, ok_ends F_ends T MI F_ini b_ini, b_ends, ⟨a_ends, i_ends, k_ends⟩⟩, turned := ⟨f_turned, _, ok_turned F_turned T MI F_ini b_ini, b_turned, ⟨a_turned, i_turned, k_turned⟩⟩, same := ⟨f_same, _, ok_same F_same T F_picks b_picks hPr, b_same, ⟨a_same, i_same, k_same⟩⟩, range := PySem.W.mg_none_of X G z_range, int := PySem.W.mg_none_of X G z_int, isi := PySem.W.mg_none_of X G z_isinstance, eT := PySem.W.exm_ref sbCT dcCT tyCT ssCT, eU := PySem.W.exm_ref sbCU dcCU tyCU ssCU, eUT := PySem.W.exm_ref sbCT dcCT tyCT sUT, eL := PySem.W.exm_ref sbCL dcCL tyCL ssCL, eI := PySem.W.exm_ref sbCI dcCI tyCI ssCI, xT := ⟨gaCT, ggCT, sbCT, dcCT⟩, xU := ⟨gaCU, ggCU, sbCU, dcCU⟩ }
  have dGr : TopDef l.prog w K mg base CX0 1 "_law_grid" ["wide", "high"] spGrid := ⟨f_gr, _, ok_grid F_gr (PySem.W.mg_none_of X G z_range), b_gr, PySem.W.mg_of X G a_gr, k_gr⟩
  exact ok_law F_law Z (PySem.W.mg_none_of X G z_bool) ⟨f_num, _, ok_numbers F_num D F_row b_row, b_num, PySem.W.mg_of X G a_num, k_num⟩ ⟨f_pl, _, ok_place F_pl (PySem.W.mg_none_of X G z_int), b_pl, PySem.W.mg_of X G a_pl, k_pl⟩ ⟨f_is, _, ok_is F_is Z, b_is, PySem.W.mg_of X G a_is, k_is⟩ ⟨f_ch, _, ok_changed F_ch Z, b_ch, PySem.W.mg_of X G a_ch, k_ch⟩ ⟨f_fu, _, ok_full F_fu Z dGr, b_fu, PySem.W.mg_of X G a_fu, k_fu⟩
theorem walk {l : PySem.W.OpenLaw} {q : Program} {loose : List Str} {XP : (Str → Option Value) → Heap → Prop} {YP : World → Heap → Prop} {d : DefRec} {K : Params → PySem.W.Frag}
    (hn : l.most = some 63) (hdf : d.params.defaults = []) (hY : ∀ (w : World) (h : Heap), YP w h → (K w.params).In h)
    (F : ∀ (w : World) (mg : Str → Option Value) (fa : Addr) (h : Heap), (K w.params).In h → h.Ns mainGlobals mg → mg d.name = some (.ref fa) →
      ∃ fd : FuncData, (∀ (s : Shared) (u : Value), BindsTo s fd ⟨[u], []⟩ [("script", u)]) ∧
        ∀ base : Heap, (K w.params).In base → base.Ns mainGlobals mg → FnOk l.prog w (K w.params) mg base CX0 8 fa fd ["script"] (spLaw (K w.params))) :
    PySem.W.WalkO q loose XP YP l.row.toRowW d [] (fun f vs => PySem.call f vs) :=
  L2.walk_of (n := 63) (k := 8) (x := "script") (CX := fun _ => CX0) (sp := fun w => spLaw (K w.params)) hn (by decide) hdf
    ⟨rfl, by decide, by decide⟩ hY F (fun _ _ a ns hl _ hS => ⟨a, ns, rfl, hS, hl, fun _ => rfl⟩) fun _ _ _ _ _ z => z
end Pk
open PySem PySem.W PyProof.Rows
set_option maxRecDepth 100000 in
set_option maxHeartbeats 0 in
theorem PySem.Challenge.cw_pickaisle_k05_tasks_holds : PySem.Challenge.rw_pickaisle_k05_tasks.Holds := by
  w_on; o_law; k_head; (case hw => w_witness2)
  k_fill
  refine Pk.walk (l := PySem.Challenge.rw_pickaisle_k05_tasks) rfl rfl (fun w h Y => PySem.W.kIn_of Y) ?F
  case F =>
    intro w mg fa h KX G hmg
    refine' Pk.all_mk KX G hmg ?a_C ?pg_C ?hd_C ?po_C ?sa_C ?mk_C ?kc_C ?nstart ?nend ?nppicks ?a_CI ?a_CL ?a_CT ?a_CU ?a_Pe ?kpCI ?exCI ?kpCL ?exCL ?sbCI ?tyCI ?dcCI ?ssCI ?sbCL ?tyCL ?dcCL ?ssCL ?sbCT ?tyCT ?dcCT ?ssCT ?sbCU ?tyCU ?dcCU ?ssCU ?sUT ?xlCT ?saCT ?kpCT ?noCT ?gaCT ?ggCT ?a_iCT ?tiCT ?l_iCT ?c_iCT ?k_iCT ?xlCU ?saCU ?kpCU ?noCU ?gaCU ?ggCU ?a_iCU ?tiCU ?l_iCU ?c_iCU ?k_iCU ?most ?a_ini ?i_ini ?l_ini ?c_ini ?k_ini ?a_marks ?i_marks ?l_marks ?c_marks ?k_marks ?a_has ?i_has ?l_has ?c_has ?k_has ?a_wth ?i_wth ?l_wth ?c_wth ?k_wth ?a_wto ?i_wto ?l_wto ?c_wto ?k_wto ?a_ends ?i_ends ?l_ends ?c_ends ?k_ends ?a_turned ?i_turned ?l_turned ?c_turned ?k_turned ?a_same ?i_same ?l_same ?c_same ?k_same ?pa ?pg ?pt ?pr ?l_picks ?c_picks ?k_picks ?a_row ?l_row ?c_row ?k_row ?a_num ?l_num ?c_num ?k_num ?a_pl ?l_pl ?c_pl ?k_pl ?a_is ?l_is ?c_is ?k_is ?a_ch ?l_ch ?c_ch ?k_ch ?a_fu ?l_fu ?c_fu ?k_fu ?a_gr ?l_gr ?c_gr ?k_gr ?a_law ?l_law ?c_law ?k_law ?z_abs ?z_int ?z_range ?z_len ?z_max ?z_isinstance ?z_bool ?z_set ?z_sorted ?z_list
    (case a_C => k_is)
    (case pg_C => k_is)
    (case hd_C => k_is)
    (case po_C => k_is)
    (case sa_C => k_is)
    (case mk_C => k_is)
    (case kc_C => k_is)
    (case nstart => k_is)
    (case nend => k_is)
    (case nppicks => k_is)
    (case a_CI => k_is)
    (case a_CL => k_is)
    (case a_CT => k_is)
    (case a_CU => k_is)
    (case a_Pe => k_is)
    (case kpCI => k_is)
    (case exCI => k_exc)
    (case kpCL => k_is)
    (case exCL => k_exc)
    (case sbCI => k_is)
    (case tyCI => k_is)
    (case dcCI => k_is)
    (case ssCI => first | k_is | rfl)
    (case sbCL => k_is)
    (case tyCL => k_is)
    (case dcCL => k_is)
    (case ssCL => first | k_is | rfl)
    (case sbCT => k_is)
    (case tyCT => k_is)
    (case dcCT => k_is)
    (case ssCT => first | k_is | rfl)
    (case sbCU => k_is)
    (case tyCU => k_is)
    (case dcCU => k_is)
    (case ssCU => first | k_is | rfl)
    (case sUT => k_is)
    (case xlCT => k_is)
    (case saCT => k_is)
    (case kpCT => k_is)
    (case noCT => k_is)
    (case gaCT => k_is)
    (case ggCT => k_is)
    (case a_iCT => k_is)
    (case tiCT => k_is)
    (case l_iCT => k_is)
    (case c_iCT => k_is)
    (case k_iCT => k_is)
    (case xlCU => k_is)
    (case saCU => k_is)
    (case kpCU => k_is)
    (case noCU => k_is)
    (case gaCU => k_is)
    (case ggCU => k_is)
    (case a_iCU => k_is)
    (case tiCU => k_is)
    (case l_iCU => k_is)
    (case c_iCU => k_is)
    (case k_iCU => k_is)
    (case most => k_is)
    (case a_ini => k_is)
    (case i_ini => k_is)
    (case l_ini => k_is)
    (case c_ini => k_is)
    (case k_ini => k_is)
    (case a_marks => k_is)
    (case i_marks => k_is)
    (case l_marks => k_is)
    (case c_marks => k_is)
    (case k_marks => k_is)
    (case a_has => k_is)
    (case i_has => k_is)
    (case l_has => k_is)
    (case c_has => k_is)
    (case k_has => k_is)
    (case a_wth => k_is)
    (case i_wth => k_is)
    (case l_wth => k_is)
    (case c_wth => k_is)
    (case k_wth => k_is)
    (case a_wto => k_is)
    (case i_wto => k_is)
    (case l_wto => k_is)
    (case c_wto => k_is)
    (case k_wto => k_is)
    (case a_ends => k_is)
    (case i_ends => k_is)
    (case l_ends => k_is)
    (case c_ends => k_is)
    (case k_ends => k_is)
    (case a_turned => k_is)
    (case i_turned => k_is)
    (case l_turned => k_is)
    (case c_turned => k_is)
    (case k_turned => k_is)
    (case a_same => k_is)
    (case i_same => k_is)
    (case l_same => k_is)
    (case c_same => k_is)
    (case k_same => k_is)
    (case pa => k_is)
    (case pg => k_is)
    (case pt => k_is)
    (case pr => k_is)
    (case l_picks => k_is)
    (case c_picks => k_is)
    (case k_picks => k_is)
    (case a_row => k_is)
    (case l_row => k_is)
    (case c_row => k_is)
    (case k_row => k_is)
    (case a_num => k_is)
    (case l_num => k_is)
    (case c_num => k_is)
    (case k_num => k_is)
    (case a_pl => k_is)
    (case l_pl => k_is)
    (case c_pl => k_is)
    (case k_pl => k_is)
    (case a_is => k_is)
    (case l_is => k_is)
    (case c_is => k_is)
    (case k_is => k_is)
    (case a_ch => k_is)
    (case l_ch => k_is)
    (case c_ch => k_is)
    (case k_ch => k_is)
    (case a_fu => k_is)
    (case l_fu => k_is)
    (case c_fu => k_is)
    (case k_fu => k_is)
    (case a_gr => k_is)
    (case l_gr => k_is)
    (case c_gr => k_is)
    (case k_gr => k_is)
    (case a_law => k_is)
    (case l_law => k_is)
    (case c_law => k_is)
    (case k_law => k_is)
    (case z_abs => k_is)
    (case z_int => k_is)
    (case z_range => k_is)
    (case z_len => k_is)
    (case z_max => k_is)
    (case z_isinstance => k_is)
    (case z_bool => k_is)
    (case z_set => k_is)
    (case z_sorted => k_is)
    (case z_list => k_is)


import PyProof.Rows.All
import Wide.All
import OpenK.AllK
import Wide.FinOn
import KE.KExcIs
import KE.SortData
import KE.KNestM
import PyProof.StrBlock2
import HandS.ForMost
import HandS.Deep
import HandS.TupSets
import HandS.SortRule
import HandS.ForExc
import HandS.ExcInit
import HandS.ExcIs
import HandS.ExcField
import HandS.ExcValue
import HandS.ExcOwn
import HandS.Property
import HandS.CallSlots
import HandS.Style
import HandS.IsInst
import HandS.Codes
import HandS.TupLen
import HandS.Small
import HandS.EndTab
import HandS.GenList
import HandS.Nested
import HandS.AnyAll
import HandS.DictComp
import HandS.Dict
import HandS.Comp
import HandS.Conv
import HandS.Words
import HandS.WordsExc
import PySem.Challenge.RW_pickaisle_k06_tasks_that_fit
set_option Elab.async false
set_option linter.all false
set_option maxRecDepth 100000
set_option maxHeartbeats 8000000
open PySem PySem.W PyProof.Rows in
open_top hd for PySem.Challenge.rw_pickaisle_k06_tasks_that_fit
namespace Pk
open PySem L2
/-! ### errors that are held as values -/
/-- at a: an error of the class at D that is held; fs: its own attributes -/
def XvAt (H : Hp) (a D : Addr) (fs : List (Str × V)) : Prop :=
  (H a = some (ExO (.ref D) a) ∧ fs = []) ∨ ∃ d, H a = some (exo a D (some d)) ∧ H d = some (exd d fs)
theorem XvAt.same {H H' : Hp} {a D : Addr} {fs : List (Str × V)} (h : XvAt H a D fs) (k : Same H H') : XvAt H' a D fs := by
  rcases h with ⟨h, e⟩ | ⟨d, h, e⟩
  · exact .inl ⟨k _ _ h, e⟩
  · exact .inr ⟨d, k _ _ h, k _ _ e⟩
section
variable {X : Cx} {pins : List (Addr × Obj)} {σ : St} {H : Hp} {s : Shared}
theorem xv_inst {a D : Addr} {fs : List (Str × V)} (I : Inv X pins σ H s) (h : XvAt H a D fs) :
    ∃ oe od, PySem.W.InstAt s.heap a oe D od ∧ ∀ (f : Str) (v : V), fs.lookup f = some v → ∃ o u, od = some o ∧ PySem.W.lookIn f o = some (some u) ∧ RelV v u := by
  rcases h with ⟨h, rfl⟩ | ⟨d, h, e⟩
  · obtain ⟨⟨oe, vs, ho, hz, hd, h1, _⟩, _, _⟩ := I.hok a _ h
    refine ⟨oe, none, ⟨ho, hz.1, by unfold PySem.W.notCls; rw [hd], by rw [hz.2]; trivial⟩, fun f v l => ?_⟩
    cases l
  · obtain ⟨t1, ho⟩ := exo_at I.hok h
    obtain ⟨mA, hn, hr⟩ := exd_at I.hok e
    obtain ⟨od, hod, hl⟩ := lookIn_ns hn
    refine ⟨_, some od, ⟨ho, rfl, rfl, hod⟩, fun f v l => ?_⟩
    have q := hr f
    rw [l] at q
    obtain ⟨u, hu, ru⟩ := RelO.some_of q
    exact ⟨od, u, rfl, by rw [hl, hu], ru⟩
end
/-- isinstance(e, c), e an error that is held -/
def rIsV (K : PySem.W.Frag) : List V → Hp → VK → Prop := fun xs H Q => ∃ (a D : Addr) (fs : List (Str × V)) (c : V) (cv : Value) (b : Bool),
  xs = [.ref a, c] ∧ XvAt H a D fs ∧ ExcC K D ∧ (∀ u, RelV c u → u = cv) ∧ PySem.W.kitOne K (.ref D) cv = some b ∧ Q (.bl b) H
theorem call_isV {X : Cx} : CallR X (.builtin "isinstance") (rIsV X.K) := by
  intro pins s σ H xs us Q I r h
  obtain ⟨a, D, fs, c, cv, b, rfl, hx, C, hcv, e, q⟩ := h
  cases r with
  | cons rx rr =>
    cases rr with
    | cons rt rr =>
      cases rr
      cases rx
      obtain rfl := hcv _ rt
      obtain ⟨oe, od, J, _⟩ := xv_inst I hx
      have hcl : (PySem.W.clsIn X.K D).isSome = true := by
        obtain ⟨cd, hc, _⟩ := PySem.W.any_some C.hd
        rw [hc]
        rfl
      exact PySem.W.kia_one (PySem.W.kitx_exc hcl C.hg C.hk C.hs C.ha C.hn C.ht C.hm) I.kIn J e (fun z => nomatch z)
        fun tk => ⟨.bl b, H, I.kept (t' := tk) (fun _ _ z => z), rfl, q⟩
/-- e.f, e an error that is held -/
def tXvF (K : PySem.W.Frag) (n : Str) (te : TE) : TE := fun σ H Q => te σ H fun x H1 => ∃ (a C : Addr) (fs : List (Str × V)) (v : V),
  x = .ref a ∧ XvAt H1 a C fs ∧ XfC K C ∧ PySem.W.findIn K (.ref C) n = some none ∧ fs.lookup n = some v ∧ Q v H1
theorem pe_xvF {X : Cx} {e : Expr} {te : TE} {pos : Pos} {n : Str} (he : PE X e te) (hb : attributeBase e n X.env (eval e X.env) = eval e X.env := by rfl) :
    PE X (.Attribute e n pos) (tXvF X.K n te) := by
  refine ⟨fun pins s σ H Q I h => attr_of hb (thn (he.run pins s σ H _ I h) fun u s1 hh => ?_)⟩
  obtain ⟨x, H1, I1, rx, a, C, fs, v, rfl, hx, T, hno, l, q⟩ := hh
  obtain rfl : u = Value.ref a := rx
  obtain ⟨oe, od, J, hf⟩ := xv_inst I1 hx
  obtain ⟨o, u, rfl, hl, ru⟩ := hf n v l
  exact HandSPX.exc_get I1.kIn J T.ga T.gg T.exC (PySem.W.findObj_own T.hdC hno rfl hl) (handed_of ru) ⟨v, H1, I1.tok _, ru, q⟩
/-- C(e, ..) as a value, C an own class of errors whose __init__ keeps sp -/
def tMkV (C : Addr) (sp : Sp) (dvs : List V) (ta : TA) : TE := fun σ H Q => ta σ H fun vs H1 => vs.length ≤ 1000 ∧ ∀ a, H1 a = none →
  sp (.ref a :: (vs ++ dvs)) (upd H1 a (exo a C none)) (fun v H2 => v = .non ∧ Q (.ref a) H2) (fun _ _ _ => False)
section
variable {X : Cx} {e : Expr} {es : List Expr} {te : TE} {ta : TA} {p pos : Pos}
theorem pe_oexV {CX : CXT} {x : Str} {C fI : Addr} {k : Nat} {fd : FuncData} {ps : List Str} {sp : Sp} {ds : List Value} {dvs : List V} (T : OexC X.K C)
    (iC : PySem.W.findIn X.K (.ref C) "__init__" = some (some (.ref fI))) (tI : PySem.W.typeIn X.K (.ref fI) = some (.type "function"))
    (F1 : FnOk X.prog X.w X.K X.mg X.base CX k fI fd ps sp) (hr : Room (k + 1) X.A) (hb : Binds X.K fd ps ds) (hd : Vals dvs ds) (hx : Passes CX X (fun _ _ _ => False)) (hg : Gl X x) (hm : X.mg x = some (.ref C)) (ha : PA X (e :: es) ta)
    (hdb : (x == ("__debug__" : Str)) = false := by decide) (he : starEach (e :: es) X.env = (false, eval e X.env) :: starEach es X.env := by rfl) (hpl : (backTo pos (starEach es X.env)).any (·.1) = false := by rfl) :
    PE X (.Call (.Name x p) (e :: es) [] pos) (tMkV C sp dvs ta) := by
  refine ⟨fun pins s σ H Q I h => ?_⟩
  obtain ⟨nm, qn, N, bs, bm, sn, sb, ab, co, dd, k0, k1, k2, k3, k5, hC, hbm⟩ := T.cls
  refine wpAny_Call_Name_kw (ld_glob I hg hm ?_ hdb)
  refine PySem.W.callWith_K (h₀ := X.base) I.ok.mod.kin T.kC (thn (ha.run pos pins s σ H _ I h) fun us s1 hh => ?_) he hpl
  obtain ⟨vs, H1, I1, r1, hz, q1⟩ := hh
  refine ⟨I1.kIn, ?_⟩
  show wpAny _ _ (call (.ref C) us) _ _ _
  obtain ⟨hp, g, dr, tk, os⟩ := s1
  have hsz : hp.objs.size ≤ hp.objs.size + 1 := Nat.le_add_right _ 1
  have hn : H1 (hp.objs.size + 1) = none := I1.hok.fresh hsz
  have kk : ∀ b o, hp.get? b = some o → ((hp.push (PySem.W.kdv_tup us)).push (PySem.HandSPX.excO C hp.objs.size)).get? b = some o :=
    fun b o z => Heap.get?_push_of_some _ (Heap.get?_push_of_some _ z)
  have hget : ((hp.push (PySem.W.kdv_tup us)).push (PySem.HandSPX.excO C hp.objs.size)).get? (hp.objs.size + 1) = some (PySem.HandSPX.excO C hp.objs.size) := by
    heap_get
  have I2 : Inv X pins σ (upd H1 (hp.objs.size + 1) (exo (hp.objs.size + 1) C none))
      ⟨(hp.push (PySem.W.kdv_tup us)).push (PySem.HandSPX.excO C hp.objs.size), g, dr, tk, os⟩ := I1.laid (t' := tk) kk hsz (exo_ok hget)
  have r2 : Vals (V.ref (hp.objs.size + 1) :: (vs ++ dvs)) (Value.ref (hp.objs.size + 1) :: (us ++ ds)) := .cons rfl (r1.append hd)
  have hq := q1 (hp.objs.size + 1) hn
  have hl : (Value.ref (hp.objs.size + 1) :: us ++ ds).length = ps.length := by
    have z := r2.length
    rw [F1.len _ _ _ _ hq] at z
    exact z.symm
  have hus : us.length ≤ sizeLine := by
    have z := Paired.length r1
    rw [sizeLine_eq]
    omega
  refine wpAny_call (PySem.HandSPX.call_own F.excBase_ValueError (fun Y => PySem.HandSPX.refsVE_contains Y bm hbm) (I1.kIn _ _ hC)
    (PySem.W.looks_findIn I1.kIn iC) (fun self => PySem.W.bind_fn I1.kIn self tI) hus ?_)
  refine codeAny_mono (F1.run _ X.stack _ _ ⟨Value.ref (hp.objs.size + 1) :: us, []⟩ (Value.ref (hp.objs.size + 1) :: (us ++ ds)) _ _
    (fun _ _ _ => False) (hr.make C us []) (I2.env0.make C us []) (hb _ (Value.ref (hp.objs.size + 1) :: us) I2.kIn hl) r2 hq) fun r s' hq' => ?_
  cases r with
  | error er => exact hx pins σ _ _ er s' I2 hq'
  | ok fl =>
    cases fl with
    | ret u =>
      obtain ⟨v, H3, I3, rv, ev, q3⟩ := I2.after hq'
      subst ev
      exact ⟨rv, V.ref (hp.objs.size + 1), H3, I3, rfl, q3⟩
    | next => exact hq'.elim
    | brk => exact hq'.elim
    | cont => exact hq'.elim
end
/-- __init__(self, v): self.f = v, of an own class of errors -/
def spXI (K : PySem.W.Frag) (C : Addr) (f : Str) : Sp := fun vs H Q _ => ∃ (a : Addr) (v : V), vs = [.ref a, v] ∧ OexC K C ∧ PySem.W.findIn K (.ref C) f = some none ∧ H a = some (exo a C none) ∧
  ∀ dx, H dx = none → dx ≠ a → Q .non (upd (upd H dx (exd dx [(f, v)])) a (exo a C (some dx)))
/-- text * n -/
theorem op_rep_str {X : Cx} : OpR X (binaryOp .Mult) (fun x y H Q => ∃ z i, x = .str z ∧ y = .int i ∧ MulOk z i ∧ Q (.str (Txt.mul z i)) H) := by
  intro pins s σ H x y v u Q I rx ry h
  obtain ⟨z, i, rfl, rfl, hc, q⟩ := h
  obtain ⟨t, rfl⟩ := rx
  obtain ⟨t', rfl⟩ := ry
  exact SB.mul hc fun t' k => ⟨.str (Txt.mul z i), H, I.tok _, ⟨_, rfl⟩, q⟩

/-! ### places: tuples of two numbers, lists of them -/
abbrev Pl := Int × Int
/-- v is a tuple that holds the place p -/
def Pr (H : Hp) (v : V) (p : Pl) : Prop := ∃ t, v = .ref t ∧ H t = some (.tup [.int p.1, .int p.2])
theorem Pr.same {H H' : Hp} {v : V} {p : Pl} (h : Pr H v p) (k : Same H H') : Pr H' v p := by
  obtain ⟨t, rfl, h⟩ := h
  exact ⟨t, rfl, k _ _ h⟩
inductive Prs (H : Hp) : List V → List Pl → Prop
  | nil : Prs H [] []
  | cons {v : V} {p : Pl} {vs : List V} {ps : List Pl} : Pr H v p → Prs H vs ps → Prs H (v :: vs) (p :: ps)
theorem Prs.same {H H' : Hp} {vs : List V} {ps : List Pl} (h : Prs H vs ps) (k : Same H H') : Prs H' vs ps := by
  induction h with
  | nil => exact .nil
  | cons a _ ih => exact .cons (a.same k) ih
theorem Prs.len {H : Hp} {vs : List V} {ps : List Pl} (h : Prs H vs ps) : vs.length = ps.length := by
  induction h with
  | nil => rfl
  | cons a _ ih => exact congrArg (· + 1) ih
theorem Prs.app {H : Hp} {vs us : List V} {ps qs : List Pl} (h : Prs H vs ps) (k : Prs H us qs) : Prs H (vs ++ us) (ps ++ qs) := by
  induction h with
  | nil => exact k
  | cons a _ ih => exact .cons a ih
theorem Prs.snoc {H : Hp} {vs : List V} {v : V} {ps : List Pl} {p : Pl} (h : Prs H vs ps) (k : Pr H v p) : Prs H (vs ++ [v]) (ps ++ [p]) := h.app (.cons k .nil)
theorem Prs.at {H : Hp} {vs : List V} {ps : List Pl} (h : Prs H vs ps) : ∀ {i : Nat} {v : V}, vs[i]? = some v → ∃ p, ps[i]? = some p ∧ Pr H v p := by
  induction h with
  | nil => intro i v e; cases e
  | cons a _ ih =>
    intro i v e
    cases i with
    | zero => cases e; exact ⟨_, rfl, a⟩
    | succ i => exact ih e
theorem Prs.take {H : Hp} {vs : List V} {ps : List Pl} (h : Prs H vs ps) : ∀ n, Prs H (vs.take n) (ps.take n) := by
  induction h with
  | nil => intro n; cases n <;> exact .nil
  | cons a _ ih => intro n; cases n with
    | zero => exact .nil
    | succ n => exact .cons a (ih n)
theorem Prs.drop {H : Hp} {vs : List V} {ps : List Pl} (h : Prs H vs ps) : ∀ n, Prs H (vs.drop n) (ps.drop n) := by
  induction h with
  | nil => intro n; cases n <;> exact .nil
  | cons a r ih => intro n; cases n with
    | zero => exact .cons a r
    | succ n => exact ih n
theorem Prs.mem {H : Hp} {vs : List V} {ps : List Pl} (h : Prs H vs ps) {v : V} (m : v ∈ vs) : ∃ p ∈ ps, Pr H v p := by
  induction h with
  | nil => cases m
  | cons a _ ih =>
    rcases List.mem_cons.mp m with e | m
    · subst e; exact ⟨_, List.mem_cons_self, a⟩
    · obtain ⟨p, hp, k⟩ := ih m
      exact ⟨p, List.mem_cons_of_mem _ hp, k⟩
theorem Prs.rev {H : Hp} {vs : List V} {ps : List Pl} (h : Prs H vs ps) : Prs H vs.reverse ps.reverse := by
  induction h with
  | nil => exact .nil
  | cons a _ ih => rw [List.reverse_cons, List.reverse_cons]; exact ih.snoc a
/-! ### their data -/
def dP (p : Pl) : PyData := .tuple [.int p.1, .int p.2]
def dL (ps : List Pl) : PyData := .list (ps.map dP)
theorem Pr.dp {K : PySem.W.Frag} {H : Hp} {v : V} {p : Pl} (h : Pr H v p) : Dp K H v (dP p) := by
  obtain ⟨t, rfl, h⟩ := h
  exact .tup (SqT.of h) (.cons (.int _) (.cons (.int _) .nil))
theorem Prs.dps {K : PySem.W.Frag} {H : Hp} {vs : List V} {ps : List Pl} (h : Prs H vs ps) : DpAll K H vs (ps.map dP) := by
  induction h with
  | nil => exact .nil
  | cons a _ ih => exact .cons a.dp ih
theorem Prs.dl {K : PySem.W.Frag} {H : Hp} {l : Addr} {vs : List V} {ps : List Pl} (h : Prs H vs ps) (e : SqL K H l vs) : Dp K H (.ref l) (dL ps) := .lst e h.dps
theorem eqv_int (a b : Int) : PyData.eqv (.int a) (.int b) = decide (a = b) := by
  rw [PyData.eqv]
  rfl
theorem eqv_dP (p q : Pl) : PyData.eqv (dP p) (dP q) = decide (p = q) := by
  obtain ⟨a, b⟩ := p
  obtain ⟨c, d⟩ := q
  show PyData.eqvAll [.int a, .int b] [.int c, .int d] = _
  simp only [PyData.eqvAll, eqv_int, Prod.ext_iff, Bool.and_true, Bool.decide_and]
theorem eqvAll_dP : ∀ ps qs : List Pl, PyData.eqvAll (ps.map dP) (qs.map dP) = decide (ps = qs)
  | [], [] => by simp [PyData.eqvAll]
  | [], _ :: _ => by simp [PyData.eqvAll]
  | _ :: _, [] => by simp [PyData.eqvAll]
  | p :: ps, q :: qs => by
    simp only [List.map_cons, PyData.eqvAll, eqv_dP, eqvAll_dP ps qs, List.cons.injEq]
    by_cases h1 : p = q <;> by_cases h2 : ps = qs <;> simp [h1, h2]
theorem eqv_dL (ps qs : List Pl) : PyData.eqv (dL ps) (dL qs) = decide (ps = qs) := by
  unfold dL
  rw [PyData.eqv, eqvAll_dP]
theorem lay_dPs : ∀ ps : List Pl, PyData.canLayAll0 (ps.map dP) = true
  | [] => rfl
  | _ :: ps => by
    show (true && PyData.canLayAll0 (ps.map dP)) = true
    rw [lay_dPs ps]
    rfl
theorem depth_dPs : ∀ ps : List Pl, PyData.depthAll (ps.map dP) ≤ 1
  | [] => by show 0 ≤ 1; omega
  | _ :: ps => by
    have ih := depth_dPs ps
    show max 1 (PyData.depthAll (ps.map dP)) ≤ 1
    omega
theorem sh_dP (p : Pl) : SeqAt.shaped (dP p) = true := rfl
theorem sh_dL (ps : List Pl) : SeqAt.shaped (dL ps) = true := by
  have h := depth_dPs ps
  unfold SeqAt.shaped dL
  rw [show PyData.canLay0 (.list (ps.map dP)) = PyData.canLayAll0 (ps.map dP) from rfl, lay_dPs]
  refine decide_eq_true ?_
  show PyData.depthAll (ps.map dP) + 1 ≤ 64
  omega
theorem any_dP (ps : List Pl) (p : Pl) : ((ps.map dP).any fun z => PyData.eqv z (dP p)) = decide (p ∈ ps) := by
  induction ps with
  | nil => simp
  | cons q ps ih =>
    rw [List.map_cons, List.any_cons, ih, eqv_dP]
    by_cases h1 : q = p
    · subst h1; simp
    · have h2 : ¬ p = q := fun z => h1 z.symm
      simp [h1, h2]

/-! ### the order of places, lists in order, each place once -/
def lp (p q : Pl) : Prop := p.1 < q.1 ∨ (p.1 = q.1 ∧ p.2 ≤ q.2)
instance : DecidableRel lp := fun p q => inferInstanceAs (Decidable (p.1 < q.1 ∨ (p.1 = q.1 ∧ p.2 ≤ q.2)))
theorem lp_trans {p q r : Pl} (h : lp p q) (k : lp q r) : lp p r := by unfold lp at *; omega
theorem lp_total (p q : Pl) : lp p q ∨ lp q p := by unfold lp; omega
theorem lp_anti {p q : Pl} (h : lp p q) (k : lp q p) : p = q := by
  unfold lp at *
  exact Prod.ext (by omega) (by omega)
def insP (p : Pl) : List Pl → List Pl
  | [] => [p]
  | q :: r => if lp p q then p :: q :: r else q :: insP p r
def sortP : List Pl → List Pl
  | [] => []
  | p :: r => insP p (sortP r)
theorem insP_perm (p : Pl) : ∀ r, (insP p r).Perm (p :: r)
  | [] => .refl _
  | q :: r => by
    unfold insP
    split
    · exact .refl _
    · exact ((insP_perm p r).cons q).trans (.swap p q r)
theorem sortP_perm : ∀ r, (sortP r).Perm r
  | [] => .nil
  | p :: r => (insP_perm p (sortP r)).trans ((sortP_perm r).cons p)
theorem insP_pw (p : Pl) : ∀ {r}, List.Pairwise lp r → (insP p r).Pairwise lp
  | [], _ => List.pairwise_singleton _ _
  | q :: r, h => by
    unfold insP
    have hq : ∀ {x}, x ∈ r → lp q x := fun m => List.rel_of_pairwise_cons h m
    split
    · rename_i c
      refine List.pairwise_cons.mpr ⟨fun x hx => ?_, h⟩
      rcases List.mem_cons.mp hx with e | hx
      · rw [e]; exact c
      · exact lp_trans c (hq hx)
    · rename_i c
      refine List.pairwise_cons.mpr ⟨fun x hx => ?_, insP_pw p (List.Pairwise.of_cons h)⟩
      rcases List.mem_cons.mp ((insP_perm p r).mem_iff.mp hx) with e | hx
      · rw [e]; exact (lp_total p q).resolve_left c
      · exact hq hx
theorem sortP_pw : ∀ r, (sortP r).Pairwise lp
  | [] => .nil
  | p :: r => insP_pw p (sortP_pw r)
theorem pw_uniq : ∀ {a b : List Pl}, a.Perm b → a.Pairwise lp → b.Pairwise lp → a = b
  | [], b, h, _, _ => h.nil_eq
  | p :: a, [], h, _, _ => absurd h.length_eq (by simp)
  | p :: a, q :: b, h, ha, hb => by
    have e : p = q := by
      rcases List.mem_cons.mp (h.mem_iff.mp List.mem_cons_self) with e | m
      · exact e
      · rcases List.mem_cons.mp (h.mem_iff.mpr List.mem_cons_self) with e | m'
        · exact e.symm
        · exact lp_anti (List.rel_of_pairwise_cons ha m') (List.rel_of_pairwise_cons hb m)
    subst e
    rw [pw_uniq ((List.perm_cons p).mp h) ha.of_cons hb.of_cons]
theorem sortP_of {a b : List Pl} (h : a.Perm b) (ha : a.Pairwise lp) : a = sortP b := pw_uniq (h.trans (sortP_perm b).symm) ha (sortP_pw b)
theorem sortP_congr {a b : List Pl} (h : a.Perm b) : sortP a = sortP b := sortP_of ((sortP_perm a).trans h) (sortP_pw a)
theorem sortP_mem {p : Pl} {r : List Pl} : p ∈ sortP r ↔ p ∈ r := (sortP_perm r).mem_iff
theorem sortP_len (r : List Pl) : (sortP r).length = r.length := (sortP_perm r).length_eq
theorem sortP_nd {r : List Pl} : (sortP r).Nodup ↔ r.Nodup := (sortP_perm r).nodup_iff
theorem sortP_id {r : List Pl} (h : r.Pairwise lp) : sortP r = r := (sortP_of (.refl _) h).symm
theorem sortP_idem (r : List Pl) : sortP (sortP r) = sortP r := sortP_id (sortP_pw r)
/-- each place once -/
def nub : List Pl → List Pl
  | [] => []
  | p :: r => if p ∈ r then nub r else p :: nub r
theorem nub_mem {p : Pl} : ∀ {r : List Pl}, p ∈ nub r ↔ p ∈ r
  | [] => Iff.rfl
  | q :: r => by
    unfold nub
    split
    · rename_i h
      rw [nub_mem (r := r), List.mem_cons]
      exact ⟨.inr, fun k => k.elim (fun e => by rw [e]; exact h) id⟩
    · rw [List.mem_cons, List.mem_cons, nub_mem (r := r)]
theorem nub_nd : ∀ r : List Pl, (nub r).Nodup
  | [] => .nil
  | p :: r => by
    unfold nub
    split
    · exact nub_nd r
    · rename_i h
      exact List.nodup_cons.mpr ⟨fun m => h (nub_mem.mp m), nub_nd r⟩
theorem nub_le : ∀ r : List Pl, (nub r).length ≤ r.length
  | [] => Nat.le_refl _
  | p :: r => by
    unfold nub
    have := nub_le r
    split
    · rw [List.length_cons]; omega
    · rw [List.length_cons, List.length_cons]; omega
theorem nub_lt : ∀ r : List Pl, (nub r).length < r.length ↔ ¬ r.Nodup
  | [] => by simp [nub]
  | p :: r => by
    have ih := nub_lt r
    have hl := nub_le r
    unfold nub
    rw [List.nodup_cons]
    split
    · rename_i h
      rw [List.length_cons]
      exact ⟨fun _ k => k.1 h, fun _ => by omega⟩
    · rename_i h
      rw [List.length_cons, List.length_cons, Nat.add_lt_add_iff_right, ih]
      exact ⟨fun k z => k z.2, fun k z => k ⟨h, z⟩⟩
theorem nub_id : ∀ {r : List Pl}, r.Nodup → nub r = r
  | [], _ => rfl
  | p :: r, h => by
    unfold nub
    rw [if_neg (List.nodup_cons.mp h).1, nub_id (List.nodup_cons.mp h).2]
/-- in order, each once -/
def marksP (r : List Pl) : List Pl := sortP (nub r)
theorem marksP_of {a r : List Pl} (hn : a.Nodup) (hm : ∀ p, p ∈ a ↔ p ∈ r) (ho : a.Pairwise lp) : a = marksP r :=
  sortP_of ((List.perm_ext_iff_of_nodup hn (nub_nd r)).mpr fun p => (hm p).trans nub_mem.symm) ho
theorem marksP_congr {a r : List Pl} (h : ∀ p, p ∈ a ↔ p ∈ r) : marksP a = marksP r :=
  sortP_congr ((List.perm_ext_iff_of_nodup (nub_nd a) (nub_nd r)).mpr fun p => nub_mem.trans ((h p).trans nub_mem.symm))
/-! ### the rules -/
theorem perm_lift {α β : Type} {f : α → β} {us vs : List β} (h : us.Perm vs) : ∀ L : List α, us = L.map f → ∃ L1 : List α, vs = L1.map f ∧ L1.Perm L := by
  induction h with
  | nil =>
    intro L e
    cases L with
    | nil => exact ⟨[], rfl, .nil⟩
    | cons b L => cases e
  | cons x _ ih =>
    intro L e
    cases L with
    | nil => cases e
    | cons b L =>
      injection e with e1 e2
      obtain ⟨L1, e3, p⟩ := ih L e2
      exact ⟨b :: L1, by rw [List.map_cons, e1, e3], p.cons b⟩
  | swap x y l =>
    intro L e
    match L, e with
    | b :: c :: L, e =>
      injection e with e1 e
      injection e with e2 e3
      exact ⟨c :: b :: L, by rw [List.map_cons, List.map_cons, e1, e2, e3], .swap b c L⟩
  | trans _ _ ih1 ih2 =>
    intro L e
    obtain ⟨L1, e1, p1⟩ := ih1 L e
    obtain ⟨L2, e2, p2⟩ := ih2 L1 e1
    exact ⟨L2, e2, p2.trans p1⟩
/-- a set of places stands at a -/
def SetOf (P : Program) (w : World) (H : Hp) (a : Addr) (ps : List Pl) : Prop := ∃ L : List (Addr × List Int), H a = some (SetTO P w a L) ∧
  (∀ x ∈ L, ∃ p ∈ ps, x.2 = [p.1, p.2] ∧ H x.1 = some (.tup [.int p.1, .int p.2])) ∧ ∀ p ∈ ps, [p.1, p.2] ∈ L.map (·.2)
section
variable {X : Cx} {pins : List (Addr × Obj)} {σ : St} {H : Hp} {s : Shared}
def toP (x : Addr × List Int) : Pl := (x.2.getD 0 0, x.2.getD 1 0)
theorem setOf_list {P : Program} {w : World} {a : Addr} {ps : List Pl} {L : List (Addr × List Int)}
    (h1 : ∀ x ∈ L, ∃ p ∈ ps, x.2 = [p.1, p.2] ∧ H x.1 = some (.tup [.int p.1, .int p.2])) (h2 : ∀ p ∈ ps, [p.1, p.2] ∈ L.map (·.2)) (nd : (L.map (·.2)).Nodup) :
    (L.map toP).Nodup ∧ ∀ p, p ∈ L.map toP ↔ p ∈ ps := by
  constructor
  · refine List.pairwise_map.mpr (List.Pairwise.imp_of_mem (fun {x y} hx hy ne e => ?_) (List.pairwise_map.mp nd))
    obtain ⟨p, _, ep, _⟩ := h1 x hx
    obtain ⟨q, _, eq, _⟩ := h1 y hy
    unfold toP at e
    rw [ep, eq] at e
    apply ne
    rw [ep, eq]
    have e1 : p.1 = q.1 := (Prod.mk.inj e).1
    have e2 : p.2 = q.2 := (Prod.mk.inj e).2
    rw [e1, e2]
  · intro p
    constructor
    · intro m
      obtain ⟨x, hx, rfl⟩ := List.mem_map.mp m
      obtain ⟨p, hp, ep, _⟩ := h1 x hx
      unfold toP
      rw [ep]
      exact hp
    · intro m
      obtain ⟨x, hx, e⟩ := List.mem_map.mp (h2 p m)
      refine List.mem_map.mpr ⟨x, hx, ?_⟩
      unfold toP
      rw [e]
      rfl
/-- set(xs), xs a list of places -/
def rSetP (K : PySem.W.Frag) (P : Program) (w : World) : List V → Hp → VK → Prop := fun xs H Q => ∃ (l : Addr) (vs : List V) (ps : List Pl), xs = [.ref l] ∧ SqL K H l vs ∧ Prs H vs ps ∧ ps.length < 64 ∧
  ∀ (H' : Hp) (a : Addr), H a = none → Same H H' → SetOf P w H' a ps → Q (.ref a) H'
theorem prs_ks {K : PySem.W.Frag} {vs : List V} {ps : List Pl} (h : Prs H vs ps) : ∃ ks : List (Addr × List Int), vs = ks.map (fun p => V.ref p.1) ∧ (∀ x ∈ ks, ∃ p ∈ ps, x.2 = [p.1, p.2] ∧ H x.1 = some (.tup [.int p.1, .int p.2])) ∧ ks.map (·.2) = ps.map (fun p => [p.1, p.2]) := by
  induction h with
  | nil => exact ⟨[], rfl, fun x hx => (nomatch hx), rfl⟩
  | @cons v p vs ps a _ ih =>
    obtain ⟨t, rfl, ht⟩ := a
    obtain ⟨ks, e, k, m⟩ := ih
    refine ⟨(t, [p.1, p.2]) :: ks, by rw [e]; rfl, fun x hx => ?_, by rw [List.map_cons, m]; rfl⟩
    rcases List.mem_cons.mp hx with z | z
    · subst z
      exact ⟨p, List.mem_cons_self, rfl, ht⟩
    · obtain ⟨q, hq, r⟩ := k x z
      exact ⟨q, List.mem_cons_of_mem _ hq, r⟩
theorem cr_setP (hc : X.calm = true) (hu : X.A.units + 64 < cLine) : CallR X (.type "set") (rSetP X.K X.prog X.w) := by
  intro pins s σ H xs us Q I r h
  obtain ⟨l, vs, ps, rfl, hl, hp, hn, q⟩ := h
  obtain ⟨ks, rfl, hk, hm⟩ := prs_ks (K := X.K) hp
  refine cr_setOfT hc hu pins s σ H [.ref l] us Q I r ⟨l, ks, rfl, hl, fun x hx => ?_, ?_, fun a L ha h1 h2 => ?_⟩
  · obtain ⟨p, _, e, k⟩ := hk x hx
    rw [e]
    exact SqT.of k
  · have e := congrArg List.length hm
    rw [List.length_map, List.length_map] at e
    omega
  · have sm : Same H (upd H a (SetTO X.prog X.w a L)) := fun b o e => by
      rw [upd_ne (ne_of_none e ha)]
      exact e
    refine q _ a ha sm ⟨L, upd_same, fun x hx => ?_, fun p hp => ?_⟩
    · obtain ⟨p, hp, e, k⟩ := hk x (h1 x hx)
      exact ⟨p, hp, e, sm _ _ k⟩
    · have m : [p.1, p.2] ∈ ks.map (·.2) := by
        rw [hm]
        exact List.mem_map.mpr ⟨p, hp, rfl⟩
      obtain ⟨x, hx, e⟩ := List.mem_map.mp m
      rw [← e]
      exact h2 x hx
/-- len(s), s a set of places -/
theorem call_lenP : CallR X (.builtin "len") (fun xs H Q => ∃ (a : Addr) (ps : List Pl), xs = [.ref a] ∧ SetOf X.prog X.w H a ps ∧ Q (.int (nub ps).length) H) := by
  intro pins s σ H xs us Q I r h
  obtain ⟨a, ps, rfl, ⟨L, ha, h1, h2⟩, q⟩ := h
  rw [Vals.ref1 r]
  have R0 : SetT0 X.prog X.w s.heap a L := (I.hok a _ ha).1
  obtain ⟨es, ep, t, R⟩ := R0.full fun x hx => by
    obtain ⟨p, _, e, k⟩ := h1 x hx
    have z : SqT X.K H x.1 (x.2.map V.int) := by rw [e]; exact SqT.of k
    exact I.isT z
  obtain ⟨o, ho, hex, hd⟩ := R.ob
  obtain ⟨n1, n2⟩ := setOf_list (P := X.prog) (w := X.w) (a := a) h1 h2 R0.ex.choose_spec.choose_spec.choose_spec.2.2.2.1
  have hl : L.length = (nub ps).length := by
    have z : (L.map toP).Perm (nub ps) := (List.perm_ext_iff_of_nodup n1 (nub_nd ps)).mpr fun p => (n2 p).trans nub_mem.symm
    have z2 := z.length_eq
    rw [List.length_map] at z2
    exact z2
  have hsz := R.size
  have hfew := R.few
  refine call_len_set ho hex hd R.fits (by omega) ⟨.int (nub ps).length, H, I.tok _, ⟨_, by rw [hsz, hl]⟩, q⟩
end

section
open PyProof.Rows
/-! ### sorted(xs), xs a list of places; sorted(s), s a set of places -/
/-- what place a value stands for -/
def plAt (H : Hp) (v : V) : Pl := match v with
  | .ref t => (match H t with
    | some (.tup [.int a, .int b]) => (a, b)
    | _ => (0, 0))
  | _ => (0, 0)
theorem plAt_of {H : Hp} {v : V} {p : Pl} (h : Pr H v p) : plAt H v = p := by
  obtain ⟨t, rfl, h⟩ := h
  show (match H t with
    | some (.tup [.int a, .int b]) => (a, b)
    | _ => (0, 0)) = p
  rw [h]
theorem prs_plAt {H : Hp} {vs : List V} {ps : List Pl} (h : Prs H vs ps) : vs.map (plAt H) = ps := by
  induction h with
  | nil => rfl
  | cons a _ ih => rw [List.map_cons, ih, plAt_of a]
theorem prs_of_mem {H : Hp} : ∀ {ys : List V}, (∀ y ∈ ys, ∃ p, Pr H y p) → Prs H ys (ys.map (plAt H))
  | [], _ => .nil
  | y :: ys, h => by
    obtain ⟨p, hp⟩ := h y List.mem_cons_self
    refine .cons ?_ (prs_of_mem fun z hz => h z (List.mem_cons_of_mem _ hz))
    rw [plAt_of hp]
    exact hp
theorem prs_perm {H : Hp} {xs ys : List V} {ps : List Pl} (h : Prs H xs ps) (m : ys.Perm xs) : Prs H ys (ys.map (plAt H)) ∧ (ys.map (plAt H)).Perm ps := by
  refine ⟨prs_of_mem fun y hy => ?_, ?_⟩
  · obtain ⟨p, _, k⟩ := h.mem (m.mem_iff.mp hy)
    exact ⟨p, k⟩
  · have e := m.map (plAt H)
    rw [prs_plAt h] at e
    exact e
def rSortP (K : PySem.W.Frag) : List V → Hp → VK → Prop := fun vs H Q => ∃ (a : Addr) (xs : List V) (ps : List Pl), vs = [.ref a] ∧ SqL K H a xs ∧ Prs H xs ps ∧
  ∀ (p : Addr) (ys : List V), H p = none → Prs H ys (sortP ps) → Q (.ref p) (upd H p (.lst ys))
section
variable {X : Cx}
theorem call_sortP : CallR X (.builtin "sorted") (rSortP X.K) := by
  intro pins s σ H vs us Q I r h
  obtain ⟨a, xs, ps, rfl, hs, hp, q⟩ := h
  refine cr_sortedPO pins s σ H [.ref a] us Q I r ⟨a, xs, plAt H, rfl, hs, fun x hx => ?_, fun ys p h1 h2 hn => ?_⟩
  · obtain ⟨p, _, t, e, k⟩ := hp.mem hx
    refine ⟨t, e, ?_⟩
    have z : plAt H x = p := plAt_of ⟨t, e, k⟩
    rw [z]
    exact k
  · obtain ⟨k1, k2⟩ := prs_perm hp h2.perm
    have e : ys.map (plAt H) = sortP ps := sortP_of k2 (List.pairwise_map.mpr (List.Pairwise.imp (fun {x y} z => by
      have z1 : SrtO.lexB (plAt H y) (plAt H x) = false := z
      have z2 := SrtO.lexB_no.mp z1
      unfold lp
      omega) h1))
    rw [e] at k1
    exact q p ys hn k1
def rSortS (P : Program) (w : World) : List V → Hp → VK → Prop := fun vs H Q => ∃ (a : Addr) (ps : List Pl), vs = [.ref a] ∧ SetOf P w H a ps ∧
  ∀ (p : Addr) (ys : List V), H p = none → Prs H ys (marksP ps) → Q (.ref p) (upd H p (.lst ys))
theorem eachIs_map {α β : Type} {R : α → β → Prop} (f : β → α) : ∀ {bs : List β}, (∀ b ∈ bs, R (f b) b) → PySem.W.EachIs R (bs.map f) bs
  | [], _ => .nil
  | b :: bs, h => .cons (h b List.mem_cons_self) (eachIs_map f fun c hc => h c (List.mem_cons_of_mem _ hc))
theorem eachIs_back {α β : Type} {f : β → α} : ∀ {out : List α} {bs : List β}, PySem.W.EachIs (fun v b => v = f b) out bs → out = bs.map f
  | _, _, .nil => rfl
  | _, _, .cons e r => by rw [e, eachIs_back r]; rfl
theorem reads_two {h : Heap} {t : Addr} {a b : Int} (k : TS.TupInts h (.ref t) [a, b]) : ∃ as, Reads h (.ref t) (.tuple [.int a, .int b]) as ∧ as = [] := by
  obtain ⟨t', its, e, ⟨o, ho, hc, n, hd⟩, hi⟩ := k
  cases e
  generalize he : its.toList = l at hi
  cases hi with
  | cons _ t1 hi =>
    cases hi with
    | cons _ t2 hi =>
      cases hi
      exact ⟨[], .tuple ho hc hd (by rw [he]; exact .cons (.int _ _) (.cons (.int _ _) .nil)), rfl⟩
section
variable {P : Program} {w : World} {A : Around} {E : Value → Shared → Prop} {s : Shared}
theorem sorted_setP {a : Addr} {L : List (Addr × List Int)} {es : Array (Int × Value)} {ep : Nat} {t : SetTable} {Q : Value → Shared → Prop} (R : SetTR P w s.heap a L es ep t) (hh : A.handled = none) (hu : A.units + 64 < cLine)
    (hxy : ∀ b ∈ L, b.2 = [(toP b).1, (toP b).2])
    (hQ : ∀ (s' : Shared) (p : Addr) (out : Array Value) (c : Nat) (L' : List (Addr × List Int)), (∀ b o, s.heap.get? b = some o → s'.heap.get? b = some o) → s'.gens = s.gens → s'.os = s.os → s.heap.objs.size ≤ p →
      s'.heap.get? p = some (seqObj "list" out c) → out.toList = L'.map (fun q => Value.ref q.1) → L'.Perm L → L'.Pairwise (fun q r => lp (toP q) (toP r)) → Q (.ref p) s') :
    wpAny (model P w) A (call (.builtin "sorted") [.ref a]) Q E s := by
  obtain ⟨so, sho, shex, shd⟩ := R.ob
  have ssz := R.size
  have sfew := R.few
  have hcl : cLine = 10000 ∨ True := .inr trivial
  refine Calls.call_function_entry kind_sorted plain_sorted entry_sorted (args_sorted1 _) ?_
  unfold Builtin.«sorted»
  refine wpAny_bind (m := checkCount "sorted" 1 1 _) (wpAny_pure ?_)
  refine wpAny_bind (collect_set (A := A.in1) hh ⟨so, sho, shex.1, shd⟩ R.fits (by unfold scanBound; omega) R.tab.ris R.led fun s1 vs k1 z1 g1 o1 pm => ?_)
  have hes : es.toList.map (·.2) = L.map fun q => Value.ref q.1 := by
    rw [R.rows]
    unfold rowsOf
    rw [List.map_map]
    rfl
  rw [hes] at pm
  obtain ⟨L1, rfl, p1⟩ := perm_lift pm.symm L rfl
  have hvl : (L1.map fun q : Addr × List Int => Value.ref q.1).length < 64 := by
    rw [List.length_map, p1.length_eq]
    exact sfew
  refine wpAny_bind (wpAny_newList ?_ (by rw [sizeLine_eq]; omega))
  generalize hvs : (L1.map fun q : Addr × List Int => Value.ref q.1) = vs at *
  have hoL : (s1.heap.push (seqObj "list" vs.toArray 0)).get? s1.heap.objs.size = some (seqObj "list" vs.toArray 0) := Heap.get?_push_size _ rfl
  have tk : ∀ q ∈ L1, TS.TupInts (s1.heap.push (seqObj "list" vs.toArray 0)) (.ref q.1) [(toP q).1, (toP q).2] := fun q hq => by
    have hq' := p1.mem_iff.mp hq
    have z : TS.TupInts (s1.heap.push (seqObj "list" vs.toArray 0)) (.ref q.1) q.2 := tupInts_of (P := P) (w := w) (isT_keep (R.tup q hq') fun b u e => Heap.get?_push_of_some _ (k1 b u e))
    rw [hxy q hq'] at z
    exact z
  have er : PySem.W.EachIs (fun v (b : Addr × List Int) => ∃ as, Reads (s1.heap.push (seqObj "list" vs.toArray 0)) v (.tuple [.int (toP b).1, .int (toP b).2]) as ∧ s1.heap.objs.size ∉ as) vs L1 := by
    subst hvs
    refine eachIs_map _ fun b hb => ?_
    obtain ⟨as, k, e⟩ := reads_two (tk b hb)
    exact ⟨as, k, by rw [e]; simp⟩
  have ev : PySem.W.EachIs (fun v (b : Addr × List Int) => v = Value.ref b.1) vs L1 := by
    rw [← hvs]
    exact eachIs_map _ fun b _ => rfl
  refine wpAny_bind (wpAny_holding (PySem.W.list_sort_data (s := { s1 with heap := s1.heap.push (seqObj "list" vs.toArray 0) }) (enc := fun b : Addr × List Int => .tuple [.int (toP b).1, .int (toP b).2]) hoL ev er
    (PySem.W.AllAlike.of fun b b' => by rfl) (PySem.W.Sortable.tuples fun b => ⟨_, _, rfl⟩) ?_ (fun b _ => ?_) fun out ho he => ?_))
  · rw [← hvs, List.length_map] at hvl
    rw [sizeLine_eq]
    omega
  · have z : A.in1.units ≤ A.units + 3 := by
      unfold Around.in1
      simp
    show A.in1.units + 1 + 1 < cLine
    omega
  obtain ⟨c, hc⟩ := sortedHeap_at (vs := vs) (out := out.toArray) hoL
  have eo := eachIs_back he
  refine wpAny_pure ⟨_, rfl, hQ _ s1.heap.objs.size out.toArray c _ (fun b u e => ?_) g1 o1 z1 hc (by rw [List.toList_toArray]; exact eo) ((List.mergeSort_perm _ _).trans p1) ?_⟩
  · have q := k1 b u e
    have hlt := Heap.lt_size q
    show (sortedHeap _ s1.heap.objs.size vs out.toArray).get? b = some u
    rw [sortedHeap_old (Nat.ne_of_lt hlt) (by rw [size_push']; exact Nat.lt_succ_of_lt hlt)]
    exact Heap.get?_push_of_some _ q
  · rw [PySem.W.dataLe_ii]
    have z := List.pairwise_mergeSort (le := fun p q : Addr × List Int => decide ((toP p).1 < (toP q).1 ∨ ((toP p).1 = (toP q).1 ∧ (toP p).2 ≤ (toP q).2)))
      (fun a b c h1 h2 => decide_eq_true (by have k1 := of_decide_eq_true h1; have k2 := of_decide_eq_true h2; omega))
      (fun a b => by
        rw [Bool.or_eq_true, decide_eq_true_eq, decide_eq_true_eq]
        omega) L1
    exact List.Pairwise.imp (fun h => of_decide_eq_true h) z
end
theorem call_sortS (hc : X.calm = true) (hu : X.A.units + 64 < cLine) : CallR X (.builtin "sorted") (rSortS X.prog X.w) := by
  intro pins s σ H vs us Q I r h
  obtain ⟨a, ps, rfl, ⟨L, ha, h1, h2⟩, q⟩ := h
  rw [Vals.ref1 r]
  have R0 : SetT0 X.prog X.w s.heap a L := (I.hok a _ ha).1
  obtain ⟨es, ep, t, R⟩ := R0.full fun x hx => by
    obtain ⟨p, _, e, k⟩ := h1 x hx
    have z : SqT X.K H x.1 (x.2.map V.int) := by rw [e]; exact SqT.of k
    exact I.isT z
  obtain ⟨n1, n2⟩ := setOf_list (P := X.prog) (w := X.w) (a := a) h1 h2 R.nd
  have hxy : ∀ b ∈ L, b.2 = [(toP b).1, (toP b).2] := fun b hb => by
    obtain ⟨p, _, e, _⟩ := h1 b hb
    unfold toP
    rw [e]
    rfl
  refine sorted_setP R (I.ok.hd hc) hu hxy fun s' p out c L' kp kg ko hp hg hout pm pw => ?_
  have few := R.few
  have hl' : L'.length < 64 := by rw [pm.length_eq]; exact few
  have fresh : H p = none := I.hok.fresh hp
  have hz : (L'.map fun q => V.ref q.1).length ≤ sizeLine := by
    rw [List.length_map, sizeLine_eq]
    omega
  have hv : Vals (L'.map fun q => V.ref q.1) out.toList := by
    rw [hout]
    exact vals_of_refs L'
  have J : Inv X pins σ (upd H p (.lst (L'.map fun q => V.ref q.1))) { s with heap := s'.heap, gens := s'.gens, drawn := s'.drawn, toks := s'.toks } :=
    I.call (ch := []) (Un.laid kp hp fresh) (I.hok.laid kp hp ⟨hz, out.toList, c, hv, hg⟩) (by rw [kg]; exact I.bare) (fun _ z => nomatch z)
  have es' : s' = { s with heap := s'.heap, gens := s'.gens, drawn := s'.drawn, toks := s'.toks } := by
    obtain ⟨a1, a2, a3, a4, a5⟩ := s'
    obtain ⟨b1, b2, b3, b4, b5⟩ := s
    cases ko
    rfl
  rw [es']
  refine ⟨.ref p, _, J, rfl, q p _ fresh ?_⟩
  have e : L'.map toP = marksP ps := by
    refine marksP_of ((pm.map toP).nodup_iff.mpr n1) (fun p => ((pm.map toP).mem_iff).trans (n2 p)) (List.pairwise_map.mpr pw)
  rw [← e]
  have all : ∀ M : List (Addr × List Int), (∀ x ∈ M, x ∈ L) → Prs H (M.map fun q => V.ref q.1) (M.map toP) := by
    intro M
    induction M with
    | nil => intro _; exact .nil
    | cons x M ih =>
      intro hm
      obtain ⟨p, _, ep, k⟩ := h1 x (hm x List.mem_cons_self)
      refine .cons ⟨x.1, rfl, ?_⟩ (ih fun y hy => hm y (List.mem_cons_of_mem _ hy))
      rw [k]
      unfold toP
      rw [ep]
      rfl
  exact all L' fun x hx => pm.mem_iff.mp hx
end

end

section
open PySem.Spec PyProof.Rows
/-! ### try with several clauses, with and without names -/
/-- the ends of a clause whose name stands in slot i: behind it the slot is empty -/
def asEnds (i : Nat) (D : Ends) : Ends := { nx := fun τ G => D.nx (τ.set i none) G, rt := D.rt, bk := fun τ G => D.bk (τ.set i none) G, ct := fun τ G => D.ct (τ.set i none) G }
abbrev Sui := Addr → Value → Option Addr → TS
/-- what the clauses wish of an error of the body -/
def wNext (K : PySem.W.Frag) (Wo : WX) (D : Ends) : List (Value × Option Nat × Sui) → WX
  | [] => Wo
  | (c, none, ts) :: more => fun cls d τ G => ∃ b, PySem.W.exmOne K cls c = some b ∧ (b = true → ∀ x, G x = none → ts x cls d D τ G) ∧ (b = false → wNext K Wo D more cls d τ G)
  | (c, some i, ts) :: more => fun cls d τ G => ∃ b, PySem.W.exmOne K cls c = some b ∧ (b = true → ∀ x, G x = none → ts x cls d (asEnds i D) (τ.set i (some (.ref x))) G) ∧ (b = false → wNext K Wo D more cls d τ G)
/-- try: the body's reading, its errors wished for as the clauses take them -/
def tTry (K : PySem.W.Frag) (Wo : WX) (l : List (Value × Option Nat × Sui)) (tb : WX → TS) : TS := fun D τ G => tb (wNext K Wo D l) D τ G
inductive Clauses (X : Cx) : List ExceptHandler → List (Value × Option Nat × Sui) → Prop
  | nil : Clauses X [] []
  | plain {x : Str} {c : Value} {ts : Sui} {s0 : Stmt} {su : List Stmt} {p1 p2 : Pos} {hs : List ExceptHandler} {l : List (Value × Option Nat × Sui)} (hc : Names X x c)
      (hsu : ∀ (a : Addr) (oe : Obj) (cls : Value) (d : Option Addr) (pn : List (Addr × Obj)), Zc cls d oe → (∃ vs, oe.data = .fields vs) → PSs (X.suite a ((a, oe) :: pn)) (s0 :: su) (ts a cls d)) (more : Clauses X hs l) :
      Clauses X (.ExceptHandler (some (.Name x p1)) none (s0 :: su) p2 :: hs) ((c, none, ts) :: l)
  | named {x n : Str} {i : Nat} {c : Value} {ts : Sui} {s0 : Stmt} {su : List Stmt} {p1 p2 : Pos} {hs : List ExceptHandler} {l : List (Value × Option Nat × Sui)} (hN : X.N.Nodup) (hi : X.N[i]? = some n) (hn : X.env.kindOf n = some .local) (hc : Names X x c)
      (hsu : ∀ (a : Addr) (oe : Obj) (cls : Value) (d : Option Addr) (pn : List (Addr × Obj)), Zc cls d oe → (∃ vs, oe.data = .fields vs) → PSs (X.suite a ((a, oe) :: pn)) (s0 :: su) (ts a cls d)) (more : Clauses X hs l) :
      Clauses X (.ExceptHandler (some (.Name x p1)) (some n) (s0 :: su) p2 :: hs) ((c, some i, ts) :: l)
section
variable {X : Cx} {body : List Stmt} {c0 : ExceptHandler} {cs : List ExceptHandler} {l : List (Value × Option Nat × Sui)} {pos : Pos} {tb : WX → TS} {Wo : WX}
theorem ps_try_next (hst : X.stack = X.env :: X.outer) (hfm : X.env.frame = some X.env.locals) (tk : Takes X Wo)
    (hbody : ∀ (W : WX) (pn : List (Addr × Obj)) (xe : Value → Shared → Prop), Takes (X.tr pn xe) W → PassesOwn (model X.prog X.w) X.A X.env xe → PSs (X.tr pn xe) body (tb W))
    (hcs : Clauses X (c0 :: cs) l) : PS X (.Try body (c0 :: cs) [] [] pos) (tTry X.K Wo l tb) := by
  refine ⟨fun pins s τ G D I hw => ?_⟩
  have kk := I.ok
  have hfrs : X.A.frames = some (X.env :: X.outer) := by rw [kk.frames, hst]
  let M := model X.prog X.w
  refine wpAny_Try_except ?_
  refine wpAny_mono ((hbody (wNext X.K Wo D l) (X.pn ++ pins) (fun e s₁ => wpAny M X.A (noteFrame e X.env) (fun _ s₂ => wpAny M X.A (setFlight e none) (fun _ s₃ => wpAny M X.A (handleBy e X.env (c0 :: cs)) (SP X pins D) X.xe s₃) X.xe s₂) X.xe s₁)
    (fun u s' xx => ?_) PassesOwn.looking).run [] s τ G D (I.toTry _) hw) (fun fl s1 hsp => ?_) (fun e s1 he => he)
  · obtain ⟨a, B, sI, pins', τ', G', cls, d, rfl, J0, nb, up, sky, na, hos, hag, wish⟩ := xx
    have J : Inv X pins τ' G' sI := J0.ofTry kk
    have sk : Sky B (X.env :: X.outer) a (Zc cls d) X.env.locals s'.heap := hst ▸ sky
    show wpAny M X.A (noteFrame (.ref a) X.env) _ _ _
    refine Sky.land Zc.steady hfrs hfm sk fun h3 fl3 up3 => ?_
    have J3 : Inv X pins τ' G' { s' with heap := h3 } := J.landed nb fl3.1 (up.trans up3) hos hag
    obtain ⟨oe3, vs3, he3, hz3, hd3⟩ := fl3.there
    have nfr : a ∉ frs (X.env :: X.outer) := fun hm => by
      obtain ⟨_, o', e', hnf⟩ := fl3.2.2.1.mem hm
      rw [he3] at e'
      cases e'
      exact hnf _ hd3
    have nL : a ≠ X.env.locals := fun z => nfr (List.mem_filterMap.mpr ⟨X.env, List.mem_cons_self, by rw [hfm, z]⟩)
    have nF : a ∉ X.fs := fun hm => by
      obtain ⟨e, he, q⟩ := List.mem_filterMap.mp hm
      exact nfr (List.mem_filterMap.mpr ⟨e, List.mem_cons_of_mem _ he, q⟩)
    have S3 := J3.suite he3 hd3 na nL nF
    have LT : PySem.W.Looks M h3 (typeOf (.ref a)) cls := fun A Q E s k q => wpAny_typeOf_ref (k _ _ he3) (by rw [hz3.1]; exact q)
    have test : ∀ {x : Str} {c : Value} {p1 : Pos} {Q : Value → Shared → Prop} {E : Value → Shared → Prop}, Names X x c → Q c { s' with heap := h3 } → wpAny M (X.A.mark (some (.ref a))) (eval (.Name x p1) X.env) Q E { s' with heap := h3 } :=
      fun {x c p1 Q E} hc q => by
        obtain ⟨hg, hdbg, hm | ⟨hm, hv, hnn⟩⟩ := hc
        · exact ld_glob (X := X.suite a ((a, oe3) :: (X.pn ++ pins))) S3 hg hm q hdbg
        · exact ld_blt (X := X.suite a ((a, oe3) :: (X.pn ++ pins))) S3 hg hm hv q hnn hdbg
    have each : ∀ {hs : List ExceptHandler} {l' : List (Value × Option Nat × Sui)}, Clauses X hs l' → wNext X.K Wo D l' cls d τ' G' → wpAny M X.A (handleBy (.ref a) X.env hs) (SP X pins D) X.xe { s' with heap := h3 } := by
      intro hs l' hk
      induction hk with
      | nil =>
        intro wish
        refine wpAny_handleBy_nil ?_
        obtain ⟨k1, k2, k3, oe, vs, T, oT, ts', he, hz, hd, hf1, hr⟩ := id fl3
        unfold PySem.passOn
        refine wpAny_bind (wpAny_field he hd hf1 ?_)
        rw [if_neg (show ¬ ((Value.ref T == Value.none) = true) from by simp)]
        have out : wpAny M X.A (setFlight (.ref a) X.env.frame) (fun _ s4 => wpAny M X.A (throw (.ref a) : Sem Flow) (SP X pins D) X.xe s4) X.xe { s' with heap := h3 } := by
          rw [hfm]
          refine HandSPX.setFlight_upZ fl3 fun h4 hh4 up4 => wpAny_throw (tk _ _ ?_)
          exact ⟨a, B, sI, pins, τ', G', cls, d, rfl, J, nb, (up.trans up3).trans up4, .inr (.inr (hst ▸ hh4)), na, hos, hag, wish⟩
        first
          | exact wpAny_bind (wpAny_pure (wpAny_bind out))
          | exact wpAny_bind out
      | plain hc hsu more ih =>
        intro wish
        obtain ⟨b, hb1, yes, no⟩ := wish
        refine wpAny_handleBy_cons (codeAny_handlers_test ?_) (by intro q; cases q)
        refine test hc ((PySem.W.exm_one (M := M) J3.kIn LT hb1).here ?_)
        cases b with
        | false => exact ih (no rfl)
        | true =>
          refine codeAny_handlers_suite (HandSPX.lands_againZ fl3 fun h4 fl4 up4 => ?_)
          have J4 : Inv X pins τ' G' { s' with heap := h4 } := J.landed nb fl4.1 ((up.trans up3).trans up4) hos hag
          obtain ⟨oe4, vs4, he4, hz4, hd4⟩ := fl4.there
          refine wpAny_mono ((hsu a oe4 cls d (X.pn ++ pins) hz4 ⟨_, hd4⟩).run [] _ _ G' _ (J4.suite he4 hd4 na nL nF) (yes rfl a na)) (fun f s6 hsp => ?_) (fun _ _ z => z.elim)
          cases f with
          | ret u =>
            obtain ⟨v6, τ6, G6, S6, r6, q6⟩ := hsp
            exact ⟨v6, τ6, G6, S6.unsuite kk, r6, q6⟩
          | next =>
            obtain ⟨τ6, G6, S6, q6⟩ := hsp
            exact ⟨τ6, G6, S6.unsuite kk, q6⟩
          | brk =>
            obtain ⟨τ6, G6, S6, q6⟩ := hsp
            exact ⟨τ6, G6, S6.unsuite kk, q6⟩
          | cont =>
            obtain ⟨τ6, G6, S6, q6⟩ := hsp
            exact ⟨τ6, G6, S6.unsuite kk, q6⟩
      | named hN hi hn hc hsu more ih =>
        intro wish
        obtain ⟨b, hb1, yes, no⟩ := wish
        refine wpAny_handleBy_cons (codeAny_handlers_test ?_) (by intro q; cases q)
        refine test hc ((PySem.W.exm_one (M := M) J3.kIn LT hb1).here ?_)
        cases b with
        | false => exact ih (no rfl)
        | true =>
          refine codeAny_handlers_suite_as (HandSPX.lands_againZ fl3 fun h4 fl4 up4 => ?_)
          have J4 : Inv X pins τ' G' { s' with heap := h4 } := J.landed nb fl4.1 ((up.trans up3).trans up4) hos hag
          obtain ⟨oe4, vs4, he4, hz4, hd4⟩ := fl4.there
          refine store_ok (X := X.suite a ((a, oe4) :: (X.pn ++ pins))) (v := .ref a) (J4.suite he4 hd4 na nL nF) hN hi (.inl hn) rfl (fun s5 S5 => ?_) (.inr hn)
          refine wpAny_mono ((hsu a oe4 cls d (X.pn ++ pins) hz4 ⟨_, hd4⟩).run [] s5 _ G' _ S5 (yes rfl a na)) (fun f s6 hsp => ?_) (fun _ _ z => z.elim)
          cases f with
          | ret u =>
            obtain ⟨v6, τ6, G6, S6, r6, q6⟩ := hsp
            exact gone_ok (S6.unsuite kk) hN hi hn fun s7 J7 => ⟨v6, _, G6, J7, r6, q6⟩
          | next =>
            obtain ⟨τ6, G6, S6, q6⟩ := hsp
            exact gone_ok (S6.unsuite kk) hN hi hn fun s7 J7 => ⟨_, G6, J7, q6⟩
          | brk =>
            obtain ⟨τ6, G6, S6, q6⟩ := hsp
            exact gone_ok (S6.unsuite kk) hN hi hn fun s7 J7 => ⟨_, G6, J7, q6⟩
          | cont =>
            obtain ⟨τ6, G6, S6, q6⟩ := hsp
            exact gone_ok (S6.unsuite kk) hN hi hn fun s7 J7 => ⟨_, G6, J7, q6⟩
    exact each hcs wish
  · cases fl with
    | ret u =>
      obtain ⟨v, τ', G', J', r, q⟩ := hsp
      exact ⟨v, τ', G', J'.ofTry kk, r, q⟩
    | next =>
      obtain ⟨τ', G', J', q⟩ := hsp
      exact wpAny_execs_nil ⟨τ', G', J'.ofTry kk, q⟩
    | brk =>
      obtain ⟨τ', G', J', q⟩ := hsp
      exact ⟨τ', G', J'.ofTry kk, q⟩
    | cont =>
      obtain ⟨τ', G', J', q⟩ := hsp
      exact ⟨τ', G', J'.ofTry kk, q⟩
end

end

section
open PySem.Spec PyProof.Rows
/-! ### calls of methods and of classes whose errors are wished for at the caller's slots -/
section
variable {X : Cx} {CX : CXT} {k : Nat} {C f : Addr} {fd : FuncData} {ps : List Str} {sp : Sp} {E : L2.St → XK} {x m : Str} {p pos apos : Pos} {o e : Expr} {es : List Expr} {ta : TE} {t : TA}
def tMethS (C : Addr) (m : Str) (sp : Sp) (E : L2.St → XK) (ta : TE) (t : TA) : TE := fun τ G Q => ta τ G fun x G1 => ∃ a dx fs, x = .ref a ∧ G1 a = some (.ins C dx fs) ∧ fs.lookup m = none ∧ t τ G1 fun vs G2 => sp (x :: vs) G2 Q (E τ)
theorem pe_methS {pl : Sem Bool} (ho : PE X o ta) (c : Cls X.K C) (hm : Meth X.K C m f) (F : FnOk X.prog X.w X.K X.mg X.base CX k f fd ps sp) (hr : Room k X.A) (hb : Binds X.K fd ps []) (hx : ∀ τ, PassesAt CX X τ (E τ)) (ha : PA X (e :: es) t)
    (h1 : starEach (e :: es) X.env = (false, eval e X.env) :: starEach es X.env := by rfl) (h2 : (backTo pos (starEach es X.env)).any (·.1) = false := by rfl)
    (h3 : eval (.Call (.Attribute o m apos) (e :: es) [] pos) X.env = (do
      let recv ← eval o X.env
      standAt apos.atName
      let (g, first) ← holding [recv] (getMethod recv m pl)
      callWith pos g first (backTo pos (starEach (e :: es) X.env)) (backToKw pos (keywordEach [] X.env))) := by rfl) :
    PE X (.Call (.Attribute o m apos) (e :: es) [] pos) (tMethS C m sp E ta t) := by
  refine ⟨fun pins s τ G Q I h => PySem.W.methodCall_KW (pl := pl) (thn (ho.run pins s τ G _ I h) fun u s1 hh => ?_) h3⟩
  obtain ⟨y, G1, I1, ry, a, dx, fs, rfl, ea, l, q⟩ := hh
  obtain rfl : u = Value.ref a := ry
  refine getmeth_ok I1 ea c hm l (PySem.W.callWith_K (first := [.ref a]) (h₀ := X.base) I.ok.mod.kin hm.kp (thn (ha.run pos pins s1 τ G1 _ I1 q) fun us s2 hh => ?_) h1 h2)
  obtain ⟨vs, G2, I2, r, q2⟩ := hh
  refine ⟨I2.kIn, run_fnSD (dvs := []) (ds := []) (E := E) (us := .ref a :: us) (vs := .ref a :: vs) F hr hb .nil (hx τ) I2 (.cons rfl r) ?_⟩
  rw [List.append_nil]
  exact q2
def tMakeS (C : Addr) (sp : Sp) (E : L2.St → XK) (t : TA) : TE := fun τ G Q => t τ G fun vs G1 => ∀ x dx, G1 x = none → G1 dx = none → dx ≠ x →
  sp (.ref x :: vs) (upd (upd G1 dx (.own x)) x (.ins C dx [])) (fun v G2 => v = .non ∧ Q (.ref x) G2) (E τ)
theorem pe_makeS (M : Mk X.K C f) (F : FnOk X.prog X.w X.K X.mg X.base CX k f fd ps sp) (hr : Room (k + 1) X.A) (hg : Gl X x) (hm : X.mg x = some (.ref C)) (hb : Binds X.K fd ps []) (hx : ∀ τ, PassesAt CX X τ (E τ)) (ha : PA X (e :: es) t)
    (hdb : (x == ("__debug__" : Str)) = false := by decide) (h1 : starEach (e :: es) X.env = (false, eval e X.env) :: starEach es X.env := by rfl) (h2 : (backTo pos (starEach es X.env)).any (·.1) = false := by rfl) :
    PE X (.Call (.Name x p) (e :: es) [] pos) (tMakeS C sp E t) := by
  refine ⟨fun pins s τ G Q I h => wpAny_Call_Name_kw (ld_glob I hg hm ?_ hdb)⟩
  refine PySem.W.callWith_K (h₀ := X.base) I.ok.mod.kin M.kp (thn (ha.run pos pins s τ G _ I h) fun us s1 hh => ?_) h1 h2
  obtain ⟨vs, G1, I1, r, q⟩ := hh
  refine ⟨I1.kIn, ?_⟩
  show wpAny _ _ (call (.ref C) us) _ _ _
  let n := s1.heap.objs.size
  have hq := q (n + 1) n (I1.hok.fresh (Nat.le_succ _)) (I1.hok.fresh (Nat.le_refl _)) (Nat.ne_of_lt (Nat.lt_succ_self _))
  have I2 := Inv.made (C := C) I1
  have r2 : Vals (V.ref (n + 1) :: vs) (Value.ref (n + 1) :: us) := .cons rfl r
  have hl : (Value.ref (n + 1) :: us).length = ps.length := by
    have z := r2.length
    rw [F.len _ _ _ _ hq] at z
    exact z.symm
  have hbb := hb _ (Value.ref (n + 1) :: us) I2.kIn (by rw [List.append_nil]; exact hl)
  rw [List.append_nil] at hbb
  refine wpAny_call (make_map (f := f) I1.kIn M.makes M.init (beq_iff_eq.mp M.fn) (codeAny_mono (F.run _ X.stack _ _ ⟨Value.ref (n + 1) :: us, []⟩ (Value.ref (n + 1) :: us) _ _ (E τ) (hr.make C us []) (I2.env0.make C us []) hbb r2 hq) fun r s' hq' => ?_))
  cases r with
  | error z => exact hx τ pins _ _ z s' I2 hq'
  | ok fl =>
    cases fl with
    | ret u =>
      obtain ⟨v, G', I3, rv, ev, q3⟩ := I2.after hq'
      subst ev
      exact ⟨rv, V.ref (n + 1), G', I3, rfl, q3⟩
    | next => exact hq'.elim
    | brk => exact hq'.elim
    | cont => exact hq'.elim
end
/-! ### what was said of places stays when a list is written anew -/
theorem Pr.over {H : Hp} {m : Addr} {zs ws : List V} {v : V} {p : Pl} (h : Pr H v p) (hm : H m = some (.lst zs)) : Pr (upd H m (.lst ws)) v p := by
  obtain ⟨t, rfl, h⟩ := h
  exact ⟨t, rfl, by rw [upd_ne (ne_of h hm (by intro z; cases z))]; exact h⟩
theorem Prs.over {H : Hp} {m : Addr} {zs ws vs : List V} {ps : List Pl} (h : Prs H vs ps) (hm : H m = some (.lst zs)) : Prs (upd H m (.lst ws)) vs ps := by
  induction h with
  | nil => exact .nil
  | cons a _ ih => exact .cons (a.over hm) ih
theorem Same.over {H0 H : Hp} {m : Addr} {o : HO} (k : Same H0 H) (n : H0 m = none) : Same H0 (upd H m o) := fun b u e => by
  rw [upd_ne (ne_of_none e n)]
  exact k b u e
/-! ### lists of two lists of places -/
def dLL (a b : List Pl) : PyData := .list [dL a, dL b]
theorem eqv_dLL (a b a' b' : List Pl) : PyData.eqv (dLL a b) (dLL a' b') = decide (a = a' ∧ b = b') := by
  show PyData.eqvAll [dL a, dL b] [dL a', dL b'] = _
  simp only [PyData.eqvAll, eqv_dL, Bool.and_true, Bool.decide_and]
theorem sh_dLL (a b : List Pl) : SeqAt.shaped (dLL a b) = true := by
  have h1 := depth_dPs a
  have h2 := depth_dPs b
  have e : PyData.canLay0 (dLL a b) = (PyData.canLayAll0 (a.map dP) && (PyData.canLayAll0 (b.map dP) && true)) := rfl
  unfold SeqAt.shaped
  rw [e, lay_dPs, lay_dPs]
  refine decide_eq_true ?_
  show max (PyData.depthAll (a.map dP) + 1) (max (PyData.depthAll (b.map dP) + 1) 0) + 1 ≤ 64
  omega
def dPP (a b : Pl) : PyData := .tuple [dP a, dP b]
theorem eqv_dPP (a b a' b' : Pl) : PyData.eqv (dPP a b) (dPP a' b') = decide (a = a' ∧ b = b') := by
  show PyData.eqvAll [dP a, dP b] [dP a', dP b'] = _
  simp only [PyData.eqvAll, eqv_dP, Bool.and_true, Bool.decide_and]
theorem sh_dPP (a b : Pl) : SeqAt.shaped (dPP a b) = true := rfl

end

section
open PySem.Spec PyProof.Rows GenW GxR NdefX
/-! ### all and any over a generator expression whose element may call -/
/-- the generator's own frame -/
abbrev envG (X : Cx) (sc : Scope) (C : Addr) (cd : Value) : Env := genEnv sc (cloFrom X.env.cells sc.names []) C cd builtinsNs X.env
/-- and its surroundings; s0, H0: ahead of its frame; fp: the iterator's objects -/
abbrev cxG (X : Cx) (N : List Str) (sc : Scope) (B : Around) (s0 : Shared) (H0 : Hp) (cd : Value) (fp : List Addr) : Cx :=
  { X with
    A := B
    N := N
    s_0 := s0
    H_0 := H0
    env := envG X sc s0.heap.objs.size cd
    outer := X.stack
    stack := envG X sc s0.heap.objs.size cd :: X.stack
    ex := fp
    fn := fun _ => false
    calm := true
    pn := []
    xe := fun _ _ => False }
/-- what its scope must keep -/
structure GSc (env : Env) (sc : Scope) : Prop where
  kind : sc.kind = .function
  co : sc.isCoroutine = false
  cell : ∀ y ∈ sc.names, y.2 ≠ .cell
  dot : sc.names.lookup (".0" : Str) = some NameKind.local
  free : ∀ y ∈ sc.names, y.2 = .free → ∃ c, env.cells.lookup y.1 = some c
/-- the free names' slots: fr tells for each name its slot outside, none for an own one -/
def slotsG (fr : List (Option Nat)) (σ : L2.St) : L2.St := fr.map fun o => match o with
  | none => none
  | some j => (σ[j]?).join
structure GFr (X : Cx) (sc : Scope) (N : List Str) (fr : List (Option Nat)) : Prop where
  len : fr.length = N.length
  at_ : ∀ (i : Nat) (y : Str) (j : Nat), N[i]? = some y → fr[i]? = some (some j) → sc.names.lookup y = some .free ∧ X.N[j]? = some y ∧ (X.env.scope.names.lookup y = some .cell ∨ X.env.scope.names.lookup y = some .free)
theorem slotsG_some {fr : List (Option Nat)} {σ : L2.St} {i : Nat} {v : V} (h : (slotsG fr σ)[i]? = some (some v)) : ∃ j, fr[i]? = some (some j) ∧ σ[j]? = some (some v) := by
  unfold slotsG at h
  rw [List.getElem?_map] at h
  cases e : fr[i]? with
  | none => rw [e] at h; cases h
  | some o =>
    rw [e] at h
    cases o with
    | none => simp at h
    | some j =>
      refine ⟨j, rfl, ?_⟩
      have h2 : (σ[j]?).join = some v := by simpa using h
      cases q : σ[j]? with
      | none => rw [q] at h2; cases h2
      | some w => rw [q] at h2; cases w with
        | none => cases h2
        | some v' => cases h2; rfl
section
variable {X : Cx} {pins : List (Addr × Obj)} {σ : L2.St} {H : Hp} {s0 s5 : Shared}
/-- all stands that stood -/
theorem Inv.stood (I : Inv X pins σ H s0) (os : s5.os = s0.os) (k : ∀ b o, s0.heap.get? b = some o → s5.heap.get? b = some o) (hb : AllBare s5.gens) : Inv X pins σ H s5 :=
  I.call' (ch := []) os (Un.kept k) (I.hok.kept k) hb fun b z => absurd z (by simp)
theorem start_gen {N : List Str} {sc : Scope} {B : Around} {cd : Value} {fp : List Addr} {a : Addr} {o : Obj} {m : Str → Option Value}
    {fr : List (Option Nat)} (I : Inv X pins σ H s0) (S : GSc X.env sc) (FR : GFr X sc N fr) (hf : ∀ b ∈ fp, FpOk X pins H b ∧ b < s0.heap.objs.size) (hB : B.handled = none)
    (hfr : B.frames = some (envG X sc s0.heap.objs.size cd :: X.stack)) (os : s5.os = s0.os) (hb : AllBare s5.gens)
    (k : ∀ b u, s0.heap.get? b = some u → s5.heap.get? b = some u) (hn : s5.heap.Ns s0.heap.objs.size m)
    (ha : s0.heap.objs.size < a) (hao : s5.heap.get? a = some o) (hod : ∀ v, o.data ≠ .cell v) :
    Inv (cxG X N sc B s0 H cd fp) [(a, o)] (slotsG fr σ) H s5 := by
  have cm : ∀ {y c}, (cloFrom X.env.cells sc.names []).lookup y = some c → X.env.cells.lookup y = some c := fun {y c} e => clo_cm S.free e
  have nofs : ∀ b ∈ frs X.stack, b < s0.heap.objs.size := fun b hb => by
    rcases List.mem_cons.mp (I.stkSub b hb) with z | z
    · rw [z]; exact I.lt
    · obtain ⟨_, u, hu, _⟩ := I.funs.mem z
      exact Heap.lt_size hu
  refine ⟨⟨I.ok.mod, S.kind, I.ok.glob, rfl, Nat.le_refl _, fun y z c e1 e2 => I.ok.inj y z c (cm e1) (cm e2), fun y hy => ?_, fun y c z => ?_, fun _ => hB, hfr, .inr ⟨rfl, rfl⟩,
      fun b hb => ⟨Nat.ne_of_lt (hf b hb).2, fun y c e z => (hf b hb).1.2.2.2.2.1 y c (cm e) z⟩, I.bs, Nat.le_trans I.ok.bsz I.sz, fun b u e hb => ?_, fun b hb z => ?_, I.stack, I.stkFree⟩,
    os, hb, Un.kept k, ⟨m, hn, fun i y v h1 h2 => ?_⟩, fun y c e => ?_, I.hok.fresh (Nat.le_refl _), fun y c e => I.freeC y c (cm e), fun p hp => ?_, I.hok.kept k, ?_⟩
  · have hy : sc.names.lookup y = some .cell ∨ sc.names.lookup y = some .free := hy
    rcases hy with hy | hy
    · exact absurd rfl (S.cell _ (PySem.mem_of_lookup hy))
    · have hm := PySem.mem_of_lookup hy
      obtain ⟨c, hc⟩ := S.free _ hm rfl
      exact ⟨c, clo_has S.free hm hc⟩
  · exact absurd (show (false : Bool) = true from z) (by decide)
  · rcases (hf b hb).1.2.2.2.1 with z | z
    · exact I.ok.noex b u e z
    · exact absurd (Nat.lt_of_lt_of_le (Heap.lt_size e) (Nat.le_trans I.ok.bsz z)) (Nat.lt_irrefl _)
  · rcases List.mem_cons.mp (I.stkSub b z) with z | z
    · exact (hf b hb).1.2.1 z
    · exact (hf b hb).1.2.2.1 z
  · obtain ⟨j, e1, e2⟩ := slotsG_some h2
    obtain ⟨f1, f2, f3⟩ := FR.at_ i y j h1 e1
    obtain ⟨m0, _, hl⟩ := I.loc
    obtain ⟨u, r, lk⟩ := hl j y v f2 e2 (f3.elim (fun z => .inr (.inl z)) fun z => .inr (.inr z))
    refine fun _ => ⟨u, r, .inr ⟨.inr f1, ?_⟩⟩
    rcases lk with ⟨z, _⟩ | ⟨_, c, hc, hv⟩
    · have z : X.env.scope.names.lookup y = some .local := z
      rcases f3 with q | q <;> rw [q] at z <;> cases z
    · exact ⟨c, clo_has S.free (PySem.mem_of_lookup f1) hc, hv.keeps k⟩
  · obtain ⟨v, hv⟩ := I.cell y c (cm e)
    exact ⟨v, hv.keeps k⟩
  · have hp : p ∈ [(a, o)] := hp
    obtain rfl : p = (a, o) := by simpa using hp
    exact ⟨hao, I.hok.fresh (Nat.le_of_lt ha), Nat.ne_of_gt ha, fun z => absurd (Nat.lt_trans ha (nofs _ z)) (Nat.lt_irrefl _), hod⟩
  · show (slotsG fr σ).length = N.length
    unfold slotsG
    rw [List.length_map]
    exact FR.len
end

end

section
open PySem.Spec PyProof.Rows GenW GxR
/-! ### the generator's turns -/
/-- what it hands out; st: the answer at which the asker stops -/
def YG (Y : Cx) (pins : List (Addr × Obj)) (st : Bool) (Q : VK) : Protocol := fun _ _ v s kap =>
  ∃ σ' H' c, v = .bool c ∧ Inv Y pins σ' H' s ∧ (c = st → Q (.bl st) H') ∧
    (c ≠ st → ∀ s2 : Shared, s2.heap = s.heap → s2.os = s.os → AllBare s2.gens → kap (.send .none) s2)
def RG (Y : Cx) (pins : List (Addr × Obj)) (st : Bool) (Q : VK) : GenEnd := fun n s₀ r s₁ =>
  ((r = .ok (.ret .none) ∨ r = .ok .next) ∧ (fun (_ : Nat) (_ t : Shared) => ∃ σ' H', Inv Y pins σ' H' t ∧ Q (.bl (!st)) H') n s₀ s₁) ∨ ∃ e, r = .error e ∧ (fun (_ : Value) (_ : Shared) => False) e s₁
/-- the loop of the promise -/
def Turns (J : It) (g : TG) (te : TE) (st : Bool) (Q : VK) (W : Nat → Nat → L2.St → Hp → Prop) : Prop := ∀ i m σ H, W i m σ H →
  (J.stop i H ∧ Q (.bl (!st)) H) ∨ (J.go i H ∧ ∃ N : L2.St → Hp → Prop, (∀ σ' H', N σ' H' → ∃ m', m' < m ∧ W (i + 1) m' σ' H') ∧
    ∀ x H', J.yld i H x H' → g x σ H' fun σ2 H2 => te σ2 H2 fun y H3 => ∃ c, y = .bl c ∧ if c = st then Q (.bl st) H3 else N σ2 H3)
section
variable {Y : Cx} {A : Around} {tg elt iter : Expr} {sc : Scope} {pos : Pos} {it : Addr} {fp : List Addr} {tn : Nat → Heap → Prop} {J : It} {g : TG} {te : TE} {st : Bool} {Q : VK}
  {W : Nat → Nat → L2.St → Hp → Prop} {pins : List (Addr × Obj)}
theorem seg_turns (hc : Y.calm = true) (hco : Y.env.scope.isCoroutine = false)
    (hA : A.over (.compLoop (.GeneratorExp elt [⟨tg, iter, [], 0⟩] sc pos) 0 (.ref it) .none Y.env) [] = Y.A)
    (T : Turn Y.prog Y.w Y.K tg J fp it tn) (hg : PG Y tg g) (he : PE Y elt te) (hx : ∀ e s, Y.xe e s → False)
    (ff : ∀ b ∈ fp, ∀ H : Hp, H b = none → FpOk Y pins H b) (turn : Turns J g te st Q W) :
    ∀ (m n i : Nat) (σ : L2.St) (H : Hp) (s₀ s : Shared), m < n → Inv Y pins σ H s → tn i s.heap → (∀ b ∈ fp, H b = none) → W i m σ H →
      Seg (model Y.prog Y.w) A (RG Y pins st Q) (YG Y pins st Q) n s₀ (.compLoop (.GeneratorExp elt [⟨tg, iter, [], 0⟩] sc pos) 0 (.ref it) .none Y.env)
        ((model Y.prog Y.w).den (.compLoop (.GeneratorExp elt [⟨tg, iter, [], 0⟩] sc pos) 0 (.ref it) .none Y.env)) [] s := by
  intro m
  induction m using Nat.strongRecOn with
  | _ m ih =>
    intro n i σ H s₀ s hmn I ht hf hw
    have fpo : ∀ {H' : Hp}, (∀ b ∈ fp, H' b = none) → ∀ b ∈ fp, FpOk Y pins H' b := fun q b hb => ff b hb _ (q b hb)
    show Seg _ A _ _ n s₀ _ ((compTurn (.GeneratorExp elt [⟨tg, iter, [], 0⟩] sc pos) 0 (.ref it) .none Y.env).onRaise (leaving Y.env)) [] s
    rw [compTurn_gen, Sem.onRaise_eq_wrap]
    refine seg_bind_wrap (wpAny_standAt ?_)
    rcases turn i m σ H hw with ⟨hstop, q⟩ | ⟨go, N, hN, step⟩
    · refine seg_bind_wrap ?_
      rw [hA]
      refine wpAny_mono (T.done Y rfl rfl rfl hc i pins s σ H (fun _ _ => False) I (fpo hf) ht hstop) (fun r s4 h4 => ?_) fun _ _ e => e.elim
      obtain ⟨rfl, I4⟩ := h4
      exact seg_end (.ok .next) (.inl ⟨.inr rfl, σ, H, I4, q⟩)
    · refine seg_bind_wrap ?_
      rw [hA]
      refine wpAny_mono (T.item Y rfl rfl rfl hc i pins s σ H (fun _ _ => False) I (fpo hf) ht go) (fun r s4 h4 => ?_) fun _ _ e => e.elim
      obtain ⟨u, rfl, h4⟩ := h4
      refine seg_bind_wrap ?_
      rw [hA]
      refine wpAny_mono h4 (fun _ s5 h5 => ?_) fun _ _ e => e.elim
      obtain ⟨x, H5, I5, r5, y5, t5, f5⟩ := h5
      have I5' := I5.pinned (fpo f5) (T.obj _ _ t5)
      refine seg_bind_wrap ?_
      rw [hA]
      refine wpAny_mono (hg.run _ s5 σ H5 x u _ I5' r5 (step x H5 y5)) (fun _ s6 h6 => ?_) fun _ _ e => (hx _ _ e).elim
      obtain ⟨σ6, H6, I6, q6⟩ := h6
      simp only [List.forIn_nil]
      refine seg_bind_wrap (wpAny_pure ?_)
      simp only [if_true]
      have hy : ∀ v, yieldOut Y.env v = yieldValue v := fun v => by simp only [yieldOut, hco, Bool.false_eq_true, if_false]
      simp only [hy]
      rw [Sem.bind_eq_wrap', Sem.bind_eq_wrap', Sem.wrap_wrap, Sem.wrap_wrap]
      refine seg_wrap ?_
      rw [hA]
      refine wpAny_mono (he.run _ s6 σ6 H6 _ I6 q6) (fun y s7 h7 => ?_) fun _ _ e => (hx _ _ e).elim
      obtain ⟨v7, H7, I7, r7, c, rfl, q7⟩ := h7
      obtain rfl : y = .bool c := r7
      have J7 : Inv Y pins σ6 H7 s7 := I7.unpinned
      have t7 : tn (i + 1) s7.heap := T.keep _ _ _ t5 fun b hb o e => (I7.pin (b, o) (List.mem_append_right _ (List.mem_append_right _ (mem_pinsAt hb e)))).1
      have f7 : ∀ b ∈ fp, H7 b = none := fun b hb => by
        obtain ⟨o, e, _⟩ := T.obj _ _ t5 b hb
        exact (I7.pin (b, o) (List.mem_append_right _ (List.mem_append_right _ (mem_pinsAt hb e)))).2.1
      obtain ⟨k, rfl⟩ : ∃ k, n = k + 1 := ⟨n - 1, by omega⟩
      refine seg_at (seg_yield rfl rfl rfl ⟨σ6, H7, c, rfl, J7, fun e => ?_, fun e s2 eh eo eb => ?_⟩)
      · rw [if_pos e] at q7
        exact q7
      · rw [if_neg e] at q7
        obtain ⟨m', hm, w7⟩ := hN σ6 H7 q7
        exact seg_again rfl (ih m' hm k (i + 1) σ6 H7 s2 s2 (by omega) (Inv.stood J7 eo (fun b o z => by rw [eh]; exact z) eb) (by rw [eh]; exact t7) f7 w7)
/-- from its beginning -/
theorem seg_begins (hc : Y.calm = true) (hco : Y.env.scope.isCoroutine = false)
    (hA : A.over (.compLoop (.GeneratorExp elt [⟨tg, iter, [], 0⟩] sc pos) 0 (.ref it) .none Y.env) [] = Y.A)
    (T : Turn Y.prog Y.w Y.K tg J fp it tn) (hg : PG Y tg g) (he : PE Y elt te) (hx : ∀ e s, Y.xe e s → False)
    (ff : ∀ b ∈ fp, ∀ H : Hp, H b = none → FpOk Y pins H b) (turn : Turns J g te st Q W)
    (m n : Nat) (σ : L2.St) (H : Hp) (s₀ s : Shared) (hmn : m < n) (I : Inv Y pins σ H s) (ht : tn 0 s.heap) (hf : ∀ b ∈ fp, H b = none) (hw : W 0 m σ H) :
      Seg (model Y.prog Y.w) A (RG Y pins st Q) (YG Y pins st Q) n s₀ (.compStart (.GeneratorExp elt [⟨tg, iter, [], 0⟩] sc pos) 0 (.ref it) .none Y.env)
        ((model Y.prog Y.w).den (.compStart (.GeneratorExp elt [⟨tg, iter, [], 0⟩] sc pos) 0 (.ref it) .none Y.env)) [] s := by
  have rest := seg_turns hc hco hA T hg he hx ff turn m n 0 σ H s₀ s hmn I ht hf hw
  show Seg _ A _ _ n s₀ _ ((compStart (.GeneratorExp elt [⟨tg, iter, [], 0⟩] sc pos) 0 (.ref it) .none Y.env).onRaise (leaving Y.env)) [] s
  unfold compStart
  rw [Sem.onRaise_eq_wrap]
  show Seg _ A _ _ n s₀ _ ((ask >>= _).wrap _ _ _ _) [] s
  refine seg_bind_wrap (wpAny_askSetting ?_)
  split
  · exact seg_again rfl rest
  · refine seg_bind_wrap (wpAny_rule ?_)
    first
      | exact seg_bind_wrap (wpAny_standAt (seg_bind_wrap (T.self _ 0 s _ _ ht (seg_again rfl rest))))
      | (show Seg _ A _ _ n s₀ _ ((standAt iter.pos >>= _).wrap _ _ _ _) [] s
         exact seg_bind_wrap (wpAny_standAt (seg_bind_wrap (T.self _ 0 s _ _ ht (seg_again rfl rest)))))
end

end

section
open PySem.Spec PyProof.Rows GenW GxR
/-! ### who asks: all, any -/
section
variable {Y : Cx} {A : Around} {st : Bool} {Q : VK} {pins : List (Addr × Obj)} {R : Result → Shared → Prop} {a : Addr} {g : Nat}
theorem all_asks (hh : A.handled = none) (hd : A.depth < recursionLimit) (hp : ∀ σ' H' t, Inv Y pins σ' H' t → t.heap.IsGen a g)
    (hend : ∀ σ' H' b t, Inv Y pins σ' H' t → Q (.bl b) H' → R (.ok (.ret (.bool b))) t) :
    ∀ (n : Nat) (s : Shared), s.heap.IsGen a g → s.heap.NoLimit →
      (∃ gs, s.gens[g]? = some gs ∧ gs.Goes (model Y.prog Y.w) A.in1.in1 (RG Y pins false Q) (YG Y pins false Q) n (.send .none) (s.setGen g .running)) →
      codeAny (model Y.prog Y.w) A (.builtin "all.loop" ⟨[.ref a], []⟩) R s := by
  intro n
  induction n with
  | zero =>
    intro s hg hl ⟨gs, hgs, hgo⟩
    refine codeAny_builtin F.entry_all_loop ?_
    rw [Around.under_plainId F.plain_all_loop _]
    show wpAny _ A.in1 (pyNext (.ref a) >>= _) _ _ s
    refine wpAny_bind (next_genG (A := A.in1) hh hl hd hg hgs hgo (fun v s₁ gs' hbare hv => ?_) (fun s₁ hf h' hk => ?_) fun e s₁ he => he.elim)
    · obtain ⟨σ', H', c, rfl, J, h1, h2⟩ := hv
      refine wpAny_bind (wpAny_holding (wpAny_truthy_bool ?_))
      refine wpAny_bind (wpAny_letGo ?_)
      cases c with
      | true => exact (h2 (by decide) _ rfl rfl J.bare).elim
      | false =>
        simp only [Bool.false_eq_true, if_false]
        refine wpAny_bind (wpAny_rule (wpAny_pure ?_))
        exact hend σ' H' false _ (Inv.stood (s5 := s₁.setGen g gs') J rfl (fun _ _ z => z) (allBare_setGen J.bare hbare)) (h1 rfl)
    · obtain ⟨σ', H', J, q⟩ := hf
      refine wpAny_bind (wpAny_rule (wpAny_pure ?_))
      exact hend σ' H' true _ (Inv.stood (s5 := { s₁.setGen g .finished with heap := h' }) J rfl hk (allBare_setGen J.bare rfl)) q
  | succ n ih =>
    intro s hg hl ⟨gs, hgs, hgo⟩
    have hgl : g < s.gens.size := (Array.getElem?_eq_some_iff.mp hgs).1
    refine codeAny_builtin F.entry_all_loop ?_
    rw [Around.under_plainId F.plain_all_loop _]
    show wpAny _ A.in1 (pyNext (.ref a) >>= _) _ _ s
    refine wpAny_bind (wpAny_gsz (n := g + 1) hgl (next_genG (A := A.in1) hh hl hd hg hgs hgo (fun v s₁ gs' hbare hv => ?_) (fun s₁ hf h' hk => ?_) fun e s₁ he => he.elim))
    · intro hsz
      obtain ⟨σ', H', c, rfl, J, h1, h2⟩ := hv
      have J2 : Inv Y pins σ' H' (s₁.setGen g gs') := Inv.stood J rfl (fun _ _ z => z) (allBare_setGen J.bare hbare)
      have hs1 : g < s₁.gens.size := by
        have q : (s₁.setGen g gs').gens.size = s₁.gens.size := setGen_size _ _ _
        have q2 : g + 1 ≤ (s₁.setGen g gs').gens.size := hsz
        omega
      refine wpAny_bind (wpAny_holding (wpAny_truthy_bool ?_))
      refine wpAny_bind (wpAny_letGo ?_)
      cases c with
      | true =>
        simp only [if_true]
        exact wpAny_pure ⟨plainId_quiet F.plain_all_loop _, ih _ (hp _ _ _ J2) J2.nolimit ⟨gs', setGen_at hs1, h2 (by decide) _ rfl rfl (allBare_setGen J2.bare rfl)⟩⟩
      | false =>
        simp only [Bool.false_eq_true, if_false]
        refine wpAny_bind (wpAny_rule (wpAny_pure ?_))
        exact hend σ' H' false _ J2 (h1 rfl)
    · intro hsz
      obtain ⟨σ', H', J, q⟩ := hf
      refine wpAny_bind (wpAny_rule (wpAny_pure ?_))
      exact hend σ' H' true _ (Inv.stood (s5 := { s₁.setGen g .finished with heap := h' }) J rfl hk (allBare_setGen J.bare rfl)) q
theorem any_asks (hh : A.handled = none) (hd : A.depth < recursionLimit) (hp : ∀ σ' H' t, Inv Y pins σ' H' t → t.heap.IsGen a g)
    (hend : ∀ σ' H' b t, Inv Y pins σ' H' t → Q (.bl b) H' → R (.ok (.ret (.bool b))) t) :
    ∀ (n : Nat) (s : Shared), s.heap.IsGen a g → s.heap.NoLimit →
      (∃ gs, s.gens[g]? = some gs ∧ gs.Goes (model Y.prog Y.w) A.in1.in1 (RG Y pins true Q) (YG Y pins true Q) n (.send .none) (s.setGen g .running)) →
      codeAny (model Y.prog Y.w) A (.builtin "any.loop" ⟨[.ref a], []⟩) R s := by
  intro n
  induction n with
  | zero =>
    intro s hg hl ⟨gs, hgs, hgo⟩
    refine codeAny_builtin F.entry_any_loop ?_
    rw [Around.under_plainId F.plain_any_loop _]
    show wpAny _ A.in1 (pyNext (.ref a) >>= _) _ _ s
    refine wpAny_bind (next_genG (A := A.in1) hh hl hd hg hgs hgo (fun v s₁ gs' hbare hv => ?_) (fun s₁ hf h' hk => ?_) fun e s₁ he => he.elim)
    · obtain ⟨σ', H', c, rfl, J, h1, h2⟩ := hv
      refine wpAny_bind (wpAny_holding (wpAny_truthy_bool ?_))
      refine wpAny_bind (wpAny_letGo ?_)
      cases c with
      | false => exact (h2 (by decide) _ rfl rfl J.bare).elim
      | true =>
        simp only [if_true]
        refine wpAny_bind (wpAny_rule (wpAny_pure ?_))
        exact hend σ' H' true _ (Inv.stood (s5 := s₁.setGen g gs') J rfl (fun _ _ z => z) (allBare_setGen J.bare hbare)) (h1 rfl)
    · obtain ⟨σ', H', J, q⟩ := hf
      refine wpAny_bind (wpAny_rule (wpAny_pure ?_))
      exact hend σ' H' false _ (Inv.stood (s5 := { s₁.setGen g .finished with heap := h' }) J rfl hk (allBare_setGen J.bare rfl)) q
  | succ n ih =>
    intro s hg hl ⟨gs, hgs, hgo⟩
    have hgl : g < s.gens.size := (Array.getElem?_eq_some_iff.mp hgs).1
    refine codeAny_builtin F.entry_any_loop ?_
    rw [Around.under_plainId F.plain_any_loop _]
    show wpAny _ A.in1 (pyNext (.ref a) >>= _) _ _ s
    refine wpAny_bind (wpAny_gsz (n := g + 1) hgl (next_genG (A := A.in1) hh hl hd hg hgs hgo (fun v s₁ gs' hbare hv => ?_) (fun s₁ hf h' hk => ?_) fun e s₁ he => he.elim))
    · intro hsz
      obtain ⟨σ', H', c, rfl, J, h1, h2⟩ := hv
      have J2 : Inv Y pins σ' H' (s₁.setGen g gs') := Inv.stood J rfl (fun _ _ z => z) (allBare_setGen J.bare hbare)
      have hs1 : g < s₁.gens.size := by
        have q : (s₁.setGen g gs').gens.size = s₁.gens.size := setGen_size _ _ _
        have q2 : g + 1 ≤ (s₁.setGen g gs').gens.size := hsz
        omega
      refine wpAny_bind (wpAny_holding (wpAny_truthy_bool ?_))
      refine wpAny_bind (wpAny_letGo ?_)
      cases c with
      | false =>
        simp only [Bool.false_eq_true, if_false]
        exact wpAny_pure ⟨plainId_quiet F.plain_any_loop _, ih _ (hp _ _ _ J2) J2.nolimit ⟨gs', setGen_at hs1, h2 (by decide) _ rfl rfl (allBare_setGen J2.bare rfl)⟩⟩
      | true =>
        simp only [if_true]
        refine wpAny_bind (wpAny_rule (wpAny_pure ?_))
        exact hend σ' H' true _ J2 (h1 rfl)
    · intro hsz
      obtain ⟨σ', H', J, q⟩ := hf
      refine wpAny_bind (wpAny_rule (wpAny_pure ?_))
      exact hend σ' H' false _ (Inv.stood (s5 := { s₁.setGen g .finished with heap := h' }) J rfl hk (allBare_setGen J.bare rfl)) q
end

end

section
open PySem.Spec PyProof.Rows GenW GxR NdefX
/-! ### the expression -/
/-- where the generator's code runs, asked from A -/
abbrev arG (A : Around) (tg elt iter : Expr) (sc : Scope) (pos : Pos) (it : Addr) (env : Env) : Around :=
  A.in1.in1.over (.compLoop (.GeneratorExp elt [⟨tg, iter, [], 0⟩] sc pos) 0 (.ref it) .none env) []
theorem arG_hd {A : Around} {tg elt iter : Expr} {sc : Scope} {pos : Pos} {it : Addr} {env : Env} (h : A.handled = none) : (arG A tg elt iter sc pos it env).handled = none := h
theorem arG_frames {A : Around} {tg elt iter : Expr} {sc : Scope} {pos : Pos} {it : Addr} {env : Env} {l : List Env} (h : A.frames = some l) : (arG A tg elt iter sc pos it env).frames = some (env :: l) := by
  obtain ⟨hd, d, f, gs, u⟩ := A
  obtain rfl : f = some l := h
  rfl
theorem arG_room {k : Nat} {A : Around} {tg elt iter : Expr} {sc : Scope} {pos : Pos} {it : Addr} {env : Env} (r : Room (k + 1) A) : Room k (arG A tg elt iter sc pos it env) :=
  ⟨r.hd, by have := r.dp; show A.depth + 0 + 1 + 3 * k + 5 < _; omega, by have := r.un; show A.units + 1 + 1 + 0 + 3 + 16 * k + 200 < _; omega⟩
/-- a generator stands at a and has handed out nothing -/
def GReady (X : Cx) (pins : List (Addr × Obj)) (σ : L2.St) (N : List Str) (sc : Scope) (st : Bool) (Q : VK) (a : Addr) (s5 : Shared) : Prop :=
  ∃ (g : Nat) (B : Around) (s0 : Shared) (H0 : Hp) (cd : Value) (fp : List Addr) (ps : List (Addr × Obj)) (n : Nat),
    s5.heap.IsGen a g ∧ s5.heap.NoLimit ∧ (∀ σ' H' t, Inv (cxG X N sc B s0 H0 cd fp) ps σ' H' t → t.heap.IsGen a g) ∧
    (∀ σ' H' t, Inv (cxG X N sc B s0 H0 cd fp) ps σ' H' t → Inv X pins σ H' t) ∧
    ∃ gs, s5.gens[g]? = some gs ∧ gs.Goes (model X.prog X.w) X.A.in1.in1 (RG (cxG X N sc B s0 H0 cd fp) ps st Q) (YG (cxG X N sc B s0 H0 cd fp) ps st Q) n (.send .none) (s5.setGen g .running)
/-- the answer: the element's readings, one after another -/
def tAns (st : Bool) (te : TE) : TS := fun D σ H => te σ H fun y H3 => ∃ c, y = .bl c ∧ if c = st then D.rt (.bl st) H3 else D.nx σ H3
def tGen (P : Addr) (fr : List (Option Nat)) (wi : TI) (g : TG) (te : TE) (st : Bool) : TE := fun σ H Q => wi σ H fun J H1 => TabG H1 P ∧ ∀ H2, Tabbed P H1 H2 →
  ∃ W : Nat → Nat → L2.St → Hp → Prop, (∃ m, W 0 m (slotsG fr σ) H2) ∧ ∀ i m σ H, W i m σ H →
    (J.stop i H ∧ (Ends.mk (fun _ H' => Q (.bl (!st)) H') Q (fun _ _ => False) (fun _ _ => False)).nx σ H) ∨ (J.go i H ∧ ∃ N : L2.St → Hp → Prop, (∀ σ' H', N σ' H' → ∃ m', m' < m ∧ W (i + 1) m' σ' H') ∧
      ∀ x H', J.yld i H x H' → g x σ H' fun σ2 H2 => tAns st te { (Ends.mk (fun _ H' => Q (.bl (!st)) H') Q (fun _ _ => False) (fun _ _ => False)) with nx := N, ct := N, bk := fun _ H' => Q (.bl (!st)) H' } σ2 H2)
section
variable {X : Cx} {pins : List (Addr × Obj)} {σ : L2.St} {H : Hp} {s : Shared}
theorem make_gen {c P : Addr} {tg elt iter : Expr} {gpos : Pos} {sc : Scope} {N : List Str} {fr : List (Option Nat)} {wi : TI} {g : TG} {te : TE} {k : Nat} {st : Bool} {Q : VK} {Q' : Value → Shared → Prop}
    (hr : Room (k + 1) X.A) (TB : TabB X.base X.mg c P) (hcode : X.env.code = .ref c) (S : GSc X.env sc) (FR : GFr X sc N fr) (hi : PI X tg iter wi)
    (hb : ∀ (B : Around) (s0 : Shared) (H0 : Hp) (cd : Value) (fp : List Addr), Room k B → PG (cxG X N sc B s0 H0 cd fp) tg g ∧ PE (cxG X N sc B s0 H0 cd fp) elt te)
    (hs : ∀ v, genFold iter X.env v = pure v) (I : Inv X pins σ H s) (h : tGen P fr wi g te st σ H Q)
    (hQ : ∀ a s5, GReady X pins σ N sc st Q a s5 → Q' (.ref a) s5) :
    wpAny (model X.prog X.w) X.A (eval (.GeneratorExp elt [⟨tg, iter, [], 0⟩] sc gpos) X.env) Q' X.xe s := by
  refine wpAny_GeneratorExp_make S.co (closure_ok S.free) S.cell S.dot S.kind (by have := hr.dp; omega) ?_ hs
  refine thn (hi.run pins s σ H _ I h) fun xv s1 h1 => thn h1 fun itv s2 h2 => ?_
  obtain ⟨it, fp, tn, J, H2, rfl, I2, T, t2, f2, ⟨ps, hP, htr⟩, hW⟩ := h2
  have hPs : s2.heap.get? P = some { cls := .none, data := .fields ps } := I2.hok P _ hP
  have cd : PySem.W.CodeHd s2.heap c P := TB.code.keeps fun b u e => I2.bk b u e
  refine ⟨I2.nolimit, ?_⟩
  have cont : ∀ (code : Value) (h3 : Heap) (tk : Nat) (ps' : Array Value), Heap.ExtBut P s2.heap h3 → s2.heap.objs.size ≤ h3.objs.size → h3.get? P = some { cls := .none, data := .fields ps' } → (∃ more, ps' = ps ++ more) → TriplesOk ps'.toList →
      wpAny (model X.prog X.w) X.A (builtinsFor X.env.globals X.env.builtins) (fun bi s₄ => ∀ h', h'.Ns s₄.heap.objs.size (fun y => if y = ".0" then some (Value.ref it) else none) →
        Heap.SameBut s₄.heap.objs.size (s₄.heap.push { cls := .type "frame", data := .dict #[] }) h' →
          Q' (.ref h'.objs.size) { s₄ with
            gens := s₄.gens.push (.fresh (.compStart (.GeneratorExp elt [⟨tg, iter, [], 0⟩] sc gpos) 0 (.ref it) .none (genEnv sc (cloFrom X.env.cells sc.names []) s₄.heap.objs.size code bi X.env))),
            toks := s₄.toks + 1 + 1 + 1,
            heap := h'.push { cls := .type "generator", data := .fields #[.int s₄.gens.size 0, .str "<genexpr>" (s₄.toks + 1), .str (X.env.qual ++ "<genexpr>") (s₄.toks + 1 + 1)] } }) X.xe { s2 with heap := h3, toks := tk } := by
    intro code h3 tk ps' hx3 hsz hP3 hmore ht3
    obtain ⟨more, rfl⟩ := hmore
    obtain ⟨bm, ob, e1, e2, e3, e4, e5, e6, e7, e8⟩ := TB.bm
    have keep3 : ∀ b u, b ≠ P → s2.heap.get? b = some u → h3.get? b = some u := fun b u z e => hx3 b u z e
    have I3 : Inv X pins σ (upd H2 P (.tbl (ps ++ more))) { s2 with heap := h3, toks := tk } := inv_tab (g' := s2.gens) (d' := s2.drawn) I2 hP keep3 hP3 I2.bare
    have TT : Tabbed P H2 (upd H2 P (.tbl (ps ++ more))) := ⟨⟨ps ++ more, upd_same, ht3⟩, fun b z => upd_ne z⟩
    refine wpAny_builtinsFor (m := X.mg) (by rw [I3.ok.glob]; exact I3.mod.glob.keeps I3.bk) e1 e2 (I3.bk _ _ e5) e6 e7 e8 ?_
    intro h' hn' hs'
    -- the new frame at C, the generator behind it
    have sz' : h'.objs.size = h3.objs.size + 1 := by rw [hs'.1, Heap.size_push]
    have keep' : ∀ b u, h3.get? b = some u → h'.get? b = some u := fun b u e => hs'.extBut b u (Nat.ne_of_lt (Heap.lt_size e)) (Heap.get?_push_of_some _ e)
    obtain ⟨W, ⟨m0, w0⟩, turn⟩ := hW _ TT
    have neP : ∀ b ∈ fp, b ≠ P := fun b hb z => by
      have q := (f2 b hb).1
      rw [z, hP] at q
      cases q
    have ltC : ∀ b ∈ fp, b < h3.objs.size := fun b hb => by
      obtain ⟨u, hu, _⟩ := T.obj _ _ t2 b hb
      exact Nat.lt_of_lt_of_le (Heap.lt_size hu) hsz
    have f3 : ∀ b ∈ fp, FpOk X pins (upd H2 P (.tbl (ps ++ more))) b := fun b hb => ⟨by rw [upd_ne (neP b hb)]; exact (f2 b hb).1, (f2 b hb).2⟩
    have aC : h3.objs.size < h'.objs.size := by rw [sz']; exact Nat.lt_succ_self _
    generalize hgo : ({ cls := .type "generator", data := .fields #[.int s2.gens.size 0, .str "<genexpr>" (tk + 1), .str (X.env.qual ++ "<genexpr>") (tk + 1 + 1)] } : Obj) = genO
    have isg : ∀ {h : Heap}, h.get? h'.objs.size = some genO → h.IsGen h'.objs.size s2.gens.size := fun {h} e => by
      subst hgo
      exact ⟨_, _, _, e, rfl, rfl, rfl⟩
    have atA : (h'.push genO).get? h'.objs.size = some genO := Heap.get?_push_size _ (by subst hgo; rfl)
    have keep5 : ∀ b u, h3.get? b = some u → (h'.push genO).get? b = some u := fun b u e => Heap.get?_push_of_some _ (keep' b u e)
    let B : Around := arG X.A tg elt iter sc gpos it (envG X sc h3.objs.size code)
    have rB : Room k B := arG_room hr
    have nofs : ∀ b ∈ fp, b ∉ frs X.stack := fun b hb z => by
      rcases List.mem_cons.mp (I3.stkSub b z) with q | q
      · exact (f2 b hb).2.1 q
      · exact (f2 b hb).2.2.1 q
    refine hQ _ _ ⟨s2.gens.size, B, { s2 with heap := h3, toks := tk }, upd H2 P (.tbl (ps ++ more)), code, fp, [(h'.objs.size, genO)], m0 + 1, isg atA, I3.nolimit.keeps keep5,
      fun σ' H' t J => isg (J.pin (h'.objs.size, genO) (by simp)).1, fun σ' H' t J => ?_, _, Array.getElem?_push_size .., rfl, ?_⟩
    · exact I3.call' (ch := fp) J.os J.base J.hok J.bare fun b hb => ⟨(f2 b hb).2.2.2.1, (f2 b hb).2.1, (f2 b hb).2.2.2.2.1, (f2 b hb).2.2.2.2.2⟩
    · have I5 := start_gen (N := N) (B := B) (cd := code) (fp := fp) (a := h'.objs.size) (o := genO) I3 S FR (fun b hb => ⟨f3 b hb, ltC b hb⟩) rB.hd (arG_frames I3.ok.frames)
        (s5 := { s2 with gens := s2.gens.push (.fresh (.compStart (.GeneratorExp elt [⟨tg, iter, [], 0⟩] sc gpos) 0 (.ref it) .none (envG X sc h3.objs.size code))), toks := tk + 1 + 1 + 1, heap := h'.push genO })
        rfl (I3.bare.push rfl) keep5 (hn'.push _) aC atA (by subst hgo; intro v z; cases z)
      have I6 := Inv.stood (s5 := Shared.setGen { s2 with gens := s2.gens.push (.fresh (.compStart (.GeneratorExp elt [⟨tg, iter, [], 0⟩] sc gpos) 0 (.ref it) .none (envG X sc h3.objs.size code))), toks := tk + 1 + 1 + 1, heap := h'.push genO } s2.gens.size .running) I5 rfl (fun _ _ e => e) (allBare_setGen I5.bare rfl)
      have hb' := hb B { s2 with heap := h3, toks := tk } (upd H2 P (.tbl (ps ++ more))) code fp rB
      refine seg_begins (Y := cxG X N sc B { s2 with heap := h3, toks := tk } (upd H2 P (.tbl (ps ++ more))) code fp) (A := X.A.in1.in1) (tn := tn) (J := J) rfl S.co rfl T hb'.1 hb'.2 (fun _ _ e => e)
        (fun b hb H' hn => ⟨hn, Nat.ne_of_lt (ltC b hb), nofs b hb, .inl hb, fun y e he => (f2 b hb).2.2.2.2.1 y e (clo_cm S.free he), fun p hp => ?_⟩) turn m0 (m0 + 1) _ _ _ _ (Nat.lt_succ_self _) I6
        (T.keep 0 _ _ t2 fun b hb o e => keep5 b o (keep3 b o (neP b hb) e)) (fun b hb => (f3 b hb).1) w0
      have hp : p ∈ [(h'.objs.size, genO)] := hp
      obtain rfl : p = (h'.objs.size, genO) := by simpa using hp
      exact Nat.ne_of_gt (Nat.lt_trans (ltC b hb) aC)
  cases hf : codeAmong gpos ps.toList with
  | none =>
    refine wpAny_genexprCodeX hcode (cd.code hPs htr) (cd.tab hPs) hf fun c' h' tk hx hge hlt hco' _ htab' _ => ?_
    obtain ⟨o1, vs, f1, tf, fl, tg', inF, tx, tt, op, _, _, _, _, _, _, _, _, _, htr', _⟩ := hco'
    exact cont _ h' tk _ hx (Nat.le_trans hge (Nat.le_of_lt hlt)) htab'.2 ⟨_, rfl⟩ htr'
  | some cv =>
    refine wpAny_genexprCode_hit hcode (cd.code hPs htr) hf ?_
    exact cont cv s2.heap s2.toks ps (Heap.ExtBut.refl _ _) (Nat.le_refl _) hPs ⟨#[], by simp⟩ htr
theorem pe_allG {c P : Addr} {tg elt iter : Expr} {p pos gpos : Pos} {sc : Scope} {N : List Str} {fr : List (Option Nat)} {wi : TI} {g : TG} {te : TE} {k : Nat}
    (hr : Room (k + 1) X.A) (hg : Gl X "all") (hm : X.mg "all" = none) (hbt : bootBuiltins "all" = some (.builtin "all")) (TB : TabB X.base X.mg c P) (hcode : X.env.code = .ref c) (S : GSc X.env sc) (FR : GFr X sc N fr) (hi : PI X tg iter wi)
    (hb : ∀ (B : Around) (s0 : Shared) (H0 : Hp) (cd : Value) (fp : List Addr), Room k B → PG (cxG X N sc B s0 H0 cd fp) tg g ∧ PE (cxG X N sc B s0 H0 cd fp) elt te)
    (hs : ∀ v, genFold iter X.env v = pure v)
    (he : starEach [.GeneratorExp elt [⟨tg, iter, [], 0⟩] sc gpos] X.env = (false, eval (.GeneratorExp elt [⟨tg, iter, [], 0⟩] sc gpos) X.env) :: starEach [] X.env := by rfl) :
    PE X (.Call (.Name "all" p) [.GeneratorExp elt [⟨tg, iter, [], 0⟩] sc gpos] [] pos) (tGen P fr wi g te false) := by
  refine ⟨fun pins s σ H Q I h => ?_⟩
  refine wpAny_Call_Name_kw (ld_blt I hg hm hbt ?_)
  refine PyProof.Rows.callWith_builtin1 ?_ he (by rfl)
  rw [he]
  show wpAny _ X.A (spliced ((false, eval (.GeneratorExp elt [⟨tg, iter, [], 0⟩] sc gpos) X.env) :: backTo pos (starEach [] X.env))) _ _ s
  refine Calls.spliced_cons (make_gen hr TB hcode S FR hi hb hs I h fun a s5 hG => ?_)
  refine Calls.spliced_nil ?_
  obtain ⟨n, B, s0, H0, cd, fp, ps, m, q1, q2, q3, q4, q5⟩ := hG
  refine call_function_tree F.kind_all F.plain_all F.entry_all (F.args_all1 _) ?_
  unfold Builtin.«all»
  refine wpAny_bind (m := oneArg "all" _) (wpAny_pure ?_)
  refine wpAny_bind (wpAny_pyIter_gen q1 ?_)
  refine wpAny_pure ⟨plainId_quiet F.plain_all_loop _, ?_⟩
  exact all_asks (Y := cxG X N sc B s0 H0 cd fp) hr.hd (by have := hr.dp; omega) q3 (fun σ' H' b t J q => ⟨.bl b, H', q4 σ' H' t J, rfl, q⟩) m s5 q1 q2 q5
theorem pe_anyG {c P : Addr} {tg elt iter : Expr} {p pos gpos : Pos} {sc : Scope} {N : List Str} {fr : List (Option Nat)} {wi : TI} {g : TG} {te : TE} {k : Nat}
    (hr : Room (k + 1) X.A) (hg : Gl X "any") (hm : X.mg "any" = none) (hbt : bootBuiltins "any" = some (.builtin "any")) (TB : TabB X.base X.mg c P) (hcode : X.env.code = .ref c) (S : GSc X.env sc) (FR : GFr X sc N fr) (hi : PI X tg iter wi)
    (hb : ∀ (B : Around) (s0 : Shared) (H0 : Hp) (cd : Value) (fp : List Addr), Room k B → PG (cxG X N sc B s0 H0 cd fp) tg g ∧ PE (cxG X N sc B s0 H0 cd fp) elt te)
    (hs : ∀ v, genFold iter X.env v = pure v)
    (he : starEach [.GeneratorExp elt [⟨tg, iter, [], 0⟩] sc gpos] X.env = (false, eval (.GeneratorExp elt [⟨tg, iter, [], 0⟩] sc gpos) X.env) :: starEach [] X.env := by rfl) :
    PE X (.Call (.Name "any" p) [.GeneratorExp elt [⟨tg, iter, [], 0⟩] sc gpos] [] pos) (tGen P fr wi g te true) := by
  refine ⟨fun pins s σ H Q I h => ?_⟩
  refine wpAny_Call_Name_kw (ld_blt I hg hm hbt ?_)
  refine PyProof.Rows.callWith_builtin1 ?_ he (by rfl)
  rw [he]
  show wpAny _ X.A (spliced ((false, eval (.GeneratorExp elt [⟨tg, iter, [], 0⟩] sc gpos) X.env) :: backTo pos (starEach [] X.env))) _ _ s
  refine Calls.spliced_cons (make_gen hr TB hcode S FR hi hb hs I h fun a s5 hG => ?_)
  refine Calls.spliced_nil ?_
  obtain ⟨n, B, s0, H0, cd, fp, ps, m, q1, q2, q3, q4, q5⟩ := hG
  refine call_function_tree F.kind_any F.plain_any F.entry_any (F.args_any1 _) ?_
  unfold Builtin.«any»
  refine wpAny_bind (m := oneArg "any" _) (wpAny_pure ?_)
  refine wpAny_bind (wpAny_pyIter_gen q1 ?_)
  refine wpAny_pure ⟨plainId_quiet F.plain_any_loop _, ?_⟩
  exact any_asks (Y := cxG X N sc B s0 H0 cd fp) hr.hd (by have := hr.dp; omega) q3 (fun σ' H' b t J q => ⟨.bl b, H', q4 σ' H' t J, rfl, q⟩) m s5 q1 q2 q5
end

end

section
open PySem.Spec PyProof.Rows
/-! ### a dict comprehension whose keys are tuples -/
section
variable {X : Cx} {pins : List (Addr × Obj)} {σ : L2.St} {H : Hp} {s : Shared}
/-- an entry is laid under a tuple -/
theorem lay_entry {A : Around} {E : Value → Shared → Prop} {D b : Addr} {kvs : List (List Key × V)} {k : List Key} {v : V} {r : Value} {Q : Unit → Shared → Prop}
    (hu : A.units < cLine) (I : Inv X pins σ H s) (hD : H D = some (.dT kvs)) (hb : H b = some (.tup (k.map kV))) (hl : kvs.length < sizeLine) (rv : RelV v r)
    (h : ∀ s', Inv X pins σ (upd H D (.dT (putK kvs k v))) s' → Q () s') : wpAny (model X.prog X.w) A (dictSet D (.ref b) r) Q E s := by
  obtain ⟨le, nd, xs, rel, dd⟩ := dt_of I.hok hD
  have small : xs.length ≤ sizeLine := by rw [← Paired.length rel]; exact le
  have small2 : (putK kvs k v).length ≤ sizeLine := by
    have q := length_putK kvs k v
    omega
  refine wpAny_dictSet_heap (hsz := small) (show (tupleKind (mixKind X.prog X.w)).room A from hu) (key_of I.hok hb) dd fun h2 dd2 same => h _ ?_
  obtain ⟨o, es, ep, ho, p2, p3, p4, _, p5⟩ := dd2
  refine d_write I (by rw [hD]; exact True.intro) same ⟨o, ho⟩ ⟨small2, nd, _, (rel.put k hb rv).keeps fun c ys ec => ?_, o, es, ep, ho, p2, p3, p4, p5⟩
  have cD : c ≠ D := ne_of ec hD fun z => nomatch z
  rw [upd_ne cD]
  exact ec
/-- D: the new dict -/
def tDcT (wi : TI) (g : TG) (tk tv : TE) (vs : List Nat) : TE := fun σ H Q => wi σ H fun J H1 => ∀ D, H1 D = none → ∃ W : Nat → Nat → Hp → Prop, (∃ m, W 0 m (upd H1 D (.dT []))) ∧ ∀ i m H, W i m H →
  (J.stop i H ∧ Q (.ref D) H) ∨ (J.go i H ∧ ∃ Nx : Hp → Prop, (∀ H', Nx H' → ∃ m', m' < m ∧ W (i + 1) m' H') ∧
    ∀ x H', J.yld i H x H' → g x (wipe σ vs) H' fun σ2 H2 => wipe σ2 vs = wipe σ vs ∧ tk σ2 H2 fun y H4 => tv σ2 H4 fun z H5 =>
      ∃ b kvs k, y = .ref b ∧ H5 b = some (.tup (k.map kV)) ∧ H5 D = some (.dT kvs) ∧ kvs.length < sizeLine ∧ Nx (upd H5 D (.dT (putK kvs k z))))
theorem pe_dcT {kx vx tg iter : Expr} {scope : Scope} {own : List (Str × Nat)} {pos : Pos} {wi : TI} {g : TG} {tk tv : TE} (hc : X.calm = true) (hu : X.A.units < cLine) (hN : X.N.Nodup) (hi : PI X tg iter wi) (ok : BlkOk X.N X.env.scope scope own)
    (hb : ∀ (s : Shared) (H : Hp) (C : Addr) (cl : List (Str × Addr)) (fp : List Addr), PG (X.blk s H scope (compEnvC scope cl C X.env) fp) tg g ∧ PE (X.blk s H scope (compEnvC scope cl C X.env) fp) kx tk ∧ PE (X.blk s H scope (compEnvC scope cl C X.env) fp) vx tv)
    (hs : ∀ x, foldedSetIterable iter X.env x = pure x := by intro _; rfl) :
    PE X (.DictComp kx vx [⟨tg, iter, [], 0⟩] scope pos) (tDcT wi g tk tv (own.map (·.2))) := by
  refine ⟨fun pins s σ H Q I h => ?_⟩
  rw [arm_eval_DictComp]
  have caught : ∀ y ∈ scope.names, y.2 = .free → ∃ c, X.env.cells.lookup y.1 = some c := fun y hy e => by
    have q := ok.free y hy e
    exact I.ok.has _ (q.elim .inl .inr)
  refine wpAny_comprehension_free (use := none) rfl hs (closure_ok caught) ok.kind (fun y hy e => by rw [ok.uniq y hy, e]) ?_
  refine thn (hi.run pins s σ H _ I h) fun xv s1 h1 => thn h1 fun itv s2 h2 => ?_
  obtain ⟨it, fp, tn, J, H2, rfl, I2, T, t2, f2, rest⟩ := h2
  refine wpAny_newObj_type (newEnv_comp ?_)
  generalize eD : s2.heap.objs.size = D
  have nD : H2 D = none := I2.hok.fresh (Nat.le_of_eq eD)
  obtain ⟨W, ⟨m0, w0⟩, turn⟩ := rest D nD
  generalize e3 : ({ s2 with heap := s2.heap.push { cls := .type "dict", data := .dict #[] } } : Shared) = s3
  have heap3 : s3.heap = s2.heap.push { cls := .type "dict", data := .dict #[] } := by rw [← e3]
  have I3 : Inv X pins σ (upd H2 D (.dT [])) s3 := by
    rw [← e3]
    refine I2.laid (t' := s2.toks) (fun b o e => Heap.get?_push_of_some _ e) (Nat.le_of_eq eD) ?_
    rw [← eD]
    exact dt_empty s2.heap I2.big
  have old : ∀ b ∈ fp, b < s2.heap.objs.size := fun b hb => by
    obtain ⟨o, e, _⟩ := T.obj _ _ t2 b hb
    exact Heap.lt_size e
  have f3 : ∀ b ∈ fp, FpOk X pins (upd H2 D (.dT [])) b ∧ b < s3.heap.objs.size := fun b hb => by
    have lt := old b hb
    refine ⟨⟨?_, (f2 b hb).2⟩, by rw [heap3, Heap.size_push]; exact Nat.lt_succ_of_lt lt⟩
    rw [upd_ne (by rw [← eD]; exact Nat.ne_of_lt lt)]
    exact (f2 b hb).1
  have t3 : tn 0 s3.heap := T.keep _ _ _ t2 fun b _ o e => by rw [heap3]; exact Heap.get?_push_of_some _ e
  have I4 := block_start I3 ok hN f3
  obtain ⟨pg, pk, pv⟩ := hb s3 (upd H2 D (.dT [])) s3.heap.objs.size (cellsFrom (s3.heap.objs.size + 1) scope.names (cloFrom X.env.cells scope.names [])) fp
  show codeAny _ _ (.compStart (.DictComp kx vx [⟨tg, iter, [], 0⟩] scope pos) 0 (.ref it) (.ref D) (compEnvC scope (cellsFrom (s3.heap.objs.size + 1) scope.names (cloFrom X.env.cells scope.names [])) s3.heap.objs.size X.env))
    (compPost (model X.prog X.w) X.A X.xe none _ (.ref D) s3.heap.objs.size) { s3 with heap := pushCells (s3.heap.push { cls := .type "dict", data := .dict #[] }) scope.names }
  have none3 : ∀ b ∈ fp, (upd H2 D (.dT [])) b = none := fun b hb => (f3 b hb).1.1
  generalize ece : compEnvC scope (cellsFrom (s3.heap.objs.size + 1) scope.names (cloFrom X.env.cells scope.names [])) s3.heap.objs.size X.env = ce at I4 pg pk pv ⊢
  have ceL : ce.locals = s3.heap.objs.size := by subst ece; rfl
  generalize eH3 : upd H2 D (.dT []) = H3 at I3 I4 pg pk pv w0 none3 f3
  generalize e4 : ({ s3 with heap := pushCells (s3.heap.push { cls := .type "dict", data := .dict #[] }) scope.names } : Shared) = s4 at I4 ⊢
  have t4 : tn 0 s4.heap := T.keep _ _ _ t3 fun b _ o e => by rw [← e4]; exact pushCells_keeps _ _ _ _ (Heap.get?_push_of_some _ e)
  have fpo : ∀ {σ' : L2.St} {H' : Hp} {s' : Shared}, Inv (X.blk s3 H3 scope ce fp) [] σ' H' s' → (∀ b ∈ fp, H' b = none) → ∀ b ∈ fp, FpOk (X.blk s3 H3 scope ce fp) [] H' b := fun {σ' H' s'} I' hn b hb =>
    ⟨hn b hb, (I'.ok.exf b hb).1, I'.ok.exfs b hb, .inl hb, fun x c e => (I'.ok.exf b hb).2 x c e, fun p hp => absurd (show p ∈ ([] : List (Addr × Obj)) ++ [] from hp) (by simp)⟩
  have loop : codeAny (model X.prog X.w) X.A (.compLoop (.DictComp kx vx [⟨tg, iter, [], 0⟩] scope pos) 0 (.ref it) (.ref D) ce) (compPost (model X.prog X.w) X.A X.xe none (EP X pins σ Q) (.ref D) s3.heap.objs.size) s4 := by
    refine compLoop_anyD (fun n s' => ∃ i H', Inv (X.blk s3 H3 scope ce fp) [] (wipe σ (own.map (·.2))) H' s' ∧ tn i s'.heap ∧ (∀ b ∈ fp, H' b = none) ∧ W i n H') ?_ m0 ⟨0, H3, I4, t4, none3, w0⟩
    rintro n s5 ⟨i, H5, I5, t5, n5, w5⟩
    rcases turn i n H5 w5 with ⟨hstop, qq⟩ | ⟨go, Nx, hNx, step⟩
    · refine thnF (T.done (X.blk s3 H3 scope ce fp) rfl rfl rfl hc i [] s5 _ H5 (fun _ _ => False) I5 (fpo I5 n5) t5 hstop) fun r s6 h6 => ?_
      obtain ⟨rfl, I6⟩ := h6
      have I7 : Inv X pins σ H5 s6 := I3.call' (ch := fp) I6.os I6.base I6.hok I6.bare fun b hb =>
        have z := (f3 b hb).1.2
        ⟨z.2.2.1, z.1, z.2.2.2.1, z.2.2.2.2⟩
      have nC : H5 s3.heap.objs.size = none := by
        have z : H5 ce.locals = none := I6.free
        rwa [ceL] at z
      obtain ⟨m, hn, _⟩ := I6.loc
      have hn : s6.heap.Ns ce.locals m := hn
      rw [ceL] at hn
      obtain ⟨_, g1, _, g3, g4, g5⟩ := I3.fpOk (Nat.le_refl _) nC
      exact ⟨m, hn, fun h2 sb => ⟨.ref D, H5, I7.turned (t' := s6.toks) (fun b o ne e => (sb.2 b ne).trans e) nC g1 g3 g4 g5, rfl, qq⟩⟩
    · refine thnF (T.item (X.blk s3 H3 scope ce fp) rfl rfl rfl hc i [] s5 _ H5 (fun _ _ => False) I5 (fpo I5 n5) t5 go) fun r s6 h6 => ?_
      obtain ⟨u, rfl, h6⟩ := h6
      refine thnF h6 fun _ s7 ⟨x, H7, I7, r7, y7, t7, n7⟩ => ?_
      have J7 := I7.pinned (fpo I7 n7) (T.obj _ _ t7)
      refine thnF (pg.run _ s7 _ H7 x u _ J7 r7 (step x H7 y7)) fun _ s8 ⟨σ8, H8, I8, ew, q8⟩ => ?_
      simp only [List.forIn_nil]
      refine wpAny_pure ?_
      simp only [if_true]
      refine thnF (pk.run _ s8 σ8 H8 _ I8 q8) fun u1 s10 ⟨yk, H10, I10, r10, q10⟩ => ?_
      refine thnF (pv.run _ s10 σ8 H10 _ I10 q10) fun u2 s11 ⟨yv, H11, I11, r11, b, kvs, k, ek, hb11, hD11, hl11, nx⟩ => ?_
      subst ek
      obtain rfl : u1 = .ref b := r10
      refine lay_entry (X := X.blk s3 H3 scope ce fp) hu I11 hD11 hb11 hl11 r11 fun s12 I12 => ?_
      obtain ⟨m', lt, w'⟩ := hNx _ nx
      have len8 : (wipe σ (own.map (·.2))).length = σ8.length := by rw [← ew, wipe_length]
      have stay : ∀ c ∈ fp, ∀ o, s7.heap.get? c = some o → s12.heap.get? c = some o ∧ (upd H11 D (.dT (putK kvs k yv))) c = none := fun c hc' o e =>
        have z := I12.pin (c, o) (List.mem_append_right _ (List.mem_append_right _ (mem_pinsAt hc' e)))
        ⟨z.1, z.2.1⟩
      refine ⟨m', lt, i + 1, _, (I12.unpinned (pins := [])).weak len8 (fun j v e => ?_), T.keep _ _ _ t7 fun c hc' o e => (stay c hc' o e).1, fun c hc' => ?_, w'⟩
      · rw [← ew] at e
        exact (wipe_some e).1
      · obtain ⟨o, e, _⟩ := T.obj _ _ t7 c hc'
        exact (stay c hc' o e).2
  exact codeAny_compStart_dict loop (T.self X.A 0 _ _ _ t4 loop)
end

end

section
open PySem.Spec PyProof.Rows
/-! ### tuples of numbers and texts (links are such), lists of them -/
abbrev Tk := List L2.Key
/-- v is a tuple that holds k -/
def Kr (H : Hp) (v : V) (k : Tk) : Prop := ∃ t, v = .ref t ∧ H t = some (.tup (k.map kV))
theorem Kr.same {H H' : Hp} {v : V} {k : Tk} (h : Kr H v k) (z : Same H H') : Kr H' v k := by
  obtain ⟨t, rfl, h⟩ := h
  exact ⟨t, rfl, z _ _ h⟩
theorem Kr.over {H : Hp} {m : Addr} {zs ws : List V} {v : V} {k : Tk} (h : Kr H v k) (hm : H m = some (.lst zs)) : Kr (upd H m (.lst ws)) v k := by
  obtain ⟨t, rfl, h⟩ := h
  refine ⟨t, rfl, ?_⟩
  rw [upd_ne (ne_of h hm fun z => nomatch z)]
  exact h
inductive Krs (H : Hp) : List V → List Tk → Prop
  | nil : Krs H [] []
  | cons {v : V} {k : Tk} {vs : List V} {ks : List Tk} : Kr H v k → Krs H vs ks → Krs H (v :: vs) (k :: ks)
section
variable {H H' : Hp} {vs us : List V} {ks ls : List Tk}
theorem Krs.same (h : Krs H vs ks) (z : Same H H') : Krs H' vs ks := by
  induction h with
  | nil => exact .nil
  | cons a _ ih => exact .cons (a.same z) ih
theorem Krs.over {m : Addr} {zs ws : List V} (h : Krs H vs ks) (hm : H m = some (.lst zs)) : Krs (upd H m (.lst ws)) vs ks := by
  induction h with
  | nil => exact .nil
  | cons a _ ih => exact .cons (a.over hm) ih
theorem Krs.len (h : Krs H vs ks) : vs.length = ks.length := by
  induction h with
  | nil => rfl
  | cons a _ ih => exact congrArg (· + 1) ih
theorem Krs.app (h : Krs H vs ks) (g : Krs H us ls) : Krs H (vs ++ us) (ks ++ ls) := by
  induction h with
  | nil => exact g
  | cons a _ ih => exact .cons a ih
theorem Krs.snoc {v : V} {k : Tk} (h : Krs H vs ks) (g : Kr H v k) : Krs H (vs ++ [v]) (ks ++ [k]) := h.app (.cons g .nil)
theorem Krs.at (h : Krs H vs ks) : ∀ {i : Nat} {v : V}, vs[i]? = some v → ∃ k, ks[i]? = some k ∧ Kr H v k := by
  induction h with
  | nil => intro i v e; cases e
  | cons a _ ih =>
    intro i v e
    cases i with
    | zero => cases e; exact ⟨_, rfl, a⟩
    | succ i => exact ih e
theorem Krs.mem (h : Krs H vs ks) {v : V} (m : v ∈ vs) : ∃ k ∈ ks, Kr H v k := by
  induction h with
  | nil => cases m
  | cons a _ ih =>
    rcases List.mem_cons.mp m with e | m
    · subst e; exact ⟨_, List.mem_cons_self, a⟩
    · obtain ⟨k, hk, q⟩ := ih m
      exact ⟨k, List.mem_cons_of_mem _ hk, q⟩
/-- by their addresses -/
theorem Krs.split (h : Krs H vs ks) : ∃ L : List (Addr × Tk), vs = L.map (fun p => V.ref p.1) ∧ ks = L.map (·.2) ∧ ∀ p ∈ L, H p.1 = some (.tup (p.2.map kV)) := by
  induction h with
  | nil => exact ⟨[], rfl, rfl, fun p z => nomatch z⟩
  | cons a _ ih =>
    obtain ⟨t, rfl, e⟩ := a
    obtain ⟨L, rfl, rfl, q⟩ := ih
    refine ⟨(t, _) :: L, rfl, rfl, fun p hp => ?_⟩
    rcases List.mem_cons.mp hp with rfl | hp
    · exact e
    · exact q p hp
theorem krs_of {L : List (Addr × Tk)} (h : ∀ p ∈ L, H p.1 = some (.tup (p.2.map kV))) : Krs H (L.map fun p => V.ref p.1) (L.map (·.2)) := by
  induction L with
  | nil => exact .nil
  | cons p L ih => exact .cons ⟨p.1, rfl, h p List.mem_cons_self⟩ (ih fun q hq => h q (List.mem_cons_of_mem _ hq))
end
/-! ### their data -/
def kd : L2.Key → PyData
  | .inl i => .int i
  | .inr x => .str x
def dK (k : Tk) : PyData := .tuple (k.map kd)
def dKs (ks : List Tk) : PyData := .list (ks.map dK)
theorem eqv_kd (a b : L2.Key) : PyData.eqv (kd a) (kd b) = decide (a = b) := by
  cases a <;> cases b <;> simp only [kd, PyData.eqv, Sum.inl.injEq, Sum.inr.injEq, reduceCtorEq, decide_false] <;> first | rfl | (simp [PyData.eqv]; done) | skip
theorem eqvAll_kd : ∀ a b : Tk, PyData.eqvAll (a.map kd) (b.map kd) = decide (a = b)
  | [], [] => by simp [PyData.eqvAll]
  | [], _ :: _ => by simp [PyData.eqvAll]
  | _ :: _, [] => by simp [PyData.eqvAll]
  | p :: ps, q :: qs => by
    simp only [List.map_cons, PyData.eqvAll, eqv_kd, eqvAll_kd ps qs, List.cons.injEq]
    by_cases h1 : p = q <;> by_cases h2 : ps = qs <;> simp [h1, h2]
theorem eqv_dK (a b : Tk) : PyData.eqv (dK a) (dK b) = decide (a = b) := by
  unfold dK
  rw [PyData.eqv, eqvAll_kd]
theorem eqvAll_dK : ∀ ps qs : List Tk, PyData.eqvAll (ps.map dK) (qs.map dK) = decide (ps = qs)
  | [], [] => by simp [PyData.eqvAll]
  | [], _ :: _ => by simp [PyData.eqvAll]
  | _ :: _, [] => by simp [PyData.eqvAll]
  | p :: ps, q :: qs => by
    simp only [List.map_cons, PyData.eqvAll, eqv_dK, eqvAll_dK ps qs, List.cons.injEq]
    by_cases h1 : p = q <;> by_cases h2 : ps = qs <;> simp [h1, h2]
theorem eqv_dKs (ps qs : List Tk) : PyData.eqv (dKs ps) (dKs qs) = decide (ps = qs) := by
  unfold dKs
  rw [PyData.eqv, eqvAll_dK]
instance (k : Tk) (ks : List Tk) : Decidable (k ∈ ks) := decidable_of_iff (ks.any (fun q => decide (q = k)) = true) (by simp)
theorem any_dK (ks : List Tk) (k : Tk) : ((ks.map dK).any fun z => PyData.eqv z (dK k)) = decide (k ∈ ks) := by
  induction ks with
  | nil => simp
  | cons q ks ih =>
    rw [List.map_cons, List.any_cons, ih, eqv_dK]
    by_cases h1 : q = k
    · subst h1; simp
    · have h2 : ¬ k = q := fun z => h1 z.symm
      simp [h1, h2]
theorem dp_keys {K : PySem.W.Frag} {H : Hp} : ∀ k : Tk, DpAll K H (k.map kV) (k.map kd)
  | [] => .nil
  | .inl i :: k => .cons (.int i) (dp_keys k)
  | .inr x :: k => .cons (.str x) (dp_keys k)
theorem Kr.dp {K : PySem.W.Frag} {H : Hp} {v : V} {k : Tk} (h : Kr H v k) : Dp K H v (dK k) := by
  obtain ⟨t, rfl, h⟩ := h
  exact .tup (SqT.of h) (dp_keys k)
theorem Krs.dps {K : PySem.W.Frag} {H : Hp} {vs : List V} {ks : List Tk} (h : Krs H vs ks) : DpAll K H vs (ks.map dK) := by
  induction h with
  | nil => exact .nil
  | cons a _ ih => exact .cons a.dp ih
theorem Krs.dl {K : PySem.W.Frag} {H : Hp} {l : Addr} {vs : List V} {ks : List Tk} (h : Krs H vs ks) (e : SqL K H l vs) : Dp K H (.ref l) (dKs ks) := .lst e h.dps
theorem depth_kds : ∀ k : Tk, PyData.depthAll (k.map kd) = 0
  | [] => rfl
  | .inl _ :: k => by
    show max 0 (PyData.depthAll (k.map kd)) = 0
    rw [depth_kds k]
    rfl
  | .inr _ :: k => by
    show max 0 (PyData.depthAll (k.map kd)) = 0
    rw [depth_kds k]
    rfl
/-- its texts are texts -/
def okk (k : Tk) : Bool := PyData.canLayAll0 (k.map kd)
theorem lay_dKs : ∀ ks : List Tk, (∀ k ∈ ks, okk k = true) → PyData.canLayAll0 (ks.map dK) = true
  | [], _ => rfl
  | k :: ks, h => by
    show (PyData.canLayAll0 (k.map kd) && PyData.canLayAll0 (ks.map dK)) = true
    rw [lay_dKs ks fun q hq => h q (List.mem_cons_of_mem _ hq), show PyData.canLayAll0 (k.map kd) = true from h k List.mem_cons_self]
    rfl
theorem depth_dKs : ∀ ks : List Tk, PyData.depthAll (ks.map dK) ≤ 1
  | [] => by show 0 ≤ 1; omega
  | k :: ks => by
    have ih := depth_dKs ks
    show max (PyData.depthAll (k.map kd) + 1) (PyData.depthAll (ks.map dK)) ≤ 1
    rw [depth_kds]
    omega
theorem sh_dK {k : Tk} (h : okk k = true) : SeqAt.shaped (dK k) = true := by
  unfold SeqAt.shaped dK
  rw [show PyData.canLay0 (.tuple (k.map kd)) = PyData.canLayAll0 (k.map kd) from rfl, show PyData.canLayAll0 (k.map kd) = true from h]
  refine decide_eq_true ?_
  show PyData.depthAll (k.map kd) + 1 ≤ 64
  rw [depth_kds]
  omega
theorem sh_dKs {ks : List Tk} (hk : ∀ k ∈ ks, okk k = true) : SeqAt.shaped (dKs ks) = true := by
  unfold SeqAt.shaped dKs
  rw [show PyData.canLay0 (.list (ks.map dK)) = PyData.canLayAll0 (ks.map dK) from rfl, lay_dKs ks hk]
  have h := depth_dKs ks
  refine decide_eq_true ?_
  show PyData.depthAll (ks.map dK) + 1 ≤ 64
  omega

end

section
open PySem.Spec PyProof.Rows
/-! ### sorted(xs), xs a list of such tuples; sorted(d), d a dict whose keys they are -/
/-- where the texts stand -/
def shp (k : Tk) : List Bool := k.map fun x => match x with
  | .inl _ => false
  | .inr _ => true
def leK : Tk → Tk → Bool := PySem.W.dataLe false dK
def sortK (ks : List Tk) : List Tk := ks.mergeSort leK
theorem sortK_perm (ks : List Tk) : (sortK ks).Perm ks := List.mergeSort_perm _ _
theorem alike_kd : ∀ a b : Tk, shp a = shp b → PySem.W.alikeAll (a.map kd) (b.map kd) = true
  | [], [], _ => by simp [PySem.W.alikeAll]
  | [], _ :: _, h => by simp [shp] at h
  | _ :: _, [], h => by simp [shp] at h
  | x :: a, y :: b, h => by
    have h2 : shp a = shp b := by
      unfold shp at h ⊢
      simp only [List.map_cons, List.cons.injEq] at h
      exact h.2
    rw [List.map_cons, List.map_cons, PySem.W.alikeAll, alike_kd a b h2]
    unfold shp at h
    simp only [List.map_cons, List.cons.injEq] at h
    cases x <;> cases y <;> simp at h <;> simp [kd, PySem.W.alike]
theorem alike_dK {a b : Tk} (h : shp a = shp b) : PySem.W.alike (dK a) (dK b) = true := by
  unfold dK
  rw [PySem.W.alike]
  exact alike_kd a b h
theorem reads_keys {h : Heap} : ∀ (k : Tk) {its : List Value}, Vals (k.map kV) its → ReadsAll h its (k.map kd) []
  | [], _, .nil => .nil
  | .inl i :: k, _, .cons r t => by
    obtain ⟨u, rfl⟩ := (show ∃ u, _ = Value.int i u from r)
    exact .cons (.int i u) (reads_keys k t)
  | .inr x :: k, _, .cons r t => by
    obtain ⟨u, rfl⟩ := (show ∃ u, _ = Value.str x u from r)
    exact .cons (.str x u) (reads_keys k t)
theorem reads_k {P : Program} {w : World} {H : Hp} {h : Heap} {t : Addr} {k : Tk} (ok : HOk P w H h) (e : H t = some (.tup (k.map kV))) : Reads h (.ref t) (dK k) [] := by
  obtain ⟨_, its, r, o, ho, hc, n, hd⟩ := (show ObjOk P w H h t (.tup (k.map kV)) from ok t _ e)
  exact .tuple ho hc hd (reads_keys k (by simpa using r))
theorem each_map {α β : Type} {R : α → β → Prop} (f : β → α) : ∀ {bs : List β}, (∀ b ∈ bs, R (f b) b) → PySem.W.EachIs R (bs.map f) bs
  | [], _ => .nil
  | b :: bs, h => .cons (h b List.mem_cons_self) (each_map f fun c hc => h c (List.mem_cons_of_mem _ hc))
theorem refs_vals (L : List (Addr × Tk)) : Vals (L.map fun p => V.ref p.1) (L.map fun p => Value.ref p.1) := by
  induction L with
  | nil => exact .nil
  | cons p L ih => exact .cons rfl ih
theorem vals_refs' : ∀ {L : List (Addr × Tk)} {its : List Value}, Vals (L.map fun p => V.ref p.1) its → its = L.map fun p => Value.ref p.1
  | [], _, .nil => rfl
  | p :: L, _, .cons r t => by
    have r : _ = Value.ref p.1 := r
    rw [r, vals_refs' t]
    rfl
theorem sort_pairs (L : List (Addr × Tk)) : (L.mergeSort (PySem.W.dataLe false fun b => dK b.2)).map (·.2) = sortK (L.map (·.2)) := List.map_mergeSort fun a _ b _ => rfl
/-- the order sorts: all alike, none empty -/
def Fit (ks : List Tk) : Prop := ∃ sh : List Bool, sh ≠ [] ∧ ∀ k ∈ ks, shp k = sh
theorem Fit.alike {L : List (Addr × Tk)} (h : Fit (L.map (·.2))) : PySem.W.AllAlike (L.map fun b => dK b.2) := by
  obtain ⟨sh, _, q⟩ := h
  intro d hd d' hd'
  obtain ⟨b, hb, rfl⟩ := List.mem_map.mp hd
  obtain ⟨c, hc, rfl⟩ := List.mem_map.mp hd'
  exact alike_dK ((q _ (List.mem_map_of_mem hb)).trans (q _ (List.mem_map_of_mem hc)).symm)
theorem Fit.sortable {L : List (Addr × Tk)} (h : Fit (L.map (·.2))) : PySem.W.Sortable (L.map fun b => dK b.2) := .inl fun d hd => by
  obtain ⟨sh, q0, q⟩ := h
  obtain ⟨b, hb, rfl⟩ := List.mem_map.mp hd
  have e := q _ (List.mem_map_of_mem hb)
  cases hk : b.2 with
  | nil =>
    have hk2 : (b.2 : Tk) = [] := hk
    rw [show shp ((fun x : Addr × Tk => x.2) b) = shp b.2 from rfl, hk2] at e
    exact absurd e.symm q0
  | cons x r => exact ⟨kd x, r.map kd, rfl⟩
theorem depth_dK (k : Tk) : (dK k).depth = 1 := by
  show PyData.depthAll (k.map kd) + 1 = 1
  rw [depth_kds]
section
variable {X : Cx}
def rSortK (K : PySem.W.Frag) : List V → Hp → VK → Prop := fun vs H Q => ∃ (a : Addr) (xs : List V) (ks : List Tk), vs = [.ref a] ∧ SqL K H a xs ∧ Krs H xs ks ∧ Fit ks ∧
  ∀ (p : Addr) (ys : List V), H p = none → Krs H ys (sortK ks) → Q (.ref p) (upd H p (.lst ys))
theorem call_sortK (hu : X.A.units + 64 < cLine) : CallR X (.builtin "sorted") (rSortK X.K) := by
  intro pins s σ H vs us Q I r h
  obtain ⟨a, xs, ks, rfl, hs, hk, hf, q⟩ := h
  obtain ⟨its, rv, hl, hz⟩ := I.list hs
  rw [Vals.ref1 r]
  obtain ⟨L, rfl, rfl, hL⟩ := hk.split
  have e := vals_refs' rv
  subst e
  refine PySem.W.sorted_data (bs := L) (enc := fun b : Addr × Tk => dK b.2) (R := fun v b => v = Value.ref b.1) hl.isList (each_map _ fun b _ => rfl) (each_map _ fun b hb => ⟨[], reads_k I.hok (hL b hb)⟩) hf.alike hf.sortable
    (by rw [List.length_map] at hz; exact hz) (fun b _ => by show X.A.units + 2 + (dK b.2).depth < cLine; rw [depth_dK]; omega) fun out ho eo => ?_
  have eo2 := eachIs_back eo
  obtain ⟨ep, he'⟩ := PyProof.Rows.sortedAll_at s.heap (L.map fun p => Value.ref p.1) out.toArray
  have hlen : ((L.mergeSort (PySem.W.dataLe false fun b => dK b.2)).map fun p => V.ref p.1).length ≤ sizeLine := by
    rw [List.length_map, (List.mergeSort_perm _ _).length_eq]
    rw [List.length_map] at hz
    exact hz
  refine ⟨.ref _, upd H (s.heap.objs.size + 1) (.lst ((L.mergeSort (PySem.W.dataLe false fun b => dK b.2)).map fun p => V.ref p.1)), I.laid (t' := s.toks) (fun _ _ => PyProof.Rows.sortedAll_old) (Nat.le_succ _)
    ⟨hlen, out, ep, by rw [eo2]; exact refs_vals _, he'⟩, rfl, q _ _ (I.hok.fresh (Nat.le_succ _)) ?_⟩
  rw [← sort_pairs]
  exact krs_of fun p hp => hL p ((List.mergeSort_perm _ _).mem_iff.mp hp)
def rSortDT : List V → Hp → VK → Prop := fun vs H Q => ∃ (a : Addr) (kvs : List (Tk × V)), vs = [.ref a] ∧ Rd H a (.dT kvs) ∧ Fit (kvs.map (·.1)) ∧
  ∀ (p : Addr) (ys : List V), H p = none → Krs H ys (sortK (kvs.map (·.1))) → Q (.ref p) (upd H p (.lst ys))
theorem call_sortDT (hc : X.calm = true) (hu : X.A.units + 64 < cLine) : CallR X (.builtin "sorted") rSortDT := by
  intro pins s σ H vs us Q I r h
  obtain ⟨a, kvs, rfl, hd, hf, q⟩ := h
  rw [Vals.ref1 r]
  obtain ⟨z, lo, es0, pr, o, es, ep, ho, hx, hdt, he, hn⟩ := (show ObjOk X.prog X.w H s.heap a (.dT kvs) from hd.ok I.hok)
  have l1 : es.size = es0.length := size_of_entries he
  have l2 : kvs.length = es0.length := Paired.length pr
  refine Calls.call_function_entry PyProof.Rows.kind_sorted PyProof.Rows.plain_sorted PyProof.Rows.entry_sorted (PyProof.Rows.args_sorted1 _) ?_
  unfold Builtin.«sorted»
  refine wpAny_bind (m := checkCount "sorted" 1 1 _) (wpAny_pure ?_)
  refine wpAny_bind (PySem.W.kdu_collect (A := X.A.in1) (kdl_raw lo hx hdt) (I.ok.hd hc) ho (by omega) fun h' tk acc hk hacc => ?_)
  -- what was collected: the keys' addresses
  have ea : acc.toList = es0.map fun x => Value.ref x.2.1 := by
    have hl : acc.toList.length = es0.length := by rw [Array.length_toList, hacc.1]; exact l1
    refine List.ext_getElem? fun j => ?_
    rw [List.getElem?_map]
    cases hj : acc.toList[j]? with
    | none =>
      have h1 := List.getElem?_eq_none_iff.mp hj
      rw [List.getElem?_eq_none (by omega)]
      rfl
    | some v =>
      obtain ⟨en, hen, hv⟩ := hacc.2 j v (by rw [← Array.getElem?_toList]; exact hj)
      have qe := entry_at he j
      rw [hen] at qe
      cases hb : es0[j]? with
      | none =>
        rw [hb] at qe
        exact nomatch (show some en = none from qe)
      | some b =>
        rw [hb] at qe
        have e2 : en = entryOfKey (tupleKind (mixKind X.prog X.w)) b := Option.some.inj qe
        rw [hv, e2]
        rfl
  obtain ⟨L, eL1, eL2, hL⟩ : ∃ L : List (Addr × Tk), (es0.map fun x => Value.ref x.2.1) = L.map (fun p => Value.ref p.1) ∧ kvs.map (·.1) = L.map (·.2) ∧ ∀ p ∈ L, H p.1 = some (.tup (p.2.map kV)) := by
    clear ea hacc he l1 l2 q hf hd
    induction pr with
    | nil => exact ⟨[], rfl, rfl, fun p z => nomatch z⟩
    | cons h1 _ ih =>
      obtain ⟨L, e1, e2, e3⟩ := ih (by simp at z; omega) (by simp at hn; exact hn.2)
      rename_i p0 q0 _ _ _
      refine ⟨(q0.2.1, p0.1) :: L, by rw [List.map_cons, List.map_cons, e1], by rw [List.map_cons, List.map_cons, e2], fun p hp => ?_⟩
      rcases List.mem_cons.mp hp with rfl | hp
      · exact h1.2.1
      · exact e3 p hp
  rw [eL1] at ea
  rw [eL2] at hf q
  have hlen0 : L.length ≤ sizeLine := by
    have e := congrArg List.length eL2
    rw [List.length_map, List.length_map] at e
    omega
  have I1 : Inv X pins σ H { s with heap := h', toks := tk } := I.kept hk
  rw [ea]
  refine wpAny_bind (wpAny_newList ?_ (by rw [List.length_map]; exact hlen0))
  have hoL : (h'.push (seqObj "list" (L.map fun p => Value.ref p.1).toArray 0)).get? h'.objs.size = some (seqObj "list" (L.map fun p => Value.ref p.1).toArray 0) := Heap.get?_push_size _ rfl
  show wpAny _ _ _ _ _ { s with heap := h'.push (seqObj "list" (L.map fun p => Value.ref p.1).toArray 0), toks := tk }
  have ok2 : HOk X.prog X.w H (h'.push (seqObj "list" (L.map fun p => Value.ref p.1).toArray 0)) := I1.hok.kept fun b u e => Heap.get?_push_of_some _ e
  refine wpAny_bind (wpAny_holding (PySem.W.list_sort_data (s := { s with heap := h'.push (seqObj "list" (L.map fun p => Value.ref p.1).toArray 0), toks := tk }) (bs := L) (enc := fun b : Addr × Tk => dK b.2) (R := fun v b => v = Value.ref b.1)
    hoL (each_map _ fun b _ => rfl) (each_map _ fun b hb => ⟨[], reads_k ok2 (hL b hb), by simp⟩) hf.alike hf.sortable hlen0 (fun b _ => ?_) fun out hout eo => ?_))
  · have z1 : X.A.in1.units ≤ X.A.units + 3 := by
      unfold Around.in1
      simp
    show X.A.in1.units + 1 + (dK b.2).depth < cLine
    rw [depth_dK]
    omega
  have eo2 := eachIs_back eo
  obtain ⟨c, hcc⟩ := PyProof.Rows.sortedHeap_at (vs := L.map fun p => Value.ref p.1) (out := out.toArray) hoL
  have hlen : ((L.mergeSort (PySem.W.dataLe false fun b => dK b.2)).map fun p => V.ref p.1).length ≤ sizeLine := by
    rw [List.length_map, (List.mergeSort_perm _ _).length_eq]
    exact hlen0
  refine wpAny_pure ⟨_, rfl, .ref h'.objs.size, upd H h'.objs.size (.lst ((L.mergeSort (PySem.W.dataLe false fun b => dK b.2)).map fun p => V.ref p.1)), I1.laid (t' := tk) (fun b u e => ?_) (Nat.le_refl _)
    ⟨hlen, out, c, by rw [eo2]; exact refs_vals _, hcc⟩, rfl, q _ _ (I1.hok.fresh (Nat.le_refl _)) ?_⟩
  · have lt : b < h'.objs.size := Heap.lt_size e
    rw [PyProof.Rows.sortedHeap_old (Nat.ne_of_lt lt) (by rw [size_push']; exact Nat.lt_succ_of_lt lt)]
    exact Heap.get?_push_of_some _ e
  · rw [← sort_pairs]
    exact krs_of fun p hp => hL p ((List.mergeSort_perm _ _).mem_iff.mp hp)
end

end

section
open PySem.Spec PyProof.Rows GxR NdefX
/-! ### all stands that stood, but tables of code objects may have grown -/
structure Kp (H H' : Hp) : Prop where
  at_ : ∀ b o, H b = some o → (∀ ps, o ≠ .tbl ps) → H' b = some o
  tab : ∀ P, TabG H P → TabG H' P
theorem kpS {H H' : Hp} (h : Same H H') : Kp H H' := ⟨fun b o e _ => h b o e, fun P ⟨ps, e, t⟩ => ⟨ps, h _ _ e, t⟩⟩
theorem Kp.refl (H : Hp) : Kp H H := kpS (Same.refl H)
theorem Kp.trans {H H1 H2 : Hp} (a : Kp H H1) (b : Kp H1 H2) : Kp H H2 := ⟨fun c o e n => b.at_ c o (a.at_ c o e n) n, fun P h => b.tab P (a.tab P h)⟩
theorem Tabbed.kp {P : Addr} {H H' : Hp} (h : Tabbed P H H') (t : TabG H P) : Kp H H' := by
  obtain ⟨ps, e0, t0⟩ := t
  refine ⟨fun b o e n => ?_, fun P' ⟨qs, e, t'⟩ => ?_⟩
  · rw [h.2 b fun z => by rw [z, e0] at e; exact n ps (Option.some.inj e).symm]
    exact e
  · by_cases z : P' = P
    · rw [z]
      exact h.1
    · exact ⟨qs, by rw [h.2 _ z]; exact e, t'⟩
section
variable {H H' : Hp}
theorem Kp.ins (k : Kp H H') {b C dx : Addr} {fs : List (Str × V)} (e : H b = some (.ins C dx fs)) : H' b = some (.ins C dx fs) := k.at_ _ _ e fun _ z => nomatch z
theorem Kp.lst (k : Kp H H') {b : Addr} {xs : List V} (e : H b = some (.lst xs)) : H' b = some (.lst xs) := k.at_ _ _ e fun _ z => nomatch z
theorem Kp.tup (k : Kp H H') {b : Addr} {xs : List V} (e : H b = some (.tup xs)) : H' b = some (.tup xs) := k.at_ _ _ e fun _ z => nomatch z
theorem Kp.dT (k : Kp H H') {b : Addr} {kvs : List (Tk × V)} (e : H b = some (.dT kvs)) : H' b = some (.dT kvs) := k.at_ _ _ e fun _ z => nomatch z
theorem Kp.frz (k : Kp H H') {b : Addr} {o : Obj} {u : HO} (e : H b = some (.frz o u)) : H' b = some (.frz o u) := k.at_ _ _ e fun _ z => nomatch z
theorem Kp.seq {K : PySem.W.Frag} (k : Kp H H') {a : Addr} {xs : List V} (h : SqL K H a xs) : SqL K H' a xs := by
  rcases h with (h | ⟨o, h⟩) | h
  · exact .inl (.inl (k.lst h))
  · exact .inl (.inr ⟨o, k.frz h⟩)
  · exact .inr h
theorem Kp.free (k : Kp H H') {l : Addr} (h : H' l = none) : H l = none ∨ ∃ ps, H l = some (.tbl ps) := by
  cases q : H l with
  | none => exact .inl rfl
  | some o =>
    by_cases t : ∃ ps, o = .tbl ps
    · obtain ⟨ps, rfl⟩ := t
      exact .inr ⟨ps, rfl⟩
    · rw [k.at_ _ _ q fun ps z => t ⟨ps, z⟩] at h
      cases h
theorem Kr.kp {v : V} {x : Tk} (h : Kr H v x) (k : Kp H H') : Kr H' v x := by
  obtain ⟨t, rfl, h⟩ := h
  exact ⟨t, rfl, k.tup h⟩
theorem Krs.kp {vs : List V} {ks : List Tk} (h : Krs H vs ks) (k : Kp H H') : Krs H' vs ks := by
  induction h with
  | nil => exact .nil
  | cons a _ ih => exact .cons (a.kp k) ih
theorem Pr.kp {v : V} {p : Pl} (h : Pr H v p) (k : Kp H H') : Pr H' v p := by
  obtain ⟨t, rfl, h⟩ := h
  exact ⟨t, rfl, k.tup h⟩
theorem Prs.kp {vs : List V} {ps : List Pl} (h : Prs H vs ps) (k : Kp H H') : Prs H' vs ps := by
  induction h with
  | nil => exact .nil
  | cons a _ ih => exact .cons (a.kp k) ih
end
/-! ### a def whose code object is known -/
structure FunC (K : PySem.W.Frag) (x qual : Str) (st : Stmt) (f c : Addr) (fd : FuncData) : Prop where
  ex : ∃ (oc : Value) (od : Option Addr) (kV doc pm : Value) (an : Option Addr) (ct : Value) (osl : Array (Option Value)),
    fd = PySem.W.fnOf x qual (defArgs st) (defBody st) (defScope st) .none kV doc pm an (.ref c) ct ∧ K.lookup f = some ⟨oc, od, .func fd, osl⟩ ∧ PySem.W.codeIn K (.ref c) qual = true
  kp : PySem.W.keepIn K (.ref f) = true
section
variable {P : Program} {w : World} {K : PySem.W.Frag} {mg : Str → Option Value} {base : Heap}
theorem FunC.ok {x qual : Str} {st : Stmt} {f c : Addr} {fd : FuncData} {N ps : List Str} {k : Nat} {sp : Sp} (F : FunC K x qual st f c fd) (S : FnScope N ps (defScope st)) (len : ∀ vs H Q E, sp vs H Q E → vs.length = ps.length)
    (hbody : ∀ (A : Around) (outer : List Env) (s : Shared) (H : Hp) (vs : List V) (Q : VK) (E : XK), Room k (A.deeper (envOfC qual (defScope st) s.heap.objs.size f (.ref c))) → sp vs H Q E →
      ∃ t, PSs (cxOf CX0 P w K mg base N qual (defScope st) f (.ref c) A outer s H E).nox (defBody st) t ∧ t { nx := fun _ H' => Q .non H', rt := Q } (start N vs) H) : FnOk P w K mg base CX0 (k + 1) f fd ps sp := by
  obtain ⟨oc, od, kV, doc, pm, an, ct, osl, rfl, lk, hcd⟩ := F.ex
  refine fn_of lk hcd S len fun A outer s H vs Q E hr h => ?_
  obtain ⟨t, z, q⟩ := hbody A outer s H vs Q E hr h
  exact ⟨t, z.nox, q⟩
theorem FunC.okX {x qual : Str} {st : Stmt} {f c : Addr} {fd : FuncData} {N ps : List Str} {k : Nat} {sp : Sp} (F : FunC K x qual st f c fd) (S : FnScope N ps (defScope st)) (len : ∀ vs H Q E, sp vs H Q E → vs.length = ps.length)
    (hbody : ∀ (A : Around) (outer : List Env) (s : Shared) (H : Hp) (vs : List V) (Q : VK) (E : XK), Room k (A.deeper (envOfC qual (defScope st) s.heap.objs.size f (.ref c))) → sp vs H Q E →
      ∃ t, PSs (cxOf (L2.CX P w) P w K mg base N qual (defScope st) f (.ref c) A outer s H E) (defBody st) t ∧ t { nx := fun _ H' => Q .non H', rt := Q } (start N vs) H) : FnOk P w K mg base (L2.CX P w) (k + 1) f fd ps sp := by
  obtain ⟨oc, od, kV, doc, pm, an, ct, osl, rfl, lk, hcd⟩ := F.ex
  exact fn_of lk hcd S len fun A outer s H vs Q E hr h => hbody A outer s H vs Q E hr h
end
/-! ### a generator expression's scope, by looking -/
def gscC (outer sc : Scope) : Bool := (match sc.kind with | .function => true | _ => false) && !sc.isCoroutine && (match sc.names.lookup (".0" : Str) with | some .local => true | _ => false) &&
  (sc.names.all fun y => match y.2 with
    | .cell => false
    | .free => (match outer.names.lookup y.1 with | some .cell => true | _ => false)
    | _ => true)
theorem gsc_by {env : Env} {outer sc : Scope} (ho : env.scope = outer) (hc : env.cells = cellsFrom (env.locals + 1) env.scope.names []) (h : gscC outer sc = true) : GSc env sc := by
  subst ho
  unfold gscC at h
  simp only [Bool.and_eq_true, List.all_eq_true] at h
  obtain ⟨⟨⟨h1, h2⟩, h3⟩, h4⟩ := h
  refine ⟨?_, by simpa using h2, fun y hy e => ?_, ?_, fun y hy e => ?_⟩
  · split at h1
    · assumption
    · cases h1
  · have q := h4 y hy
    rw [e] at q
    cases q
  · split at h3
    · assumption
    · cases h3
  · have q := h4 y hy
    rw [e] at q
    have q2 : (match env.scope.names.lookup y.1 with | some .cell => true | _ => false) = true := q
    split at q2
    · rename_i z
      rw [hc]
      exact cell_has z
    · cases q2
def gfrC (XN : List Str) (outer sc : Scope) (N : List Str) (fr : List (Option Nat)) : Bool := decide (fr.length = N.length) && ((N.zip fr).all fun p => match p.2 with
  | none => true
  | some j => (match sc.names.lookup p.1 with | some .free => true | _ => false) && decide (XN[j]? = some p.1) && (match outer.names.lookup p.1 with | some .cell => true | _ => false))
theorem gfr_by {X : Cx} {outer sc : Scope} {XN N : List Str} {fr : List (Option Nat)} (ho : X.env.scope = outer) (hn : X.N = XN) (h : gfrC XN outer sc N fr = true) : GFr X sc N fr := by
  subst ho hn
  unfold gfrC at h
  simp only [Bool.and_eq_true, List.all_eq_true, decide_eq_true_eq] at h
  obtain ⟨h1, h2⟩ := h
  refine ⟨h1, fun i y j e1 e2 => ?_⟩
  have m : (y, some j) ∈ N.zip fr := by
    refine List.mem_of_getElem? (i := i) ?_
    rw [List.getElem?_zip_eq_some]
    exact ⟨e1, e2⟩
  have q := h2 _ m
  simp only [Bool.and_eq_true, decide_eq_true_eq] at q
  obtain ⟨⟨q1, q2⟩, q3⟩ := q
  refine ⟨?_, q2, .inl ?_⟩
  · split at q1
    · assumption
    · cases q1
  · split at q3
    · assumption
    · cases q3

end

section
open PySem.Spec PyProof.Rows
/-! ### the entries that a dict comprehension over a list lays -/
theorem dcT_list {K : PySem.W.Frag} {a : Addr} {xs : List V} {g : TG} {tk tv : TE} {vs : List Nat} {σ : L2.St} {H1 : Hp} {D : Addr} {Qd : Hp → Prop} (Pv : Nat → Hp → Prop) (h0 : Pv 0 (upd H1 D (.dT []))) (hl : ∀ i H, i ≤ xs.length → Pv i H → SqL K H a xs)
    (hs : ∀ i x H, xs[i]? = some x → Pv i H → g x (wipe σ vs) H fun σ2 H2 => wipe σ2 vs = wipe σ vs ∧ tk σ2 H2 fun y H4 => tv σ2 H4 fun z H5 =>
      ∃ b kvs k, y = .ref b ∧ H5 b = some (.tup (k.map kV)) ∧ H5 D = some (.dT kvs) ∧ kvs.length < sizeLine ∧ Pv (i + 1) (upd H5 D (.dT (putK kvs k z)))) (hd : ∀ H, Pv xs.length H → Qd H) :
    ∃ W : Nat → Nat → Hp → Prop, (∃ m, W 0 m (upd H1 D (.dT []))) ∧ ∀ i m H, W i m H →
      ((Itl K a).stop i H ∧ Qd H) ∨ ((Itl K a).go i H ∧ ∃ Nx : Hp → Prop, (∀ H', Nx H' → ∃ m', m' < m ∧ W (i + 1) m' H') ∧
        ∀ x H', (Itl K a).yld i H x H' → g x (wipe σ vs) H' fun σ2 H2 => wipe σ2 vs = wipe σ vs ∧ tk σ2 H2 fun y H4 => tv σ2 H4 fun z H5 =>
          ∃ b kvs k, y = .ref b ∧ H5 b = some (.tup (k.map kV)) ∧ H5 D = some (.dT kvs) ∧ kvs.length < sizeLine ∧ Nx (upd H5 D (.dT (putK kvs k z)))) := by
  refine ⟨fun i m H => m = xs.length - i ∧ i ≤ xs.length ∧ Pv i H, ⟨xs.length, by simp, Nat.zero_le _, h0⟩, fun i m H w => ?_⟩
  obtain ⟨rfl, le, p⟩ := w
  have q := hl i H le p
  by_cases lt : i < xs.length
  · refine .inr ⟨⟨xs, xs[i], q, List.getElem?_eq_getElem lt⟩, Pv (i + 1), fun H' p' => ⟨xs.length - (i + 1), by omega, rfl, lt, p'⟩, fun x H' y => ?_⟩
    obtain ⟨rfl, y⟩ := y
    exact hs i x _ (y xs q) p
  · obtain rfl : i = xs.length := by omega
    exact .inl ⟨⟨xs, q, Nat.le_refl _⟩, hd H p⟩
theorem snoc_ind {α : Type} {P : List α → Prop} (h0 : P []) (h1 : ∀ l x, P l → P (l ++ [x])) (l : List α) : P l := by
  rw [← List.reverse_reverse l]
  induction l.reverse with
  | nil => exact h0
  | cons x r ih =>
    rw [List.reverse_cons]
    exact h1 _ _ ih
/-- laid one after another -/
def ded (ks : List Tk) : List (Tk × V) := ks.foldl (fun kvs k => putK kvs k (.bl true)) []
theorem ded_snoc (ks : List Tk) (k : Tk) : ded (ks ++ [k]) = putK (ded ks) k (.bl true) := by
  unfold ded
  rw [List.foldl_append]
  rfl
theorem ded_mem : ∀ (ks : List Tk) (k : Tk), (valV (ded ks) k).isSome = decide (k ∈ ks) := by
  intro ks
  refine snoc_ind (P := fun ks : List Tk => ∀ k : Tk, (valV (ded ks) k).isSome = decide (k ∈ ks)) (fun k => by simp [ded, valV_nil]) (fun ks x ih k => ?_) ks
  rw [ded_snoc, valV_put]
  by_cases h : k = x
  · subst h
    simp
  · rw [if_neg h, ih k]
    simp [h]
theorem ded_le (ks : List Tk) : (ded ks).length ≤ ks.length := by
  refine snoc_ind (P := fun ks : List Tk => (ded ks).length ≤ ks.length) (Nat.le_refl _) (fun ks x ih => ?_) ks
  rw [ded_snoc, List.length_append]
  have q := length_putK (ded ks) x (.bl true)
  show _ ≤ ks.length + 1
  omega
theorem putK_old {kvs : List (Tk × V)} {k : Tk} (v : V) (h : (valV kvs k).isSome = true) : (putK kvs k v).length = kvs.length := by
  unfold putK
  rw [if_pos (by rw [valV_any]; exact h), List.length_map]
theorem ded_eq (ks : List Tk) : (ks.Nodup → ded ks = ks.map fun k => (k, V.bl true)) ∧ (¬ ks.Nodup → (ded ks).length < ks.length) := by
  refine snoc_ind (P := fun ks : List Tk => (ks.Nodup → ded ks = ks.map fun k => (k, V.bl true)) ∧ (¬ ks.Nodup → (ded ks).length < ks.length)) ⟨fun _ => rfl, fun h => (h .nil).elim⟩ (fun ks x ih => ?_) ks
  obtain ⟨ih1, ih2⟩ := ih
  have le := ded_le ks
  by_cases hx : x ∈ ks
  · have hv : (valV (ded ks) x).isSome = true := by rw [ded_mem]; exact decide_eq_true hx
    refine ⟨fun h => ?_, fun _ => ?_⟩
    · have z := (List.nodup_append.mp h).2.2 x hx x (by simp)
      exact (z rfl).elim
    · rw [ded_snoc, putK_old _ hv, List.length_append]
      show _ < ks.length + 1
      omega
  · have hv : valV (ded ks) x = none := by
      have q := ded_mem ks x
      rw [decide_eq_false hx] at q
      cases e : valV (ded ks) x with
      | none => rfl
      | some y => rw [e] at q; cases q
    have step : ded (ks ++ [x]) = ded ks ++ [(x, .bl true)] := by rw [ded_snoc, putK_new _ hv]
    refine ⟨fun h => ?_, fun h => ?_⟩
    · rw [step, ih1 (List.nodup_append.mp h).1, List.map_append]
      rfl
    · have hn : ¬ ks.Nodup := fun z => h (List.nodup_append.mpr ⟨z, by simp, fun y hy y' hy' e => by
        rw [List.mem_singleton.mp hy'] at e
        rw [e] at hy
        exact hx hy⟩)
      have q := ih2 hn
      rw [step, List.length_append, List.length_append]
      show (ded ks).length + 1 < ks.length + 1
      omega
theorem ded_keys {ks : List Tk} (h : ks.Nodup) : (ded ks).map (·.1) = ks := by
  rw [(ded_eq ks).1 h, List.map_map]
  exact List.map_id ks

end

section
open PySem.Spec PyProof.Rows
/-! ### set(xs) of tuples, xs a long list with few different ones -/
abbrev Tps := List (Addr × List Int)
def FewT (ks : Tps) : Prop := ∀ L : Tps, (L.map (·.2)).Nodup → (∀ p ∈ L, p ∈ ks) → L.length + 1 < 64
/-- the old heap is there, and the set at S has the first i of ks -/
structure Far (P : Program) (w : World) (old : Heap) (S : Addr) (ks : Tps) (i : Nat) (h : Heap) : Prop where
  kp : ∀ b o, old.get? b = some o → h.get? b = some o
  so : ∃ L es ep t, SetTR P w h S L es ep t ∧ Got ks i L
section
variable {P : Program} {w : World} {A : Around} {old : Heap} {S I : Addr} {ks : Tps}
theorem Far.by {i : Nat} {h h' : Heap} (f : Far P w old S ks i h) (tp : ∀ p ∈ ks, IsT P w old p.2 p.1) (k : ∀ b o, old.get? b = some o → h'.get? b = some o) (kS : ∀ o, h.get? S = some o → h'.get? S = some o) : Far P w old S ks i h' := by
  obtain ⟨L, es, ep, t, r, g⟩ := f.so
  exact ⟨k, L, es, ep, t, r.keep kS fun p hp => isT_keep (tp p (List.mem_of_mem_take (g.sub p hp))) k, g⟩
theorem wide_loop {fp wr : List Addr} {G : Array GenState → Array GenState → Prop} {n : Nat} {Pv : Nat → Value → Prop} {St : Nat → Shared → Prop} {R : Result → Shared → Prop}
    (W : WalksS P w A.in1 I fp wr G n Pv St) (nS : S ∉ fp) (few : FewT ks) (vals : ∀ i v, Pv i v → ∃ p, ks[i]? = some p ∧ v = .ref p.1) (tp : ∀ p ∈ ks, IsT P w old p.2 p.1) (oS : old.get? S = none) (ow : ∀ b ∈ wr, old.get? b = none) (hu : A.in1.units < cLine) :
    ∀ m i (s : Shared), i + m = n → St i s → Far P w old S ks i s.heap → (∀ s', Moved (S :: wr) G s s' → Far P w old S ks n s'.heap → R (.ok (.ret .none)) s') → codeAny (model P w) A (.builtin "set.update.loop" ⟨[.ref S, .ref I], []⟩) R s := by
  have far : ∀ {i : Nat} {s s' : Shared}, Moved wr G s s' → Far P w old S ks i s.heap → Far P w old S ks i s'.heap := fun mv f =>
    f.by tp (fun b o e => mv.heap b o (fun hb => nomatch (ow b hb).symm.trans e) (f.kp b o e)) fun o e => mv.heap S o (fun hb => nS (W.sub _ hb)) e
  have more : ∀ b ∈ wr, b ∈ S :: wr := fun _ hb => .tail _ hb
  intro m
  induction m with
  | zero =>
    intro i s e st f done
    cases (e : i = n)
    refine codeAny_builtin F.entry_set_update_loop ?_
    rw [Around.under_plainId F.plain_set_update_loop _]
    exact wpAny_bind (W.done s _ _ st fun s1 mv => wpAny_pure (done s1 (mv.mono more) (far mv f)))
  | succ m ih =>
    intro i s e st f done
    refine codeAny_builtin F.entry_set_update_loop ?_
    rw [Around.under_plainId F.plain_set_update_loop _]
    refine wpAny_bind (W.item i s _ _ (by omega) st fun v s1 pv st1 mv => ?_)
    obtain ⟨p, hp, rfl⟩ := vals i v pv
    have f1 := far mv f
    obtain ⟨L, es, ep, t, r, g⟩ := f1.so
    have tx : IsT P w s1.heap p.2 p.1 := isT_keep (tp p (List.mem_of_getElem? hp)) f1.kp
    refine wpAny_bind (wpAny_holding ?_)
    unfold setAdd
    refine wpAny_holding (wpAny_bind (wpAny_pyHash_tuple hu tx (add_at (s := { s1 with toks := s1.toks + (p.2.length + 1) }) r tx hu (few L r.nd fun q hq => List.mem_of_mem_take (g.sub q hq)) fun b h2 L2 es2 ep2 t2 sb r2 c1 c2 => ?_)))
    have k2 : ∀ b o, old.get? b = some o → h2.get? b = some o := fun b o z => (sb.2 b (fun y => by rw [y, oS] at z; cases z)).trans (f1.kp b o z)
    have g2 : Got ks (i + 1) L2 := by
      by_cases c : p.2 ∈ L.map (·.2)
      · rw [c1 c]
        exact g.same hp c
      · exact g.more hp (c2 c)
    refine wpAny_pure ⟨plainId_quiet F.plain_set_update_loop _, ih (i + 1) _ (by omega) (W.frame _ s1 _ _ st1 (Nat.le_add_right _ _) fun b hb o z => (sb.2 b fun y => nS (y ▸ hb)).trans z) ⟨k2, L2, es2, ep2, t2, r2, g2⟩ fun s3 mv3 f3 => done s3 (Moved.trans W.gtrans ((mv.mono more).then_heap (Nat.le_add_right _ _) fun b o hb z => (sb.2 b fun y => hb (y ▸ .head _)).trans z) mv3) f3⟩
end

end

section
open PySem.Spec PyProof.Rows
/-- a set as it is made -/
abbrev nuS (w : World) : Obj := { cls := .type "set", dict := none, data := .set #[] 0 (.fresh 0 0 (!w.params.followText "set-order")) }
/-- what set.__init__ leaves -/
def Left (P : Program) (w : World) (s : Shared) (ks : Tps) (s2 : Shared) : Prop := ∃ h' tk, s2 = { s with heap := h', toks := tk } ∧ Far P w s.heap s.heap.objs.size ks ks.length h'
section
variable {P : Program} {w : World} {A : Around} {E : Value → Shared → Prop} {s : Shared} {ks : Tps}
theorem old_none {h : Heap} {b : Addr} (hb : h.objs.size ≤ b) : h.get? b = none := by
  cases z : h.get? b with
  | none => rfl
  | some o => exact absurd (Heap.lt_size z) (Nat.not_lt.mpr hb)
theorem wide_set {l : Addr} {items : Array Value} {Q : Value → Shared → Prop} (hh : A.handled = none) (hl : s.heap.IsList l items) (hit : items.toList = ks.map fun p => Value.ref p.1) (tp : ∀ p ∈ ks, IsT P w s.heap p.2 p.1) (few : FewT ks) (hu : A.units + 3 < cLine)
    (h : ∀ s2, Left P w s ks s2 → Q (.ref s.heap.objs.size) s2) : wpAny (model P w) A (call (.type "set") [.ref l]) Q E s := by
  have size : items.size = ks.length := by
    rw [← Array.length_toList, hit, List.length_map]
  obtain ⟨c, tl, mro⟩ := F.called_set.mro
  have made' := F.called_set.made
  have sub' := F.called_set.sub
  have not' := F.called_set.notType
  have can' := F.called_set.canCreate
  have chk' := F.typeCall_set_1 (.ref l)
  refine wpAny_call (codeAny_of_tree ?_)
  show wpAny _ _ (callAny (.type "set") _) _ _ _
  refine wpAny_pure ⟨Code.quiet_builtin _ (by decide +kernel), codeAny_builtin F.entry_type_call ?_⟩
  rw [Around.under_plain (weight_type_call_type "set" [.ref l] []) rfl]
  repeat (any_goals (first | assumption | wp_step))
  refine codeAny_mono (code_set_led1 (.ref l) (E := E) (Q₁ := fun v s1 => v = .ref s.heap.objs.size ∧ s1 = { s with heap := s.heap.push (nuS w) }) ⟨rfl, rfl⟩) fun r s1 hr => ?_
  cases r with
  | error e => exact hr
  | ok fl =>
    cases fl with
    | ret obj =>
      obtain ⟨rfl, rfl⟩ := hr
      have at_ : (s.heap.push (nuS w)).get? s.heap.objs.size = some (nuS w) := Heap.get?_push_size _ rfl
      have isS : Shared.TypeIs { s with heap := s.heap.push (nuS w) } (.ref s.heap.objs.size) "set" := ⟨_, at_, rfl⟩
      have look' := F.called_set.init.lookup
      have bind' := F.called_set.init.bind (.ref s.heap.objs.size)
      repeat (any_goals (first | assumption | wp_step))
      refine codeAny_mono (codeAny_call_builtin (R := wants (fun r s2 => r = .none ∧ Left P w s ks s2) E) F.called_set.init.plain F.entry_set_init (check_set_init_1 isS ?_)) fun r2 s2 hr2 => ?_
      · obtain ⟨⟨cl, di, da, sl⟩, ho, hc, n0, hd⟩ := hl
        cases (hc : cl = .type "list")
        cases (hd : da = .seq items n0)
        have ho1 := Heap.get?_push_of_some (nuS w) ho
        have il : (s.heap.push (nuS w)).IsList l items := ⟨_, ho1, rfl, n0, rfl⟩
        have a1 := F.sub_list_set
        have a2 := F.sub_list_frozenset
        have a3 : (Value.type "list" == Value.type "dict") = false := by decide
        unfold Builtin.«set.__init__» noKeywords Builtin.Frozenset.updateFrom
        generalize hy : pyIter = Y
        wp_walk
        subst hy
        refine wpAny_pyIter_list il (wpAny_bind (wpAny_runValue ?_))
        have ls : l < s.heap.objs.size := Heap.lt_size ho
        have sz : (s.heap.push (nuS w)).objs.size = s.heap.objs.size + 1 := Heap.size_push ..
        have calm : A.in1.in1.in1.handled = none := by simp [hh]
        have apart : l ≠ (s.heap.push (nuS w)).objs.size := Nat.ne_of_lt (by rw [sz]; exact Nat.lt_succ_of_lt ls)
        refine wide_loop (n := items.size) (old := s.heap) (ks := ks) ((Walks.list calm _ l apart items).toS) ?_ few (fun i v hv => ?_) tp (old_none (Nat.le_refl _)) (fun b hb => old_none ?_) hu items.size 0 _ (Nat.zero_add _) ⟨⟨_, Heap.get?_push_size _ rfl, rfl, rfl⟩, il.push _⟩ ⟨fun b o z => Heap.get?_push_of_some _ (Heap.get?_push_of_some _ z), [], #[], 0, _, setTR_fresh (Heap.get?_push_of_some _ at_), Got.zero ks⟩ fun s3 mv f => ?_
        · rw [sz]
          simp only [List.mem_cons, List.not_mem_nil, or_false, not_or]
          exact ⟨Nat.ne_of_lt (Nat.lt_succ_self _), Nat.ne_of_gt ls⟩
        · have z : items.toList[i]? = some v := by rw [Array.getElem?_toList]; exact hv
          rw [hit, List.getElem?_map] at z
          cases e : ks[i]? with
          | none => rw [e] at z; cases z
          | some p =>
            rw [e] at z
            exact ⟨p, rfl, (Option.some.inj z).symm⟩
        · rw [List.mem_singleton.mp hb, sz]
          omega
        · obtain ⟨h3, g3, d3, k3, o3⟩ := s3
          cases (mv.gens : g3 = s.gens)
          cases (mv.drawn : d3 = s.drawn)
          cases (mv.os : o3 = s.os)
          rw [size] at f
          refine wpAny_pure ?_
          exact wpAny_pure ⟨rfl, h3, k3, rfl, f⟩
      · cases r2 with
        | error e => exact hr2
        | ok fl2 =>
          cases fl2 with
          | ret r =>
            obtain ⟨rfl, lf⟩ := hr2
            repeat (any_goals (first | assumption | wp_step))
            exact h _ lf
          | _ => exact hr2.elim
    | _ => exact hr.elim
end

end

theorem len_sub {α : Type} [DecidableEq α] : ∀ {a b : List α}, a.Nodup → (∀ x ∈ a, x ∈ b) → a.length ≤ b.length
  | [], b, _, _ => Nat.zero_le _
  | x :: a, b, hn, hs => by
    obtain ⟨h1, h2⟩ := List.nodup_cons.mp hn
    have hx := hs x (.head _)
    have z := len_sub (b := b.erase x) h2 fun y hy => (List.mem_erase_of_ne (fun e => h1 (by rw [← e]; exact hy))).mpr (hs y (.tail _ hy))
    rw [List.length_erase_of_mem hx] at z
    have := List.length_pos_of_mem hx
    show a.length + 1 ≤ b.length
    omega
/-- set(xs), xs a list of places of which few are different -/
def rSetW (K : PySem.W.Frag) (P : Program) (w : World) : List V → Hp → VK → Prop := fun xs H Q => ∃ (l : Addr) (vs : List V) (ps : List Pl), xs = [.ref l] ∧ SqL K H l vs ∧ Prs H vs ps ∧ (nub ps).length < 63 ∧ ps.length ≤ 1000 ∧
  ∀ (H' : Hp) (a : Addr), H a = none → Same H H' → SetOf P w H' a ps → Q (.ref a) H'
theorem fewT_of {ks : Tps} {ps : List Pl} (hm : ks.map (·.2) = ps.map fun p => [p.1, p.2]) (hn : (nub ps).length < 63) : FewT ks := fun L nd sub => by
  have inj : ∀ p q : Pl, ([p.1, p.2] : List Int) = [q.1, q.2] → p = q := fun p q e => by
    injection e with e1 e2
    injection e2 with e2 _
    exact Prod.ext e1 e2
  have n2 : ((nub ps).map fun p => ([p.1, p.2] : List Int)).Nodup := List.pairwise_map.mpr ((nub_nd ps).imp fun {p q} ne e => ne (inj p q e))
  have s2 : ∀ k ∈ L.map (·.2), k ∈ (nub ps).map fun p => ([p.1, p.2] : List Int) := fun k hk => by
    obtain ⟨x, hx, rfl⟩ := List.mem_map.mp hk
    have z : x.2 ∈ ps.map fun p => ([p.1, p.2] : List Int) := by
      rw [← hm]
      exact List.mem_map.mpr ⟨x, sub x hx, rfl⟩
    obtain ⟨p, hp, e⟩ := List.mem_map.mp z
    exact List.mem_map.mpr ⟨p, nub_mem.mpr hp, e⟩
  have le := len_sub nd s2
  rw [List.length_map, List.length_map] at le
  omega
section
variable {X : Cx}
theorem cr_setW (hc : X.calm = true) (hu : X.A.units + 64 < cLine) : CallR X (.type "set") (rSetW X.K X.prog X.w) := by
  intro pins s σ H xs us Q I r h
  obtain ⟨l, vs, ps, rfl, hl, hp, hn, hb, q⟩ := h
  obtain ⟨ks, rfl, hk, hm⟩ := prs_ks (K := X.K) hp
  rw [Vals.ref1 r]
  obtain ⟨its, rv, pl, hz⟩ := I.list hl
  have fr : H s.heap.objs.size = none := I.hok.fresh (Nat.le_refl _)
  have tp : ∀ p ∈ ks, IsT X.prog X.w s.heap p.2 p.1 := fun x hx => I.isT (by
    obtain ⟨p, _, e, k⟩ := hk x hx
    rw [e]
    exact SqT.of k)
  refine wide_set (P := X.prog) (w := X.w) (ks := ks) (I.ok.hd hc) pl.isList (by simpa using refs_of_vals rv) tp (fewT_of hm hn) (by omega) ?_
  rintro s2 ⟨h2, tk, rfl, f⟩
  obtain ⟨L, es, ep, t, R, g⟩ := f.so
  refine ⟨.ref s.heap.objs.size, upd H s.heap.objs.size (SetTO X.prog X.w s.heap.objs.size L), I.laid (t' := tk) f.kp (Nat.le_refl _) (setTO_new R.t0), rfl, ?_⟩
  have sm : Same H (upd H s.heap.objs.size (SetTO X.prog X.w s.heap.objs.size L)) := fun b o e => by
    rw [upd_ne (ne_of_none e fr)]
    exact e
  refine q _ s.heap.objs.size fr sm ⟨L, upd_same, fun x hx => ?_, fun p hp' => ?_⟩
  · obtain ⟨p, hp', e, k⟩ := hk x (List.mem_of_mem_take (g.sub x hx))
    exact ⟨p, hp', e, sm _ _ k⟩
  · have m : [p.1, p.2] ∈ ks.map (·.2) := by
      rw [hm]
      exact List.mem_map.mpr ⟨p, hp', rfl⟩
    obtain ⟨x, hx, e⟩ := List.mem_map.mp m
    rw [← e]
    exact g.all x (by rw [List.take_length]; exact hx)
end

def topS (i : Nat) : Stmt := PySem.Challenge.pw_pickaisle_k06_tasks_that_fit.main.body.getD i (.Pass ⟨0, 0, 0, 0⟩)
abbrev s_InvalidPlace___init__ : Stmt := inClass (topS 6) 0
theorem sc_InvalidPlace___init__ : FnScope ["self", "place"] ["self", "place"] (defScope s_InvalidPlace___init__) := ⟨rfl, rfl, rfl, by decide +kernel, rfl, by decide +kernel, by decide +kernel⟩
abbrev s_Task___init__ : Stmt := inClass (topS 9) 0
theorem sc_Task___init__ : FnScope ["self", "start", "end", "picks"] ["self", "start", "end", "picks"] (defScope s_Task___init__) := ⟨rfl, rfl, rfl, by decide +kernel, rfl, by decide +kernel, by decide +kernel⟩
abbrev s_Task_picks : Stmt := inClass (topS 9) 1
theorem sc_Task_picks : FnScope ["self"] ["self"] (defScope s_Task_picks) := ⟨rfl, rfl, rfl, by decide +kernel, rfl, by decide +kernel, by decide +kernel⟩
abbrev s_Task_same_as : Stmt := inClass (topS 9) 8
theorem sc_Task_same_as : FnScope ["self", "other"] ["self", "other"] (defScope s_Task_same_as) := ⟨rfl, rfl, rfl, by decide +kernel, rfl, by decide +kernel, by decide +kernel⟩
abbrev s_check_task : Stmt := topS 10
theorem sc_check_task : FnScope ["house", "task", "place"] ["house", "task"] (defScope s_check_task) := ⟨rfl, rfl, rfl, by decide +kernel, rfl, by decide +kernel, by decide +kernel⟩
abbrev s_joined_tasks : Stmt := topS 11
theorem sc_joined_tasks : FnScope ["first", "second", "picks"] ["first", "second"] (defScope s_joined_tasks) := ⟨rfl, rfl, rfl, by decide +kernel, rfl, by decide +kernel, by decide +kernel⟩
abbrev s_House___init__ : Stmt := inClass (topS 17) 0
theorem sc_House___init__ : FnScope ["self", "lengths", "gaps", "closed", "link"] ["self", "lengths", "gaps", "closed"] (defScope s_House___init__) := ⟨rfl, rfl, rfl, by decide +kernel, rfl, by decide +kernel, by decide +kernel⟩
abbrev s_House_lengths : Stmt := inClass (topS 17) 1
theorem sc_House_lengths : FnScope ["self"] ["self"] (defScope s_House_lengths) := ⟨rfl, rfl, rfl, by decide +kernel, rfl, by decide +kernel, by decide +kernel⟩
abbrev s_House_gaps : Stmt := inClass (topS 17) 2
theorem sc_House_gaps : FnScope ["self"] ["self"] (defScope s_House_gaps) := ⟨rfl, rfl, rfl, by decide +kernel, rfl, by decide +kernel, by decide +kernel⟩
abbrev s_House_closed : Stmt := inClass (topS 17) 3
theorem sc_House_closed : FnScope ["self"] ["self"] (defScope s_House_closed) := ⟨rfl, rfl, rfl, by decide +kernel, rfl, by decide +kernel, by decide +kernel⟩
abbrev s_House_crosses : Stmt := inClass (topS 17) 6
theorem sc_House_crosses : FnScope ["self"] ["self"] (defScope s_House_crosses) := ⟨rfl, rfl, rfl, by decide +kernel, rfl, by decide +kernel, by decide +kernel⟩
abbrev s_House_is_place : Stmt := inClass (topS 17) 7
theorem sc_House_is_place : FnScope ["self", "place", "aisle", "height"] ["self", "place"] (defScope s_House_is_place) := ⟨rfl, rfl, rfl, by decide +kernel, rfl, by decide +kernel, by decide +kernel⟩
abbrev s_House_is_cross : Stmt := inClass (topS 17) 8
theorem sc_House_is_cross : FnScope ["self", "place"] ["self", "place"] (defScope s_House_is_cross) := ⟨rfl, rfl, rfl, by decide +kernel, rfl, by decide +kernel, by decide +kernel⟩
abbrev s_House_is_link : Stmt := inClass (topS 17) 9
theorem sc_House_is_link : FnScope ["self", "link", "word", "aisle", "height"] ["self", "link"] (defScope s_House_is_link) := ⟨rfl, rfl, rfl, by decide +kernel, rfl, by decide +kernel, by decide +kernel⟩
abbrev s__are_long : Stmt := topS 18
theorem sc__are_long : FnScope ["numbers", "number"] ["numbers"] (defScope s__are_long) := ⟨rfl, rfl, rfl, by decide +kernel, rfl, by decide +kernel, by decide +kernel⟩
abbrev s__cross_heights : Stmt := topS 19
theorem sc__cross_heights : FnScope ["lengths", "heights", "length"] ["lengths"] (defScope s__cross_heights) := ⟨rfl, rfl, rfl, by decide +kernel, rfl, by decide +kernel, by decide +kernel⟩
abbrev s__law_row : Stmt := topS 21
theorem sc__law_row : FnScope ["cell", "many", "row", "rest", "state", "k"] ["cell", "many"] (defScope s__law_row) := ⟨rfl, rfl, rfl, by decide +kernel, rfl, by decide +kernel, by decide +kernel⟩
abbrev s__law_numbers : Stmt := topS 22
theorem sc__law_numbers : FnScope ["script", "many", "cells", "each", "numbers", "cell", "number"] ["script", "many"] (defScope s__law_numbers) := ⟨rfl, rfl, rfl, by decide +kernel, rfl, by decide +kernel, by decide +kernel⟩
abbrev s__law_parts : Stmt := topS 23
theorem sc__law_parts : FnScope ["numbers", "at", "most", "lengths", "gaps", "closed", "k", "aisle", "spot", "link"] ["numbers", "at"] (defScope s__law_parts) := ⟨rfl, rfl, rfl, by decide +kernel, rfl, by decide +kernel, by decide +kernel⟩
abbrev s__law_crosses : Stmt := topS 24
theorem sc__law_crosses : FnScope ["lengths", "k"] ["lengths"] (defScope s__law_crosses) := ⟨rfl, rfl, rfl, by decide +kernel, rfl, by decide +kernel, by decide +kernel⟩
abbrev s__law_aims : Stmt := topS 25
theorem sc__law_aims : FnScope ["numbers", "at", "lengths", "gaps", "many", "crosses", "start", "end", "picks", "k", "place"] ["numbers", "at", "lengths", "gaps", "many"] (defScope s__law_aims) := ⟨rfl, rfl, rfl, by decide +kernel, rfl, by decide +kernel, by decide +kernel⟩
abbrev s__law_told : Stmt := topS 26
theorem sc__law_told : FnScope ["house", "task", "error"] ["house", "task"] (defScope s__law_told) := ⟨rfl, rfl, rfl, by decide +kernel, rfl, by decide +kernel, by decide +kernel⟩
abbrev s__law_first_wrong : Stmt := topS 27
theorem sc__law_first_wrong : FnScope ["lengths", "gaps", "start", "end", "picks", "place"] ["lengths", "gaps", "start", "end", "picks"] (defScope s__law_first_wrong) := ⟨rfl, rfl, rfl, by decide +kernel, rfl, by decide +kernel, by decide +kernel⟩
abbrev s__law_shifted : Stmt := topS 28
theorem sc__law_shifted : FnScope ["numbers", "at", "place", "lengths", "kind"] ["numbers", "at", "place", "lengths"] (defScope s__law_shifted) := ⟨rfl, rfl, rfl, by decide +kernel, rfl, by decide +kernel, by decide +kernel⟩
abbrev s__law_grid : Stmt := topS 29
theorem sc__law_grid : FnScope ["wide", "high", "found", "one", "other"] ["wide", "high"] (defScope s__law_grid) := ⟨rfl, rfl, rfl, by decide +kernel, rfl, by decide +kernel, by decide +kernel⟩
abbrev s_law : Stmt := topS 30
theorem sc_law : FnScope ["script", "numbers", "lengths", "gaps", "closed", "house", "start", "end", "picks", "turn", "at", "first", "last", "some", "more", "one", "other", "both", "many", "k", "place"] ["script"] (defScope s_law) := ⟨rfl, rfl, rfl, by decide +kernel, rfl, by decide +kernel, by decide +kernel⟩
/-! ### heaps -/
theorem same_upd {H : Hp} {p : Addr} {o : HO} (h : H p = none) : Same H (upd H p o) := fun b x e => by
  rw [upd_ne (ne_of_none e h)]
  exact e
/-- a list of numbers below 1009 -/
def Small (ns : List Int) : Prop := ∀ n ∈ ns, 0 ≤ n ∧ n < 1009
theorem Small.nil : Small [] := fun _ h => nomatch h
theorem Small.snoc {ns : List Int} (h : Small ns) {n : Int} (h0 : 0 ≤ n) (h1 : n < 1009) : Small (ns ++ [n]) := fun k hk => by
  rcases List.mem_append.mp hk with z | z
  · exact h k z
  · rw [List.mem_singleton] at z
    subst z
    exact ⟨h0, h1⟩
theorem small1e7 {n : Nat} (h : n ≤ 100000) : n < sizeLine := Nat.lt_of_le_of_lt h (by decide)
section
local macro_rules | `(tactic| walk_at "rd1") => `(tactic| first
  | (refine Exists.intro _ (And.intro rfl ?_))
  | (refine ⟨_, _, rfl, rfl, ?_⟩)
  | (refine Or.inl (Exists.intro _ (And.intro rfl ?_)))
  | (refine ⟨_, _, _, rfl, rfl, by assumption, by assumption, ?_⟩)
  | (refine And.intro (Or.inl ⟨rfl, _, SqL.of (by assumption)⟩) ?_)
  | (refine And.intro (by (first | omega | (dsimp only; omega) | (constructor <;> omega) | (refine Or.inl ?_; constructor <;> omega) | (refine Or.inr ?_; constructor <;> omega) | exact ⟨by decide, by decide, by decide⟩)) ?_))
local macro_rules | `(tactic| walk_at "rd") => `(tactic| repeat walk_at "rd1")
variable {P : Program} {w : World} {K : PySem.W.Frag} {mg : Str → Option Value} {base : Heap}
/-- the names of built-ins that no def of the text hides -/
structure DrawTxt (mg : Str → Option Value) (fR : Addr) : Prop where
  abs : mg "abs" = none
  int : mg "int" = none
  range : mg "range" = none
  len : mg "len" = none
  max : mg "max" = none
  row : mg "_law_row" = some (.ref fR)
/-- a row of numbers: a new list of as many numbers as asked, each from 0 to 1008 -/
def spRow : Sp := fun vs H Q _ => ∃ (c : Int) (m : Nat), vs = [.int c, .int m] ∧ m ≤ 1000 ∧
  ∀ (H' : Hp) (p : Addr) (ns : List Int), Same H H' → H p = none → H' p = some (.lst (ns.map V.int)) → ns.length = m → Small ns → Q (.ref p) H'
theorem ok_row {f fR : Addr} {fd : FuncData} {k : Nat} (F : Fun K "_law_row" "_law_row" s__law_row f fd) (T : DrawTxt mg fR) : FnOk P w K mg base CX0 (k + 1) f fd ["cell", "many"] spRow := by
  refine F.ok sc__law_row (fun vs H Q E h => ?_) (fun cdv A outer s H vs Q E hr h => ?_)
  · obtain ⟨c, m, rfl, _⟩ := h
    rfl
  · obtain ⟨c, m, rfl, hm, q⟩ := h
    have nd := sc__law_row.nd
    refine ⟨_, pss_cons (ps_set (i := 2) nd rfl (.inl rfl) (pe_lst pa_nil))
      (pss_cons (ps_set (i := 3) nd rfl (.inl rfl) pe_int)
      (pss_cons (ps_if (pt_cmpR op_ge (pe_callB call_abs (by rfl) T.abs (by decide +kernel) (pa_cons (pv 0) pa_nil)) (pe_op op_pow pe_int pe_int) (nomark _))
          (pss_one (ps_set (i := 3) nd rfl (.inl rfl) (pe_callB call_abs (by rfl) T.abs (by decide +kernel) (pa_cons (pv 0) pa_nil)))) pss_nil)
      (pss_cons (ps_set (i := 4) nd rfl (.inl rfl) (pe_op op_mod (pe_callTy call_int1 (by rfl) T.int (by decide +kernel) (pa_cons (pe_callB call_abs (by rfl) T.abs (by decide +kernel) (pa_cons (pv 0) pa_nil)) pa_nil)) pe_int))
      (pss_cons (ps_for PassesOwn.never rfl (pi_range1 rfl T.range (pa_cons (pv 1) pa_nil)) (pg_name (i := 5) nd rfl (.inl rfl))
        (pss_cons (ps_set (i := 4) nd rfl (.inl rfl) (pe_op op_mod (pe_callTy call_int1 (by rfl) T.int (by decide +kernel)
            (pa_cons (pe_op op_add (pe_op op_mul (pe_op op_add (pv 4) pe_int) pe_int) (pe_op op_mul pe_int (pv 5))) pa_nil)) pe_int))
        (pss_one (ps_if (pt_cmpR op_gt (pv 3) pe_int (nomark _))
          (pss_cons (ps_expr (pe_bm PySem.F.plainAttrs_list PySem.F.slot_list_append PySem.F.type_list_append mt_append (pv 2)
              (pa_cons (pe_op op_mod (pe_callTy call_int1 (by rfl) T.int (by decide +kernel) (pa_cons (pv 3) pa_nil)) pe_int) pa_nil)))
            (pss_one (ps_set (i := 3) nd rfl (.inl rfl) (pe_op op_fdiv (pv 3) pe_int))))
          (pss_one (ps_expr (pe_bm PySem.F.plainAttrs_list PySem.F.slot_list_append PySem.F.type_list_append mt_append (pv 2)
              (pa_cons (pe_op op_mod (pe_callTy call_int1 (by rfl) T.int (by decide +kernel) (pa_cons (pe_op op_fdiv (pv 4) pe_int) pa_nil)) pe_int) pa_nil))))))))
      (pss_one (ps_ret (pv 2))))))), ?_⟩
    refine ⟨Nat.zero_le _, fun r nr => ?_⟩
    have s1 : Same H (upd H r (.lst [])) := same_upd nr
    walk_at "rd"
    refine ite2 (fun hc => ?_) (fun hc => ?_)
    all_goals
      walk_at "rd"
      refine for_range (lo := 0) (n := m) (fun i σ H' => ∃ (ns : List Int) (rst st : Int) (vk : Option V), σ = [some (.int c), some (.int m), some (.ref r), some (.int rst), some (.int st), vk] ∧ Same H H' ∧ H' r = some (.lst (ns.map V.int)) ∧ ns.length = i ∧ Small ns ∧ 0 ≤ st ∧ st < 2147483647)
        ⟨[], _, _, none, rfl, s1, upd_same, rfl, Small.nil, Int.emod_nonneg _ (by decide), Int.emod_lt_of_pos _ (by decide)⟩ ?_ ?_
      · rintro i σ H' hi ⟨ns, rst, st, vk, rfl, sm, hrow, hl, hs, h0, h1⟩
        have hlen : (ns.map V.int).length < sizeLine := by
          rw [List.length_map]
          exact small1e7 (by omega)
        walk_at "rd"
        refine ite2 (fun hc2 => ?_) (fun hc2 => ?_)
        · walk_at "rd"
          refine ⟨ns ++ [rst % 1009], _, _, _, rfl, fun b o e => ?_, ?_, ?_, hs.snoc (Int.emod_nonneg _ (by decide)) (Int.emod_lt_of_pos _ (by decide)), Int.emod_nonneg _ (by decide), Int.emod_lt_of_pos _ (by decide)⟩
          · rw [upd_ne (ne_of_none e nr)]
            exact sm b o e
          · rw [upd_same, List.map_append]
            rfl
          · rw [List.length_append, hl]
            rfl
        · walk_at "rd"
          refine ⟨ns ++ [((st + 1) * 48271 + 69621 * (0 + (i : Int))) % 2147483647 / 2048 % 1009], _, _, _, rfl, fun b o e => ?_, ?_, ?_, hs.snoc (Int.emod_nonneg _ (by decide)) (Int.emod_lt_of_pos _ (by decide)), Int.emod_nonneg _ (by decide), Int.emod_lt_of_pos _ (by decide)⟩
          · rw [upd_ne (ne_of_none e nr)]
            exact sm b o e
          · rw [upd_same, List.map_append]
            rfl
          · rw [List.length_append, hl]
            rfl
      · rintro σ H' ⟨ns, rst, st, vk, rfl, sm, hrow, hl, hs, h0, h1⟩
        exact ⟨_, rfl, q H' r ns sm nr hrow hl hs⟩
/-- as many numbers as asked, drawn from the script: a new list, each from 0 to 1008 -/
def spNumbers (K : PySem.W.Frag) : Sp := fun vs H Q _ => ∃ (a : Addr) (xs : List Int) (m : Nat), vs = [.ref a, .int m] ∧ SqL K H a (xs.map V.int) ∧ xs.length ≤ 63 ∧ m ≤ 200 ∧
  ∀ (H' : Hp) (p : Addr) (ns : List Int), Same H H' → H p = none → H' p = some (.lst (ns.map V.int)) → ns.length = m → Small ns → Q (.ref p) H'
theorem cut_all (xs : List V) (h : xs.length ≤ 63) : cutV xs none (some 63) = xs := by
  unfold cutV
  rw [show HT.sIx xs.length xs.length (some 63) = min 63 xs.length from HT.sIx_nat xs.length xs.length 63, HT.sIx_none, List.drop_zero, Nat.sub_zero, Nat.min_eq_right h, List.take_length]
theorem cut_to (xs : List V) (m : Nat) : cutV xs none (some (m : Int)) = xs.take m := by
  unfold cutV
  rw [HT.sIx_nat, HT.sIx_none, List.drop_zero, Nat.sub_zero]
  rcases Nat.le_total m xs.length with h | h
  · rw [Nat.min_eq_left h]
  · rw [Nat.min_eq_right h, List.take_length, List.take_of_length_le h]
def lenAt (H : Hp) (p : Addr) : Nat := match H p with
  | some (.lst xs) => xs.length
  | _ => 0
theorem lenAt_of {H : Hp} {p : Addr} {xs : List V} (h : H p = some (.lst xs)) : lenAt H p = xs.length := by
  unfold lenAt
  rw [h]
theorem each_nat (m n : Nat) (hm : m ≤ 200) : ∃ e : Nat, 1 + (m : Int).fdiv (if (n : Int) > 1 then (n : Int) else 1) = (e : Int) ∧ e ≤ 201 := by
  have hp : 0 < (if (n : Int) > 1 then (n : Int) else 1) := by split <;> omega
  have e1 : (m : Int).fdiv (if (n : Int) > 1 then (n : Int) else 1) = (m : Int) / (if (n : Int) > 1 then (n : Int) else 1) := Int.fdiv_eq_ediv_of_nonneg _ (Int.le_of_lt hp)
  have h0 : 0 ≤ (m : Int) / (if (n : Int) > 1 then (n : Int) else 1) := Int.ediv_nonneg (by omega) (Int.le_of_lt hp)
  have h1 : (m : Int) / (if (n : Int) > 1 then (n : Int) else 1) ≤ m := Int.ediv_le_self _ (by omega)
  rw [e1]
  exact ⟨(1 + (m : Int) / (if (n : Int) > 1 then (n : Int) else 1)).toNat, by omega, by omega⟩
theorem ok_numbers {f fR : Addr} {fd fdR : FuncData} (F : Fun K "_law_numbers" "_law_numbers" s__law_numbers f fd) (T : DrawTxt mg fR) (FR : Fun K "_law_row" "_law_row" s__law_row fR fdR) (bR : Binds K fdR ["cell", "many"] []) :
    FnOk P w K mg base CX0 2 f fd ["script", "many"] (spNumbers K) := by
  have GR : FnOk P w K mg base CX0 1 fR fdR ["cell", "many"] spRow := ok_row FR T
  refine F.ok sc__law_numbers (fun vs H Q E h => ?_) (fun cdv A outer s H vs Q E hr h => ?_)
  · obtain ⟨a, xs, m, rfl, _⟩ := h
    rfl
  · obtain ⟨a, xs, m, rfl, hS, hx, hm, q⟩ := h
    have nd := sc__law_numbers.nd
    refine ⟨_, pss_cons (ps_set (i := 2) nd rfl (.inl rfl) (pe_slice sl_list (pv 0) po_none (po_some pe_int)))
      (pss_cons (ps_set (i := 3) nd rfl (.inl rfl) (pe_op op_add pe_int (pe_op op_fdivN (pv 1) (pe_callB (call_max2 rfl) (by rfl) T.max (by decide +kernel)
          (pa_cons pe_int (pa_cons (pe_callB call_len (by rfl) T.len (by decide +kernel) (pa_cons (pv 2) pa_nil)) pa_nil))))))
      (pss_cons (ps_set (i := 4) nd rfl (.inl rfl) (pe_lst pa_nil))
      (pss_cons (ps_for PassesOwn.never rfl (pi_list (pv 2)) (pg_name (i := 5) nd rfl (.inl rfl))
        (pss_one (ps_for PassesOwn.never rfl (pi_list (pe_call GR hr (by rfl) T.row FR.kp bR .nil pass0 (pa_cons (pv 5) (pa_cons (pv 3) pa_nil)))) (pg_name (i := 6) nd rfl (.inl rfl))
          (pss_one (ps_expr (pe_bm PySem.F.plainAttrs_list PySem.F.slot_list_append PySem.F.type_list_append mt_append (pv 4) (pa_cons (pv 6) pa_nil)))))))
      (pss_cons (ps_while PassesOwn.never (pt_cmpR op_lt (pe_callB call_len (by rfl) T.len (by decide +kernel) (pa_cons (pv 4) pa_nil)) (pv 1) (nomark _))
        (pss_one (ps_expr (pe_bm PySem.F.plainAttrs_list PySem.F.slot_list_append PySem.F.type_list_append mt_append (pv 4) (pa_cons pe_int pa_nil)))))
      (pss_one (ps_ret (pe_slice sl_list (pv 4) po_none (po_some (pv 1))))))))), ?_⟩
    refine ⟨_, rfl, _, rfl, a, _, rfl, hS, fun c nc => ?_⟩
    rw [cut_all _ (by rw [List.length_map]; exact hx)]
    have s1 : Same H (upd H c (.lst (xs.map V.int))) := same_upd nc
    refine ⟨_, rfl, _, rfl, _, _, rfl, .inl ⟨_, SqL.of upd_same, rfl⟩, _, _, rfl, _, _, rfl, rfl, ?_, ?_⟩
    · constructor
      · rw [List.length_map]
        split <;> omega
      · rw [List.length_map]
        split <;> omega
    refine ⟨_, _, rfl, rfl, ?_⟩
    dsimp only
    obtain ⟨e, he, hle⟩ := each_nat m (List.map V.int xs).length hm
    rw [he]
    refine ⟨Nat.zero_le _, fun b nb => ?_⟩
    have s2 : Same (upd H c (.lst (xs.map V.int))) (upd (upd H c (.lst (xs.map V.int))) b (.lst [])) := same_upd nb
    have nbc : c ≠ b := ne_of_none upd_same nb
    have nb0 : H b = none := s1.free nb
    -- for cell in cells
    refine ⟨_, rfl, c, rfl, ⟨_, SqL.of (s2 _ _ upd_same)⟩, for_list (K := K) (a := c) (xs := xs.map V.int) (fun i σ H' => ∃ (ns : List Int) (v5 v6 : Option V), σ = [some (.ref a), some (.int m), some (.ref c), some (.int e), some (.ref b), v5, v6] ∧ Same H H' ∧ H' c = some (.lst (xs.map V.int)) ∧ H' b = some (.lst (ns.map V.int)) ∧ ns.length ≤ i * 201 ∧ Small ns)
      ⟨[], none, none, rfl, s1.trans s2, s2 _ _ upd_same, upd_same, Nat.zero_le _, Small.nil⟩ (fun i σ H' _ ⟨_, _, _, _, _, hc, _⟩ => SqL.of hc) ?_ ?_⟩
    · rintro i y σ H' hi ⟨ns, v5, v6, rfl, sm, hc, hb, hl, hs⟩
      obtain ⟨z, hz, rfl⟩ : ∃ z, xs[i]? = some z ∧ y = V.int z := by
        rw [List.getElem?_map] at hi
        cases e : xs[i]? with
        | none =>
          rw [e] at hi
          cases hi
        | some z =>
          rw [e] at hi
          exact ⟨z, rfl, (Option.some.inj hi).symm⟩
      have hil : i < xs.length := (List.getElem?_eq_some_iff.mp hz).1
      -- for number in _law_row(cell, each)
      refine ⟨_, rfl, _, rfl, z, e, rfl, by omega, fun H2 r rs s3 nr hr2 hrl hrs => ?_⟩
      refine ⟨r, rfl, ⟨_, SqL.of hr2⟩, for_list (K := K) (a := r) (xs := rs.map V.int) (fun j σ H3 => ∃ (ms : List Int) (v6 : Option V), σ = [some (.ref a), some (.int m), some (.ref c), some (.int e), some (.ref b), some (.int z), v6] ∧ Same H H3 ∧ H3 r = some (.lst (rs.map V.int)) ∧ H3 c = some (.lst (xs.map V.int)) ∧ H3 b = some (.lst (ms.map V.int)) ∧ ms.length = ns.length + j ∧ Small ms)
        ⟨ns, v6, rfl, sm.trans s3, hr2, s3 _ _ hc, s3 _ _ hb, rfl, hs⟩ (fun j σ H3 _ ⟨_, _, _, _, h, _⟩ => SqL.of h) ?_ ?_⟩
      · rintro j y σ H3 hj ⟨ms, v6, rfl, sm3, hr3, hc3, hb3, hl3, hs3⟩
        obtain ⟨n, hn, rfl⟩ : ∃ n, rs[j]? = some n ∧ y = V.int n := by
          rw [List.getElem?_map] at hj
          cases e : rs[j]? with
          | none =>
            rw [e] at hj
            cases hj
          | some z =>
            rw [e] at hj
            exact ⟨z, rfl, (Option.some.inj hj).symm⟩
        have hjl : j < rs.length := (List.getElem?_eq_some_iff.mp hn).1
        have hb3l : (ms.map V.int).length < sizeLine := by
          rw [List.length_map]
          exact small1e7 (by omega)
        have nrb : r ≠ b := fun z => by
          rw [z] at nr
          rw [nr] at hb
          cases hb
        obtain ⟨g0, g1⟩ := hrs n (List.mem_of_getElem? hn)
        walk_at "rd"
        refine ⟨ms ++ [n], _, rfl, fun d o e => ?_, by rw [upd_ne nrb]; exact hr3, by rw [upd_ne nbc]; exact hc3, ?_, ?_, hs3.snoc g0 g1⟩
        · rw [upd_ne (ne_of_none e nb0)]
          exact sm3 d o e
        · rw [upd_same, List.map_append]
          rfl
        · rw [List.length_append, hl3]
          rfl
      · rintro σ H3 ⟨ms, v6, rfl, sm3, hr3, hc3, hb3, hl3, hs3⟩
        rw [List.length_map] at hl3
        exact ⟨ms, _, _, rfl, sm3, hc3, hb3, by rw [Nat.succ_mul]; omega, hs3⟩
    · rintro σ H' ⟨ns, v5, v6, rfl, sm, hc, hb, hl, hs⟩
      rw [List.length_map] at hl
      -- while len(numbers) < many
      refine while_by (fun σ H' => ∃ ns : List Int, σ = [some (.ref a), some (.int m), some (.ref c), some (.int e), some (.ref b), v5, v6] ∧ Same H H' ∧ H' b = some (.lst (ns.map V.int)) ∧ Small ns) (fun _ H' => m - lenAt H' b)
        ⟨ns, rfl, sm, hb, hs⟩ ?_ ?_
      · rintro σ H' ⟨ns, rfl, sm, hb, hs⟩
        refine ⟨_, rfl, _, _, rfl, .inl ⟨_, SqL.of hb, rfl⟩, _, rfl, _, _, rfl, rfl, _, rfl, ?_⟩
        rw [List.length_map]
        refine ite2 (fun hlt => ?_) (fun hlt => ?_)
        · have hlt' : ns.length < m := by
            have := of_decide_eq_true hlt
            omega
          have hbl : (ns.map V.int).length < sizeLine := by
            rw [List.length_map]
            exact small1e7 (by omega)
          walk_at "rd"
          refine ⟨⟨ns ++ [0], rfl, fun d o e => ?_, ?_, hs.snoc (by decide) (by decide)⟩, ?_⟩
          · rw [upd_ne (ne_of_none e nb0)]
            exact sm d o e
          · rw [upd_same, List.map_append]
            rfl
          · rw [lenAt_of upd_same, lenAt_of hb, List.length_append, List.length_map]
            show m - (ns.length + 1) < m - ns.length
            omega
        · have hge : m ≤ ns.length := by
            have : ¬ ((ns.length : Int) < (m : Int)) := fun z => hlt (decide_eq_true z)
            omega
          refine ⟨_, rfl, _, rfl, _, rfl, b, _, rfl, SqL.of hb, fun p np => ?_⟩
          rw [cut_to, ← List.map_take]
          refine q _ p (ns.take m) (fun d o e => ?_) (sm.free np) upd_same (by rw [List.length_take]; omega) (fun n hn => hs n (List.mem_of_mem_take hn))
          rw [upd_ne (ne_of_none (sm d o e) np)]
          exact sm d o e
      · rintro σ H Q Q' h ⟨v, e1, x, n, e2, l, u, e3, i, j, ei, ej, k, ek, q⟩
        exact ⟨v, e1, x, n, e2, l, u, e3, i, j, ei, ej, k, ek, h _ _ q⟩
end

/-! ### houses: their helpers -/
section
open GxR NdefX PySem.Spec PyProof.Rows
variable {P : Program} {w : World} {K : PySem.W.Frag} {mg : Str → Option Value} {base : Heap}
def longN (n : Int) : Bool := decide (1 ≤ n) && decide (n ≤ 40)
/-- what the top has left for them -/
structure HouseTop (mg : Str → Option Value) : Prop where
  all : mg "all" = none
  len : mg "len" = none
  sum : mg "sum" = none
  list : mg "list" = none
  sorted : mg "sorted" = none
  range : mg "range" = none
  longest : ∃ t, mg "LONGEST" = some (.int 40 t)
  stretches : ∃ t, mg "MOST_STRETCHES" = some (.int 2 t)
  mostGaps : ∃ t, mg "MOST_GAPS" = some (.int 11 t)
  mostClosed : ∃ t, mg "MOST_CLOSED" = some (.int 200 t)
def spLong (K : PySem.W.Frag) (T : Addr) : Sp := fun vs H Q _ => ∃ (l : Addr) (ns : List Int), vs = [.ref l] ∧ SqL K H l (ns.map V.int) ∧ TabG H T ∧
  ∀ H', Tabbed T H H' → Q (.bl (ns.all longN)) H'
theorem ok_long {f c T : Addr} {fd : FuncData} (F : FunC K "_are_long" "_are_long" s__are_long f c fd) (Z : HouseTop mg) (TB : TabB base mg c T) : FnOk P w K mg base CX0 3 f fd ["numbers"] (spLong K T) := by
  refine F.ok sc__are_long (fun vs H Q E h => ?_) (fun A outer s H vs Q E hr h => ?_)
  · obtain ⟨l, ns, rfl, _⟩ := h
    rfl
  · obtain ⟨l, ns, rfl, hl, ht, q⟩ := h
    obtain ⟨t, hlong⟩ := Z.longest
    refine ⟨_, pss_one (ps_ret (pe_allG (k := 1) (N := ["number"]) (fr := [none]) (g := gName 0) hr (by rfl) Z.all (by decide +kernel) TB rfl (gsc_by (outer := defScope s__are_long) rfl rfl (by decide +kernel)) (gfr_by (outer := defScope s__are_long) (XN := ["numbers", "number"]) rfl rfl (by decide +kernel)) (pi_list (pv 0))
      (fun B s0 H0 cd fp rB => ⟨pg_name (i := 0) (show (["number"] : List Str).Nodup by decide) rfl (.inl rfl), pe_chain op_le op_le pe_int (pv 0) (pe_glob (v := .int 40) rfl hlong ⟨_, rfl⟩)⟩) (fun _ => rfl))), ?_⟩
    refine ⟨_, rfl, l, rfl, ⟨_, hl⟩, ht, fun H2 t2 => ?_⟩
    have hl2 : SqL K H2 l (ns.map V.int) := (Tabbed.kp t2 ht).seq hl
    refine for_list (K := K) (a := l) (xs := ns.map V.int) (fun i σ H' => (∃ z, σ = [z]) ∧ H' = H2 ∧ (ns.take i).all longN = true) ?_ ?_ ?_ ?_
    · exact ⟨⟨none, rfl⟩, rfl, rfl⟩
    · rintro i σ H' _ ⟨_, rfl, _⟩
      exact hl2
    · rintro i x σ H' hx ⟨⟨z, rfl⟩, rfl, hp⟩
      rw [List.getElem?_map] at hx
      cases hn : ns[i]? with
      | none => rw [hn] at hx; cases hx
      | some n =>
        rw [hn] at hx
        cases hx
        have et : ns.take (i + 1) = ns.take i ++ [n] := by rw [List.take_add_one, hn]; rfl
        have fals : longN n = false → ns.all longN = false := fun e => by
          rw [Bool.eq_false_iff]
          intro z
          rw [List.all_eq_true] at z
          rw [z n (List.mem_of_getElem? hn)] at e
          cases e
        refine ⟨_, rfl, _, _, rfl, rfl, _, rfl, ?_⟩
        refine ite2 (fun h1 => ?_) (fun h1 => ?_)
        · refine ⟨_, _, rfl, rfl, _, rfl, ?_⟩
          refine ite2 (fun h2 => ?_) (fun h2 => ?_)
          · have e : longN n = false := by
              unfold longN
              rw [h2, Bool.and_false]
            have z := q H' t2
            rw [fals e] at z
            exact z
          · refine ⟨⟨_, rfl⟩, rfl, ?_⟩
            have e2 : decide (n ≤ 40) = true := by simpa using h2
            rw [et, List.all_append, hp]
            show (true && (longN n && true)) = true
            unfold longN
            rw [h1, e2]
            rfl
        · refine ⟨_, rfl, ?_⟩
          rw [if_pos rfl]
          have e : longN n = false := by
            unfold longN
            rw [show decide (1 ≤ n) = false by simpa using h1]
            rfl
          have z := q H' t2
          rw [fals e] at z
          exact z
    · rintro σ H' ⟨_, rfl, hp⟩
      rw [List.length_map, List.take_length] at hp
      have z := q H' t2
      rw [hp] at z
      exact z
end

/-! ### houses: cross heights, links -/
section
open GxR NdefX PySem.Spec PyProof.Rows
variable {P : Program} {w : World} {K : PySem.W.Frag} {mg : Str → Option Value} {base : Heap}
def crossN (ns : List Int) : List Int := (List.range (ns.length + 1)).map fun k => (ns.take k).sum
theorem atI_last {α : Type} (xs : List α) (x : α) : atI (xs ++ [x]) (-1) = some x := by
  unfold atI ixN
  rw [if_neg (by decide), List.length_append]
  have h : (-(1 : Int) : Int) + ((xs.length + [x].length : Nat) : Int) = (xs.length : Int) := by
    show (-1 : Int) + ((xs.length + 1 : Nat) : Int) = _
    omega
  split
  · show (xs ++ [x])[(-1 + ((xs.length + [x].length : Nat) : Int)).toNat]? = some x
    rw [h]
    simp
  · rename_i z
    exact absurd (by show -((xs.length + 1 : Nat) : Int) ≤ -1; omega) z
def spCross (K : PySem.W.Frag) : Sp := fun vs H Q _ => ∃ (l : Addr) (ns : List Int), vs = [.ref l] ∧ SqL K H l (ns.map V.int) ∧ ns.length ≤ 1000 ∧
  ∀ (H' : Hp) (p : Addr), Same H H' → H p = none → H' p = some (.lst ((crossN ns).map V.int)) → Q (.ref p) H'
theorem ok_cross {f : Addr} {fd : FuncData} (F : Fun K "_cross_heights" "_cross_heights" s__cross_heights f fd) : FnOk P w K mg base CX0 2 f fd ["lengths"] (spCross K) := by
  refine F.ok sc__cross_heights (fun vs H Q E h => ?_) (fun cdv A outer s H vs Q E hr h => ?_)
  · obtain ⟨l, ns, rfl, _⟩ := h
    rfl
  · obtain ⟨l, ns, rfl, hl, hn, q⟩ := h
    have nd := sc__cross_heights.nd
    refine ⟨_, (pss_cons (ps_set (i := 1) nd rfl (.inl rfl) (pe_lst (pa_cons pe_int pa_nil)))
      (pss_cons (ps_for PassesOwn.never rfl (pi_list (pv 0)) (pg_name (i := 2) nd rfl (.inl rfl)) (pss_one (ps_expr (pe_bm PySem.F.plainAttrs_list PySem.F.slot_list_append PySem.F.type_list_append mt_append (pv 1) (pa_cons (pe_op op_add (pe_ix ix_list (pv 1) (pe_un un_neg pe_int) (fun _ _ => rfl)) (pv 2)) pa_nil)))))
      (pss_one (ps_ret (pv 1))))), ?_⟩
    refine ⟨by decide, fun r nr => ?_⟩
    have sR : ∀ o, Same H (upd H r o) := fun o => same_upd nr
    refine ⟨_, rfl, l, rfl, ⟨_, (sR _).seq hl⟩, ?_⟩
    refine for_list (K := K) (a := l) (xs := ns.map V.int) (fun i σ H' => (∃ z, σ = [some (.ref l), some (.ref r), z]) ∧ H' = upd H r (.lst (((List.range (i + 1)).map fun k => (ns.take k).sum).map V.int))) ?_ ?_ ?_ ?_
    · exact ⟨⟨none, rfl⟩, rfl⟩
    · rintro i σ H' _ ⟨_, rfl⟩
      exact (sR _).seq hl
    · rintro i x σ H' hx ⟨⟨z, rfl⟩, rfl⟩
      rw [List.getElem?_map] at hx
      cases hi : ns[i]? with
      | none => rw [hi] at hx; cases hx
      | some n =>
        rw [hi] at hx
        cases hx
        have lt := (List.getElem?_eq_some_iff.mp hi).1
        have et : ns.take (i + 1) = ns.take i ++ [n] := by rw [List.take_add_one, hi]; rfl
        have er : ((List.range (i + 1)).map fun k => (ns.take k).sum).map V.int = (((List.range i).map fun k => (ns.take k).sum).map V.int) ++ [V.int (ns.take i).sum] := by
          rw [List.range_succ, List.map_append, List.map_append]
          rfl
        refine ⟨_, rfl, ?_⟩
        refine And.intro (Or.inl ⟨rfl, _, SqL.of upd_same⟩) ?_
        refine ⟨_, rfl, _, rfl, r, _, -1, _, rfl, rfl, SqL.of upd_same, by rw [er]; exact atI_last _ _, _, rfl, _, _, rfl, rfl, ?_⟩
        refine ⟨r, _, _, rfl, rfl, upd_same, ?_, ⟨_, rfl⟩, ?_⟩
        · rw [List.length_map, List.length_map, List.length_range, sizeLine_eq]
          omega
        · rw [upd_upd, List.range_succ (n := i + 1), List.map_append, List.map_append]
          show upd H r (.lst (_ ++ [V.int ((ns.take i).sum + n)])) = upd H r (.lst (_ ++ [V.int (ns.take (i + 1)).sum]))
          rw [et, List.sum_append]
          simp
    · rintro σ H' ⟨⟨z, rfl⟩, rfl⟩
      refine ⟨_, rfl, ?_⟩
      rw [List.length_map]
      exact q _ r (sR _) nr upd_same
end

/-! ### houses: what stands in one -/
section
open GxR NdefX PySem.Spec PyProof.Rows
variable {P : Program} {w : World} {K : PySem.W.Frag} {mg : Str → Option Value} {base : Heap}
def hf (l g c t d : V) : List (Str × V) := putF "_closed" d (putF "_top" t (putF "_crosses" c (putF "_gaps" g (putF "_lengths" l []))))
theorem hk1 : ¬ (("_lengths" : Str) = "_gaps") := by decide +kernel
theorem hk2 : ¬ (("_lengths" : Str) = "_crosses") := by decide +kernel
theorem hk3 : ¬ (("_lengths" : Str) = "_top") := by decide +kernel
theorem hk4 : ¬ (("_lengths" : Str) = "_closed") := by decide +kernel
theorem hk5 : ¬ (("_gaps" : Str) = "_crosses") := by decide +kernel
theorem hk6 : ¬ (("_gaps" : Str) = "_top") := by decide +kernel
theorem hk7 : ¬ (("_gaps" : Str) = "_closed") := by decide +kernel
theorem hk8 : ¬ (("_crosses" : Str) = "_top") := by decide +kernel
theorem hk9 : ¬ (("_crosses" : Str) = "_closed") := by decide +kernel
theorem hk10 : ¬ (("_top" : Str) = "_closed") := by decide +kernel
section
variable (l g c t d : V)
theorem hf_lengths : (hf l g c t d).lookup ("_lengths" : Str) = some l := by
  unfold hf
  rw [lookup_putF, if_neg hk4, lookup_putF, if_neg hk3, lookup_putF, if_neg hk2, lookup_putF, if_neg hk1, lookup_putF, if_pos rfl]
theorem hf_gaps : (hf l g c t d).lookup ("_gaps" : Str) = some g := by
  unfold hf
  rw [lookup_putF, if_neg hk7, lookup_putF, if_neg hk6, lookup_putF, if_neg hk5, lookup_putF, if_pos rfl]
theorem hf_crosses : (hf l g c t d).lookup ("_crosses" : Str) = some c := by
  unfold hf
  rw [lookup_putF, if_neg hk9, lookup_putF, if_neg hk8, lookup_putF, if_pos rfl]
theorem hf_top : (hf l g c t d).lookup ("_top" : Str) = some t := by
  unfold hf
  rw [lookup_putF, if_neg hk10, lookup_putF, if_pos rfl]
theorem hf_closed : (hf l g c t d).lookup ("_closed" : Str) = some d := by
  unfold hf
  rw [lookup_putF, if_pos rfl]
theorem hf_no {m : Str} (h1 : ¬ m = "_lengths") (h2 : ¬ m = "_gaps") (h3 : ¬ m = "_crosses") (h4 : ¬ m = "_top") (h5 : ¬ m = "_closed") : (hf l g c t d).lookup m = none := by
  unfold hf
  rw [lookup_putF, if_neg h5, lookup_putF, if_neg h4, lookup_putF, if_neg h3, lookup_putF, if_neg h2, lookup_putF, if_neg h1]
  rfl
end
/-- a link's key -/
def lk (x : Str) (a h : Int) : Tk := [.inr x, .inl a, .inl h]
/-- it is one of the house -/
def isLk (ls gs : List Int) (x : Str) (a h : Int) : Bool :=
  if x = "up" then (decide (0 ≤ a) && decide (a ≤ gs.length)) && (decide (0 ≤ h) && decide (h < ls.sum))
  else decide (x = "over") && ((decide (0 ≤ a) && decide (a < gs.length)) && decide (h ∈ crossN ls))
/-- the fields that do not tell the closed links -/
def PartAt (C : Addr) (H : Hp) (p : Addr) (ls gs : List Int) : Prop := ∃ (dx l g c : Addr) (d : V), H p = some (.ins C dx (hf (.ref l) (.ref g) (.ref c) (.int ls.sum) d)) ∧
  H l = some (.lst (ls.map V.int)) ∧ H g = some (.lst (gs.map V.int)) ∧ H c = some (.lst ((crossN ls).map V.int))
theorem PartAt.kp {C : Addr} {H H' : Hp} {p : Addr} {ls gs : List Int} (h : PartAt C H p ls gs) (k : Kp H H') : PartAt C H' p ls gs := by
  obtain ⟨dx, l, g, c, d, h1, h2, h3, h4⟩ := h
  exact ⟨dx, l, g, c, d, k.ins h1, k.lst h2, k.lst h3, k.lst h4⟩
structure HouseTxt (K : PySem.W.Frag) (mg : Str → Option Value) (C : Addr) : Prop where
  cl : Cls K C
  nL : NoAttr K C "_lengths"
  nG : NoAttr K C "_gaps"
  nX : NoAttr K C "_crosses"
  nT : NoAttr K C "_top"
  nC : NoAttr K C "_closed"
theorem inV_ints (x : Int) (ns : List Int) : inV (.int x) (ns.map V.int) = decide (x ∈ ns) := by
  unfold inV
  induction ns with
  | nil => simp
  | cons n ns ih =>
    rw [List.map_cons, List.any_cons, ih]
    have e : eqV (.int n) (.int x) = decide (n = x) := by rfl
    rw [e]
    by_cases h : n = x
    · subst h; simp
    · have h2 : ¬ x = n := fun z => h z.symm
      simp [h, h2]
theorem flat_ints (ns : List Int) : (ns.map V.int).all flatV = true := by
  rw [List.all_eq_true]
  intro x hx
  obtain ⟨n, _, rfl⟩ := List.mem_map.mp hx
  rfl
/-- the reading of te hands out v and changes nothing -/
def Tells (te : TE) (σ : L2.St) (H : Hp) (v : V) : Prop := ∀ Q : VK, Q v H → te σ H Q
theorem tells_chain {tb tc : TE} {σ : L2.St} {H : Hp} {i0 j n : Int} {f : Int → Int → Bool} (hb : Tells tb σ H (.int j)) (hc : Tells tc σ H (.int n)) :
    Tells (tChain (rI0 fun i j => V.bl (decide (i ≤ j))) (rI0 fun i j => V.bl (f i j)) (tC (.int i0)) tb tc) σ H (.bl (decide (i0 ≤ j) && f j n)) := fun Q q => by
  refine hb _ ⟨_, _, rfl, rfl, _, rfl, ?_⟩
  refine ite2 (fun h => ?_) (fun h => ?_)
  · refine hc _ ⟨_, _, rfl, rfl, ?_⟩
    rw [h, Bool.true_and] at q
    exact q
  · rw [show decide (i0 ≤ j) = false by simpa using h, Bool.false_and] at q
    exact q
theorem tells_and {ta tb : TE} {σ : L2.St} {H : Hp} {a b : Bool} (ha : Tells ta σ H (.bl a)) (hb : Tells tb σ H (.bl b)) : Tells (tAndV ta tb) σ H (.bl (a && b)) := fun Q q => by
  refine ha _ ⟨_, rfl, ?_⟩
  cases a with
  | true => exact hb _ q
  | false => exact q
def spLink (C : Addr) : Sp := fun vs H Q _ => ∃ (p : Addr) (v : V) (ls gs : List Int) (x : Str) (a h : Int), vs = [.ref p, v] ∧ PartAt C H p ls gs ∧ Kr H v (lk x a h) ∧ Q (.bl (isLk ls gs x a h)) H
theorem ok_link {f C : Addr} {fd : FuncData} (F : Fun K "is_link" "House.is_link" s_House_is_link f fd) (Z : HouseTop mg) (T : HouseTxt K mg C) : FnOk P w K mg base CX0 1 f fd ["self", "link"] (spLink C) := by
  refine F.ok sc_House_is_link (fun vs H Q E h => ?_) (fun cdv A outer s H vs Q E hr h => ?_)
  · obtain ⟨p, v, ls, gs, x, a, h, rfl, _⟩ := h
    rfl
  · obtain ⟨p, v, ls, gs, x, a, h, rfl, ⟨dx, l, g, c, d, h1, h2, h3, h4⟩, ⟨t, rfl, ht⟩, q⟩ := h
    have nd := sc_House_is_link.nd
    refine ⟨_, (pss_cons (ps_asg (pv 1) (pg_tup rfl (pgs_cons (pg_name (i := 2) nd rfl (.inl rfl)) (pgs_cons (pg_name (i := 3) nd rfl (.inl rfl)) (pgs_cons (pg_name (i := 4) nd rfl (.inl rfl)) pgs_nil)))))
      (pss_cons (ps_if (pt_cmpR op_eq (pv 2) pe_str (nomark _)) (pss_one (ps_ret (pe_and (pe_chain op_le op_le pe_int (pv 3) (pe_callB call_len (by rfl) Z.len (by decide +kernel) (pa_cons (pe_fld (pv 0) rfl) pa_nil))) (pe_one (pe_chain op_le op_lt pe_int (pv 4) (pe_fld (pv 0) rfl)))))) pss_nil)
      (pss_one (ps_ret (pe_and (pe_cmpR op_eq (pv 2) pe_str (nomark _)) (pe_and (pe_chain op_le op_lt pe_int (pv 3) (pe_callB call_len (by rfl) Z.len (by decide +kernel) (pa_cons (pe_fld (pv 0) rfl) pa_nil))) (pe_one (pe_cmpR op_in_seq (pv 4) (pe_fld (pv 0) rfl) (by rfl))))))))), ?_⟩
    refine ⟨_, rfl, t, _, rfl, SqT.of ht, rfl, _, _, rfl, _, _, rfl, _, _, rfl, rfl, ?_⟩
    have var : ∀ {σ : L2.St} {i : Nat} {v : V}, σ[i]? = some (some v) → Tells (tVar i) σ H v := fun e Q q => ⟨_, e, q⟩
    have fld : ∀ {σ : L2.St} {f : Str} {v : V}, σ[0]? = some (some (V.ref p)) → NoAttr K C f → (hf (.ref l) (.ref g) (.ref c) (.int ls.sum) d).lookup f = some v → Tells (tFld K (tVar 0) f) σ H v := fun e n z Q q =>
      ⟨_, e, p, C, dx, _, _, rfl, h1, T.cl, n, z, q⟩
    have cnt : ∀ {σ : L2.St}, σ[0]? = some (some (V.ref p)) → Tells (tCB (fun xs H1 Q => ∃ x n, xs = [x] ∧ LenV K x H1 n ∧ Q (V.int (n : Nat)) H1) (tCons (tFld K (tVar 0) "_gaps") tNil)) σ H (.int gs.length) := fun e Q q =>
      fld e T.nG (hf_gaps _ _ _ _ _) _ ⟨_, _, rfl, .inl ⟨_, SqL.of h3, rfl⟩, by rw [List.length_map]; exact q⟩
    refine ⟨_, rfl, rfl, _, rfl, ?_⟩
    refine ite2 (fun hc => ?_) (fun hc => ?_)
    · have hx : x = "up" := V.str.inj (of_decide_eq_true hc)
      refine tells_and (tells_chain (f := fun i j => decide (i ≤ j)) (var rfl) (cnt rfl)) (tells_chain (f := fun i j => decide (i < j)) (var rfl) (fld rfl T.nT (hf_top _ _ _ _ _))) _ ?_
      unfold isLk at q
      rw [if_pos hx] at q
      exact q
    · have hx : ¬ x = "up" := fun z => by
        rw [z] at hc
        exact hc (decide_eq_true rfl)
      have eqq : Tells (tOp rEq (tVar 2) (tC (V.str "over"))) [some (.ref p), some (.ref t), some (.str x), some (.int a), some (.int h)] H (.bl (decide (x = "over"))) := fun Q q =>
        ⟨_, rfl, rfl, by rw [show decide (V.str x = V.str "over") = decide (x = "over") by simp]; exact q⟩
      have inn : Tells (tOp (rIn K false) (tVar 4) (tFld K (tVar 0) "_crosses")) [some (.ref p), some (.ref t), some (.str x), some (.int a), some (.int h)] H (.bl (decide (h ∈ crossN ls))) := fun Q q =>
        ⟨_, rfl, fld rfl T.nX (hf_crosses _ _ _ _ _) _ ⟨c, _, rfl, .inl (SqL.of h4), rfl, flat_ints _, by rw [inV_ints]; exact q⟩⟩
      refine tells_and eqq (tells_and (tells_chain (f := fun i j => decide (i < j)) (var rfl) (cnt rfl)) inn) _ ?_
      unfold isLk at q
      rw [if_neg hx] at q
      exact q
end

/-! ### houses: made -/
section
open GxR NdefX PySem.Spec PyProof.Rows
variable {P : Program} {w : World} {K : PySem.W.Frag} {mg : Str → Option Value} {base : Heap}
theorem Room.units0 {k : Nat} {A : Around} (r : Room k A) : A.units < cLine := by
  have := r.un
  omega
/-- all but what is at p is as it was, tables aside -/
structure KpB (p : Addr) (H H' : Hp) : Prop where
  at_ : ∀ b o, H b = some o → b ≠ p → (∀ ps, o ≠ .tbl ps) → H' b = some o
  tab : ∀ P, TabG H P → TabG H' P
section
variable {p : Addr} {H H1 H2 : Hp}
theorem KpB.refl : KpB p H H := ⟨fun _ _ e _ _ => e, fun _ t => t⟩
theorem KpB.kp (k : KpB p H H1) (m : Kp H1 H2) : KpB p H H2 := ⟨fun b o e n t => m.at_ b o (k.at_ b o e n t) t, fun P t => m.tab P (k.tab P t)⟩
theorem KpB.new {r : Addr} {o : HO} (k : KpB p H H1) (n : H1 r = none) : KpB p H (upd H1 r o) := k.kp (kpS (same_upd n))
theorem KpB.put {C dx : Addr} {fs gs : List (Str × V)} (k : KpB p H H1) (hp : H1 p = some (.ins C dx fs)) : KpB p H (upd H1 p (.ins C dx gs)) :=
  ⟨fun b o e n t => by rw [upd_ne n]; exact k.at_ b o e n t, fun P t => by
    obtain ⟨ps, e, t'⟩ := k.tab P t
    exact ⟨ps, by rw [upd_ne (ne_of hp e fun z => nomatch z).symm]; exact e, t'⟩⟩
end
/-- a new object is laid, then a field of p is set -/
theorem stepF {p r C dx : Addr} {fs gs : List (Str × V)} {H H2 : Hp} {o : HO} (kb : KpB p H H2) (hp : H2 p = some (.ins C dx fs)) (n : H2 r = none) :
    ∃ H3, upd (upd H2 r o) p (.ins C dx gs) = H3 ∧ KpB p H H3 ∧ H3 p = some (.ins C dx gs) ∧ H3 r = some o ∧ (∀ b u, H2 b = some u → b ≠ p → H3 b = some u) ∧ ∀ b, H3 b = none → H2 b = none := by
  have pr : p ≠ r := ne_of_none hp n
  refine ⟨_, rfl, (kb.new n).put (fs := fs) (by rw [upd_ne pr]; exact hp), upd_same, by rw [upd_ne pr.symm, upd_same], fun b u e h => ?_, fun b e => ?_⟩
  · rw [upd_ne h, upd_ne (ne_of_none e n)]
    exact e
  · cases q : H2 b with
    | none => rfl
    | some u =>
      by_cases z : b = p
      · rw [z, upd_same] at e
        cases e
      · rw [upd_ne z, upd_ne (ne_of_none q n), q] at e
        cases e
theorem stepP {p C dx : Addr} {fs gs : List (Str × V)} {H H2 : Hp} (kb : KpB p H H2) (hp : H2 p = some (.ins C dx fs)) :
    ∃ H3, upd H2 p (.ins C dx gs) = H3 ∧ KpB p H H3 ∧ H3 p = some (.ins C dx gs) ∧ (∀ b u, H2 b = some u → b ≠ p → H3 b = some u) ∧ ∀ b, H3 b = none → H2 b = none := by
  refine ⟨_, rfl, kb.put hp, upd_same, fun b u e h => by rw [upd_ne h]; exact e, fun b e => ?_⟩
  by_cases z : b = p
  · rw [z, upd_same] at e
    cases e
  · rw [upd_ne z] at e
    exact e
theorem lenF {f : Str} {v : V} {fs : List (Str × V)} {n : Nat} (h : fs.length < n) : (putF f v fs).length < n + 1 := by
  have q := length_putF f v fs
  omega
theorem seqP {K : PySem.W.Frag} {p C dx a : Addr} {fs : List (Str × V)} {H H2 : Hp} {xs : List V} (hp : H p = some (.ins C dx fs)) (k : ∀ b u, H b = some u → b ≠ p → H2 b = some u) (h : SqL K H a xs) : SqL K H2 a xs := by
  rcases h with (h | ⟨o, h⟩) | h
  · exact .inl (.inl (k _ _ h (ne_of hp h fun z => nomatch z).symm))
  · exact .inl (.inr ⟨o, k _ _ h (ne_of hp h fun z => nomatch z).symm⟩)
  · exact .inr h
theorem krsP {p C dx : Addr} {fs : List (Str × V)} {H H2 : Hp} {xs : List V} {ks : List Tk} (hp : H p = some (.ins C dx fs)) (k : ∀ b u, H b = some u → b ≠ p → H2 b = some u) (h : Krs H xs ks) : Krs H2 xs ks := by
  induction h with
  | nil => exact .nil
  | cons a _ ih =>
    obtain ⟨t, rfl, e⟩ := a
    exact .cons ⟨t, rfl, k _ _ e (ne_of hp e fun z => nomatch z).symm⟩ ih
/-- what the house's keys are -/
def kOf (cs : List (Str × Int × Int)) : List Tk := cs.map fun c => lk c.1 c.2.1 c.2.2
def Valid (ls gs : List Int) (cs : List (Str × Int × Int)) : Prop := ((1 ≤ ls.length ∧ ls.length ≤ 2) ∧ ls.all longN = true) ∧ (gs.length ≤ 11 ∧ gs.all longN = true) ∧ cs.length ≤ 200 ∧ (kOf cs).Nodup ∧ ∀ c ∈ cs, isLk ls gs c.1 c.2.1 c.2.2 = true
/-- a house stands at p -/
def HouseAt (C : Addr) (H : Hp) (p : Addr) (ls gs : List Int) (cs : List (Str × Int × Int)) : Prop := Valid ls gs cs ∧ ∃ dx l g c d : Addr, H p = some (.ins C dx (hf (.ref l) (.ref g) (.ref c) (.int ls.sum) (.ref d))) ∧
  H l = some (.lst (ls.map V.int)) ∧ H g = some (.lst (gs.map V.int)) ∧ H c = some (.lst ((crossN ls).map V.int)) ∧ H d = some (.dT ((kOf cs).map fun k => (k, V.bl true)))
structure ErrTxt (K : PySem.W.Frag) (mg : Str → Option Value) (CI : Addr) (x : Str) : Prop where
  gI : mg x = some (.ref CI)
  kI : PySem.W.keepIn K (.ref CI) = true
  xI : PySem.W.excIn K CI [.type "ValueError", .type "Exception", .type "BaseException", .type "object"] "ValueError.__new__" = true
  bI : PySem.W.subIn K (.ref CI) (.type "BaseException") = some true
  tI : PySem.W.typeIn K (.ref CI) = some (.type "type")
/-- no list stands there -/
def NoLst (H : Hp) (b : Addr) : Prop := ∀ zs, H b ≠ some (.lst zs)
theorem Kp.noLst {H H' : Hp} {b : Addr} (k : Kp H H') (n : H' b = none) : NoLst H b := fun zs e => by
  rcases k.free n with z | ⟨ps, z⟩
  · rw [z] at e
    cases e
  · rw [z] at e
    cases e
def spHouse (K : PySem.W.Frag) (C CI TL TI : Addr) : Sp := fun vs H Q E => ∃ (p dx l g c : Addr) (ls gs : List Int) (xs : List V) (cs : List (Str × Int × Int)), vs = [.ref p, .ref l, .ref g, .ref c] ∧ H p = some (.ins C dx []) ∧
  SqL K H l (ls.map V.int) ∧ SqL K H g (gs.map V.int) ∧ SqL K H c xs ∧ Krs H xs (kOf cs) ∧ ls.length ≤ 1000 ∧ gs.length ≤ 1000 ∧ cs.length ≤ 1000 ∧ TabG H TL ∧ TabG H TI ∧
  (Valid ls gs cs → ∀ H', HouseAt C H' p ls gs cs → KpB p H H' → (∀ (dx l g c : Addr) (t d : V), H' p = some (.ins C dx (hf (.ref l) (.ref g) (.ref c) t d)) → NoLst H l ∧ NoLst H g ∧ NoLst H c) → Q .non H') ∧
  (¬ Valid ls gs cs → ∀ H', KpB p H H' → E (.ref CI) none H')
theorem ok_house {f cI TI C CI fL fA cA TL fX : Addr} {fd fdL fdA fdX : FuncData} (F : FunC K "__init__" "House.__init__" s_House___init__ f cI fd) (TB : TabB base mg cI TI) (Z : HouseTop mg) (T : HouseTxt K mg C) (U : ErrTxt K mg CI "InvalidHouse")
    (FL : Fun K "is_link" "House.is_link" s_House_is_link fL fdL) (bL : Binds K fdL ["self", "link"] []) (mL : Meth K C "is_link" fL)
    (FA : FunC K "_are_long" "_are_long" s__are_long fA cA fdA) (TBA : TabB base mg cA TL) (bA : Binds K fdA ["numbers"] []) (gA : mg "_are_long" = some (.ref fA))
    (FX : Fun K "_cross_heights" "_cross_heights" s__cross_heights fX fdX) (bX : Binds K fdX ["lengths"] []) (gX : mg "_cross_heights" = some (.ref fX)) :
    FnOk P w K mg base (L2.CX P w) 5 f fd ["self", "lengths", "gaps", "closed"] (spHouse K C CI TL TI) := by
  have GL : FnOk P w K mg base CX0 1 fL fdL ["self", "link"] (spLink C) := ok_link FL Z T
  have GA : FnOk P w K mg base CX0 3 fA fdA ["numbers"] (spLong K TL) := ok_long FA Z TBA
  have GX : FnOk P w K mg base CX0 2 fX fdX ["lengths"] (spCross K) := ok_cross FX
  refine F.okX sc_House___init__ (fun vs H Q E h => ?_) (fun A outer s H vs Q E hr h => ?_)
  · obtain ⟨p, dx, l, g, c, ls, gs, xs, cs, rfl, _⟩ := h
    rfl
  · obtain ⟨p, dx, l, g, c, ls, gs, xs, cs, rfl, hp, hl, hg, hc, hx, bl, bg, bc, tL, tI, q, e⟩ := h
    obtain ⟨_, hStr⟩ := Z.stretches
    obtain ⟨_, hGap⟩ := Z.mostGaps
    obtain ⟨_, hClo⟩ := Z.mostClosed
    have nd := sc_House___init__.nd
    have hxl := hx.len
    refine ⟨_, (pss_cons (ps_if (PW.pt (pw_or (pt_not (pt_chain op_le op_le pe_int (pe_callB call_len (by rfl) Z.len (by decide +kernel) (pa_cons (pv 1) pa_nil)) (pe_glob (v := .int 2) rfl hStr ⟨_, rfl⟩))) (pw_or1 (pt_not (pt_val (pe_call GA (by exact hr.mono (by decide)) (by rfl) gA FA.kp bA .nil pass0 (pa_cons (pv 1) pa_nil))))))) (pss_one (ps_raise rfl (takes_of rfl rfl rfl rfl) (pmk_own PySem.F.excBase_ValueError U.xI U.gI U.kI (raises_own U.bI U.tI) rfl))) pss_nil)
      (pss_cons (ps_if (PW.pt (pw_or (pt_cmpR op_gt (pe_callB call_len (by rfl) Z.len (by decide +kernel) (pa_cons (pv 2) pa_nil)) (pe_glob (v := .int 11) rfl hGap ⟨_, rfl⟩) (nomark _)) (pw_or1 (pt_not (pt_val (pe_call GA (by exact hr.mono (by decide)) (by rfl) gA FA.kp bA .nil pass0 (pa_cons (pv 2) pa_nil))))))) (pss_one (ps_raise rfl (takes_of rfl rfl rfl rfl) (pmk_own PySem.F.excBase_ValueError U.xI U.gI U.kI (raises_own U.bI U.tI) rfl))) pss_nil)
      (pss_cons (ps_fld (pv 0) (pe_callTy call_list_of (by rfl) Z.list (by decide +kernel) (pa_cons (pv 1) pa_nil)) rfl)
      (pss_cons (ps_fld (pv 0) (pe_callTy call_list_of (by rfl) Z.list (by decide +kernel) (pa_cons (pv 2) pa_nil)) rfl)
      (pss_cons (ps_fld (pv 0) (pe_call GX (by exact hr.mono (by decide)) (by rfl) gX FX.kp bX .nil pass0 (pa_cons (pv 1) pa_nil)) rfl)
      (pss_cons (ps_fld (pv 0) (pe_callB (cr_sum rfl) (by rfl) Z.sum (by decide +kernel) (pa_cons (pv 1) pa_nil)) rfl)
      (pss_cons (ps_fld (pv 0) (pe_dcT (own := [("link", 4)]) (g := gName 4) rfl (by exact hr.units0) nd (pi_list (pv 3)) (blkOk_by (N := ["self", "lengths", "gaps", "closed", "link"]) (sc := defScope s_House___init__) (by decide +kernel)) (fun _ _ _ _ _ => ⟨pg_name (i := 4) nd rfl (.inl rfl), pv 4, pe_bl⟩)) rfl)
      (pss_cons (ps_if (PW.pt (pw_or (pt_cmpR op_gt (pe_callB call_len (by rfl) Z.len (by decide +kernel) (pa_cons (pv 3) pa_nil)) (pe_glob (v := .int 200) rfl hClo ⟨_, rfl⟩) (nomark _)) (pw_or1 (pt_cmpR op_lt (pe_callB call_len_dT (by rfl) Z.len (by decide +kernel) (pa_cons (pe_fld (pv 0) rfl) pa_nil)) (pe_callB call_len (by rfl) Z.len (by decide +kernel) (pa_cons (pv 3) pa_nil)) (nomark _))))) (pss_one (ps_raise rfl (takes_of rfl rfl rfl rfl) (pmk_own PySem.F.excBase_ValueError U.xI U.gI U.kI (raises_own U.bI U.tI) rfl))) pss_nil)
      (pss_one (ps_if (pt_not (pt_val (pe_allG (k := 3) (N := ["link", "self"]) (fr := [none, some 0]) (g := gName 0) (by exact hr) (by rfl) Z.all (by decide +kernel) TB rfl (gsc_by (outer := defScope s_House___init__) rfl rfl (by decide +kernel)) (gfr_by (outer := defScope s_House___init__) (XN := ["self", "lengths", "gaps", "closed", "link"]) rfl rfl (by decide +kernel)) (pi_list (pv 3)) (fun B s0 H0 cd fp rB => ⟨pg_name (i := 0) (show (["link", "self"] : List Str).Nodup by decide) rfl (.inl rfl), (pe_meth (pv 1) T.cl mL GL (by exact rB.mono (by decide)) bL .nil pass0 (pa_cons (pv 0) pa_nil))⟩) (fun _ => rfl)))) (pss_one (ps_raise rfl (takes_of rfl rfl rfl rfl) (pmk_own PySem.F.excBase_ValueError U.xI U.gI U.kI (raises_own U.bI U.tI) rfl))) pss_nil)))))))))), ?_⟩
    have bad : ∀ {H' : Hp}, ¬ Valid ls gs cs → KpB p H H' → E (.ref CI) none H' := fun {H'} n k => e n H' k
    refine (tells_chain (f := fun i j => decide (i ≤ j)) (j := (ls.length : Int)) (n := 2) (fun Q q => ⟨_, rfl, _, _, rfl, .inl ⟨_, hl, rfl⟩, by rw [List.length_map]; exact q⟩) (fun Q q => q)) _ ⟨_, rfl, ?_⟩
    refine ite2 (fun h1 => ?_) (fun h1 => ?_)
    · exact bad (fun v => by
        have v1 := v.1.1
        simp at h1
        omega) KpB.refl
    refine ⟨_, rfl, l, ls, rfl, hl, tL, fun H1 t1 => ⟨_, rfl, ?_⟩⟩
    have k1 : Kp H H1 := Tabbed.kp t1 tL
    refine ite2 (fun h2 => ?_) (fun h2 => ?_)
    · exact bad (fun v => by
        rw [v.1.2] at h2
        cases h2) (KpB.refl.kp k1)
    have v1 : (1 ≤ ls.length ∧ ls.length ≤ 2) ∧ ls.all longN = true := ⟨by simp at h1; omega, by simpa using h2⟩
    refine ⟨_, rfl, _, _, rfl, .inl ⟨_, k1.seq hg, rfl⟩, _, _, rfl, rfl, _, rfl, ?_⟩
    refine ite2 (fun h3 => ?_) (fun h3 => ?_)
    · exact bad (fun v => by
        have v2 := v.2.1.1
        simp at h3
        omega) (KpB.refl.kp k1)
    refine ⟨_, rfl, g, gs, rfl, k1.seq hg, k1.tab _ tL, fun H2 t2 => ⟨_, rfl, ?_⟩⟩
    have k2 : Kp H H2 := k1.trans (Tabbed.kp t2 (k1.tab _ tL))
    refine ite2 (fun h4 => ?_) (fun h4 => ?_)
    · exact bad (fun v => by
        rw [v.2.1.2] at h4
        cases h4) (KpB.refl.kp k2)
    have v2 : gs.length ≤ 11 ∧ gs.all longN = true := ⟨by simp at h3; omega, by simpa using h4⟩
    have kb2 : KpB p H H2 := KpB.refl.kp k2
    have hp2 := k2.ins hp
    -- self._lengths
    refine ⟨_, rfl, l, _, rfl, .inl (k2.seq hl), fun r1 n1 => ⟨_, rfl, p, C, dx, [], rfl, by rw [upd_ne (ne_of_none hp2 n1)]; exact hp2, T.cl, T.nL, by show 0 < 1000; decide, ?_⟩⟩
    obtain ⟨H3, e3, kb3, hp3, g3, s3, f3⟩ := stepF (o := .lst (ls.map V.int)) (gs := putF "_lengths" (.ref r1) []) kb2 hp2 n1
    rw [e3]
    have l3 := seqP hp2 s3 (k2.seq hl)
    have q3 := seqP hp2 s3 (k2.seq hg)
    have c3 := seqP hp2 s3 (k2.seq hc)
    have x3 := krsP hp2 s3 (hx.kp k2)
    -- self._gaps
    refine ⟨_, rfl, g, _, rfl, .inl q3, fun r2 n2 => ⟨_, rfl, p, C, dx, _, rfl, by rw [upd_ne (ne_of_none hp3 n2)]; exact hp3, T.cl, T.nG, by show 1 < 1000; decide, ?_⟩⟩
    obtain ⟨H4, e4, kb4, hp4, g4, s4, f4⟩ := stepF (o := .lst (gs.map V.int)) (gs := putF "_gaps" (.ref r2) (putF "_lengths" (.ref r1) [])) kb3 hp3 n2
    rw [e4]
    have l4 := seqP hp3 s4 l3
    have c4 := seqP hp3 s4 c3
    have x4 := krsP hp3 s4 x3
    have gL4 := s4 _ _ g3 (ne_of hp3 g3 fun z => nomatch z).symm
    have len0 : ([] : List (Str × V)).length < 1 := by decide
    -- self._crosses
    refine ⟨_, rfl, l, ls, rfl, l4, bl, fun H5 r3 sm5 n3 g5 => ⟨_, rfl, p, C, dx, _, rfl, sm5 _ _ hp4, T.cl, T.nX, Nat.lt_of_lt_of_le (lenF (lenF len0)) (by decide), ?_⟩⟩
    obtain ⟨H6, e6, kb6, hp6, s6, f6⟩ := stepP (gs := putF "_crosses" (.ref r3) (putF "_gaps" (.ref r2) (putF "_lengths" (.ref r1) []))) (kb4.kp (kpS sm5)) (sm5 _ _ hp4)
    rw [e6]
    have hp5 := sm5 _ _ hp4
    have l6 := seqP hp5 s6 (sm5.seq l4)
    have c6 := seqP hp5 s6 (sm5.seq c4)
    have x6 := krsP hp5 s6 (x4.same sm5)
    have gL6 := s6 _ _ (sm5 _ _ gL4) (ne_of hp5 (sm5 _ _ gL4) fun z => nomatch z).symm
    have gG6 := s6 _ _ (sm5 _ _ g4) (ne_of hp5 (sm5 _ _ g4) fun z => nomatch z).symm
    have gX6 := s6 _ _ g5 (ne_of hp5 g5 fun z => nomatch z).symm
    -- self._top
    refine ⟨_, rfl, l, ls, rfl, l6, _, rfl, p, C, dx, _, rfl, hp6, T.cl, T.nT, Nat.lt_of_lt_of_le (lenF (lenF (lenF len0))) (by decide), ?_⟩
    obtain ⟨H7, e7, kb7, hp7, s7, f7⟩ := stepP (gs := putF "_top" (.int ls.sum) (putF "_crosses" (.ref r3) (putF "_gaps" (.ref r2) (putF "_lengths" (.ref r1) [])))) kb6 hp6
    rw [e7]
    have c7 := seqP hp6 s7 c6
    have x7 := krsP hp6 s7 x6
    have gL7 := s7 _ _ gL6 (ne_of hp6 gL6 fun z => nomatch z).symm
    have gG7 := s7 _ _ gG6 (ne_of hp6 gG6 fun z => nomatch z).symm
    have gX7 := s7 _ _ gX6 (ne_of hp6 gX6 fun z => nomatch z).symm
    -- self._closed
    refine ⟨_, rfl, c, rfl, ⟨_, c7⟩, fun D nD => ?_⟩
    have sD : ∀ o, Same H7 (upd H7 D o) := fun o => same_upd nD
    refine dcT_list (K := K) (a := c) (xs := xs) (fun i H' => H' = upd H7 D (.dT (ded ((kOf cs).take i)))) rfl ?_ ?_ ?_
    · rintro i H' _ rfl
      exact (sD _).seq c7
    · rintro i x H' hi rfl
      obtain ⟨y, hy, t, rfl, ht⟩ := (x7.same (sD (.dT (ded ((kOf cs).take i))))).at hi
      refine ⟨rfl, _, rfl, t, _, y, rfl, ht, upd_same, ?_, ?_⟩
      · have z1 := ded_le ((kOf cs).take i)
        have z2 : ((kOf cs).take i).length ≤ (kOf cs).length := List.length_take_le' _ _
        have z3 : (kOf cs).length = cs.length := List.length_map _
        rw [sizeLine_eq]
        omega
      · rw [upd_upd, List.take_add_one, hy]
        show _ = upd H7 D (.dT (ded ((kOf cs).take i ++ [y])))
        rw [ded_snoc]
    · rintro H' rfl
      rw [hxl, List.take_length]
      refine ⟨_, rfl, p, C, dx, _, rfl, sD _ _ _ hp7, T.cl, T.nC, Nat.lt_of_lt_of_le (lenF (lenF (lenF (lenF len0)))) (by decide), ?_⟩
      obtain ⟨H8, e8, kb8, hp8, g8, s8, f8⟩ := stepF (o := .dT (ded (kOf cs))) (gs := hf (.ref r1) (.ref r2) (.ref r3) (.int ls.sum) (.ref D)) kb7 hp7 nD
      have e8' : upd (upd H7 D (.dT (ded (kOf cs)))) p (.ins C dx (putF "_closed" (.ref D) (putF "_top" (.int ls.sum) (putF "_crosses" (.ref r3) (putF "_gaps" (.ref r2) (putF "_lengths" (.ref r1) [])))))) = H8 := e8
      rw [e8']
      have c8 := seqP hp7 s8 c7
      have x8 := krsP hp7 s8 x7
      have gL8 := s8 _ _ gL7 (ne_of hp7 gL7 fun z => nomatch z).symm
      have gG8 := s8 _ _ gG7 (ne_of hp7 gG7 fun z => nomatch z).symm
      have gX8 := s8 _ _ gX7 (ne_of hp7 gX7 fun z => nomatch z).symm
      have kl : (kOf cs).length = cs.length := List.length_map _
      -- too many, or one twice
      refine ⟨_, rfl, _, _, rfl, .inl ⟨_, c8, rfl⟩, _, _, rfl, rfl, _, rfl, ?_⟩
      refine ite2 (fun h5 => ?_) (fun h5 => ?_)
      · exact bad (fun v => by
          have v3 := v.2.2.1
          simp at h5
          omega) kb8
      have v3 : cs.length ≤ 200 := by
        simp at h5
        omega
      refine ⟨_, rfl, p, C, dx, _, _, rfl, hp8, T.cl, T.nC, hf_closed _ _ _ _ _, D, _, rfl, g8, _, rfl, _, _, rfl, .inl ⟨_, c8, rfl⟩, _, _, rfl, rfl, _, rfl, ?_⟩
      refine ite2 (fun h6 => ?_) (fun h6 => ?_)
      · exact bad (fun v => by
          rw [(ded_eq (kOf cs)).1 v.2.2.2.1, List.length_map] at h6
          have z := of_decide_eq_true h6
          omega) kb8
      have v4 : (kOf cs).Nodup := Decidable.byContradiction fun n => h6 (decide_eq_true (by
        have z := (ded_eq (kOf cs)).2 n
        omega))
      -- each is a link
      have tab8 : TabG H8 TI := kb8.tab _ tI
      refine ⟨_, rfl, c, rfl, ⟨_, c8⟩, tab8, fun H9 t9 => ?_⟩
      have k9 : Kp H8 H9 := Tabbed.kp t9 tab8
      have kb9 : KpB p H H9 := kb8.kp k9
      have hp9 := k9.ins hp8
      have x9 := x8.kp k9
      have part : PartAt C H9 p ls gs := ⟨dx, r1, r2, r3, _, hp9, k9.lst gL8, k9.lst gG8, k9.lst gX8⟩
      refine for_list (K := K) (a := c) (xs := xs) (fun i σ H' => (∃ z, σ = [z, some (.ref p)]) ∧ H' = H9 ∧ ∀ c ∈ cs.take i, isLk ls gs c.1 c.2.1 c.2.2 = true) ?_ ?_ ?_ ?_
      · exact ⟨⟨none, rfl⟩, rfl, fun c z => by simp at z⟩
      · rintro i σ H' _ ⟨_, rfl, _⟩
        exact k9.seq c8
      · rintro i x H0 H' hi ⟨⟨z, rfl⟩, rfl, hall⟩
        obtain ⟨y, hy, hk⟩ := x9.at hi
        unfold kOf at hy
        rw [List.getElem?_map] at hy
        cases hci : cs[i]? with
        | none => rw [hci] at hy; cases hy
        | some ci =>
          rw [hci] at hy
          cases hy
          refine ⟨_, rfl, p, dx, _, rfl, hp9, hf_no _ _ _ _ _ (by decide +kernel) (by decide +kernel) (by decide +kernel) (by decide +kernel) (by decide +kernel), _, rfl, p, x, ls, gs, ci.1, ci.2.1, ci.2.2, rfl, part, hk, _, rfl, ?_⟩
          refine ite2 (fun h7 => ?_) (fun h7 => ?_)
          · refine ⟨_, rfl, ?_⟩
            exact bad (fun v => by
              rw [v.2.2.2.2 ci (List.mem_of_getElem? hci)] at h7
              cases h7) kb9
          · refine ⟨⟨_, rfl⟩, rfl, fun c' hc' => ?_⟩
            rw [List.take_add_one, hci] at hc'
            rcases List.mem_append.mp hc' with z1 | z1
            · exact hall c' z1
            · have z2 : c' = ci := by simpa using z1
              rw [z2]
              simpa using h7
      · rintro σ H' ⟨⟨z, rfl⟩, rfl, hall⟩
        rw [hxl, kl, List.take_length] at hall
        have va : Valid ls gs cs := ⟨v1, v2, v3, v4, hall⟩
        refine ⟨_, rfl, ?_⟩
        refine q va H' ⟨va, dx, r1, r2, r3, D, hp9, k9.lst gL8, k9.lst gG8, k9.lst gX8, ?_⟩ kb9 (fun dx' l' g' c' t' d' z => ?_)
        · rw [← (ded_eq (kOf cs)).1 v4]
          exact k9.dT g8
        · rw [hp9] at z
          have z2 := Option.some.inj z
          injection z2 with _ _ z3
          have e1 := hf_lengths (.ref r1) (.ref r2) (.ref r3) (.int ls.sum) (.ref D)
          have e2 := hf_gaps (.ref r1) (.ref r2) (.ref r3) (.int ls.sum) (.ref D)
          have e3' := hf_crosses (.ref r1) (.ref r2) (.ref r3) (.int ls.sum) (.ref D)
          rw [z3, hf_lengths] at e1
          rw [z3, hf_gaps] at e2
          rw [z3, hf_crosses] at e3'
          obtain rfl : l' = r1 := V.ref.inj (Option.some.inj e1)
          obtain rfl : g' = r2 := V.ref.inj (Option.some.inj e2)
          obtain rfl : c' = r3 := V.ref.inj (Option.some.inj e3')
          exact ⟨Kp.noLst k2 n1, Kp.noLst k2 (f3 _ n2), Kp.noLst k2 (f3 _ (f4 _ n3))⟩
end

/-! ### houses: what they tell -/
section
open GxR NdefX PySem.Spec PyProof.Rows
variable {P : Program} {w : World} {K : PySem.W.Frag} {mg : Str → Option Value} {base : Heap}
theorem HouseAt.kp {C : Addr} {H H' : Hp} {p : Addr} {ls gs : List Int} {cs : List (Str × Int × Int)} (h : HouseAt C H p ls gs cs) (k : Kp H H') : HouseAt C H' p ls gs cs := by
  obtain ⟨v, dx, l, g, c, d, h1, h2, h3, h4, h5⟩ := h
  exact ⟨v, dx, l, g, c, d, k.ins h1, k.lst h2, k.lst h3, k.lst h4, k.dT h5⟩
theorem HouseAt.part {C : Addr} {H : Hp} {p : Addr} {ls gs : List Int} {cs : List (Str × Int × Int)} (h : HouseAt C H p ls gs cs) : PartAt C H p ls gs := by
  obtain ⟨v, dx, l, g, c, d, h1, h2, h3, h4, h5⟩ := h
  exact ⟨dx, l, g, c, _, h1, h2, h3, h4⟩
theorem fit_kOf (cs : List (Str × Int × Int)) : Fit (kOf cs) := ⟨[true, false, false], by decide, fun k hk => by
  obtain ⟨c, _, rfl⟩ := List.mem_map.mp hk
  rfl⟩
/-- a list of numbers of the house's own, handed out anew -/
def spNums (C : Addr) (f : List Int → List Int → List Int) : Sp := fun vs H Q _ => ∃ (p : Addr) (ls gs : List Int) (cs : List (Str × Int × Int)), vs = [.ref p] ∧ HouseAt C H p ls gs cs ∧
  ∀ r, H r = none → Q (.ref r) (upd H r (.lst ((f ls gs).map V.int)))
def spNum (C : Addr) (f : List Int → List Int → Int) : Sp := fun vs H Q _ => ∃ (p : Addr) (ls gs : List Int) (cs : List (Str × Int × Int)), vs = [.ref p] ∧ HouseAt C H p ls gs cs ∧ Q (.int (f ls gs)) H
def spClosed (C : Addr) : Sp := fun vs H Q _ => ∃ (p : Addr) (ls gs : List Int) (cs : List (Str × Int × Int)), vs = [.ref p] ∧ HouseAt C H p ls gs cs ∧
  ∀ (r : Addr) (ys : List V), H r = none → Krs H ys (sortK (kOf cs)) → Q (.ref r) (upd H r (.lst ys))
theorem ok_lengths {f C : Addr} {fd : FuncData} (F : Fun K "lengths" "House.lengths" s_House_lengths f fd) (Z : HouseTop mg) (T : HouseTxt K mg C) : FnOk P w K mg base CX0 1 f fd ["self"] (spNums C (fun ls _ => ls)) := by
  refine F.ok sc_House_lengths (fun vs H Q E h => ?_) (fun cdv A outer s H vs Q E hr h => ?_)
  · obtain ⟨p, ls, gs, cs, rfl, _⟩ := h
    rfl
  · obtain ⟨p, ls, gs, cs, rfl, ⟨_, dx, l, g, c, d, h1, h2, h3, h4, h5⟩, q⟩ := h
    exact ⟨_, (pss_one (ps_ret (pe_callTy call_list_of (by rfl) Z.list (by decide +kernel) (pa_cons (pe_fld (pv 0) rfl) pa_nil)))), _, rfl, p, C, dx, _, _, rfl, h1, T.cl, T.nL, hf_lengths _ _ _ _ _, l, _, rfl, .inl (SqL.of h2), q⟩
theorem ok_gaps {f C : Addr} {fd : FuncData} (F : Fun K "gaps" "House.gaps" s_House_gaps f fd) (Z : HouseTop mg) (T : HouseTxt K mg C) : FnOk P w K mg base CX0 1 f fd ["self"] (spNums C (fun _ gs => gs)) := by
  refine F.ok sc_House_gaps (fun vs H Q E h => ?_) (fun cdv A outer s H vs Q E hr h => ?_)
  · obtain ⟨p, ls, gs, cs, rfl, _⟩ := h
    rfl
  · obtain ⟨p, ls, gs, cs, rfl, ⟨_, dx, l, g, c, d, h1, h2, h3, h4, h5⟩, q⟩ := h
    exact ⟨_, (pss_one (ps_ret (pe_callTy call_list_of (by rfl) Z.list (by decide +kernel) (pa_cons (pe_fld (pv 0) rfl) pa_nil)))), _, rfl, p, C, dx, _, _, rfl, h1, T.cl, T.nG, hf_gaps _ _ _ _ _, g, _, rfl, .inl (SqL.of h3), q⟩
theorem ok_crosses {f C : Addr} {fd : FuncData} (F : Fun K "crosses" "House.crosses" s_House_crosses f fd) (Z : HouseTop mg) (T : HouseTxt K mg C) : FnOk P w K mg base CX0 1 f fd ["self"] (spNums C (fun ls _ => crossN ls)) := by
  refine F.ok sc_House_crosses (fun vs H Q E h => ?_) (fun cdv A outer s H vs Q E hr h => ?_)
  · obtain ⟨p, ls, gs, cs, rfl, _⟩ := h
    rfl
  · obtain ⟨p, ls, gs, cs, rfl, ⟨_, dx, l, g, c, d, h1, h2, h3, h4, h5⟩, q⟩ := h
    exact ⟨_, (pss_one (ps_ret (pe_callTy call_list_of (by rfl) Z.list (by decide +kernel) (pa_cons (pe_fld (pv 0) rfl) pa_nil)))), _, rfl, p, C, dx, _, _, rfl, h1, T.cl, T.nX, hf_crosses _ _ _ _ _, c, _, rfl, .inl (SqL.of h4), q⟩


theorem ok_closed {f C : Addr} {fd : FuncData} (F : Fun K "closed" "House.closed" s_House_closed f fd) (Z : HouseTop mg) (T : HouseTxt K mg C) : FnOk P w K mg base CX0 2 f fd ["self"] (spClosed C) := by
  refine F.ok sc_House_closed (fun vs H Q E h => ?_) (fun cdv A outer s H vs Q E hr h => ?_)
  · obtain ⟨p, ls, gs, cs, rfl, _⟩ := h
    rfl
  · obtain ⟨p, ls, gs, cs, rfl, ⟨_, dx, l, g, c, d, h1, h2, h3, h4, h5⟩, q⟩ := h
    have ek : ((kOf cs).map fun k => (k, V.bl true)).map (·.1) = kOf cs := by
      rw [List.map_map]
      exact List.map_id _
    refine ⟨_, (pss_one (ps_ret (pe_callB (call_sortDT rfl (by exact hr.units)) (by rfl) Z.sorted (by decide +kernel) (pa_cons (pe_fld (pv 0) rfl) pa_nil)))), _, rfl, p, C, dx, _, _, rfl, h1, T.cl, T.nC, hf_closed _ _ _ _ _, d, _, rfl, .inl h5, by rw [ek]; exact fit_kOf cs, fun r ys nr hy => ?_⟩
    rw [ek] at hy
    exact q r ys nr hy
end

/-! ### drawn houses -/
section
open GxR NdefX PySem.Spec PyProof.Rows
variable {P : Program} {w : World} {K : PySem.W.Frag} {mg : Str → Option Value} {base : Heap}
theorem room65 {k : Nat} {A : Around} (r : Room k A) : A.units + 65 < cLine := by
  have := r.un
  omega
structure LawTop (mg : Str → Option Value) : Prop where
  int : mg "int" = none
  len : mg "len" = none
  sum : mg "sum" = none
  max : mg "max" = none
  range : mg "range" = none
/-! #### what readings tell -/
section
variable {σ : L2.St} {H : Hp} {ta tb : TE} {i j : Int}
theorem Tells.go {te : TE} {v : V} {Q : VK} (h : Tells te σ H v) (q : Q v H) : te σ H Q := h Q q
theorem go_rng {te : TE} {j : Int} {R : It → Hp → Prop} (h : Tells te σ H (.int j)) (h0 : -(2 ^ 62) ≤ j) (h1 : j < 2 ^ 62) (q : R (Itr 0 j.toNat) H) : iRng1 (tCons te tNil) σ H R := h _ ⟨_, rfl, h0, h1, q⟩
theorem tells_var {n : Nat} {v : V} (e : σ[n]? = some (some v)) : Tells (tVar n) σ H v := fun Q q => ⟨_, e, q⟩
theorem tells_c {v : V} : Tells (tC v) σ H v := fun Q q => q
theorem tells_I {C : Int → Int → Prop} {g : Int → Int → V} (ha : Tells ta σ H (.int i)) (hb : Tells tb σ H (.int j)) (h : C i j) : Tells (tOp (rI C g) ta tb) σ H (g i j) := fun Q q => ha _ (hb _ ⟨_, _, rfl, rfl, h, q⟩)
theorem tells_I0 {g : Int → Int → V} (ha : Tells ta σ H (.int i)) (hb : Tells tb σ H (.int j)) : Tells (tOp (rI0 g) ta tb) σ H (g i j) := fun Q q => ha _ (hb _ ⟨_, _, rfl, rfl, q⟩)
theorem tells_int (ha : Tells ta σ H (.int i)) : Tells (tCB (fun xs H Q => (∃ i, xs = [.int i] ∧ Q (.int i) H) ∨ ∃ k, xs = [.bl k] ∧ Q (.int (if k then 1 else 0)) H) (tCons ta tNil)) σ H (.int i) := fun Q q => ha _ (.inl ⟨_, rfl, q⟩)
def nth (ns : List Int) (i : Int) : Int := (ns[i.toNat]?).getD 0
theorem nth_small {ns : List Int} (h : Small ns) (i : Int) : 0 ≤ nth ns i ∧ nth ns i < 1009 := by
  unfold nth
  cases e : ns[i.toNat]? with
  | none => decide
  | some n => exact h n (List.mem_of_getElem? e)
theorem atI_nth {ns : List Int} {i : Int} (h0 : 0 ≤ i) (h1 : i < ns.length) : atI (ns.map V.int) i = some (V.int (nth ns i)) := by
  have e : ((i.toNat : Nat) : Int) = i := Int.toNat_of_nonneg h0
  have lt : i.toNat < ns.length := by omega
  have z : atI (ns.map V.int) ((i.toNat : Nat) : Int) = some (V.int (nth ns i)) := by
    refine atI_nat ?_
    unfold nth
    rw [List.getElem?_map, List.getElem?_eq_getElem lt]
    rfl
  rw [e] at z
  exact z
theorem tells_ix {l : Addr} {ns : List Int} (ha : Tells ta σ H (.ref l)) (hb : Tells tb σ H (.int i)) (hl : SqL K H l (ns.map V.int)) (h0 : 0 ≤ i) (h1 : i < ns.length) : Tells (tOp (rIxL K) ta tb) σ H (.int (nth ns i)) := fun Q q => ha _ (hb _ ⟨l, _, i, _, rfl, rfl, hl, atI_nth h0 h1, q⟩)
theorem tells_len {l : Addr} {xs : List V} (ha : Tells ta σ H (.ref l)) (hl : SqL K H l xs) : Tells (tCB (fun xs H1 Q => ∃ x n, xs = [x] ∧ LenV K x H1 n ∧ Q (V.int (n : Nat)) H1) (tCons ta tNil)) σ H (.int xs.length) := fun Q q => ha _ ⟨_, _, rfl, .inl ⟨_, hl, rfl⟩, q⟩
theorem tells_sum {l : Addr} {ns : List Int} (ha : Tells ta σ H (.ref l)) (hl : SqL K H l (ns.map V.int)) : Tells (tCB (rSum K) (tCons ta tNil)) σ H (.int ns.sum) := fun Q q => ha _ ⟨_, _, rfl, hl, q⟩
end
theorem ok_lk {x : Str} (h : PyData.canLay0 (.str x) = true) (a b : Int) : okk (lk x a b) = true := by
  show (PyData.canLay0 (.str x) && (true && (true && true))) = true
  rw [h]
  rfl

theorem pick4 {z : Int} (h0 : 0 ≤ z) (h4 : z < 4) : ∃ mo : Int, atI [V.int 4, V.int 9, V.int 12, V.int 40] z = some (.int mo) ∧ 4 ≤ mo ∧ mo ≤ 40 := by
  have : z = 0 ∨ z = 1 ∨ z = 2 ∨ z = 3 := by omega
  rcases this with rfl | rfl | rfl | rfl
  · exact ⟨4, rfl, by decide, by decide⟩
  · exact ⟨9, rfl, by decide, by decide⟩
  · exact ⟨12, rfl, by decide, by decide⟩
  · exact ⟨40, rfl, by decide, by decide⟩
/-- numbers from 1 to 40 -/
def Lens (ls : List Int) : Prop := ∀ x ∈ ls, 1 ≤ x ∧ x ≤ 40
theorem Lens.all {ls : List Int} (h : Lens ls) : ls.all longN = true := List.all_eq_true.mpr fun x hx => by
  have q := h x hx
  unfold longN
  rw [decide_eq_true q.1, decide_eq_true q.2]
  rfl
theorem Lens.snoc {ls : List Int} (h : Lens ls) {x : Int} (h1 : 1 ≤ x) (h2 : x ≤ 40) : Lens (ls ++ [x]) := fun y hy => by
  rcases List.mem_append.mp hy with z | z
  · exact h y z
  · rw [List.mem_singleton.mp z]
    exact ⟨h1, h2⟩
theorem Lens.pos {ls : List Int} (h : Lens ls) : ∀ k, 0 ≤ (ls.take k).sum := by
  intro k
  have all : ∀ xs : List Int, (∀ x ∈ xs, 1 ≤ x ∧ x ≤ 40) → 0 ≤ xs.sum := by
    intro xs
    induction xs with
    | nil => intro _; decide
    | cons x xs ih =>
      intro q
      have q1 := q x List.mem_cons_self
      have q2 := ih fun y hy => q y (List.mem_cons_of_mem _ hy)
      rw [List.sum_cons]
      omega
  exact all _ fun x hx => h x (List.mem_of_mem_take hx)
theorem Lens.pos1 {ls : List Int} (h : Lens ls) (hl : 1 ≤ ls.length) : 1 ≤ ls.sum := by
  cases ls with
  | nil => simp at hl
  | cons x ls =>
    have q1 := h x List.mem_cons_self
    have q2 := Lens.pos (ls := ls) (fun y hy => h y (List.mem_cons_of_mem _ hy)) ls.length
    rw [List.take_length] at q2
    rw [List.sum_cons]
    omega
theorem made {H : Hp} {a : Addr} {o : HO} (h : H a = none) : ∃ H', upd H a o = H' ∧ Same H H' ∧ H' a = some o := ⟨_, rfl, same_upd h, upd_same⟩
def spParts (K : PySem.W.Frag) : Sp := fun vs H Q _ => ∃ (n : Addr) (ns : List Int) (a : Nat), vs = [.ref n, .int (a : Int)] ∧ SqL K H n (ns.map V.int) ∧ Small ns ∧ a + 24 ≤ ns.length ∧
  ∀ (H' : Hp) (p l g c : Addr) (ls gs : List Int) (xs : List V) (cs : List (Str × Int × Int)), Same H H' → H p = none → H' p = some (.tup [.ref l, .ref g, .ref c]) → H l = none → H g = none → H c = none →
    H' l = some (.lst (ls.map V.int)) → H' g = some (.lst (gs.map V.int)) → H' c = some (.lst xs) → Krs H' xs (kOf cs) → Valid ls gs cs → gs.length ≤ 4 → cs.length ≤ 6 → Q (.ref p) H'
theorem ok_parts {f : Addr} {fd : FuncData} (F : Fun K "_law_parts" "_law_parts" s__law_parts f fd) (Z : LawTop mg) : FnOk P w K mg base CX0 1 f fd ["numbers", "at"] (spParts K) := by
  refine F.ok sc__law_parts (fun vs H Q E h => ?_) (fun cdv A outer s H vs Q E hr h => ?_)
  · obtain ⟨n, ns, a, rfl, _⟩ := h
    rfl
  · obtain ⟨n, ns, a, rfl, hn, hs, ha, q⟩ := h
    have nd := sc__law_parts.nd
    have num : ∀ {σ : L2.St} {H' : Hp} {te : TE} {i : Int}, Same H H' → σ[0]? = some (some (V.ref n)) → Tells te σ H' (.int i) → 0 ≤ i → i < ns.length →
        Tells (tCB (fun xs H Q => (∃ i, xs = [.int i] ∧ Q (.int i) H) ∨ ∃ k, xs = [.bl k] ∧ Q (.int (if k then 1 else 0)) H) (tCons (tOp (rIxL K) (tVar 0) te) tNil)) σ H' (.int (nth ns i)) :=
      fun k e t h0 h1 => tells_int (tells_ix (tells_var e) t (k.seq hn) h0 h1)
    refine ⟨_, (pss_cons (ps_set (i := 2) nd rfl (.inr rfl) (pe_ix ix_list (pe_lst (pa_cons pe_int (pa_cons pe_int (pa_cons pe_int (pa_cons pe_int pa_nil))))) (pe_op op_mod (pe_callTy call_int1 (by rfl) Z.int (by decide +kernel) (pa_cons (pe_ix ix_list (pv 0) (pv 1) (fun _ _ => rfl)) pa_nil)) pe_int) (fun _ _ => rfl)))
      (pss_cons (ps_setLc (i := 3) (own := [("k", 6)]) (g := gName 6) (tt := _) rfl nd rfl rfl rfl (pi_range1 rfl Z.range (pa_cons (pe_op op_add pe_int (pe_op op_mod (pe_op op_fdiv (pe_callTy call_int1 (by rfl) Z.int (by decide +kernel) (pa_cons (pe_ix ix_list (pv 0) (pv 1) (fun _ _ => rfl)) pa_nil)) pe_int) pe_int)) pa_nil)) (blkOk_by (N := ["numbers", "at", "most", "lengths", "gaps", "closed", "k", "aisle", "spot", "link"]) (sc := defScope s__law_parts) (by decide +kernel)) (fun _ _ _ _ _ => pg_name (i := 6) nd rfl (Or.inl rfl)) (fun _ _ _ _ _ => pts_nil) (fun _ _ _ _ _ => (pe_op op_add pe_int (pe_op op_mod (pe_callTy call_int1 (by rfl) Z.int (by decide +kernel) (pa_cons (pe_ix (r := rIxL K) ix_list (pv 0) (pe_op op_add (pe_op op_add (pv 1) pe_int) (pv 6)) (fun _ _ => rfl)) pa_nil)) (pv 2)))))
      (pss_cons (ps_setLc (i := 4) (own := [("k", 6)]) (g := gName 6) (tt := _) rfl nd rfl rfl rfl (pi_range1 rfl Z.range (pa_cons (pe_op op_mod (pe_op op_fdiv (pe_callTy call_int1 (by rfl) Z.int (by decide +kernel) (pa_cons (pe_ix ix_list (pv 0) (pv 1) (fun _ _ => rfl)) pa_nil)) pe_int) pe_int) pa_nil)) (blkOk_by (N := ["numbers", "at", "most", "lengths", "gaps", "closed", "k", "aisle", "spot", "link"]) (sc := defScope s__law_parts) (by decide +kernel)) (fun _ _ _ _ _ => pg_name (i := 6) nd rfl (Or.inl rfl)) (fun _ _ _ _ _ => pts_nil) (fun _ _ _ _ _ => (pe_op op_add pe_int (pe_op op_mod (pe_callTy call_int1 (by rfl) Z.int (by decide +kernel) (pa_cons (pe_ix (r := rIxL K) ix_list (pv 0) (pe_op op_add (pe_op op_add (pv 1) pe_int) (pv 6)) (fun _ _ => rfl)) pa_nil)) (pv 2)))))
      (pss_cons (ps_set (i := 5) nd rfl (.inl rfl) (pe_lst pa_nil))
      (pss_cons (ps_for PassesOwn.never rfl (pi_range1 rfl Z.range (pa_cons (pe_callB (call_max2 rfl) (by rfl) Z.max (by decide +kernel) (pa_cons pe_int (pa_cons (pe_op op_sub (pe_op op_mod (pe_callTy call_int1 (by rfl) Z.int (by decide +kernel) (pa_cons (pe_ix ix_list (pv 0) (pe_op op_add (pv 1) pe_int) (fun _ _ => rfl)) pa_nil)) pe_int) pe_int) pa_nil))) pa_nil)) (pg_name (i := 6) nd rfl (.inl rfl)) (pss_cons (ps_set (i := 7) nd rfl (.inl rfl) (pe_op op_mod (pe_callTy call_int1 (by rfl) Z.int (by decide +kernel) (pa_cons (pe_ix ix_list (pv 0) (pe_op op_add (pe_op op_add (pv 1) pe_int) (pe_op op_mul pe_int (pv 6))) (fun _ _ => rfl)) pa_nil)) (pe_op op_add (pe_callB call_len (by rfl) Z.len (by decide +kernel) (pa_cons (pv 4) pa_nil)) pe_int)))
      (pss_cons (ps_set (i := 8) nd rfl (.inl rfl) (pe_callTy call_int1 (by rfl) Z.int (by decide +kernel) (pa_cons (pe_ix ix_list (pv 0) (pe_op op_add (pe_op op_add (pv 1) pe_int) (pe_op op_mul pe_int (pv 6))) (fun _ _ => rfl)) pa_nil)))
      (pss_cons (ps_set (i := 9) nd rfl (.inl rfl) (pe_tup (pa_cons pe_str (pa_cons (pv 7) (pa_cons (pe_op op_mod (pe_op op_fdiv (pv 8) pe_int) (pe_callB (cr_sum rfl) (by rfl) Z.sum (by decide +kernel) (pa_cons (pv 3) pa_nil))) pa_nil)))))
      (pss_cons (ps_if (PW.pt (pw_and (pt_cmpR op_eq (pe_op op_mod (pe_callTy call_int1 (by rfl) Z.int (by decide +kernel) (pa_cons (pv 8) pa_nil)) pe_int) pe_int (nomark _)) (pw_and1 (pt_cmpR op_lt (pv 7) (pe_callB call_len (by rfl) Z.len (by decide +kernel) (pa_cons (pv 4) pa_nil)) (nomark _))))) (pss_one (ps_set (i := 9) nd rfl (.inl rfl) (pe_tup (pa_cons pe_str (pa_cons (pv 7) (pa_cons (pe_callB (cr_sum rfl) (by rfl) Z.sum (by decide +kernel) (pa_cons (pe_slice sl_list (pv 3) po_none (po_some (pe_op op_mod (pe_op op_fdiv (pv 8) pe_int) (pe_op op_add (pe_callB call_len (by rfl) Z.len (by decide +kernel) (pa_cons (pv 3) pa_nil)) pe_int)))) pa_nil)) pa_nil)))))) pss_nil)
      (pss_one (ps_if (pt_cmpR (op_notInD (room65 hr)) (pv 9) (pv 5) (by rfl)) (pss_one (ps_expr (pe_bm PySem.F.plainAttrs_list PySem.F.slot_list_append PySem.F.type_list_append mt_append (pv 5) (pa_cons (pv 9) pa_nil)))) pss_nil)))))))
      (pss_one (ps_ret (pe_tup (pa_cons (pv 3) (pa_cons (pv 4) (pa_cons (pv 5) pa_nil))))))))))), ?_⟩
    have a0 : (0 : Int) ≤ (a : Int) := Int.natCast_nonneg a
    have sm := nth_small hs
    have at_ : ∀ {i : Int}, 0 ≤ i → i < ns.length → atI (ns.map V.int) i = some (V.int (nth ns i)) := fun h0 h1 => atI_nth h0 h1
    refine ⟨by show 4 ≤ sizeLine; decide, fun m nm => ?_⟩
    obtain ⟨H1, e1, k1, g1⟩ := made (o := .lst [V.int 4, V.int 9, V.int 12, V.int 40]) nm
    obtain ⟨mo, hmo, mo1, mo2⟩ := pick4 (z := nth ns a % 4) (Int.emod_nonneg _ (by decide)) (Int.emod_lt_of_pos _ (by decide))
    refine Tells.go (tells_I (num (same_upd nm) rfl (tells_var rfl) a0 (by omega)) tells_c (by decide)) ⟨m, _, _, _, rfl, rfl, SqL.of upd_same, hmo, ?_⟩
    have e1' : upd H m (.lst [V.int 4, V.int 9, V.int 12, V.int 40]) = H1 := e1
    rw [e1']
    -- lengths
    have d0 := sm a
    have m1 := Int.emod_nonneg (nth ns a / 4) (show (2 : Int) ≠ 0 by decide)
    have m2 := Int.emod_lt_of_pos (nth ns a / 4) (show (0 : Int) < 2 by decide)
    refine ⟨_, rfl, _, rfl, n, _, _, _, rfl, rfl, k1.seq hn, at_ a0 (by omega), .inl ⟨_, rfl, _, _, rfl, rfl, ⟨by decide, by decide⟩, _, _, rfl, rfl, (by show (0 : Int) < 2; decide), _, _, rfl, rfl, _, rfl, by omega, by omega, fun D nD => ?_⟩⟩
    refine lc_range (lo := 0) (n := (1 + nth ns a / 4 % 2).toNat) (fun i H' => ∃ ls : List Int, H' = upd H1 D (.lst (ls.map V.int)) ∧ ls.length = i ∧ Lens ls) ?_ ?_ ?_
    · exact ⟨[], rfl, rfl, fun x z => nomatch z⟩
    · rintro i H' hi ⟨ls, rfl, hll, hL⟩
      have z0 := sm (a + 1 + (0 + (i : Int)))
      have z1 := Int.emod_nonneg (nth ns (a + 1 + (0 + (i : Int)))) (show mo ≠ 0 by omega)
      have z2 := Int.emod_lt_of_pos (nth ns (a + 1 + (0 + (i : Int)))) (show 0 < mo by omega)
      refine ⟨rfl, ?_⟩
      refine ⟨_, rfl, _, rfl, _, _, rfl, rfl, _, rfl, _, _, rfl, rfl, n, _, _, _, rfl, rfl, (k1.trans (same_upd nD)).seq hn, at_ (by omega) (by omega), .inl ⟨_, rfl, _, rfl, _, _, rfl, rfl, (by show 0 < mo; omega), _, _, rfl, rfl, _, upd_same, ?_, ls ++ [1 + nth ns (a + 1 + (0 + (i : Int))) % mo], ?_, ?_, hL.snoc (by omega) (by omega)⟩⟩
      · rw [List.length_map, sizeLine_eq]
        omega
      · rw [upd_upd, List.map_append]
        rfl
      · rw [List.length_append, hll]
        rfl
    · rintro H' ⟨ls, rfl, hll, hL⟩
      have hl2 : 1 ≤ ls.length ∧ ls.length ≤ 2 := by omega
      obtain ⟨H2, e2, k2', g2⟩ := made (o := .lst (ls.map V.int)) nD
      have nH : H D = none := k1.free nD
      have k2 : Same H H2 := k1.trans k2'
      rw [e2]
      -- gaps
      refine ⟨_, rfl, _, rfl, n, _, _, _, rfl, rfl, k2.seq hn, at_ a0 (by omega), .inl ⟨_, rfl, _, _, rfl, rfl, ⟨by decide, by decide⟩, _, _, rfl, rfl, (by show (0 : Int) < 5; decide), _, rfl, by omega, by omega, fun G nG => ?_⟩⟩
      have n1 := Int.emod_nonneg (nth ns a / 8) (show (5 : Int) ≠ 0 by decide)
      have n2 := Int.emod_lt_of_pos (nth ns a / 8) (show (0 : Int) < 5 by decide)
      refine lc_range (lo := 0) (n := (nth ns a / 8 % 5).toNat) (fun i H' => ∃ gs : List Int, H' = upd H2 G (.lst (gs.map V.int)) ∧ gs.length = i ∧ Lens gs) ?_ ?_ ?_
      · exact ⟨[], rfl, rfl, fun x z => nomatch z⟩
      · rintro i H' hi ⟨gs, rfl, hgl, hG⟩
        have z0 := sm (a + 3 + (0 + (i : Int)))
        have z1 := Int.emod_nonneg (nth ns (a + 3 + (0 + (i : Int)))) (show mo ≠ 0 by omega)
        have z2 := Int.emod_lt_of_pos (nth ns (a + 3 + (0 + (i : Int)))) (show 0 < mo by omega)
        refine ⟨rfl, ?_⟩
        refine ⟨_, rfl, _, rfl, _, _, rfl, rfl, _, rfl, _, _, rfl, rfl, n, _, _, _, rfl, rfl, (k2.trans (same_upd nG)).seq hn, at_ (by omega) (by omega), .inl ⟨_, rfl, _, rfl, _, _, rfl, rfl, (by show 0 < mo; omega), _, _, rfl, rfl, _, upd_same, ?_, gs ++ [1 + nth ns (a + 3 + (0 + (i : Int))) % mo], ?_, ?_, hG.snoc (by omega) (by omega)⟩⟩
        · rw [List.length_map, sizeLine_eq]
          omega
        · rw [upd_upd, List.map_append]
          rfl
        · rw [List.length_append, hgl]
          rfl
      · rintro H' ⟨gs, rfl, hgl, hG⟩
        have hg4 : gs.length ≤ 4 := by omega
        obtain ⟨H3, e3, k3', g3⟩ := made (o := .lst (gs.map V.int)) nG
        have k3 : Same H H3 := k2.trans k3'
        have nG0 : H G = none := k2.free nG
        rw [e3]
        -- closed
        refine ⟨Nat.zero_le _, fun c nc => ?_⟩
        have nc0 : H c = none := k3.free nc
        have gl3 := k3' _ _ g2
        have sc : ∀ o, Same H3 (upd H3 c o) := fun o => same_upd nc
        have y0 := sm (a + 7)
        refine ⟨_, rfl, _, rfl, _, _, rfl, rfl, n, _, _, _, rfl, rfl, (k3.trans (sc _)).seq hn, at_ (by omega) (by omega), .inl ⟨_, rfl, _, _, rfl, rfl, (by show (0 : Int) < 10; decide), _, _, rfl, rfl, _, _, rfl, _, rfl, ?_, ?_, ?_⟩⟩
        · split <;> omega
        · split <;> omega
        have big : (if nth ns (a + 7) % 10 - 3 > 0 then nth ns (a + 7) % 10 - 3 else 0).toNat ≤ 6 := by
          have w1 := Int.emod_lt_of_pos (nth ns (a + 7)) (show (0 : Int) < 10 by decide)
          split <;> omega
        have hsum := hL.pos1 hl2.1
        refine for_range (lo := 0) (n := (if nth ns (a + 7) % 10 - 3 > 0 then nth ns (a + 7) % 10 - 3 else 0).toNat) (fun i σ H' => ∃ (vk va vs vl : Option V) (xs : List V) (cs : List (Str × Int × Int)),
          σ = [some (.ref n), some (.int (a : Int)), some (.int mo), some (.ref D), some (.ref G), some (.ref c), vk, va, vs, vl] ∧ Same H3 H' ∧ H' c = some (.lst xs) ∧ Krs H' xs (kOf cs) ∧ (kOf cs).Nodup ∧
            (∀ d ∈ cs, isLk ls gs d.1 d.2.1 d.2.2 = true ∧ okk (lk d.1 d.2.1 d.2.2) = true) ∧ cs.length ≤ i) ?_ ?_ ?_
        · exact ⟨none, none, none, none, [], [], rfl, sc _, upd_same, .nil, .nil, (fun d z => nomatch z), Nat.zero_le _⟩
        · rintro i σ H' hi ⟨vk, va, vs, vl, xs, cs, rfl, k', hc, hx, hnd, hlk, hle⟩
          have gD := k' _ _ gl3
          have gG := k' _ _ g3
          have hn' := (k3.trans k').seq hn
          have y8 := sm (a + 8 + 2 * (0 + (i : Int)))
          have y9 := sm (a + 9 + 2 * (0 + (i : Int)))
          refine ⟨_, rfl, _, rfl, _, _, rfl, rfl, _, rfl, _, _, rfl, rfl, .inl ⟨by decide, by decide⟩, _, _, rfl, rfl, n, _, _, _, rfl, rfl, hn', at_ (by omega) (by omega), .inl ⟨_, rfl, _, rfl, _, _, rfl, .inl ⟨_, SqL.of gG, rfl⟩, _, _, rfl, rfl, _, _, rfl, rfl, (by show (0 : Int) < _; omega), ?_⟩⟩
          refine ⟨_, rfl, _, rfl, _, _, rfl, rfl, _, rfl, _, _, rfl, rfl, .inl ⟨by decide, by decide⟩, _, _, rfl, rfl, n, _, _, _, rfl, rfl, hn', at_ (by omega) (by omega), .inl ⟨_, rfl, ?_⟩⟩
          refine ⟨_, rfl, _, rfl, _, _, rfl, rfl, ⟨by decide, by decide⟩, _, rfl, D, ls, rfl, SqL.of gD, _, _, rfl, rfl, (by show (0 : Int) < _; omega), (by show 3 ≤ sizeLine; decide), fun t1 nt1 => ?_⟩
          obtain ⟨H4, e4, k4, g4⟩ := made (o := .tup [V.str "up", V.int (nth ns (a + 8 + 2 * (0 + (i : Int))) % ((gs.map V.int).length + 1)), V.int ((nth ns (a + 9 + 2 * (0 + (i : Int)))) / 3 % ls.sum)]) nt1
          have e4' : upd H' t1 (.tup [V.str "up", V.int (nth ns (a + 8 + 2 * (0 + (i : Int))) % ((gs.map V.int).length + 1)), V.int ((nth ns (a + 9 + 2 * (0 + (i : Int)))) / 3 % ls.sum)]) = H4 := e4
          have gl : ((gs.map V.int).length : Int) = gs.length := by rw [List.length_map]
          have ab0 := Int.emod_nonneg (nth ns (a + 8 + 2 * (0 + (i : Int)))) (show ((gs.map V.int).length + 1 : Int) ≠ 0 by omega)
          have ab1 := Int.emod_lt_of_pos (nth ns (a + 8 + 2 * (0 + (i : Int)))) (show (0 : Int) < (gs.map V.int).length + 1 by omega)
          have hb0 := Int.emod_nonneg ((nth ns (a + 9 + 2 * (0 + (i : Int)))) / 3) (show ls.sum ≠ 0 by omega)
          have hb1 := Int.emod_lt_of_pos ((nth ns (a + 9 + 2 * (0 + (i : Int)))) / 3) (show (0 : Int) < ls.sum by omega)
          have hup : isLk ls gs "up" (nth ns (a + 8 + 2 * (0 + (i : Int))) % ((gs.map V.int).length + 1)) ((nth ns (a + 9 + 2 * (0 + (i : Int)))) / 3 % ls.sum) = true := by
            unfold isLk
            rw [if_pos rfl, decide_eq_true ab0, decide_eq_true (show (nth ns (a + 8 + 2 * (0 + (i : Int))) % ((gs.map V.int).length + 1)) ≤ (gs.length : Int) by omega), decide_eq_true hb0, decide_eq_true hb1]
            rfl
          have okup : okk (lk "up" (nth ns (a + 8 + 2 * (0 + (i : Int))) % ((gs.map V.int).length + 1)) ((nth ns (a + 9 + 2 * (0 + (i : Int)))) / 3 % ls.sum)) = true := ok_lk (by decide +kernel) _ _
          refine ⟨_, rfl, .inl ⟨_, rfl, _, _, rfl, rfl, (by show (0 : Int) < 3; decide), rfl, _, rfl, ?_⟩⟩
          rw [e4']
          have gG4 := k4 _ _ gG
          have gD4 := k4 _ _ gD
          refine ite2 (fun hb1 => ?_) (fun hb1 => ?_)
          · refine ⟨_, rfl, _, rfl, _, _, rfl, .inl ⟨_, SqL.of gG4, rfl⟩, _, _, rfl, rfl, _, rfl, ?_⟩
            refine ite2 (fun hb2 => ?_) (fun hb2 => ?_)
            · have jb0 := Int.emod_nonneg (nth ns (a + 9 + 2 * (0 + (i : Int))) / 3) (show ((ls.map V.int).length + 1 : Int) ≠ 0 by omega)
              have jb1 := Int.emod_lt_of_pos (nth ns (a + 9 + 2 * (0 + (i : Int))) / 3) (show (0 : Int) < (ls.map V.int).length + 1 by omega)
              obtain ⟨j, hj⟩ : ∃ j : Nat, nth ns (a + 9 + 2 * (0 + (i : Int))) / 3 % ((ls.map V.int).length + 1) = (j : Int) := ⟨_, (Int.toNat_of_nonneg jb0).symm⟩
              have jle : j ≤ ls.length := by
                rw [hj, List.length_map] at jb1
                omega
              refine ⟨_, rfl, _, rfl, _, rfl, _, _, rfl, rfl, ⟨by decide, by decide⟩, _, rfl, _, _, rfl, .inl ⟨_, SqL.of gD4, rfl⟩, _, _, rfl, rfl, _, _, rfl, rfl, (by show (0 : Int) < _; omega), _, rfl, D, _, rfl, SqL.of gD4, fun p np => ?_⟩
              have ecut : cutV (ls.map V.int) none (some (nth ns (a + 9 + 2 * (0 + (i : Int))) / 3 % ((ls.map V.int).length + 1))) = (ls.take j).map V.int := by
                rw [hj, cut_to, List.map_take]
              obtain ⟨H5, e5, k5, g5⟩ := made (o := .lst ((ls.take j).map V.int)) np
              have e5' : upd H4 p (.lst (cutV (ls.map V.int) none (some (nth ns (a + 9 + 2 * (0 + (i : Int))) / 3 % ((ls.map V.int).length + 1))))) = H5 := by
                rw [ecut]
                exact e5
              refine ⟨p, ls.take j, rfl, ?_, (by show 3 ≤ sizeLine; decide), fun t2 nt2 => ?_⟩
              · have z : (upd H4 p (.lst (cutV (ls.map V.int) none (some (nth ns (a + 9 + 2 * (0 + (i : Int))) / 3 % ((ls.map V.int).length + 1)))))) p = some (.lst ((ls.take j).map V.int)) := by
                  rw [e5']
                  exact g5
                exact SqL.of z
              have nt2' : H5 t2 = none := by
                rw [← e5']
                exact nt2
              obtain ⟨H6, e6, k6', g6⟩ := made (o := .tup [V.str "over", V.int (nth ns (a + 8 + 2 * (0 + (i : Int))) % ((gs.map V.int).length + 1)), V.int (ls.take j).sum]) nt2'
              have e6' : upd (upd H4 p (.lst (cutV (ls.map V.int) none (some (nth ns (a + 9 + 2 * (0 + (i : Int))) / 3 % ((ls.map V.int).length + 1)))))) t2 (.tup [V.str "over", V.int (nth ns (a + 8 + 2 * (0 + (i : Int))) % ((gs.map V.int).length + 1)), V.int (ls.take j).sum]) = H6 := by
                rw [e5']
                exact e6
              have k6 : Same H' H6 := (k4.trans k5).trans k6'
              have hov : isLk ls gs "over" (nth ns (a + 8 + 2 * (0 + (i : Int))) % ((gs.map V.int).length + 1)) (ls.take j).sum = true := by
                have lt := of_decide_eq_true hb2
                unfold isLk
                rw [if_neg (by decide), decide_eq_true ab0, decide_eq_true (show (nth ns (a + 8 + 2 * (0 + (i : Int))) % ((gs.map V.int).length + 1)) < (gs.length : Int) by omega)]
                have mem : (ls.take j).sum ∈ crossN ls := List.mem_map.mpr ⟨j, List.mem_range.mpr (by omega), rfl⟩
                rw [decide_eq_true mem]
                rfl
              have okov : okk (lk "over" (nth ns (a + 8 + 2 * (0 + (i : Int))) % ((gs.map V.int).length + 1)) (ls.take j).sum) = true := ok_lk (by decide +kernel) _ _
              rw [e6']
              have hcT := k6 _ _ hc
              have hxT := hx.same k6
              have kAll := k'.trans k6
              have hkr : Kr H6 (.ref t2) (lk "over" (nth ns (a + 8 + 2 * (0 + (i : Int))) % ((gs.map V.int).length + 1)) ((ls.take j).sum)) := ⟨t2, rfl, g6⟩
              refine ⟨_, rfl, _, rfl, dK (lk "over" (nth ns (a + 8 + 2 * (0 + (i : Int))) % ((gs.map V.int).length + 1)) ((ls.take j).sum)), (kOf cs).map dK, hkr.dp, hxT.dl (SqL.of hcT), sh_dK okov, sh_dKs (fun k hk => ?_), _, rfl, ?_⟩
              · obtain ⟨d, hd, rfl⟩ := List.mem_map.mp hk
                exact (hlk d hd).2
              rw [any_dK]
              refine ite2 (fun hin => ?_) (fun hin => ?_)
              · have hni : lk "over" (nth ns (a + 8 + 2 * (0 + (i : Int))) % ((gs.map V.int).length + 1)) ((ls.take j).sum) ∉ kOf cs := fun z => by
                  rw [decide_eq_true z] at hin
                  cases hin
                refine ⟨_, rfl, ?_⟩
                refine And.intro (Or.inl ⟨rfl, _, SqL.of hcT⟩) ?_
                have hxl := hx.len
                have hkl : (kOf cs).length = cs.length := List.length_map _
                refine ⟨_, rfl, c, xs, _, rfl, rfl, hcT, by rw [sizeLine_eq]; omega, ?_⟩
                refine ⟨_, _, _, _, xs ++ [.ref t2], cs ++ [(("over" : Str), (nth ns (a + 8 + 2 * (0 + (i : Int))) % ((gs.map V.int).length + 1)), ((ls.take j).sum))], rfl, fun b u e => ?_, upd_same, ?_, ?_, ?_, ?_⟩
                · rw [upd_ne (ne_of_none e nc)]
                  exact kAll b u e
                · have z : kOf (cs ++ [(("over" : Str), (nth ns (a + 8 + 2 * (0 + (i : Int))) % ((gs.map V.int).length + 1)), ((ls.take j).sum))]) = kOf cs ++ [lk "over" (nth ns (a + 8 + 2 * (0 + (i : Int))) % ((gs.map V.int).length + 1)) ((ls.take j).sum)] := by
                    unfold kOf
                    rw [List.map_append]
                    rfl
                  rw [z]
                  exact (hxT.over hcT).snoc (hkr.over hcT)
                · have z : kOf (cs ++ [(("over" : Str), (nth ns (a + 8 + 2 * (0 + (i : Int))) % ((gs.map V.int).length + 1)), ((ls.take j).sum))]) = kOf cs ++ [lk "over" (nth ns (a + 8 + 2 * (0 + (i : Int))) % ((gs.map V.int).length + 1)) ((ls.take j).sum)] := by
                    unfold kOf
                    rw [List.map_append]
                    rfl
                  rw [z]
                  exact List.nodup_append.mpr ⟨hnd, by simp, fun y hy y' hy' e => hni (by rw [List.mem_singleton.mp hy'] at e; rw [← e]; exact hy)⟩
                · intro d hd
                  rcases List.mem_append.mp hd with z | z
                  · exact hlk d z
                  · rw [List.mem_singleton.mp z]
                    exact ⟨hov, okov⟩
                · rw [List.length_append]
                  show cs.length + 1 ≤ i + 1
                  omega
              · exact ⟨_, _, _, _, xs, cs, rfl, kAll, hcT, hxT, hnd, hlk, by omega⟩
            · refine ?_
              have hcT := k4 _ _ hc
              have hxT := hx.same k4
              have kAll := k'.trans k4
              have hkr : Kr H4 (.ref t1) (lk "up" (nth ns (a + 8 + 2 * (0 + (i : Int))) % ((gs.map V.int).length + 1)) ((nth ns (a + 9 + 2 * (0 + (i : Int)))) / 3 % ls.sum)) := ⟨t1, rfl, g4⟩
              refine ⟨_, rfl, _, rfl, dK (lk "up" (nth ns (a + 8 + 2 * (0 + (i : Int))) % ((gs.map V.int).length + 1)) ((nth ns (a + 9 + 2 * (0 + (i : Int)))) / 3 % ls.sum)), (kOf cs).map dK, hkr.dp, hxT.dl (SqL.of hcT), sh_dK okup, sh_dKs (fun k hk => ?_), _, rfl, ?_⟩
              · obtain ⟨d, hd, rfl⟩ := List.mem_map.mp hk
                exact (hlk d hd).2
              rw [any_dK]
              refine ite2 (fun hin => ?_) (fun hin => ?_)
              · have hni : lk "up" (nth ns (a + 8 + 2 * (0 + (i : Int))) % ((gs.map V.int).length + 1)) ((nth ns (a + 9 + 2 * (0 + (i : Int)))) / 3 % ls.sum) ∉ kOf cs := fun z => by
                  rw [decide_eq_true z] at hin
                  cases hin
                refine ⟨_, rfl, ?_⟩
                refine And.intro (Or.inl ⟨rfl, _, SqL.of hcT⟩) ?_
                have hxl := hx.len
                have hkl : (kOf cs).length = cs.length := List.length_map _
                refine ⟨_, rfl, c, xs, _, rfl, rfl, hcT, by rw [sizeLine_eq]; omega, ?_⟩
                refine ⟨_, _, _, _, xs ++ [.ref t1], cs ++ [(("up" : Str), (nth ns (a + 8 + 2 * (0 + (i : Int))) % ((gs.map V.int).length + 1)), ((nth ns (a + 9 + 2 * (0 + (i : Int)))) / 3 % ls.sum))], rfl, fun b u e => ?_, upd_same, ?_, ?_, ?_, ?_⟩
                · rw [upd_ne (ne_of_none e nc)]
                  exact kAll b u e
                · have z : kOf (cs ++ [(("up" : Str), (nth ns (a + 8 + 2 * (0 + (i : Int))) % ((gs.map V.int).length + 1)), ((nth ns (a + 9 + 2 * (0 + (i : Int)))) / 3 % ls.sum))]) = kOf cs ++ [lk "up" (nth ns (a + 8 + 2 * (0 + (i : Int))) % ((gs.map V.int).length + 1)) ((nth ns (a + 9 + 2 * (0 + (i : Int)))) / 3 % ls.sum)] := by
                    unfold kOf
                    rw [List.map_append]
                    rfl
                  rw [z]
                  exact (hxT.over hcT).snoc (hkr.over hcT)
                · have z : kOf (cs ++ [(("up" : Str), (nth ns (a + 8 + 2 * (0 + (i : Int))) % ((gs.map V.int).length + 1)), ((nth ns (a + 9 + 2 * (0 + (i : Int)))) / 3 % ls.sum))]) = kOf cs ++ [lk "up" (nth ns (a + 8 + 2 * (0 + (i : Int))) % ((gs.map V.int).length + 1)) ((nth ns (a + 9 + 2 * (0 + (i : Int)))) / 3 % ls.sum)] := by
                    unfold kOf
                    rw [List.map_append]
                    rfl
                  rw [z]
                  exact List.nodup_append.mpr ⟨hnd, by simp, fun y hy y' hy' e => hni (by rw [List.mem_singleton.mp hy'] at e; rw [← e]; exact hy)⟩
                · intro d hd
                  rcases List.mem_append.mp hd with z | z
                  · exact hlk d z
                  · rw [List.mem_singleton.mp z]
                    exact ⟨hup, okup⟩
                · rw [List.length_append]
                  show cs.length + 1 ≤ i + 1
                  omega
              · exact ⟨_, _, _, _, xs, cs, rfl, kAll, hcT, hxT, hnd, hlk, by omega⟩
          · refine ?_
            have hcT := k4 _ _ hc
            have hxT := hx.same k4
            have kAll := k'.trans k4
            have hkr : Kr H4 (.ref t1) (lk "up" (nth ns (a + 8 + 2 * (0 + (i : Int))) % ((gs.map V.int).length + 1)) ((nth ns (a + 9 + 2 * (0 + (i : Int)))) / 3 % ls.sum)) := ⟨t1, rfl, g4⟩
            refine ⟨_, rfl, _, rfl, dK (lk "up" (nth ns (a + 8 + 2 * (0 + (i : Int))) % ((gs.map V.int).length + 1)) ((nth ns (a + 9 + 2 * (0 + (i : Int)))) / 3 % ls.sum)), (kOf cs).map dK, hkr.dp, hxT.dl (SqL.of hcT), sh_dK okup, sh_dKs (fun k hk => ?_), _, rfl, ?_⟩
            · obtain ⟨d, hd, rfl⟩ := List.mem_map.mp hk
              exact (hlk d hd).2
            rw [any_dK]
            refine ite2 (fun hin => ?_) (fun hin => ?_)
            · have hni : lk "up" (nth ns (a + 8 + 2 * (0 + (i : Int))) % ((gs.map V.int).length + 1)) ((nth ns (a + 9 + 2 * (0 + (i : Int)))) / 3 % ls.sum) ∉ kOf cs := fun z => by
                rw [decide_eq_true z] at hin
                cases hin
              refine ⟨_, rfl, ?_⟩
              refine And.intro (Or.inl ⟨rfl, _, SqL.of hcT⟩) ?_
              have hxl := hx.len
              have hkl : (kOf cs).length = cs.length := List.length_map _
              refine ⟨_, rfl, c, xs, _, rfl, rfl, hcT, by rw [sizeLine_eq]; omega, ?_⟩
              refine ⟨_, _, _, _, xs ++ [.ref t1], cs ++ [(("up" : Str), (nth ns (a + 8 + 2 * (0 + (i : Int))) % ((gs.map V.int).length + 1)), ((nth ns (a + 9 + 2 * (0 + (i : Int)))) / 3 % ls.sum))], rfl, fun b u e => ?_, upd_same, ?_, ?_, ?_, ?_⟩
              · rw [upd_ne (ne_of_none e nc)]
                exact kAll b u e
              · have z : kOf (cs ++ [(("up" : Str), (nth ns (a + 8 + 2 * (0 + (i : Int))) % ((gs.map V.int).length + 1)), ((nth ns (a + 9 + 2 * (0 + (i : Int)))) / 3 % ls.sum))]) = kOf cs ++ [lk "up" (nth ns (a + 8 + 2 * (0 + (i : Int))) % ((gs.map V.int).length + 1)) ((nth ns (a + 9 + 2 * (0 + (i : Int)))) / 3 % ls.sum)] := by
                  unfold kOf
                  rw [List.map_append]
                  rfl
                rw [z]
                exact (hxT.over hcT).snoc (hkr.over hcT)
              · have z : kOf (cs ++ [(("up" : Str), (nth ns (a + 8 + 2 * (0 + (i : Int))) % ((gs.map V.int).length + 1)), ((nth ns (a + 9 + 2 * (0 + (i : Int)))) / 3 % ls.sum))]) = kOf cs ++ [lk "up" (nth ns (a + 8 + 2 * (0 + (i : Int))) % ((gs.map V.int).length + 1)) ((nth ns (a + 9 + 2 * (0 + (i : Int)))) / 3 % ls.sum)] := by
                  unfold kOf
                  rw [List.map_append]
                  rfl
                rw [z]
                exact List.nodup_append.mpr ⟨hnd, by simp, fun y hy y' hy' e => hni (by rw [List.mem_singleton.mp hy'] at e; rw [← e]; exact hy)⟩
              · intro d hd
                rcases List.mem_append.mp hd with z | z
                · exact hlk d z
                · rw [List.mem_singleton.mp z]
                  exact ⟨hup, okup⟩
              · rw [List.length_append]
                show cs.length + 1 ≤ i + 1
                omega
            · exact ⟨_, _, _, _, xs, cs, rfl, kAll, hcT, hxT, hnd, hlk, by omega⟩
        · rintro σ H' ⟨vk, va, vs, vl, xs, cs, rfl, k', hc, hx, hnd, hlk, hle⟩
          refine ⟨_, rfl, _, rfl, _, rfl, (by show 3 ≤ sizeLine; decide), fun t nt => ?_⟩
          have st : Same H' (upd H' t (.tup [.ref D, .ref G, .ref c])) := same_upd nt
          refine q _ t D G c ls gs xs cs ((k3.trans k').trans st) ((k3.trans k').free nt) upd_same nH nG0 nc0 (st _ _ (k' _ _ gl3)) (st _ _ (k' _ _ g3)) (st _ _ hc) (hx.same st) ⟨⟨hl2, hL.all⟩, ⟨by omega, hG.all⟩, by omega, hnd, fun d hd => (hlk d hd).1⟩ hg4 (by omega)
end

/-! ### the law's own helpers -/
section
open GxR NdefX PySem.Spec PyProof.Rows
variable {P : Program} {w : World} {K : PySem.W.Frag} {mg : Str → Option Value} {base : Heap}
theorem ok_crosses2 {f : Addr} {fd : FuncData} (F : Fun K "_law_crosses" "_law_crosses" s__law_crosses f fd) (Z : LawTop mg) : FnOk P w K mg base CX0 1 f fd ["lengths"] (spCross K) := by
  refine F.ok sc__law_crosses (fun vs H Q E h => ?_) (fun cdv A outer s H vs Q E hr h => ?_)
  · obtain ⟨l, ls, rfl, _⟩ := h
    rfl
  · obtain ⟨l, ls, rfl, hl, hn, q⟩ := h
    have nd := sc__law_crosses.nd
    refine ⟨_, (pss_one (ps_ret (pe_lc (own := [("k", 1)]) (g := gName 1) (tt := _) rfl nd (pi_range1 rfl Z.range (pa_cons (pe_op op_add (pe_callB call_len (by rfl) Z.len (by decide +kernel) (pa_cons (pv 0) pa_nil)) pe_int) pa_nil)) (blkOk_by (N := ["lengths", "k"]) (sc := defScope s__law_crosses) (by decide +kernel)) (fun _ _ _ _ _ => pg_name (i := 1) nd rfl (Or.inl rfl)) (fun _ _ _ _ _ => pts_nil) (fun _ _ _ _ _ => (pe_callB (r := rSum K) (cr_sum rfl) (by rfl) Z.sum (by decide +kernel) (pa_cons (pe_slice (r := rSlL K) sl_list (pv 0) po_none (po_some (pv 1))) pa_nil)))))), ?_⟩
    refine ⟨_, rfl, _, _, rfl, .inl ⟨_, hl, rfl⟩, _, _, rfl, rfl, _, rfl, by rw [List.length_map]; omega, by rw [List.length_map]; omega, fun D nD => ?_⟩
    have en : (((ls.map V.int).length : Int) + 1).toNat = ls.length + 1 := by rw [List.length_map]; omega
    refine lc_range (lo := 0) (n := (((ls.map V.int).length : Int) + 1).toNat) (fun i H' => Same H H' ∧ H' D = some (.lst (((List.range i).map fun k => (ls.take k).sum).map V.int))) ?_ ?_ ?_
    · exact ⟨same_upd nD, upd_same⟩
    · rintro i H' hi ⟨k', hD⟩
      refine ⟨rfl, ?_⟩
      refine ⟨_, rfl, _, rfl, _, rfl, l, _, rfl, k'.seq hl, fun p np => ?_⟩
      have ecut : cutV (ls.map V.int) none (some (0 + (i : Int))) = (ls.take i).map V.int := by
        rw [Int.zero_add, cut_to, List.map_take]
      obtain ⟨H5, e5, k5, g5⟩ := made (o := .lst ((ls.take i).map V.int)) np
      have e5' : upd H' p (.lst (cutV (ls.map V.int) none (some (0 + (i : Int))))) = H5 := by
        rw [ecut]
        exact e5
      rw [e5']
      have nDp : D ≠ p := ne_of_none hD np
      refine ⟨p, ls.take i, rfl, SqL.of g5, _, k5 _ _ hD, ?_, ?_, ?_⟩
      · rw [List.length_map, List.length_map, List.length_range, sizeLine_eq]
        omega
      · intro b u e
        rw [upd_ne (ne_of_none e nD)]
        exact k5 _ _ (k' _ _ e)
      · rw [upd_same, List.range_succ, List.map_append, List.map_append]
        rfl
    · rintro H' ⟨k', hD⟩
      rw [en] at hD
      exact q H' D k' nD hD

end

section
open GxR NdefX PySem.Spec PyProof.Rows
variable {P : Program} {w : World} {K : PySem.W.Frag} {mg : Str → Option Value} {base : Heap}
/-- behind a new object: all but it is as it was -/
theorem mkKp {H H' : Hp} {x dx : Addr} {o u : HO} (n : H x = none) (m : H dx = none) (k : KpB x (upd (upd H dx u) x o) H') : Kp H H' := by
  have step : ∀ b z, H b = some z → (upd (upd H dx u) x o) b = some z := fun b z e => by
    rw [upd_ne (ne_of_none e n), upd_ne (ne_of_none e m)]
    exact e
  exact ⟨fun b z e t => k.at_ b z (step b z e) (ne_of_none e n) t, fun P ⟨ps, e, t⟩ => k.tab P ⟨ps, step _ _ e, t⟩⟩
structure PropD (P : Program) (w : World) (K : PySem.W.Frag) (mg : Str → Option Value) (base : Heap) (C : Addr) (k : Nat) (x : Str) (sp : Sp) where
  f : Addr
  p : Addr
  fd : FuncData
  h : PropOf K C x p f
  G : FnOk P w K mg base CX0 k f fd ["self"] sp
  b : Binds K fd ["self"] []
structure MethD (P : Program) (w : World) (K : PySem.W.Frag) (mg : Str → Option Value) (base : Heap) (C : Addr) (k : Nat) (x : Str) (ps : List Str) (sp : Sp) where
  f : Addr
  fd : FuncData
  m : Meth K C x f
  G : FnOk P w K mg base CX0 k f fd ps sp
  b : Binds K fd ps []
structure TopD (P : Program) (w : World) (K : PySem.W.Frag) (mg : Str → Option Value) (base : Heap) (k : Nat) (x : Str) (ps : List Str) (sp : Sp) where
  f : Addr
  fd : FuncData
  G : FnOk P w K mg base CX0 k f fd ps sp
  b : Binds K fd ps []
  g : mg x = some (.ref f)
  kp : PySem.W.keepIn K (.ref f) = true
theorem okk_valid {ls gs : List Int} {cs : List (Str × Int × Int)} (v : Valid ls gs cs) : ∀ k ∈ kOf cs, okk k = true := fun k hk => by
  obtain ⟨c, hc, rfl⟩ := List.mem_map.mp hk
  have q := v.2.2.2.2 c hc
  refine ok_lk ?_ _ _
  unfold isLk at q
  by_cases h1 : c.1 = "up"
  · rw [h1]
    decide +kernel
  · rw [if_neg h1] at q
    have h2 : c.1 = "over" := by
      simp only [Bool.and_eq_true, decide_eq_true_eq] at q
      exact q.1
    rw [h2]
    decide +kernel
/-- the places of a grid, aisle by aisle -/
def gridP (wd hg : Nat) : List Pl := (List.range wd).flatMap fun (a : Nat) => (List.range hg).map fun (b : Nat) => ((a : Int), (b : Int))
theorem grid_succ (wd hg : Nat) : gridP (wd + 1) hg = gridP wd hg ++ (List.range hg).map fun (b : Nat) => ((wd : Int), (b : Int)) := by
  unfold gridP
  rw [List.range_succ, List.flatMap_append]
  simp
theorem grid_len (wd hg : Nat) : (gridP wd hg).length = wd * hg := by
  induction wd with
  | zero => simp [gridP]
  | succ n ih => rw [grid_succ, List.length_append, ih, List.length_map, List.length_range, Nat.succ_mul]
def spGrid : Sp := fun vs H Q _ => ∃ (wd hg : Nat), vs = [.int wd, .int hg] ∧ wd ≤ 100 ∧ hg ≤ 100 ∧ ∀ (H' : Hp) (r : Addr) (xs : List V), Same H H' → H r = none → H' r = some (.lst xs) → Prs H' xs (gridP wd hg) → Q (.ref r) H'
theorem ok_grid {f : Addr} {fd : FuncData} (F : Fun K "_law_grid" "_law_grid" s__law_grid f fd) (hrange : mg "range" = none) : FnOk P w K mg base CX0 1 f fd ["wide", "high"] spGrid := by
  refine F.ok sc__law_grid (fun vs H Q E h => ?_) (fun cdv A outer s H vs Q E hr h => ?_)
  · obtain ⟨wd, hg, rfl, _⟩ := h
    rfl
  · obtain ⟨wd, hg, rfl, hw, hh, q⟩ := h
    have nd := sc__law_grid.nd
    refine ⟨_, (pss_cons (ps_set (i := 2) nd rfl (.inl rfl) (pe_lst pa_nil))
      (pss_cons (ps_for PassesOwn.never rfl (pi_range1 rfl hrange (pa_cons (pv 0) pa_nil)) (pg_name (i := 3) nd rfl (.inl rfl)) (pss_one (ps_for PassesOwn.never rfl (pi_range1 rfl hrange (pa_cons (pv 1) pa_nil)) (pg_name (i := 4) nd rfl (.inl rfl)) (pss_one (ps_expr (pe_bm PySem.F.plainAttrs_list PySem.F.slot_list_append PySem.F.type_list_append mt_append (pv 2) (pa_cons (pe_tup (pa_cons (pv 3) (pa_cons (pv 4) pa_nil))) pa_nil)))))))
      (pss_one (ps_ret (pv 2))))), ?_⟩
    refine ⟨Nat.zero_le _, fun r nr => ?_⟩
    refine ⟨_, rfl, wd, rfl, by omega, by omega, ?_⟩
    refine for_range (lo := 0) (n := wd) (fun i σ H' => ∃ (xs : List V) (v3 v4 : Option V), σ = [some (.int wd), some (.int hg), some (.ref r), v3, v4] ∧ Same H H' ∧ H' r = some (.lst xs) ∧ Prs H' xs (gridP i hg)) ?_ ?_ ?_
    · exact ⟨[], none, none, rfl, same_upd nr, upd_same, .nil⟩
    · rintro i σ H' hi ⟨xs, v3, v4, rfl, k, g, hx⟩
      refine ⟨_, rfl, hg, rfl, by omega, by omega, ?_⟩
      refine for_range (lo := 0) (n := hg) (fun j σ H' => ∃ (xs : List V) (v4 : Option V), σ = [some (.int wd), some (.int hg), some (.ref r), some (.int (0 + i)), v4] ∧ Same H H' ∧ H' r = some (.lst xs) ∧ Prs H' xs (gridP i hg ++ (List.range j).map fun (b : Nat) => ((i : Int), (b : Int)))) ?_ ?_ ?_
      · exact ⟨xs, v4, rfl, k, g, by simpa using hx⟩
      · rintro j σ H' hj ⟨xs, v4, rfl, k, g, hx⟩
        have hxl := hx.len
        rw [List.length_append, grid_len, List.length_map, List.length_range] at hxl
        have hb : i * hg ≤ 100 * 100 := Nat.mul_le_mul (by omega) hh
        refine ⟨_, rfl, .inl ⟨rfl, _, SqL.of g⟩, _, rfl, _, rfl, (by show 2 ≤ sizeLine; decide), fun t nt => ?_⟩
        have nrt : r ≠ t := ne_of_none g nt
        refine ⟨r, xs, _, rfl, rfl, by rw [upd_ne nrt]; exact g, small1e7 (by omega), ?_⟩
        have kt : Same H' (upd H' t (.tup [.int (0 + i), .int (0 + j)])) := same_upd nt
        refine ⟨_, _, rfl, Same.over (k.trans kt) nr, upd_same, ?_⟩
        rw [List.range_succ, List.map_append, ← List.append_assoc]
        refine ((hx.same kt).snoc (p := ((i : Int), (j : Int))) ⟨t, rfl, ?_⟩).over (zs := xs) (by rw [upd_ne nrt]; exact g)
        rw [upd_same]
        simp
      · rintro σ H' ⟨xs, v4, rfl, k, g, hx⟩
        rw [← grid_succ] at hx
        exact ⟨xs, _, _, rfl, k, g, hx⟩
    · rintro σ H' ⟨xs, v3, v4, rfl, k, g, hx⟩
      exact ⟨_, rfl, q H' r xs k nr g hx⟩
theorem Lens.pos2 {ls : List Int} (h : Lens ls) : 0 ≤ ls.sum := by
  have q := h.pos ls.length
  rw [List.take_length] at q
  exact q
theorem Lens.le {ls : List Int} (h : Lens ls) (k : Nat) : (ls.take k).sum ≤ ls.sum := by
  have e : ls.sum = (ls.take k).sum + (ls.drop k).sum := by
    rw [← List.sum_append, List.take_append_drop]
  have q : Lens (ls.drop k) := fun x hx => h x (List.mem_of_mem_drop hx)
  have z := q.pos2
  omega
theorem Lens.top {ls : List Int} (h : Lens ls) (hl : ls.length ≤ 2) : ls.sum ≤ 80 := by
  match ls, h, hl with
  | [], _, _ => decide
  | [x], h, _ =>
    have := h x (by simp)
    simp
    omega
  | [x, y], h, _ =>
    have := h x (by simp)
    have := h y (by simp)
    simp
    omega
  | _ :: _ :: _ :: _, _, hl => simp at hl
theorem Lens.cross {ls : List Int} (h : Lens ls) {y : Int} (hy : y ∈ crossN ls) : 0 ≤ y ∧ y ≤ ls.sum := by
  unfold crossN at hy
  obtain ⟨k, _, rfl⟩ := List.mem_map.mp hy
  exact ⟨h.pos k, h.le k⟩
theorem Krs.take {H : Hp} {vs : List V} {ks : List Tk} (h : Krs H vs ks) : ∀ n, Krs H (vs.take n) (ks.take n) := by
  induction h with
  | nil => intro n; cases n <;> exact .nil
  | cons a _ ih => intro n; cases n with
    | zero => exact .nil
    | succ n => exact .cons a (ih n)
end

/-! ### going over a range or a list, whatever a turn does -/
section
open GxR NdefX PySem.Spec PyProof.Rows
variable {P : Program} {w : World} {K : PySem.W.Frag} {mg : Str → Option Value} {base : Heap}
abbrev Goes (J : It) (H1 : Hp) (Qd : Hp → Prop) (B : V → Hp → (Hp → Prop) → Prop) : Prop := ∃ W : Nat → Nat → Hp → Prop, (∃ m, W 0 m H1) ∧ ∀ i m H, W i m H →
  (J.stop i H ∧ Qd H) ∨ (J.go i H ∧ ∃ Nx : Hp → Prop, (∀ H', Nx H' → ∃ m', m' < m ∧ W (i + 1) m' H') ∧ ∀ x H', J.yld i H x H' → B x H' Nx)
theorem go_range {lo : Int} {n : Nat} {H1 : Hp} {Qd : Hp → Prop} {B : V → Hp → (Hp → Prop) → Prop} (Pv : Nat → Hp → Prop) (h0 : Pv 0 H1)
    (hs : ∀ i H, i < n → Pv i H → B (.int (lo + i)) H (Pv (i + 1))) (hd : ∀ H, Pv n H → Qd H) : Goes (Itr lo n) H1 Qd B := by
  refine ⟨fun i m H => i + m = n ∧ Pv i H, ⟨n, Nat.zero_add n, h0⟩, fun i m H z => ?_⟩
  obtain ⟨e, p⟩ := z
  cases m with
  | zero =>
    have e2 : i = n := by omega
    rw [e2] at p
    exact .inl ⟨Nat.le_of_eq e2.symm, hd H p⟩
  | succ m =>
    have lt : i < n := by omega
    refine .inr ⟨lt, Pv (i + 1), fun H' p' => ⟨m, Nat.lt_succ_self m, by omega, p'⟩, fun x H' y => ?_⟩
    obtain ⟨y1, y2⟩ := y
    rw [y1, y2]
    exact hs i H lt p
theorem go_list {a : Addr} {xs : List V} {H1 : Hp} {Qd : Hp → Prop} {B : V → Hp → (Hp → Prop) → Prop} (Pv : Nat → Hp → Prop) (h0 : Pv 0 H1) (hl : ∀ i H, Pv i H → SqL K H a xs)
    (hs : ∀ i x H, xs[i]? = some x → Pv i H → B x H (Pv (i + 1))) (hd : ∀ H, Pv xs.length H → Qd H) : Goes (Itl K a) H1 Qd B := by
  refine ⟨fun i m H => i + m = xs.length ∧ Pv i H, ⟨xs.length, Nat.zero_add _, h0⟩, fun i m H z => ?_⟩
  obtain ⟨e, p⟩ := z
  cases m with
  | zero =>
    have e2 : i = xs.length := by omega
    rw [e2] at p
    exact .inl ⟨⟨xs, hl _ H p, Nat.le_of_eq e2.symm⟩, hd H p⟩
  | succ m =>
    have lt : i < xs.length := by omega
    refine .inr ⟨⟨xs, xs[i], hl i H p, List.getElem?_eq_getElem lt⟩, Pv (i + 1), fun H' p' => ⟨m, Nat.lt_succ_self m, by omega, p'⟩, fun x H' y => ?_⟩
    obtain ⟨y1, y2⟩ := y
    rw [y1]
    exact hs i x H (y2 xs (hl i H p)) p
/-! ### all links -/
def lkC (c : Str × Int × Int) : Tk := lk c.1 c.2.1 c.2.2
theorem kOf_eq (cs : List (Str × Int × Int)) : kOf cs = cs.map lkC := rfl
theorem lkC_inj {c d : Str × Int × Int} (h : lkC c = lkC d) : c = d := by
  obtain ⟨x, a, b⟩ := c
  obtain ⟨y, a', b'⟩ := d
  have h' : lk x a b = lk y a' b' := h
  unfold lk at h'
  injection h' with e1 e2
  injection e2 with e3 e4
  injection e4 with e5 _
  rw [Sum.inr.inj e1, Sum.inl.inj e3, Sum.inl.inj e5]
theorem mem_kOf {c : Str × Int × Int} {cs : List (Str × Int × Int)} : lkC c ∈ kOf cs ↔ c ∈ cs := by
  rw [kOf_eq]
  refine ⟨fun h => ?_, fun h => List.mem_map_of_mem h⟩
  obtain ⟨d, hd, e⟩ := List.mem_map.mp h
  rw [← lkC_inj e]
  exact hd
theorem mem_grid {n m : Nat} {a b : Int} : (a, b) ∈ gridP n m ↔ 0 ≤ a ∧ a < n ∧ 0 ≤ b ∧ b < m := by
  unfold gridP
  simp only [List.mem_flatMap, List.mem_range, List.mem_map, Prod.mk.injEq]
  constructor
  · rintro ⟨i, hi, j, hj, rfl, rfl⟩
    omega
  · rintro ⟨h1, h2, h3, h4⟩
    exact ⟨a.toNat, by omega, b.toNat, by omega, by omega, by omega⟩
def upsL (n s : Nat) : List (Str × Int × Int) := (gridP n s).map fun p => (("up" : Str), p.1, p.2)
def overA (ls : List Int) (a : Nat) : List (Str × Int × Int) := (crossN ls).map fun h => (("over" : Str), (a : Int), h)
def oversL (ls : List Int) (n : Nat) : List (Str × Int × Int) := (List.range n).flatMap (overA ls)
theorem overs_succ (ls : List Int) (n : Nat) : oversL ls (n + 1) = oversL ls n ++ overA ls n := by
  unfold oversL
  rw [List.range_succ, List.flatMap_append]
  simp
theorem crossN_len (ls : List Int) : (crossN ls).length = ls.length + 1 := by
  unfold crossN
  rw [List.length_map, List.length_range]
theorem overs_len (ls : List Int) (n : Nat) : (oversL ls n).length = n * (ls.length + 1) := by
  induction n with
  | zero => simp [oversL]
  | succ n ih =>
    rw [overs_succ, List.length_append, ih, Nat.succ_mul]
    unfold overA
    rw [List.length_map, crossN_len]
def linksL (ls gs : List Int) : List (Str × Int × Int) := oversL ls gs.length ++ upsL (gs.length + 1) ls.sum.toNat
theorem over_up : ¬ (("over" : Str) = "up") := by decide +kernel
theorem mem_links {ls gs : List Int} (h0 : 0 ≤ ls.sum) (c : Str × Int × Int) : c ∈ linksL ls gs ↔ isLk ls gs c.1 c.2.1 c.2.2 = true := by
  obtain ⟨x, a, b⟩ := c
  unfold linksL upsL oversL overA isLk
  simp only [List.mem_append, List.mem_flatMap, List.mem_range, List.mem_map, Prod.mk.injEq, Prod.exists]
  by_cases hx : x = "up"
  · subst hx
    rw [if_pos rfl]
    constructor
    · rintro (⟨i, hi, h, _, e, _⟩ | ⟨p, q, hm, _, rfl, rfl⟩)
      · exact absurd e over_up
      · have z := mem_grid.mp hm
        simp only [Bool.and_eq_true, decide_eq_true_eq]
        omega
    · intro z
      simp only [Bool.and_eq_true, decide_eq_true_eq] at z
      exact .inr ⟨a, b, mem_grid.mpr (by omega), rfl, rfl, rfl⟩
  · rw [if_neg hx]
    simp only [Bool.and_eq_true, decide_eq_true_eq]
    constructor
    · rintro (⟨i, hi, h, hh, rfl, rfl, rfl⟩ | ⟨p, q, _, e, _⟩)
      · exact ⟨rfl, ⟨by omega, by omega⟩, hh⟩
      · exact absurd e.symm hx
    · rintro ⟨rfl, ⟨h1, h2⟩, h3⟩
      exact .inl ⟨a.toNat, by omega, b, h3, rfl, by omega, rfl⟩
theorem Room.units1 {k : Nat} {A : Around} (r : Room k A) : A.units + 1 < cLine := by
  have := r.un
  omega
theorem val_closed {ls gs : List Int} {cs : List (Str × Int × Int)} (v : Valid ls gs cs) (k : Tk) : (valV ((kOf cs).map fun k => (k, V.bl true)) k).isSome = decide (k ∈ kOf cs) := by
  rw [← (ded_eq (kOf cs)).1 v.2.2.2.1]
  exact ded_mem _ _
theorem Valid.lens {ls gs : List Int} {cs : List (Str × Int × Int)} (v : Valid ls gs cs) : Lens ls := fun x hx => by
  have z := List.all_eq_true.mp v.1.2 x hx
  unfold longN at z
  rw [Bool.and_eq_true, decide_eq_true_eq, decide_eq_true_eq] at z
  exact z
/-! ### places, cross places, closed links -/
def isPl (ls gs : List Int) (p : Pl) : Bool := (decide (0 ≤ p.1) && decide (p.1 ≤ gs.length)) && (decide (0 ≤ p.2) && decide (p.2 ≤ ls.sum))
def isCr (ls gs : List Int) (p : Pl) : Bool := isPl ls gs p && decide (p.2 ∈ crossN ls)
def spPl (C : Addr) (f : List Int → List Int → Pl → Bool) : Sp := fun vs H Q _ => ∃ (p : Addr) (v : V) (ls gs : List Int) (cs : List (Str × Int × Int)) (pl : Pl), vs = [.ref p, v] ∧ HouseAt C H p ls gs cs ∧ Pr H v pl ∧ Q (.bl (f ls gs pl)) H
def spClosedQ (C : Addr) : Sp := fun vs H Q _ => ∃ (p : Addr) (v : V) (ls gs : List Int) (cs : List (Str × Int × Int)) (k : Tk), vs = [.ref p, v] ∧ HouseAt C H p ls gs cs ∧ Kr H v k ∧ Q (.bl (decide (k ∈ kOf cs))) H
theorem Pr.kr {H : Hp} {v : V} {p : Pl} (h : Pr H v p) : ∃ t, v = .ref t ∧ H t = some (.tup [.int p.1, .int p.2]) := h
theorem ok_is_place {f C : Addr} {fd : FuncData} (F : Fun K "is_place" "House.is_place" s_House_is_place f fd) (Z : HouseTop mg) (T : HouseTxt K mg C) : FnOk P w K mg base CX0 1 f fd ["self", "place"] (spPl C isPl) := by
  refine F.ok sc_House_is_place (fun vs H Q E h => ?_) (fun cdv A outer s H vs Q E hr h => ?_)
  · obtain ⟨p, v, ls, gs, cs, pl, rfl, _⟩ := h
    rfl
  · obtain ⟨p, v, ls, gs, cs, pl, rfl, ⟨_, dx, l, g, c, d, h1, h2, h3, h4, h5⟩, ⟨t, rfl, ht⟩, q⟩ := h
    have nd := sc_House_is_place.nd
    refine ⟨_, (pss_cons (ps_asg (pv 1) (pg_tup rfl (pgs_cons (pg_name (i := 2) nd rfl (.inl rfl)) (pgs_cons (pg_name (i := 3) nd rfl (.inl rfl)) pgs_nil))))
      (pss_one (ps_ret (pe_and (pe_chain op_le op_le pe_int (pv 2) (pe_callB call_len (by rfl) Z.len (by decide +kernel) (pa_cons (pe_fld (pv 0) rfl) pa_nil))) (pe_one (pe_chain op_le op_le pe_int (pv 3) (pe_fld (pv 0) rfl))))))), ?_⟩
    refine ⟨_, rfl, t, _, rfl, SqT.of ht, rfl, _, _, rfl, _, _, rfl, rfl, ?_⟩
    have var : ∀ {σ : L2.St} {i : Nat} {v : V}, σ[i]? = some (some v) → Tells (tVar i) σ H v := fun e Q q => ⟨_, e, q⟩
    have fld : ∀ {σ : L2.St} {f : Str} {v : V}, σ[0]? = some (some (V.ref p)) → NoAttr K C f → (hf (.ref l) (.ref g) (.ref c) (.int ls.sum) (.ref d)).lookup f = some v → Tells (tFld K (tVar 0) f) σ H v := fun e n z Q q =>
      ⟨_, e, p, C, dx, _, _, rfl, h1, T.cl, n, z, q⟩
    have cnt : ∀ {σ : L2.St}, σ[0]? = some (some (V.ref p)) → Tells (tCB (fun xs H1 Q => ∃ x n, xs = [x] ∧ LenV K x H1 n ∧ Q (V.int (n : Nat)) H1) (tCons (tFld K (tVar 0) "_gaps") tNil)) σ H (.int gs.length) := fun e Q q =>
      fld e T.nG (hf_gaps _ _ _ _ _) _ ⟨_, _, rfl, .inl ⟨_, SqL.of h3, rfl⟩, by rw [List.length_map]; exact q⟩
    refine tells_and (tells_chain (f := fun i j => decide (i ≤ j)) (var rfl) (cnt rfl)) (tells_chain (f := fun i j => decide (i ≤ j)) (var rfl) (fld rfl T.nT (hf_top _ _ _ _ _))) _ ?_
    exact q
theorem ok_is_cross {f fI C : Addr} {fd fdI : FuncData} (F : Fun K "is_cross" "House.is_cross" s_House_is_cross f fd) (T : HouseTxt K mg C) (GI : FnOk P w K mg base CX0 1 fI fdI ["self", "place"] (spPl C isPl)) (bI : Binds K fdI ["self", "place"] []) (mI : Meth K C "is_place" fI) : FnOk P w K mg base CX0 2 f fd ["self", "place"] (spPl C isCr) := by
  refine F.ok sc_House_is_cross (fun vs H Q E h => ?_) (fun cdv A outer s H vs Q E hr h => ?_)
  · obtain ⟨p, v, ls, gs, cs, pl, rfl, _⟩ := h
    rfl
  · obtain ⟨p, v, ls, gs, cs, pl, rfl, hH, ⟨t, rfl, ht⟩, q⟩ := h
    obtain ⟨_, dx, l, g, c, d, h1, h2, h3, h4, h5⟩ := id hH
    refine ⟨_, (pss_one (ps_ret (pe_and (pe_meth (pv 0) T.cl mI GI hr bI .nil pass0 (pa_cons (pv 1) pa_nil)) (pe_one (pe_cmpR op_in_seq (pe_ix ix_tup (pv 1) pe_int (fun _ _ => rfl)) (pe_fld (pv 0) rfl) (by rfl)))))), ?_⟩
    refine ⟨_, rfl, p, dx, _, rfl, h1, hf_no _ _ _ _ _ (by decide +kernel) (by decide +kernel) (by decide +kernel) (by decide +kernel) (by decide +kernel), _, rfl, p, .ref t, ls, gs, cs, pl, rfl, hH, ⟨t, rfl, ht⟩, _, rfl, ?_⟩
    unfold isCr at q
    cases hp : isPl ls gs pl with
    | false =>
      rw [hp] at q
      exact q
    | true =>
      rw [hp, Bool.true_and] at q
      exact ⟨_, rfl, t, _, _, _, rfl, rfl, SqT.of ht, rfl, _, rfl, p, C, dx, _, _, rfl, h1, T.cl, T.nX, hf_crosses _ _ _ _ _, c, _, rfl, .inl (SqL.of h4), rfl, flat_ints _, by rw [inV_ints]; exact q⟩

end

/-! ### tasks -/
theorem ks1 : ¬ (("start" : Str) = "end") := by decide +kernel
theorem ks2 : ¬ (("start" : Str) = "_picks") := by decide +kernel
theorem ks3 : ¬ (("end" : Str) = "_picks") := by decide +kernel
def tf (a b : V) (l : Addr) : List (Str × V) := putF "_picks" (.ref l) (putF "end" b (putF "start" a []))
theorem tf_len2 (a b : V) : (putF "end" b (putF "start" a ([] : List (Str × V)))).length = 2 := by
  show (if ("start" : Str) = "end" then [(("start" : Str), b)] else (("start" : Str), a) :: putF "end" b []).length = 2
  rw [if_neg ks1]
  rfl
theorem tf_start (a b : V) (l : Addr) : (tf a b l).lookup ("start" : Str) = some a := by
  unfold tf
  rw [lookup_putF, if_neg ks2, lookup_putF, if_neg ks1, lookup_putF, if_pos rfl]
theorem tf_end (a b : V) (l : Addr) : (tf a b l).lookup ("end" : Str) = some b := by
  unfold tf
  rw [lookup_putF, if_neg ks3, lookup_putF, if_pos rfl]
theorem tf_picks (a b : V) (l : Addr) : (tf a b l).lookup ("_picks" : Str) = some (.ref l) := by
  unfold tf
  rw [lookup_putF, if_pos rfl]
theorem tf_no (a b : V) (l : Addr) {m : Str} (h1 : ¬ m = "start") (h2 : ¬ m = "end") (h3 : ¬ m = "_picks") : (tf a b l).lookup m = none := by
  unfold tf
  rw [lookup_putF, if_neg h3, lookup_putF, if_neg h2, lookup_putF, if_neg h1]
  rfl
/-- a task stands at p: its start, its end, its picks in order -/
def TaskAt (C : Addr) (H : Hp) (p : Addr) (st en : Pl) (ps : List Pl) : Prop := ∃ (dx l : Addr) (a b : V) (xs : List V),
  H p = some (.ins C dx (tf a b l)) ∧ Pr H a st ∧ Pr H b en ∧ H l = some (.lst xs) ∧ Prs H xs ps ∧ ps.Pairwise lp ∧ ps.Nodup ∧ ps.length ≤ 60
theorem TaskAt.same {C : Addr} {H H' : Hp} {p : Addr} {st en : Pl} {ps : List Pl} (h : TaskAt C H p st en ps) (k : Same H H') : TaskAt C H' p st en ps := by
  obtain ⟨dx, l, a, b, xs, h1, h2, h3, h4, h5, h6⟩ := h
  exact ⟨dx, l, a, b, xs, k _ _ h1, h2.same k, h3.same k, k _ _ h4, h5.same k, h6⟩
theorem TaskAt.over {C : Addr} {H : Hp} {p m : Addr} {st en : Pl} {ps : List Pl} {zs ws : List V} (h : TaskAt C H p st en ps) (hm : H m = some (.lst zs)) (hn : ∀ dx a b r, H p = some (.ins C dx (tf a b r)) → r ≠ m) : TaskAt C (upd H m (.lst ws)) p st en ps := by
  obtain ⟨dx, l, a, b, xs, h1, h2, h3, h4, h5, h6⟩ := h
  exact ⟨dx, l, a, b, xs, by rw [upd_ne (ne_of h1 hm (by intro z; cases z))]; exact h1, h2.over hm, h3.over hm, by rw [upd_ne (hn _ _ _ _ h1)]; exact h4, h5.over hm, h6⟩
/-- what the top has left of the class of tasks and of its errors -/
structure TaskTxt (K : PySem.W.Frag) (mg : Str → Option Value) (C CI : Addr) : Prop where
  cl : Cls K C
  nS : NoAttr K C "start"
  nE : NoAttr K C "end"
  nP : NoAttr K C "_picks"
  mgC : mg "Task" = some (.ref C)
  len : mg "len" = none
  set : mg "set" = none
  sorted : mg "sorted" = none
  list : mg "list" = none
  most : ∃ t, mg "MOST_PICKS" = some (.int 60 t)
  gI : mg "InvalidTask" = some (.ref CI)
  kI : PySem.W.keepIn K (.ref CI) = true
  xI : PySem.W.excIn K CI [.type "ValueError", .type "Exception", .type "BaseException", .type "object"] "ValueError.__new__" = true
  bI : PySem.W.subIn K (.ref CI) (.type "BaseException") = some true
  tI : PySem.W.typeIn K (.ref CI) = some (.type "type")
section
variable {P : Program} {w : World} {K : PySem.W.Frag} {mg : Str → Option Value} {base : Heap}
/-- all but what is at p is as it was -/
def But (p : Addr) (H H' : Hp) : Prop := ∀ b o, H b = some o → b ≠ p → H' b = some o
def spTask (K : PySem.W.Frag) (C CI : Addr) : Sp := fun vs H Q E => ∃ (p dx l : Addr) (a b : V) (st en : Pl) (xs : List V) (ps : List Pl), vs = [.ref p, a, b, .ref l] ∧ H p = some (.ins C dx []) ∧ Pr H a st ∧ Pr H b en ∧
  SqL K H l xs ∧ Prs H xs ps ∧ ps.length ≤ 1000 ∧
  (ps.length ≤ 60 → ps.Nodup → ∀ H', TaskAt C H' p st en (sortP ps) → But p H H' → (∀ dx a b r, H' p = some (.ins C dx (tf a b r)) → H r = none) → Q .non H') ∧
  (¬ (ps.length ≤ 60 ∧ ps.Nodup) → ∀ H', Same H H' → E (.ref CI) none H')
theorem ok_task {f C CI : Addr} {fd : FuncData} (F : Fun K "__init__" "Task.__init__" s_Task___init__ f fd) (T : TaskTxt K mg C CI) : FnOk P w K mg base (L2.CX P w) 2 f fd ["self", "start", "end", "picks"] (spTask K C CI) := by
  refine F.okX sc_Task___init__ (fun vs H Q E h => ?_) (fun cdv A outer s H vs Q E hr h => ?_)
  · obtain ⟨p, dx, l, a, b, st, en, xs, ps, rfl, _⟩ := h
    rfl
  · obtain ⟨p, dx, l, a, b, st, en, xs, ps, rfl, hp, ha, hb, hl, hx, hn, q, e⟩ := h
    obtain ⟨t, hmost⟩ := T.most
    have hxl := hx.len
    refine ⟨_, (pss_cons (ps_if (pt_cmpR op_gt (pe_callB call_len (by rfl) T.len (by decide +kernel) (pa_cons (pv 3) pa_nil)) (pe_glob (v := .int 60) rfl hmost ⟨_, rfl⟩) (nomark _)) (pss_one (ps_raise rfl (takes_of rfl rfl rfl rfl) (pmk_own PySem.F.excBase_ValueError T.xI T.gI T.kI (raises_own T.bI T.tI) rfl))) pss_nil)
      (pss_cons (ps_if (pt_cmpR op_lt (pe_callB call_lenP (by rfl) T.len (by decide +kernel) (pa_cons (pe_callTy (cr_setP rfl hr.units) (by rfl) T.set (by decide +kernel) (pa_cons (pv 3) pa_nil)) pa_nil)) (pe_callB call_len (by rfl) T.len (by decide +kernel) (pa_cons (pv 3) pa_nil)) (nomark _)) (pss_one (ps_raise rfl (takes_of rfl rfl rfl rfl) (pmk_own PySem.F.excBase_ValueError T.xI T.gI T.kI (raises_own T.bI T.tI) rfl))) pss_nil)
      (pss_cons (ps_fld (pv 0) (pv 1) rfl)
      (pss_cons (ps_fld (pv 0) (pv 2) rfl)
      (pss_one (ps_fld (pv 0) (pe_callB call_sortP (by rfl) T.sorted (by decide +kernel) (pa_cons (pv 3) pa_nil)) rfl)))))), ?_⟩
    -- len(picks) > MOST_PICKS
    refine ⟨_, rfl, _, _, rfl, .inl ⟨_, hl, rfl⟩, _, _, rfl, rfl, _, rfl, ?_⟩
    refine ite2 (fun hc => ?_) (fun hc => ?_)
    · have hc' := of_decide_eq_true hc
      exact e (fun z => by omega) H (Same.refl _)
    · have hc' : ps.length ≤ 60 := by
        have : ¬ ((60 : Int) < (xs.length : Int)) := fun z => hc (decide_eq_true z)
        omega
      -- len(set(picks)) < len(picks)
      refine ⟨_, rfl, l, xs, ps, rfl, hl, hx, by omega, fun H1 s0 ns0 k1 hs0 => ⟨s0, ps, rfl, hs0, _, rfl, _, _, rfl, .inl ⟨_, k1.seq hl, rfl⟩, _, _, rfl, rfl, _, rfl, ?_⟩⟩
      refine ite2 (fun hd => ?_) (fun hd => ?_)
      · have hd' := of_decide_eq_true hd
        exact e (fun z => (nub_lt ps).mp (by omega) z.2) H1 k1
      · have hnd : ps.Nodup := by
          have z : ¬ (((nub ps).length : Int) < (xs.length : Int)) := fun z => hd (decide_eq_true z)
          exact Decidable.byContradiction fun y => z (by have := (nub_lt ps).mpr y; omega)
        -- self.start, self.end, self._picks
        have hp1 := k1 _ _ hp
        refine ⟨_, rfl, _, rfl, p, C, dx, [], rfl, hp1, T.cl, T.nS, (by show 0 < 1000; decide), ?_⟩
        refine ⟨_, rfl, _, rfl, p, C, dx, _, rfl, upd_same, T.cl, T.nE, (by show 1 < 1000; decide), ?_⟩
        have hl' : SqL K (upd (upd H1 p (.ins C dx (putF "start" a []))) p (.ins C dx (putF "end" b (putF "start" a [])))) l xs := by
          rcases k1.seq hl with (h | ⟨o, h⟩) | h
          · exact .inl (.inl (by rw [upd_ne (ne_of hp1 h (by intro z; cases z)).symm, upd_ne (ne_of hp1 h (by intro z; cases z)).symm]; exact h))
          · exact .inl (.inr ⟨o, by rw [upd_ne (ne_of hp1 h (by intro z; cases z)).symm, upd_ne (ne_of hp1 h (by intro z; cases z)).symm]; exact h⟩)
          · exact .inr h
        have keep : ∀ c o, H1 c = some o → c ≠ p → (upd (upd H1 p (.ins C dx (putF "start" a []))) p (.ins C dx (putF "end" b (putF "start" a [])))) c = some o := fun c o h n => by
          rw [upd_ne n, upd_ne n]
          exact h
        have tupne : ∀ {v : V} {z : Pl}, Pr H1 v z → Pr (upd (upd H1 p (.ins C dx (putF "start" a []))) p (.ins C dx (putF "end" b (putF "start" a [])))) v z := fun {v z} h => by
          obtain ⟨t, rfl, h⟩ := h
          exact ⟨t, rfl, keep _ _ h (ne_of hp1 h (by intro z; cases z)).symm⟩
        have prsne : ∀ {vs : List V} {zs : List Pl}, Prs H1 vs zs → Prs (upd (upd H1 p (.ins C dx (putF "start" a []))) p (.ins C dx (putF "end" b (putF "start" a [])))) vs zs := fun h => by
          induction h with
          | nil => exact .nil
          | cons x _ ih => exact .cons (tupne x) ih
        refine ⟨_, rfl, l, xs, ps, rfl, hl', prsne (hx.same k1), fun r ys nr hys => ⟨_, rfl, p, C, dx, putF "end" b (putF "start" a []), rfl, ?_, T.cl, T.nP, ?_, ?_⟩⟩
        · rw [upd_ne (ne_of_none upd_same nr)]
          exact upd_same
        · rw [tf_len2]
          decide
        · have npr : p ≠ r := ne_of_none upd_same nr
          have sm : But p H1 (upd (upd (upd (upd H1 p (.ins C dx (putF "start" a []))) p (.ins C dx (putF "end" b (putF "start" a [])))) r (.lst ys)) p (.ins C dx (tf a b r))) := fun c o h n => by
            rw [upd_ne n, upd_ne (ne_of_none (keep c o h n) nr)]
            exact keep c o h n
          have back : ∀ {c : Addr} {xs : List V}, (upd (upd (upd H1 p (.ins C dx (putF "start" a []))) p (.ins C dx (putF "end" b (putF "start" a [])))) r (.lst ys)) c = some (.tup xs) →
              (upd (upd (upd (upd H1 p (.ins C dx (putF "start" a []))) p (.ins C dx (putF "end" b (putF "start" a [])))) r (.lst ys)) p (.ins C dx (tf a b r))) c = some (.tup xs) := fun {c xs} h => by
            rw [upd_ne (show c ≠ p from fun z => by rw [z, upd_ne npr, upd_same] at h; cases h)]
            exact h
          have pr1 : ∀ {v : V} {z : Pl}, Pr (upd (upd H1 p (.ins C dx (putF "start" a []))) p (.ins C dx (putF "end" b (putF "start" a [])))) v z → Pr (upd (upd (upd (upd H1 p (.ins C dx (putF "start" a []))) p (.ins C dx (putF "end" b (putF "start" a [])))) r (.lst ys)) p (.ins C dx (tf a b r))) v z := fun {v z} h => by
            obtain ⟨t, rfl, h⟩ := h
            exact ⟨t, rfl, back (by rw [upd_ne (ne_of_none h nr)]; exact h)⟩
          have pr2 : ∀ {vs : List V} {zs : List Pl}, Prs (upd (upd H1 p (.ins C dx (putF "start" a []))) p (.ins C dx (putF "end" b (putF "start" a [])))) vs zs → Prs (upd (upd (upd (upd H1 p (.ins C dx (putF "start" a []))) p (.ins C dx (putF "end" b (putF "start" a [])))) r (.lst ys)) p (.ins C dx (tf a b r))) vs zs := fun h => by
            induction h with
            | nil => exact .nil
            | cons x _ ih => exact .cons (pr1 x) ih
          refine q hc' hnd _ ⟨dx, r, a, b, ys, upd_same, pr1 (tupne (ha.same k1)), pr1 (tupne (hb.same k1)), ?_, pr2 hys, sortP_pw ps, sortP_nd.mpr hnd, by rw [sortP_len]; exact hc'⟩ (fun c o h n => sm c o (k1 _ _ h) n) fun dx' a' b' r' z => ?_
          · rw [upd_ne npr.symm]
            exact upd_same
          · rw [upd_same] at z
            have z2 := Option.some.inj z
            injection z2 with _ _ z3
            have z4 := tf_picks a b r
            have z6 : tf a b r = tf a' b' r' := z3
            rw [z6, tf_picks] at z4
            have z5 : r' = r := V.ref.inj (Option.some.inj z4)
            subst z5
            rw [upd_ne npr.symm, upd_ne npr.symm] at nr
            exact k1.free nr

def spPicks (C : Addr) : Sp := fun vs H Q _ => ∃ (p : Addr) (st en : Pl) (ps : List Pl), vs = [.ref p] ∧ TaskAt C H p st en ps ∧
  ∀ (r : Addr) (xs : List V), H r = none → Prs H xs ps → Q (.ref r) (upd H r (.lst xs))
theorem ok_picks {f C CI : Addr} {fd : FuncData} (F : Fun K "picks" "Task.picks" s_Task_picks f fd) (T : TaskTxt K mg C CI) : FnOk P w K mg base CX0 1 f fd ["self"] (spPicks C) := by
  refine F.ok sc_Task_picks (fun vs H Q E h => ?_) (fun cdv A outer s H vs Q E hr h => ?_)
  · obtain ⟨p, st, en, ps, rfl, _⟩ := h
    rfl
  · obtain ⟨p, st, en, ps, rfl, ⟨dx, l, a, b, xs, h1, h2, h3, h4, h5, _⟩, q⟩ := h
    exact ⟨_, (pss_one (ps_ret (pe_callTy call_list_of (by rfl) T.list (by decide +kernel) (pa_cons (pe_fld (pv 0) rfl) pa_nil)))), _, rfl, p, C, dx, _, _, rfl, h1, T.cl, T.nP, tf_picks _ _ _, l, xs, rfl, .inl (SqL.of h4), fun r nr => q r xs nr h5⟩
/-- an object of the class made: the heap as it is handed to __init__ -/
theorem mkSame {H : Hp} {x dx : Addr} {o u : HO} (n : H x = none) (m : H dx = none) : Same H (upd (upd H dx u) x o) := fun b o e => by
  rw [upd_ne (ne_of_none e n), upd_ne (ne_of_none e m)]
  exact e
theorem mkBut {H H' : Hp} {x dx : Addr} {o u : HO} (n : H x = none) (m : H dx = none) (k : But x (upd (upd H dx u) x o) H') : Same H H' := fun b o e => k b o (mkSame n m b o e) (ne_of_none e n)
/-- behind raise X(v), X a class with one attribute f -/
theorem raised {H : Hp} {a d C : Addr} {f : Str} {v : V} (ha : H a = none) (hd : (upd H a (exo a C none)) d = none) (hne : d ≠ a) :
    (upd (upd (upd H a (exo a C none)) d (exd d [(f, v)])) a (exo a C (some d))) a = some (exo a C (some d)) ∧ (upd (upd (upd H a (exo a C none)) d (exd d [(f, v)])) a (exo a C (some d))) d = some (exd d [(f, v)]) ∧ H d = none ∧
    Same H (upd (del (upd (upd (upd H a (exo a C none)) d (exd d [(f, v)])) a (exo a C (some d))) a) d (.xd [(f, v)])) := by
  have hdn : H d = none := by
    rw [upd_ne hne] at hd
    exact hd
  refine ⟨upd_same, by rw [upd_ne hne, upd_same], hdn, fun b o e => ?_⟩
  have h1 : b ≠ a := ne_of_none e ha
  have h2 : b ≠ d := ne_of_none e hdn
  rw [upd_ne h2, del_ne h1, upd_ne h1, upd_ne h2, upd_ne h1]
  exact e
/-- start, end and picks, as a tuple -/
def dT (st en : Pl) (ps : List Pl) : PyData := .tuple [dP st, dP en, dL ps]
theorem eqv_dT (st en : Pl) (ps : List Pl) (st' en' : Pl) (ps' : List Pl) : PyData.eqv (dT st en ps) (dT st' en' ps') = decide (st = st' ∧ en = en' ∧ ps = ps') := by
  show PyData.eqvAll [dP st, dP en, dL ps] [dP st', dP en', dL ps'] = _
  simp only [PyData.eqvAll, eqv_dP, eqv_dL, Bool.and_true, Bool.decide_and]
theorem sh_dT (st en : Pl) (ps : List Pl) : SeqAt.shaped (dT st en ps) = true := by
  have h := depth_dPs ps
  have e : PyData.canLay0 (dT st en ps) = PyData.canLayAll0 (ps.map dP) := by
    show (true && (true && (PyData.canLayAll0 (ps.map dP) && true))) = _
    simp
  unfold SeqAt.shaped
  rw [e, lay_dPs]
  refine decide_eq_true ?_
  show max 1 (max 1 (max (PyData.depthAll (ps.map dP) + 1) 0)) + 1 ≤ 64
  omega
def spSame (C : Addr) : Sp := fun vs H Q _ => ∃ (p r : Addr) (st en st' en' : Pl) (ps ps' : List Pl), vs = [.ref p, .ref r] ∧ TaskAt C H p st en ps ∧ TaskAt C H r st' en' ps' ∧
  ∀ H', Same H H' → Q (.bl (decide (st = st' ∧ en = en' ∧ ps = ps'))) H'
theorem ok_same {f C CI fP pp : Addr} {fd fdP : FuncData} (F : Fun K "same_as" "Task.same_as" s_Task_same_as f fd) (T : TaskTxt K mg C CI) (FP : Fun K "picks" "Task.picks" s_Task_picks fP fdP) (bP : Binds K fdP ["self"] []) (hP : PropOf K C "picks" pp fP) :
    FnOk P w K mg base CX0 3 f fd ["self", "other"] (spSame C) := by
  have GP : FnOk P w K mg base CX0 1 fP fdP ["self"] (spPicks C) := ok_picks FP T
  refine F.ok sc_Task_same_as (fun vs H Q E h => ?_) (fun cdv A outer s H vs Q E hr h => ?_)
  · obtain ⟨p, r, st, en, st', en', ps, ps', rfl, _⟩ := h
    rfl
  · obtain ⟨p, r, st, en, st', en', ps, ps', rfl, hT, hR, q⟩ := h
    obtain ⟨dx, l, a, b, xs, h1, h2, h3, h4, h5, h6, h7, h8⟩ := id hT
    refine ⟨_, (pss_one (ps_ret (pe_cmpR (op_eqD hr.units) (pe_tup (pa_cons (pe_fld (pv 0) rfl) (pa_cons (pe_fld (pv 0) rfl) (pa_cons (pe_prop (pv 0) T.cl hP GP hr bP .nil pass0 rfl) pa_nil)))) (pe_tup (pa_cons (pe_fld (pv 1) rfl) (pa_cons (pe_fld (pv 1) rfl) (pa_cons (pe_prop (pv 1) T.cl hP GP hr bP .nil pass0 rfl) pa_nil)))) (nomark _)))), ?_⟩
    refine ⟨_, rfl, p, C, dx, _, _, rfl, h1, T.cl, T.nS, tf_start _ _ _, _, rfl, p, C, dx, _, _, rfl, h1, T.cl, T.nE, tf_end _ _ _, _, rfl, p, dx, _, rfl, h1, p, st, en, ps, rfl, hT, fun m ys nm hys => ⟨(by show 3 ≤ sizeLine; decide), fun t nt => ?_⟩⟩
    obtain ⟨H1, e1, k1, g1⟩ := made (o := .lst ys) nm
    rw [e1] at nt ⊢
    obtain ⟨H2, e2, k2, g2⟩ := made (o := .tup [a, b, .ref m]) nt
    rw [e2]
    have k := k1.trans k2
    obtain ⟨dx', l', a', b', xs', h1', h2', h3', h4', h5', _⟩ := id (hR.same k)
    refine ⟨_, rfl, r, C, dx', _, _, rfl, h1', T.cl, T.nS, tf_start _ _ _, _, rfl, r, C, dx', _, _, rfl, h1', T.cl, T.nE, tf_end _ _ _, _, rfl, r, dx', _, rfl, h1', r, st', en', ps', rfl, hR.same k, fun m' ys' nm' hys' => ⟨(by show 3 ≤ sizeLine; decide), fun t' nt' => ?_⟩⟩
    obtain ⟨H3, e3, k3, g3⟩ := made (o := .lst ys') nm'
    rw [e3] at nt' ⊢
    obtain ⟨H4, e4, k4, g4⟩ := made (o := .tup [a', b', .ref m']) nt'
    rw [e4]
    have kk := k3.trans k4
    have d1 : Dp K H4 (.ref t) (dT st en ps) := .tup (SqT.of (kk _ _ g2)) (.cons (h2.same (k.trans kk)).dp (.cons (h3.same (k.trans kk)).dp (.cons ((hys.same (k1.trans (k2.trans kk))).dl (SqL.of (kk _ _ (k2 _ _ g1)))) .nil)))
    have d2 : Dp K H4 (.ref t') (dT st' en' ps') := .tup (SqT.of g4) (.cons (h2'.same kk).dp (.cons (h3'.same kk).dp (.cons ((hys'.same kk).dl (SqL.of (k4 _ _ g3))) .nil)))
    refine ⟨_, _, d1, d2, sh_dT _ _ _, sh_dT _ _ _, ?_⟩
    rw [eqv_dT]
    exact q H4 (k.trans kk)
end

/-! ### does a task fit -/
section
open GxR NdefX PySem.Spec PyProof.Rows
variable {P : Program} {w : World} {K : PySem.W.Frag} {mg : Str → Option Value} {base : Heap}
/-- the error of places that are none -/
structure PlcTxt (K : PySem.W.Frag) (mg : Str → Option Value) (CP fP : Addr) : Prop where
  g : mg "InvalidPlace" = some (.ref CP)
  o : OexC K CP
  n : PySem.W.findIn K (.ref CP) "place" = some none
  i : PySem.W.findIn K (.ref CP) "__init__" = some (some (.ref fP))
  y : PySem.W.typeIn K (.ref fP) = some (.type "function")
theorem ok_plcinit {f C : Addr} {fd : FuncData} (F : Fun K "__init__" "InvalidPlace.__init__" s_InvalidPlace___init__ f fd) : FnOk P w K mg base CX0 1 f fd ["self", "place"] (spXI K C "place") := by
  refine F.ok sc_InvalidPlace___init__ (fun vs H Q E h => ?_) (fun cdv A outer s H vs Q E hr h => ?_)
  · obtain ⟨a, v, rfl, _⟩ := h
    rfl
  · obtain ⟨a, v, rfl, T, hno, ha, q⟩ := h
    exact ⟨_, pss_one (ps_ost (pv 0) (pv 1)), v, rfl, _, rfl, a, C, rfl, T, hno, .inl ⟨ha, q⟩⟩
/-- the first place that is wrong -/
def wrongP (ls gs : List Int) (st en : Pl) (ps : List Pl) : Option Pl := ([st, en].find? fun p => !isCr ls gs p).or (ps.find? fun p => !isPl ls gs p)
def spCheck (CT C CP : Addr) : Sp := fun vs H Q E => ∃ (p t : Addr) (ls gs : List Int) (cs : List (Str × Int × Int)) (st en : Pl) (ps : List Pl), vs = [.ref p, .ref t] ∧ HouseAt C H p ls gs cs ∧ TaskAt CT H t st en ps ∧
  (wrongP ls gs st en ps = none → ∀ H', Same H H' → Q .non H') ∧
  (∀ a, wrongP ls gs st en ps = some a → ∀ (H' : Hp) (d : Addr) (v : V), Same H H' → Pr H' v a → H' d = some (.xd [("place", v)]) → E (.ref CP) (some d) H')
theorem find_snoc {α : Type} {f : α → Bool} {xs : List α} {i : Nat} {x : α} (h0 : (xs.take i).find? f = none) (hx : xs[i]? = some x) : (f x = true → xs.find? f = some x) ∧ (f x = false → (xs.take (i + 1)).find? f = none) := by
  have e : xs.take (i + 1) = xs.take i ++ [x] := by
    rw [List.take_add_one, hx]
    rfl
  refine ⟨fun z => ?_, fun z => ?_⟩
  · have q := List.take_append_drop (i + 1) xs
    rw [← q, List.find?_append, e, List.find?_append, h0]
    simp [z]
  · rw [e, List.find?_append, h0]
    simp [z]
theorem ok_check {f fX fL fI fP pp C CT CI CP : Addr} {fd fdX fdL fdI fdP : FuncData} (F : Fun K "check_task" "check_task" s_check_task f fd) (T : HouseTxt K mg C) (TT : TaskTxt K mg CT CI) (U : PlcTxt K mg CP fI) (GI : FnOk P w K mg base CX0 1 fI fdI ["self", "place"] (spXI K CP "place")) (bI : Binds K fdI ["self", "place"] [])
    (GL : FnOk P w K mg base CX0 1 fL fdL ["self", "place"] (spPl C isPl)) (bL : Binds K fdL ["self", "place"] []) (mL : Meth K C "is_place" fL) (GX : FnOk P w K mg base CX0 2 fX fdX ["self", "place"] (spPl C isCr)) (bX : Binds K fdX ["self", "place"] []) (mX : Meth K C "is_cross" fX)
    (GP : FnOk P w K mg base CX0 1 fP fdP ["self"] (spPicks CT)) (bP : Binds K fdP ["self"] []) (hP : PropOf K CT "picks" pp fP) : FnOk P w K mg base (L2.CX P w) 4 f fd ["house", "task"] (spCheck CT C CP) := by
  refine F.okX sc_check_task (fun vs H Q E h => ?_) (fun cdv A outer s H vs Q E hr h => ?_)
  · obtain ⟨p, t, ls, gs, cs, st, en, ps, rfl, _⟩ := h
    rfl
  · obtain ⟨p, t, ls, gs, cs, st, en, ps, rfl, hH, hT, q, e⟩ := h
    obtain ⟨va, dx, l, g, c, d, h1, _⟩ := id hH
    obtain ⟨dt, r, a, b, xs, t1, ha, hb, ht4, hxs, tw, tn, tl⟩ := id hT
    have nd := sc_check_task.nd
    refine ⟨_, (pss_cons (ps_for (passes_of rfl) rfl (pi_list (pe_lst (pa_cons (pe_fld (pv 1) rfl) (pa_cons (pe_fld (pv 1) rfl) pa_nil)))) (pg_name (i := 2) nd rfl (.inl rfl)) (pss_one (ps_if (pt_not (pt_val (pe_meth (pv 0) T.cl mX GX (by exact hr.mono (by decide)) bX .nil pass0 (pa_cons (pv 2) pa_nil)))) (pss_one (ps_raise rfl (takes_of rfl rfl rfl rfl) (pmk_oex U.o U.i U.y GI (by exact hr.mono (by decide)) bI .nil pass0 (by rfl) U.g (pa_cons (pv 2) pa_nil)))) pss_nil)))
      (pss_one (ps_for (passes_of rfl) rfl (pi_list (pe_prop (pv 1) TT.cl hP GP (by exact hr.mono (by decide)) bP .nil pass0 rfl)) (pg_name (i := 2) nd rfl (.inl rfl)) (pss_one (ps_if (pt_not (pt_val (pe_meth (pv 0) T.cl mL GL (by exact hr.mono (by decide)) bL .nil pass0 (pa_cons (pv 2) pa_nil)))) (pss_one (ps_raise rfl (takes_of rfl rfl rfl rfl) (pmk_oex U.o U.i U.y GI (by exact hr.mono (by decide)) bI .nil pass0 (by rfl) U.g (pa_cons (pv 2) pa_nil)))) pss_nil))))), ?_⟩
    refine ⟨_, rfl, t, CT, dt, _, _, rfl, t1, TT.cl, TT.nS, tf_start _ _ _, _, rfl, t, CT, dt, _, _, rfl, t1, TT.cl, TT.nE, tf_end _ _ _, (by show 2 ≤ sizeLine; decide), fun m nm => ?_⟩
    obtain ⟨H1, e1, k1, g1⟩ := made (o := .lst [a, b]) nm
    rw [e1]
    have hab : Prs H1 [a, b] [st, en] := .cons (ha.same k1) (.cons (hb.same k1) .nil)
    refine ⟨m, rfl, ⟨_, SqL.of g1⟩, ?_⟩
    refine for_list (K := K) (a := m) (xs := [a, b]) (fun i σ H' => (∃ v2 : Option V, σ = [some (.ref p), some (.ref t), v2]) ∧ Same H1 H' ∧ ([st, en].take i).find? (fun p => !isCr ls gs p) = none) ?_ ?_ ?_ ?_
    · exact ⟨⟨_, rfl⟩, Same.refl _, rfl⟩
    · rintro i σ H' _ ⟨_, kt, _⟩
      exact SqL.of (kt _ _ g1)
    · rintro i x σ H' hx ⟨⟨v2, rfl⟩, kt, hno⟩
      obtain ⟨z, hz, hxz⟩ := (hab.same kt).at hx
      obtain ⟨f1, f2⟩ := find_snoc hno hz
      have k1t := k1.trans kt
      refine ⟨_, rfl, p, dx, _, rfl, k1t _ _ h1, hf_no _ _ _ _ _ (by decide +kernel) (by decide +kernel) (by decide +kernel) (by decide +kernel) (by decide +kernel), _, rfl, p, x, ls, gs, cs, z, rfl, hH.kp (kpS k1t), hxz, _, rfl, ?_⟩
      cases hi : isCr ls gs z with
      | false =>
        refine iteT ?_
        have hw : wrongP ls gs st en ps = some z := by
          unfold wrongP
          rw [f1 (by rw [hi]; rfl)]
          rfl
        refine ⟨_, rfl, by show 1 ≤ 1000; decide, fun y ny => ⟨y, x, rfl, U.o, U.n, upd_same, fun dd hd hne => ⟨rfl, dd, [("place", x)], ?_⟩⟩⟩
        obtain ⟨g1, g2, g3, g4⟩ := raised (f := "place") (v := x) ny hd hne
        exact ⟨g1, g2, g3, e z hw _ dd x (k1t.trans g4) (hxz.same g4) upd_same⟩
      | true =>
        refine iteF ?_
        exact ⟨⟨_, rfl⟩, kt, f2 (by rw [hi]; rfl)⟩
    rintro σ H2 ⟨⟨v2, rfl⟩, k2, hno⟩
    have k12 := k1.trans k2
    have hT2 := hT.same k12
    refine ⟨_, rfl, t, dt, _, rfl, k12 _ _ t1, t, st, en, ps, rfl, hT2, fun m2 ys nm2 hys => ?_⟩
    obtain ⟨H3, e3, k3, g3⟩ := made (o := .lst ys) nm2
    rw [e3]
    have hys3 := hys.same k3
    refine ⟨m2, rfl, ⟨_, SqL.of g3⟩, ?_⟩
    refine for_list (K := K) (a := m2) (xs := ys) (fun i σ H' => (∃ v2 : Option V, σ = [some (.ref p), some (.ref t), v2]) ∧ Same H3 H' ∧ (ps.take i).find? (fun p => !isPl ls gs p) = none) ?_ ?_ ?_ ?_
    · exact ⟨⟨_, rfl⟩, Same.refl _, rfl⟩
    · rintro i σ H' _ ⟨_, kt, _⟩
      exact SqL.of (kt _ _ g3)
    · rintro i x σ H' hx ⟨⟨v2, rfl⟩, kt, hno2⟩
      obtain ⟨z, hz, hxz⟩ := (hys3.same kt).at hx
      obtain ⟨f1, f2⟩ := find_snoc hno2 hz
      have k0t := (k12.trans k3).trans kt
      refine ⟨_, rfl, p, dx, _, rfl, k0t _ _ h1, hf_no _ _ _ _ _ (by decide +kernel) (by decide +kernel) (by decide +kernel) (by decide +kernel) (by decide +kernel), _, rfl, p, x, ls, gs, cs, z, rfl, hH.kp (kpS k0t), hxz, _, rfl, ?_⟩
      cases hi : isPl ls gs z with
      | false =>
        refine iteT ?_
        have hw : wrongP ls gs st en ps = some z := by
          unfold wrongP
          have hno' : [st, en].find? (fun p => !isCr ls gs p) = none := hno
          rw [hno', f1 (by rw [hi]; rfl)]
          rfl
        refine ⟨_, rfl, by show 1 ≤ 1000; decide, fun y ny => ⟨y, x, rfl, U.o, U.n, upd_same, fun dd hd hne => ⟨rfl, dd, [("place", x)], ?_⟩⟩⟩
        obtain ⟨g1, g2, g3, g4⟩ := raised (f := "place") (v := x) ny hd hne
        exact ⟨g1, g2, g3, e z hw _ dd x (k0t.trans g4) (hxz.same g4) upd_same⟩
      | true =>
        refine iteF ?_
        exact ⟨⟨_, rfl⟩, kt, f2 (by rw [hi]; rfl)⟩
    rintro σ H4 ⟨⟨v2', rfl⟩, k4, hno2⟩
    rw [hys.len, List.take_length] at hno2
    refine q ?_ H4 ((k12.trans k3).trans k4)
    unfold wrongP
    have hno' : [st, en].find? (fun p => !isCr ls gs p) = none := hno
    rw [hno', hno2]
    rfl
end

/-! ### the law's helpers: what is told, what is due, other places -/
section
open GxR NdefX PySem.Spec PyProof.Rows
variable {P : Program} {w : World} {K : PySem.W.Frag} {mg : Str → Option Value} {base : Heap}
/-- what is told: a list with None in it, or the place -/
def Tw (H : Hp) (v : V) : Option Pl → Prop
  | none => ∃ r, v = .ref r ∧ H r = some (.lst [.non])
  | some a => Pr H v a
theorem Tw.same {H H' : Hp} {v : V} {o : Option Pl} (h : Tw H v o) (k : Same H H') : Tw H' v o := by
  cases o with
  | none =>
    obtain ⟨r, e, z⟩ := h
    exact ⟨r, e, k _ _ z⟩
  | some a => exact Pr.same h k
def dW : Option Pl → PyData
  | none => .list [.none]
  | some a => dP a
theorem Tw.dp {H : Hp} {v : V} {o : Option Pl} (h : Tw H v o) : Dp K H v (dW o) := by
  cases o with
  | none =>
    obtain ⟨r, rfl, z⟩ := h
    exact .lst (SqL.of z) (.cons .non .nil)
  | some a => exact Pr.dp h
theorem eqv_dW (a b : Option Pl) : PyData.eqv (dW a) (dW b) = decide (a = b) := by
  cases a with
  | none =>
    cases b with
    | none => simp [dW, PyData.eqv, PyData.eqvAll]
    | some d => simp [dW, dP, PyData.eqv]
  | some c =>
    cases b with
    | none => simp [dW, dP, PyData.eqv]
    | some d =>
      show PyData.eqv (dP c) (dP d) = _
      rw [eqv_dP]
      simp
theorem sh_dW (o : Option Pl) : SeqAt.shaped (dW o) = true := by
  cases o with
  | none => rfl
  | some a => exact sh_dP a
def spTold (CT C : Addr) : Sp := fun vs H Q _ => ∃ (p t : Addr) (ls gs : List Int) (cs : List (Str × Int × Int)) (st en : Pl) (ps : List Pl), vs = [.ref p, .ref t] ∧ HouseAt C H p ls gs cs ∧ TaskAt CT H t st en ps ∧
  ∀ (H' : Hp) (v : V), Same H H' → Tw H' v (wrongP ls gs st en ps) → Q v H'
theorem ok_told {f fC CT C CP : Addr} {fd fdC : FuncData} (F : Fun K "_law_told" "_law_told" s__law_told f fd) (GC : FnOk P w K mg base (L2.CX P w) 4 fC fdC ["house", "task"] (spCheck CT C CP)) (gC : mg "check_task" = some (.ref fC)) (kC : PySem.W.keepIn K (.ref fC) = true) (bC : Binds K fdC ["house", "task"] [])
    (gP : mg "InvalidPlace" = some (.ref CP)) (eP : PySem.W.exmOne K (.ref CP) (.ref CP) = some true) (xP : XfC K CP) (nP : PySem.W.findIn K (.ref CP) "place" = some none) : FnOk P w K mg base CX0 6 f fd ["house", "task"] (spTold CT C) := by
  refine F.ok sc__law_told (fun vs H Q E h => ?_) (fun cdv A outer s H vs Q E hr h => ?_)
  · obtain ⟨p, t, ls, gs, cs, st, en, ps, rfl, _⟩ := h
    rfl
  · obtain ⟨p, t, ls, gs, cs, st, en, ps, rfl, hH, hT, q⟩ := h
    have nd := sc__law_told.nd
    refine ⟨_, pss_one (ps_try_next (l := [(.ref CP, some 2, _)]) rfl rfl takes0 (fun W pn xe tk _ => (pss_one (ps_ret (pe_lst (pa_cons (pe_callS GC (by exact hr.mono (by decide)) (by rfl) gC kC bC (fun τ => passAt tk τ) (pa_cons (pv 0) (pa_cons (pv 1) pa_nil))) pa_nil))))) (Clauses.named nd rfl rfl ⟨rfl, by decide, .inl gP⟩ (fun a oe cls d pn hz hf => (pss_one (ps_ret (pe_xf xP nP hz hf (pv 2))))) .nil)), ?_⟩
    refine ⟨_, rfl, _, rfl, p, t, ls, gs, cs, st, en, ps, rfl, hH, hT, fun en1 H1 k1 => ⟨(by show 1 ≤ sizeLine; decide), fun r nr => ?_⟩, fun a en1 H1 dd v k1 hv hd => ?_⟩
    · obtain ⟨H2, e2, k2, g2⟩ := made (o := .lst [V.non]) nr
      rw [e2]
      exact q H2 _ (k1.trans k2) (by rw [en1]; exact ⟨r, rfl, g2⟩)
    · refine ⟨true, eP, fun _ y ny => ?_, fun z => nomatch z⟩
      refine ⟨_, rfl, rfl, rfl, dd, _, v, rfl, hd, rfl, ?_⟩
      exact q H1 v k1 (by rw [en1]; exact hv)
def spFirst (K : PySem.W.Frag) : Sp := fun vs H Q _ => ∃ (l g m : Addr) (u v : V) (ls gs : List Int) (st en : Pl) (xs : List V) (ps : List Pl), vs = [.ref l, .ref g, u, v, .ref m] ∧ SqL K H l (ls.map V.int) ∧ SqL K H g (gs.map V.int) ∧ ls.length ≤ 2 ∧ Lens ls ∧ Pr H u st ∧ Pr H v en ∧ SqL K H m xs ∧ Prs H xs ps ∧
  ∀ (H' : Hp) (v : V), Same H H' → Tw H' v (wrongP ls gs st en (sortP ps)) → Q v H'
theorem ok_first {f : Addr} {fd : FuncData} (F : Fun K "_law_first_wrong" "_law_first_wrong" s__law_first_wrong f fd) (Z : LawTop mg) (hsorted : mg "sorted" = none) (Cr : TopD P w K mg base 1 "_law_crosses" ["lengths"] (spCross K)) : FnOk P w K mg base CX0 2 f fd ["lengths", "gaps", "start", "end", "picks"] (spFirst K) := by
  refine F.ok sc__law_first_wrong (fun vs H Q E h => ?_) (fun cdv A outer s H vs Q E hr h => ?_)
  · obtain ⟨l, g, m, u, v, ls, gs, st, en, xs, ps, rfl, _⟩ := h
    rfl
  · obtain ⟨l, g, m, u, v, ls, gs, st, en, xs, ps, rfl, hl, hg, hl2, hLs, hu, hv, hm, hx, q⟩ := h
    have nd := sc__law_first_wrong.nd
    refine ⟨_, (pss_cons (ps_for PassesOwn.never rfl (pi_list (pe_lst (pa_cons (pv 2) (pa_cons (pv 3) pa_nil)))) (pg_name (i := 5) nd rfl (.inl rfl)) (pss_one (ps_if (PW.pt (pw_or (pt_not (pt_chain op_le op_le pe_int (pe_ix ix_tup (pv 5) pe_int (fun _ _ => rfl)) (pe_callB call_len (by rfl) Z.len (by decide +kernel) (pa_cons (pv 1) pa_nil)))) (pw_or1 (pt_cmpR op_notIn_seq (pe_ix ix_tup (pv 5) pe_int (fun _ _ => rfl)) (pe_call Cr.G (by exact hr.mono (by decide)) (by rfl) Cr.g Cr.kp Cr.b .nil pass0 (pa_cons (pv 0) pa_nil)) (by rfl))))) (pss_one (ps_ret (pv 5))) pss_nil)))
      (pss_cons (ps_for PassesOwn.never rfl (pi_list (pe_callB call_sortP (by rfl) hsorted (by decide +kernel) (pa_cons (pv 4) pa_nil))) (pg_name (i := 5) nd rfl (.inl rfl)) (pss_one (ps_if (pt_not (PW.pt (pw_and (pt_chain op_le op_le pe_int (pe_ix ix_tup (pv 5) pe_int (fun _ _ => rfl)) (pe_callB call_len (by rfl) Z.len (by decide +kernel) (pa_cons (pv 1) pa_nil))) (pw_and1 (pt_chain op_le op_le pe_int (pe_ix ix_tup (pv 5) pe_int (fun _ _ => rfl)) (pe_callB (cr_sum rfl) (by rfl) Z.sum (by decide +kernel) (pa_cons (pv 0) pa_nil))))))) (pss_one (ps_ret (pv 5))) pss_nil)))
      (pss_one (ps_ret (pe_lst (pa_cons pe_non pa_nil)))))), ?_⟩
    refine ⟨_, rfl, _, rfl, (by show 2 ≤ sizeLine; decide), fun m0 n0 => ?_⟩
    obtain ⟨H1, e1, k1, g1⟩ := made (o := .lst [u, v]) n0
    rw [e1]
    have huv : Prs H1 [u, v] [st, en] := .cons (hu.same k1) (.cons (hv.same k1) .nil)
    refine ⟨m0, rfl, ⟨_, SqL.of g1⟩, ?_⟩
    have fst : ∀ {σ : L2.St} {H' : Hp} {t : Addr} {z : Pl}, σ[5]? = some (some (.ref t)) → H' t = some (.tup [.int z.1, .int z.2]) → Tells (tOp (rIxT K) (tVar 5) (tC (.int 0))) σ H' (.int z.1) := fun {σ H' t z} hs ht Q q => ⟨_, hs, t, _, _, _, rfl, rfl, SqT.of ht, rfl, q⟩
    have snd : ∀ {σ : L2.St} {H' : Hp} {t : Addr} {z : Pl}, σ[5]? = some (some (.ref t)) → H' t = some (.tup [.int z.1, .int z.2]) → Tells (tOp (rIxT K) (tVar 5) (tC (.int 1))) σ H' (.int z.2) := fun {σ H' t z} hs ht Q q => ⟨_, hs, t, _, _, _, rfl, rfl, SqT.of ht, rfl, q⟩
    have cnt : ∀ {σ : L2.St} {H' : Hp}, σ[1]? = some (some (.ref g)) → Same H H' → Tells (tCB (fun xs H1 Q => ∃ x n, xs = [x] ∧ LenV K x H1 n ∧ Q (V.int (n : Nat)) H1) (tCons (tVar 1) tNil)) σ H' (.int gs.length) := fun {σ H'} hs k Q q =>
      ⟨_, hs, _, _, rfl, .inl ⟨_, k.seq hg, rfl⟩, by rw [List.length_map]; exact q⟩
    have sm : ∀ {σ : L2.St} {H' : Hp}, σ[0]? = some (some (.ref l)) → Same H H' → Tells (tCB (rSum K) (tCons (tVar 0) tNil)) σ H' (.int ls.sum) := fun {σ H'} hs k Q q => ⟨_, hs, l, ls, rfl, k.seq hl, q⟩
    refine for_list (K := K) (a := m0) (xs := [u, v]) (fun i σ H' => (∃ v5 : Option V, σ = [some (.ref l), some (.ref g), some u, some v, some (.ref m), v5]) ∧ Same H1 H' ∧ ([st, en].take i).find? (fun p => !isCr ls gs p) = none) ?_ ?_ ?_ ?_
    · exact ⟨⟨_, rfl⟩, Same.refl _, rfl⟩
    · rintro i σ H' _ ⟨_, kt, _⟩
      exact SqL.of (kt _ _ g1)
    · rintro i x σ H' hx' ⟨⟨v5, rfl⟩, kt, hno⟩
      obtain ⟨z, hz, hxz⟩ := (huv.same kt).at hx'
      obtain ⟨f1, f2⟩ := find_snoc hno hz
      obtain ⟨tz, rfl, htz⟩ := id hxz
      have k1t := k1.trans kt
      have bad : isCr ls gs z = false → ∀ H', Same H H' → Pr H' (.ref tz) z → Q (.ref tz) H' := fun hc H' k hp => q H' (.ref tz) k (by
        have hw : wrongP ls gs st en (sortP ps) = some z := by
          unfold wrongP
          rw [f1 (by rw [hc]; rfl)]
          rfl
        rw [hw]
        exact hp)
      have good : isCr ls gs z = true → ([st, en].take (i + 1)).find? (fun p => !isCr ls gs p) = none := fun hc => f2 (by rw [hc]; rfl)
      have hcr : isCr ls gs z = ((decide (0 ≤ z.1) && decide (z.1 ≤ (gs.length : Int))) && decide (z.2 ∈ crossN ls)) := by
        unfold isCr isPl
        by_cases hm : z.2 ∈ crossN ls
        · obtain ⟨c1, c2⟩ := hLs.cross hm
          simp [c1, c2, hm]
        · simp [hm]
      refine (tells_chain (f := fun i j => decide (i ≤ j)) (fst rfl htz) (cnt rfl k1t)) _ ⟨_, rfl, ?_⟩
      cases h1 : (decide (0 ≤ z.1) && decide (z.1 ≤ (gs.length : Int))) with
      | false =>
        refine iteT (iteT ?_)
        exact ⟨_, rfl, bad (by rw [hcr, h1]; rfl) _ k1t hxz⟩
      | true =>
        refine iteF ?_
        refine snd rfl htz _ ⟨_, rfl, l, ls, rfl, k1t.seq hl, by omega, fun Hc cr kc _ hcr' => ⟨cr, _, rfl, .inl (SqL.of hcr'), rfl, flat_ints _, _, rfl, ?_⟩⟩
        rw [inV_ints]
        cases h2 : decide (z.2 ∈ crossN ls) with
        | false =>
          refine iteT ?_
          exact ⟨_, rfl, bad (by rw [hcr, h1, h2]; rfl) _ (k1t.trans kc) (hxz.same kc)⟩
        | true =>
          refine iteF ?_
          exact ⟨⟨_, rfl⟩, kt.trans kc, good (by rw [hcr, h1, h2]; rfl)⟩
    rintro σ H2 ⟨⟨v5, rfl⟩, k2, hno⟩
    have k12 := k1.trans k2
    refine ⟨_, rfl, m, xs, ps, rfl, k12.seq hm, hx.same k12, fun r ys nr hys => ?_⟩
    obtain ⟨H3, e3, k3, g3⟩ := made (o := .lst ys) nr
    rw [e3]
    have hys3 := hys.same k3
    have k13 := k12.trans k3
    refine ⟨r, rfl, ⟨_, SqL.of g3⟩, ?_⟩
    have hno' : [st, en].find? (fun p => !isCr ls gs p) = none := hno
    refine for_list (K := K) (a := r) (xs := ys) (fun i σ H' => (∃ v5 : Option V, σ = [some (.ref l), some (.ref g), some u, some v, some (.ref m), v5]) ∧ Same H3 H' ∧ ((sortP ps).take i).find? (fun p => !isPl ls gs p) = none) ?_ ?_ ?_ ?_
    · exact ⟨⟨_, rfl⟩, Same.refl _, rfl⟩
    · rintro i σ H' _ ⟨_, kt, _⟩
      exact SqL.of (kt _ _ g3)
    · rintro i x σ H' hx' ⟨⟨v5, rfl⟩, kt, hno2⟩
      obtain ⟨z, hz, hxz⟩ := (hys3.same kt).at hx'
      obtain ⟨f1, f2⟩ := find_snoc hno2 hz
      obtain ⟨tz, rfl, htz⟩ := id hxz
      have k1t := k13.trans kt
      have bad : isPl ls gs z = false → Q (.ref tz) H' := fun hc => q H' (.ref tz) k1t (by
        have hw : wrongP ls gs st en (sortP ps) = some z := by
          unfold wrongP
          rw [hno', f1 (by rw [hc]; rfl)]
          rfl
        rw [hw]
        exact hxz)
      refine (tells_chain (f := fun i j => decide (i ≤ j)) (fst rfl htz) (cnt rfl k1t)) _ ⟨_, rfl, ?_⟩
      cases h1 : (decide (0 ≤ z.1) && decide (z.1 ≤ (gs.length : Int))) with
      | false =>
        refine iteF (iteT ?_)
        exact ⟨_, rfl, bad (by unfold isPl; rw [h1]; rfl)⟩
      | true =>
        refine iteT ?_
        refine (tells_chain (f := fun i j => decide (i ≤ j)) (snd rfl htz) (sm rfl k1t)) _ ⟨_, rfl, ?_⟩
        cases h2 : (decide (0 ≤ z.2) && decide (z.2 ≤ ls.sum)) with
        | false =>
          refine iteT ?_
          exact ⟨_, rfl, bad (by unfold isPl; rw [h1, h2]; rfl)⟩
        | true =>
          refine iteF ?_
          exact ⟨⟨_, rfl⟩, kt, f2 (by unfold isPl; rw [h1, h2]; rfl)⟩
    rintro σ H4 ⟨⟨v5', rfl⟩, k4, hno2⟩
    rw [hys.len, List.take_length] at hno2
    refine ⟨(by show 1 ≤ sizeLine; decide), fun r2 nr2 => ?_⟩
    obtain ⟨H5, e5, k5, g5⟩ := made (o := .lst [V.non]) nr2
    rw [e5]
    refine q H5 _ ((k13.trans k4).trans k5) ?_
    have hw : wrongP ls gs st en (sortP ps) = none := by
      unfold wrongP
      rw [hno', hno2]
      rfl
    rw [hw]
    exact ⟨r2, rfl, g5⟩
end

/-! ### places drawn -/
section
open GxR NdefX PySem.Spec PyProof.Rows
variable {P : Program} {w : World} {K : PySem.W.Frag} {mg : Str → Option Value} {base : Heap}
theorem nth_mem {ns : List Int} {i : Int} (h0 : 0 ≤ i) (h1 : i < ns.length) : nth ns i ∈ ns := by
  have lt : i.toNat < ns.length := by omega
  unfold nth
  rw [List.getElem?_eq_getElem lt]
  exact List.getElem_mem lt
def spShift (K : PySem.W.Frag) : Sp := fun vs H Q _ => ∃ (n l : Addr) (ns ls : List Int) (at0 : Nat) (v : V) (a : Pl), vs = [.ref n, .int (at0 : Int), v, .ref l] ∧ SqL K H n (ns.map V.int) ∧ SqL K H l (ls.map V.int) ∧ at0 + 2 ≤ ns.length ∧ Pr H v a ∧
  ∀ (H' : Hp) (u : V) (b : Pl), Same H H' → Pr H' u b → Q u H'
theorem ok_shift {f : Addr} {fd : FuncData} (F : Fun K "_law_shifted" "_law_shifted" s__law_shifted f fd) (Z : LawTop mg) : FnOk P w K mg base CX0 1 f fd ["numbers", "at", "place", "lengths"] (spShift K) := by
  refine F.ok sc__law_shifted (fun vs H Q E h => ?_) (fun cdv A outer s H vs Q E hr h => ?_)
  · obtain ⟨n, l, ns, ls, at0, v, a, rfl, _⟩ := h
    rfl
  · obtain ⟨n, l, ns, ls, at0, v, a, rfl, hn, hl, hat, hv, q⟩ := h
    have nd := sc__law_shifted.nd
    refine ⟨_, (pss_cons (ps_set (i := 4) nd rfl (.inl rfl) (pe_op op_mod (pe_callTy call_int1 (by rfl) Z.int (by decide +kernel) (pa_cons (pe_ix ix_list (pv 0) (pv 1) (fun _ _ => rfl)) pa_nil)) pe_int))
      (pss_cons (ps_if (pt_cmpR op_eq (pv 4) pe_int (nomark _)) (pss_one (ps_ret (pe_tup (pa_cons (pe_op op_add (pe_ix ix_tup (pv 2) pe_int (fun _ _ => rfl)) pe_int) (pa_cons (pe_ix ix_tup (pv 2) pe_int (fun _ _ => rfl)) pa_nil))))) pss_nil)
      (pss_cons (ps_if (pt_cmpR op_eq (pv 4) pe_int (nomark _)) (pss_one (ps_ret (pe_tup (pa_cons (pe_op op_sub (pe_un un_neg pe_int) (pe_ix ix_tup (pv 2) pe_int (fun _ _ => rfl))) (pa_cons (pe_ix ix_tup (pv 2) pe_int (fun _ _ => rfl)) pa_nil))))) pss_nil)
      (pss_cons (ps_if (pt_cmpR op_eq (pv 4) pe_int (nomark _)) (pss_one (ps_ret (pe_tup (pa_cons (pe_ix ix_tup (pv 2) pe_int (fun _ _ => rfl)) (pa_cons (pe_op op_add (pe_op op_add (pe_callB (cr_sum rfl) (by rfl) Z.sum (by decide +kernel) (pa_cons (pv 3) pa_nil)) pe_int) (pe_op op_mod (pe_callTy call_int1 (by rfl) Z.int (by decide +kernel) (pa_cons (pe_ix ix_list (pv 0) (pe_op op_add (pv 1) pe_int) (fun _ _ => rfl)) pa_nil)) pe_int)) pa_nil))))) pss_nil)
      (pss_cons (ps_if (pt_cmpR op_eq (pv 4) pe_int (nomark _)) (pss_one (ps_ret (pe_tup (pa_cons (pe_ix ix_tup (pv 2) pe_int (fun _ _ => rfl)) (pa_cons (pe_op op_sub (pe_un un_neg pe_int) (pe_ix ix_tup (pv 2) pe_int (fun _ _ => rfl))) pa_nil))))) pss_nil)
      (pss_cons (ps_if (pt_cmpR op_eq (pv 4) pe_int (nomark _)) (pss_one (ps_ret (pe_tup (pa_cons (pe_ix ix_tup (pv 2) pe_int (fun _ _ => rfl)) (pa_cons (pe_op op_add (pe_ix ix_tup (pv 2) pe_int (fun _ _ => rfl)) pe_int) pa_nil))))) pss_nil)
      (pss_one (ps_ret (pv 2))))))))), ?_⟩
    obtain ⟨ta, rfl, hta⟩ := id hv
    refine ⟨_, rfl, _, rfl, n, _, _, _, rfl, rfl, hn, atI_nth (by omega) (by omega), .inl ⟨_, rfl, _, _, rfl, rfl, (by show (0 : Int) < 6; decide), ?_⟩⟩
    refine ⟨_, rfl, rfl, _, rfl, ?_⟩
    refine ite2 (fun _ => ?_) (fun _ => ?_)
    · refine ⟨_, rfl, ta, _, _, _, rfl, rfl, SqT.of hta, rfl, _, _, rfl, rfl, _, rfl, ta, _, _, _, rfl, rfl, SqT.of hta, rfl, ?_⟩
      refine ⟨(by show 2 ≤ sizeLine; decide), fun t6 n6 => ?_⟩
      obtain ⟨H1, e1, k1, g1⟩ := made (o := .tup [V.int (a.1 + 7), V.int (a.2)]) n6
      have e1' : upd H t6 (.tup [V.int (a.1 + 7), V.int (a.2)]) = H1 := e1
      rw [e1']
      exact q H1 (.ref t6) (a.1 + 7, a.2) k1 ⟨t6, rfl, g1⟩
    refine ⟨_, rfl, rfl, _, rfl, ?_⟩
    refine ite2 (fun _ => ?_) (fun _ => ?_)
    · refine ⟨_, rfl, _, rfl, ta, _, _, _, rfl, rfl, SqT.of hta, rfl, _, _, rfl, rfl, _, rfl, ta, _, _, _, rfl, rfl, SqT.of hta, rfl, ?_⟩
      refine ⟨(by show 2 ≤ sizeLine; decide), fun t6 n6 => ?_⟩
      obtain ⟨H1, e1, k1, g1⟩ := made (o := .tup [V.int (-1 - a.1), V.int (a.2)]) n6
      have e1' : upd H t6 (.tup [V.int (-1 - a.1), V.int (a.2)]) = H1 := e1
      rw [e1']
      exact q H1 (.ref t6) (-1 - a.1, a.2) k1 ⟨t6, rfl, g1⟩
    refine ⟨_, rfl, rfl, _, rfl, ?_⟩
    refine ite2 (fun _ => ?_) (fun _ => ?_)
    · refine ⟨_, rfl, ta, _, _, _, rfl, rfl, SqT.of hta, rfl, _, rfl, l, ls, rfl, hl, _, _, rfl, rfl, _, rfl, _, rfl, _, _, rfl, rfl, n, _, _, _, rfl, rfl, hn, atI_nth (by omega) (by omega), .inl ⟨_, rfl, _, _, rfl, rfl, (by show (0 : Int) < 9; decide), _, _, rfl, rfl, ?_⟩⟩
      dsimp (config := { proj := false }) only
      generalize nth ns ((at0 : Int) + 1) % 9 = mm
      refine ⟨(by show 2 ≤ sizeLine; decide), fun t6 n6 => ?_⟩
      obtain ⟨H1, e1, k1, g1⟩ := made (o := .tup [V.int (a.1), V.int (ls.sum + 1 + mm)]) n6
      have e1' : upd H t6 (.tup [V.int (a.1), V.int (ls.sum + 1 + mm)]) = H1 := e1
      rw [e1']
      exact q H1 (.ref t6) (a.1, ls.sum + 1 + mm) k1 ⟨t6, rfl, g1⟩
    refine ⟨_, rfl, rfl, _, rfl, ?_⟩
    refine ite2 (fun _ => ?_) (fun _ => ?_)
    · refine ⟨_, rfl, ta, _, _, _, rfl, rfl, SqT.of hta, rfl, _, rfl, _, rfl, ta, _, _, _, rfl, rfl, SqT.of hta, rfl, _, _, rfl, rfl, ?_⟩
      refine ⟨(by show 2 ≤ sizeLine; decide), fun t6 n6 => ?_⟩
      obtain ⟨H1, e1, k1, g1⟩ := made (o := .tup [V.int (a.1), V.int (-1 - a.2)]) n6
      have e1' : upd H t6 (.tup [V.int (a.1), V.int (-1 - a.2)]) = H1 := e1
      rw [e1']
      exact q H1 (.ref t6) (a.1, -1 - a.2) k1 ⟨t6, rfl, g1⟩
    refine ⟨_, rfl, rfl, _, rfl, ?_⟩
    refine ite2 (fun _ => ?_) (fun _ => ?_)
    · refine ⟨_, rfl, ta, _, _, _, rfl, rfl, SqT.of hta, rfl, _, rfl, ta, _, _, _, rfl, rfl, SqT.of hta, rfl, _, _, rfl, rfl, ?_⟩
      refine ⟨(by show 2 ≤ sizeLine; decide), fun t6 n6 => ?_⟩
      obtain ⟨H1, e1, k1, g1⟩ := made (o := .tup [V.int (a.1), V.int (a.2 + 1)]) n6
      have e1' : upd H t6 (.tup [V.int (a.1), V.int (a.2 + 1)]) = H1 := e1
      rw [e1']
      exact q H1 (.ref t6) (a.1, a.2 + 1) k1 ⟨t6, rfl, g1⟩
    exact ⟨_, rfl, q H _ a (Same.refl _) hv⟩
end

/-! ### start, end and picks drawn -/
section
open GxR NdefX PySem.Spec PyProof.Rows
variable {P : Program} {w : World} {K : PySem.W.Frag} {mg : Str → Option Value} {base : Heap}
def spAims (K : PySem.W.Frag) : Sp := fun vs H Q _ => ∃ (n l g : Addr) (ns ls gs : List Int) (at0 many : Nat), vs = [.ref n, .int (at0 : Int), .ref l, .ref g, .int (many : Int)] ∧ SqL K H n (ns.map V.int) ∧ SqL K H l (ls.map V.int) ∧ SqL K H g (gs.map V.int) ∧ Lens ls ∧ 1 ≤ ls.length ∧ ls.length ≤ 2 ∧ at0 + 6 + 2 * many ≤ ns.length ∧ many ≤ 60 ∧
  ∀ (H' : Hp) (t m : Addr) (u v : V) (st en : Pl) (xs : List V) (ps : List Pl), Same H H' → H t = none → H m = none → H' t = some (.tup [u, v, .ref m]) → Pr H' u st → Pr H' v en → H' m = some (.lst xs) → Prs H' xs ps → isCr ls gs st = true → isCr ls gs en = true → (∀ p ∈ ps, isPl ls gs p = true) → ps.Nodup → ps.length ≤ many → Q (.ref t) H'
theorem isCr_of {ls gs : List Int} (hL : Lens ls) {a h : Int} (h0 : 0 ≤ a) (h1 : a ≤ gs.length) (hc : h ∈ crossN ls) : isCr ls gs (a, h) = true := by
  obtain ⟨c1, c2⟩ := hL.cross hc
  unfold isCr isPl
  simp [h0, h1, c1, c2, hc]
theorem isPl_of {ls gs : List Int} {p : Pl} (h0 : 0 ≤ p.1) (h1 : p.1 ≤ gs.length) (h2 : 0 ≤ p.2) (h3 : p.2 ≤ ls.sum) : isPl ls gs p = true := by
  unfold isPl
  simp [h0, h1, h2, h3]
theorem ok_aims {f : Addr} {fd : FuncData} (F : Fun K "_law_aims" "_law_aims" s__law_aims f fd) (Z : LawTop mg) (Cr : TopD P w K mg base 1 "_law_crosses" ["lengths"] (spCross K)) : FnOk P w K mg base CX0 2 f fd ["numbers", "at", "lengths", "gaps", "many"] (spAims K) := by
  refine F.ok sc__law_aims (fun vs H Q E h => ?_) (fun cdv A outer s H vs Q E hr h => ?_)
  · obtain ⟨n, l, g, ns, ls, gs, at0, many, rfl, _⟩ := h
    rfl
  · obtain ⟨n, l, g, ns, ls, gs, at0, many, rfl, hn, hl, hg, hLs, hl1, hl2, hat, hmany, q⟩ := h
    have nd := sc__law_aims.nd
    have lg : (gs.map V.int).length = gs.length := List.length_map _
    have hs0 := hLs.pos2
    refine ⟨_, (pss_cons (ps_set (i := 5) nd rfl (.inl rfl) (pe_call Cr.G (by exact hr.mono (by decide)) (by rfl) Cr.g Cr.kp Cr.b .nil pass0 (pa_cons (pv 2) pa_nil)))
      (pss_cons (ps_set (i := 6) nd rfl (.inl rfl) (pe_tup (pa_cons (pe_op op_mod (pe_callTy call_int1 (by rfl) Z.int (by decide +kernel) (pa_cons (pe_ix ix_list (pv 0) (pv 1) (fun _ _ => rfl)) pa_nil)) (pe_op op_add (pe_callB call_len (by rfl) Z.len (by decide +kernel) (pa_cons (pv 3) pa_nil)) pe_int)) (pa_cons (pe_ix ix_list (pv 5) (pe_op op_mod (pe_op op_fdiv (pe_callTy call_int1 (by rfl) Z.int (by decide +kernel) (pa_cons (pe_ix ix_list (pv 0) (pv 1) (fun _ _ => rfl)) pa_nil)) pe_int) (pe_callB call_len (by rfl) Z.len (by decide +kernel) (pa_cons (pv 5) pa_nil))) (fun _ _ => rfl)) pa_nil))))
      (pss_cons (ps_set (i := 7) nd rfl (.inl rfl) (pe_tup (pa_cons (pe_op op_mod (pe_callTy call_int1 (by rfl) Z.int (by decide +kernel) (pa_cons (pe_ix ix_list (pv 0) (pe_op op_add (pv 1) pe_int) (fun _ _ => rfl)) pa_nil)) (pe_op op_add (pe_callB call_len (by rfl) Z.len (by decide +kernel) (pa_cons (pv 3) pa_nil)) pe_int)) (pa_cons (pe_ix ix_list (pv 5) (pe_op op_mod (pe_op op_fdiv (pe_callTy call_int1 (by rfl) Z.int (by decide +kernel) (pa_cons (pe_ix ix_list (pv 0) (pe_op op_add (pv 1) pe_int) (fun _ _ => rfl)) pa_nil)) pe_int) (pe_callB call_len (by rfl) Z.len (by decide +kernel) (pa_cons (pv 5) pa_nil))) (fun _ _ => rfl)) pa_nil))))
      (C8.pss_cut (ps_if (pt_cmpR op_eq (pe_op op_mod (pe_callTy call_int1 (by rfl) Z.int (by decide +kernel) (pa_cons (pe_ix ix_list (pv 0) (pe_op op_add (pv 1) pe_int) (fun _ _ => rfl)) pa_nil)) pe_int) pe_int (nomark _)) (pss_one (ps_set (i := 7) nd rfl (.inl rfl) (pv 6))) pss_nil)
      (pss_cons (ps_set (i := 8) nd rfl (.inl rfl) (pe_lst pa_nil))
      (pss_cons (ps_for PassesOwn.never rfl (pi_range1 rfl Z.range (pa_cons (pe_op op_mod (pe_callTy call_int1 (by rfl) Z.int (by decide +kernel) (pa_cons (pe_ix ix_list (pv 0) (pe_op op_add (pv 1) pe_int) (fun _ _ => rfl)) pa_nil)) (pe_op op_add (pv 4) pe_int)) pa_nil)) (pg_name (i := 9) nd rfl (.inl rfl)) (pss_cons (ps_set (i := 10) nd rfl (.inl rfl) (pe_tup (pa_cons (pe_op op_mod (pe_callTy call_int1 (by rfl) Z.int (by decide +kernel) (pa_cons (pe_ix ix_list (pv 0) (pe_op op_add (pe_op op_add (pv 1) pe_int) (pe_op op_mul pe_int (pv 9))) (fun _ _ => rfl)) pa_nil)) (pe_op op_add (pe_callB call_len (by rfl) Z.len (by decide +kernel) (pa_cons (pv 3) pa_nil)) pe_int)) (pa_cons (pe_op op_mod (pe_callTy call_int1 (by rfl) Z.int (by decide +kernel) (pa_cons (pe_ix ix_list (pv 0) (pe_op op_add (pe_op op_add (pv 1) pe_int) (pe_op op_mul pe_int (pv 9))) (fun _ _ => rfl)) pa_nil)) (pe_op op_add (pe_callB (cr_sum rfl) (by rfl) Z.sum (by decide +kernel) (pa_cons (pv 2) pa_nil)) pe_int)) pa_nil))))
      (pss_one (ps_if (pt_cmpR (op_notInD (room65 hr)) (pv 10) (pv 8) (by rfl)) (pss_one (ps_expr (pe_bm PySem.F.plainAttrs_list PySem.F.slot_list_append PySem.F.type_list_append mt_append (pv 8) (pa_cons (pv 10) pa_nil)))) pss_nil))))
      (pss_one (ps_ret (pe_tup (pa_cons (pv 6) (pa_cons (pv 7) (pa_cons (pv 8) pa_nil)))))))))))), ?_⟩
    refine ⟨_, rfl, l, ls, rfl, hl, by omega, fun H1 cr k1 ncr hcr => ?_⟩
    have pos : (0 : Int) < (((crossN ls).map V.int).length : Int) := by rw [List.length_map, crossN_len]; omega
    have lc : (((crossN ls).map V.int).length : Int) = ((crossN ls).length : Int) := by rw [List.length_map]
    -- start
    refine ⟨_, rfl, _, rfl, n, _, _, _, rfl, rfl, k1.seq hn, atI_nth (by omega) (by omega), .inl ⟨_, rfl, _, rfl, _, _, rfl, .inl ⟨_, k1.seq hg, rfl⟩, _, _, rfl, rfl, _, _, rfl, rfl, (by show (0 : Int) < ((gs.map V.int).length : Int) + 1; omega), ?_⟩⟩
    refine ⟨_, rfl, _, rfl, _, rfl, n, _, _, _, rfl, rfl, k1.seq hn, atI_nth (by omega) (by omega), .inl ⟨_, rfl, _, _, rfl, rfl, ⟨by decide, by decide⟩, _, rfl, _, _, rfl, .inl ⟨_, SqL.of hcr, rfl⟩, _, _, rfl, rfl, pos, cr, _, _, _, rfl, rfl, SqL.of hcr, atI_nth (Int.emod_nonneg _ (by omega)) (by rw [← lc]; exact Int.emod_lt_of_pos _ pos), (by show 2 ≤ sizeLine; decide), fun t2 n2 => ?_⟩⟩
    dsimp (config := { proj := false }) only
    have cross : ∀ i : Int, nth (crossN ls) (nth ns i / 12 % (((crossN ls).map V.int).length : Int)) ∈ crossN ls := fun i => nth_mem (Int.emod_nonneg _ (by omega)) (by rw [← lc]; exact Int.emod_lt_of_pos _ pos)
    have wide : ∀ i : Int, 0 ≤ nth ns i % (((gs.map V.int).length : Int) + 1) ∧ nth ns i % (((gs.map V.int).length : Int) + 1) ≤ gs.length := fun i => ⟨Int.emod_nonneg _ (by omega), by have := Int.emod_lt_of_pos (nth ns i) (show (0 : Int) < ((gs.map V.int).length : Int) + 1 by omega); omega⟩
    have good : ∀ i j : Int, isCr ls gs (nth ns i % (((gs.map V.int).length : Int) + 1), nth (crossN ls) (nth ns j / 12 % (((crossN ls).map V.int).length : Int))) = true := fun i j => isCr_of hLs (wide i).1 (wide i).2 (cross j)
    have c1 := good (at0 : Int) (at0 : Int)
    generalize nth ns (at0 : Int) % (((gs.map V.int).length : Int) + 1) = x1 at c1 ⊢
    generalize nth (crossN ls) (nth ns (at0 : Int) / 12 % (((crossN ls).map V.int).length : Int)) = y1 at c1 ⊢
    obtain ⟨H2, e2, k2, g2⟩ := made (o := .tup [V.int x1, V.int y1]) n2
    rw [e2]
    have k12 := k1.trans k2
    -- end
    refine ⟨_, rfl, _, rfl, _, _, rfl, rfl, n, _, _, _, rfl, rfl, k12.seq hn, atI_nth (by omega) (by omega), .inl ⟨_, rfl, _, rfl, _, _, rfl, .inl ⟨_, k12.seq hg, rfl⟩, _, _, rfl, rfl, _, _, rfl, rfl, (by show (0 : Int) < ((gs.map V.int).length : Int) + 1; omega), ?_⟩⟩
    refine ⟨_, rfl, _, rfl, _, rfl, _, _, rfl, rfl, n, _, _, _, rfl, rfl, k12.seq hn, atI_nth (by omega) (by omega), .inl ⟨_, rfl, _, _, rfl, rfl, ⟨by decide, by decide⟩, _, rfl, _, _, rfl, .inl ⟨_, SqL.of (k2 _ _ hcr), rfl⟩, _, _, rfl, rfl, pos, cr, _, _, _, rfl, rfl, SqL.of (k2 _ _ hcr), atI_nth (Int.emod_nonneg _ (by omega)) (by rw [← lc]; exact Int.emod_lt_of_pos _ pos), (by show 2 ≤ sizeLine; decide), fun t3 n3 => ?_⟩⟩
    dsimp (config := { proj := false }) only
    have c2 := good ((at0 : Int) + 1) ((at0 : Int) + 1)
    generalize nth ns ((at0 : Int) + 1) % (((gs.map V.int).length : Int) + 1) = x2 at c2 ⊢
    generalize nth (crossN ls) (nth ns ((at0 : Int) + 1) / 12 % (((crossN ls).map V.int).length : Int)) = y2 at c2 ⊢
    obtain ⟨H3, e3, k3, g3⟩ := made (o := .tup [V.int x2, V.int y2]) n3
    rw [e3]
    have k13 := k12.trans k3
    have p1 : Pr H3 (.ref t2) (x1, y1) := ⟨t2, rfl, k3 _ _ g2⟩
    have p2 : Pr H3 (.ref t3) (x2, y2) := ⟨t3, rfl, g3⟩
    refine ⟨fun σ' H' => ∃ (u : V) (en : Pl), σ' = [some (.ref n), some (.int at0), some (.ref l), some (.ref g), some (.int many), some (.ref cr), some (.ref t2), some u, none, none, none] ∧ H' = H3 ∧ Pr H3 u en ∧ isCr ls gs en = true, ?_, ?_⟩
    · refine ⟨_, rfl, _, rfl, _, _, rfl, rfl, n, _, _, _, rfl, rfl, k13.seq hn, atI_nth (by omega) (by omega), .inl ⟨_, rfl, _, _, rfl, rfl, (by show (0 : Int) < 2; decide), ?_⟩⟩
      refine ⟨rfl, _, rfl, ?_⟩
      refine ite2 (fun _ => ?_) (fun _ => ?_)
      · exact ⟨_, rfl, .ref t2, (x1, y1), rfl, rfl, p1, c1⟩
      · exact ⟨.ref t3, (x2, y2), rfl, rfl, p2, c2⟩
    rintro σ' H' ⟨u, en, rfl, rfl, pu, cu⟩
    refine ⟨Nat.zero_le _, fun D nD => ?_⟩
    have kD : Same H' (upd H' D (.lst [])) := same_upd nD
    have kD0 := k13.trans kD
    refine ⟨_, rfl, _, rfl, _, _, rfl, rfl, n, _, _, _, rfl, rfl, kD0.seq hn, atI_nth (by omega) (by omega), .inl ⟨_, rfl, _, rfl, _, _, rfl, rfl, _, _, rfl, rfl, (by show (0 : Int) < (many : Int) + 1; omega), ?_⟩⟩
    have hm0 : 0 ≤ nth ns ((at0 : Int) + 3) % ((many : Int) + 1) := Int.emod_nonneg _ (by omega)
    have hm1 : nth ns ((at0 : Int) + 3) % ((many : Int) + 1) < (many : Int) + 1 := Int.emod_lt_of_pos _ (by omega)
    obtain ⟨m, hm⟩ : ∃ m : Nat, nth ns ((at0 : Int) + 3) % ((many : Int) + 1) = (m : Int) := ⟨(nth ns ((at0 : Int) + 3) % ((many : Int) + 1)).toNat, by omega⟩
    refine ⟨nth ns ((at0 : Int) + 3) % ((many : Int) + 1), rfl, by omega, by omega, ?_⟩
    rw [hm]
    have hmm : m ≤ many := by omega
    refine for_range (lo := 0) (n := m) (fun i σ H2 => ∃ (xs : List V) (ps : List Pl) (v9 v10 : Option V), σ = [some (.ref n), some (.int at0), some (.ref l), some (.ref g), some (.int many), some (.ref cr), some (.ref t2), some u, some (.ref D), v9, v10] ∧ Same H' H2 ∧ H2 D = some (.lst xs) ∧ Prs H2 xs ps ∧ (∀ p ∈ ps, isPl ls gs p = true) ∧ ps.Nodup ∧ ps.length ≤ i) ?_ ?_ ?_
    · exact ⟨[], [], none, none, rfl, kD, upd_same, .nil, (fun p hp => by cases hp), .nil, Nat.le_refl _⟩
    · rintro i σ H2 hi ⟨xs, ps, v9, v10, rfl, kt, hD, hx, hpl, hnd, hle⟩
      have k0t := k13.trans kt
      refine ⟨_, rfl, _, rfl, _, _, rfl, rfl, _, rfl, _, _, rfl, rfl, .inl ⟨by decide, by decide⟩, _, _, rfl, rfl, n, _, _, _, rfl, rfl, k0t.seq hn, atI_nth (by omega) (by omega), .inl ⟨_, rfl, _, rfl, _, _, rfl, .inl ⟨_, k0t.seq hg, rfl⟩, _, _, rfl, rfl, _, _, rfl, rfl, (by show (0 : Int) < ((gs.map V.int).length : Int) + 1; omega), ?_⟩⟩
      refine ⟨_, rfl, _, rfl, _, _, rfl, rfl, _, rfl, _, _, rfl, rfl, .inl ⟨by decide, by decide⟩, _, _, rfl, rfl, n, _, _, _, rfl, rfl, k0t.seq hn, atI_nth (by omega) (by omega), .inl ⟨_, rfl, _, rfl, l, ls, rfl, k0t.seq hl, _, _, rfl, rfl, _, _, rfl, rfl, (by show (0 : Int) < ls.sum + 1; omega), ?_⟩⟩
      refine ⟨(by show 2 ≤ sizeLine; decide), fun t4 n4 => ?_⟩
      dsimp (config := { proj := false }) only
      have b := wide ((at0 : Int) + 4 + 2 * (0 + (i : Int)))
      have c0 : 0 ≤ nth ns ((at0 : Int) + 5 + 2 * (0 + (i : Int))) % (ls.sum + 1) := Int.emod_nonneg _ (by omega)
      have c9 : nth ns ((at0 : Int) + 5 + 2 * (0 + (i : Int))) % (ls.sum + 1) < ls.sum + 1 := Int.emod_lt_of_pos _ (by omega)
      generalize nth ns ((at0 : Int) + 4 + 2 * (0 + (i : Int))) % (((gs.map V.int).length : Int) + 1) = z1 at b ⊢
      generalize nth ns ((at0 : Int) + 5 + 2 * (0 + (i : Int))) % (ls.sum + 1) = z2 at c0 c9 ⊢
      obtain ⟨H4, e4, k4, g4⟩ := made (o := .tup [V.int z1, V.int z2]) n4
      rw [e4]
      have hz : Pr H4 (.ref t4) (z1, z2) := ⟨t4, rfl, g4⟩
      have hD4 := k4 _ _ hD
      have hx4 := hx.same k4
      have hxl := hx.len
      refine ⟨_, rfl, _, rfl, dP (z1, z2), ps.map dP, hz.dp, hx4.dl (SqL.of hD4), sh_dP _, sh_dL ps, _, rfl, ?_⟩
      rw [any_dP]
      refine ite2 (fun hc => ?_) (fun hc => ?_)
      · have hnz : (z1, z2) ∉ ps := fun mm => by
          rw [decide_eq_true mm] at hc
          cases hc
        refine ⟨_, rfl, .inl ⟨rfl, _, SqL.of hD4⟩, _, rfl, D, xs, _, rfl, rfl, hD4, by rw [sizeLine_eq]; omega, ?_⟩
        exact ⟨_, ps ++ [(z1, z2)], _, _, rfl, Same.over (kt.trans k4) nD, upd_same, (hx4.snoc hz).over hD4, (fun p hp => by
          rcases List.mem_append.mp hp with y | y
          · exact hpl p y
          · rw [List.mem_singleton.mp y]
            exact isPl_of b.1 b.2 c0 (by show z2 ≤ ls.sum; omega)),
          List.nodup_append.mpr ⟨hnd, List.nodup_cons.mpr ⟨by simp, .nil⟩, fun y hy y' hy' e => hnz (by rw [List.mem_singleton.mp hy'] at e; rw [← e]; exact hy)⟩, by rw [List.length_append]; show ps.length + 1 ≤ i + 1; omega⟩
      · exact ⟨xs, ps, _, _, rfl, kt.trans k4, hD4, hx4, hpl, hnd, by omega⟩
    rintro σ H2 ⟨xs, ps, v9, v10, rfl, kt, hD, hx, hpl, hnd, hle⟩
    refine ⟨_, rfl, _, rfl, _, rfl, (by show 3 ≤ sizeLine; decide), fun t5 n5 => ?_⟩
    obtain ⟨H5, e5, k5, g5⟩ := made (o := .tup [V.ref t2, u, V.ref D]) n5
    rw [e5]
    have k15 := (k13.trans kt).trans k5
    exact q H5 t5 D (.ref t2) u (x1, y1) en xs ps k15 ((k13.trans kt).free n5) (k13.free nD) g5 (p1.same (kt.trans k5)) (pu.same (kt.trans k5)) (k5 _ _ hD) (hx.same k5) c1 cu hpl hnd (by omega)
end

/-! ### two tasks in one -/
section
open GxR NdefX PySem.Spec PyProof.Rows
variable {P : Program} {w : World} {K : PySem.W.Frag} {mg : Str → Option Value} {base : Heap}
def spJoin (CT CL : Addr) : Sp := fun vs H Q E => ∃ (p r : Addr) (st en st' en' : Pl) (ps qs : List Pl), vs = [.ref p, .ref r] ∧ TaskAt CT H p st en ps ∧ TaskAt CT H r st' en' qs ∧ (nub (ps ++ qs)).length < 63 ∧
  ((nub (ps ++ qs)).length ≤ 60 → ∀ (H' : Hp) (t : Addr), Same H H' → H t = none → TaskAt CT H' t st en (marksP (ps ++ qs)) → Q (.ref t) H') ∧
  (60 < (nub (ps ++ qs)).length → ∀ H', Same H H' → E (.ref CL) none H')
theorem ok_joined {f fI fP pp CT CI CL : Addr} {fd fdI fdP : FuncData} (F : Fun K "joined_tasks" "joined_tasks" s_joined_tasks f fd) (TT : TaskTxt K mg CT CI) (UL : ErrTxt K mg CL "TooLarge")
    (M : Mk K CT fI) (GI : FnOk P w K mg base (L2.CX P w) 2 fI fdI ["self", "start", "end", "picks"] (spTask K CT CI)) (bI : Binds K fdI ["self", "start", "end", "picks"] []) (GP : FnOk P w K mg base CX0 1 fP fdP ["self"] (spPicks CT)) (bP : Binds K fdP ["self"] []) (hP : PropOf K CT "picks" pp fP) :
    FnOk P w K mg base (L2.CX P w) 4 f fd ["first", "second"] (spJoin CT CL) := by
  refine F.okX sc_joined_tasks (fun vs H Q E h => ?_) (fun cdv A outer s H vs Q E hr h => ?_)
  · obtain ⟨p, r, st, en, st', en', ps, qs, rfl, _⟩ := h
    rfl
  · obtain ⟨p, r, st, en, st', en', ps, qs, rfl, hT, hR, hfew, q, e⟩ := h
    obtain ⟨dt, l, a, b, xs, t1, ha, hb, hl, hx, tw, tn, tl⟩ := id hT
    obtain ⟨dr, l', a', b', xs', r1, ha', hb', hl', hx', tw', tn', tl'⟩ := id hR
    obtain ⟨tk, hmost⟩ := TT.most
    have nd := sc_joined_tasks.nd
    refine ⟨_, (pss_cons (ps_set (i := 2) nd rfl (.inl rfl) (pe_callB (call_sortS rfl (by exact hr.units)) (by rfl) TT.sorted (by decide +kernel) (pa_cons (pe_callTy (cr_setW rfl (by exact hr.units)) (by rfl) TT.set (by decide +kernel) (pa_cons (pe_op op_cat (pe_prop (pv 0) TT.cl hP GP (by exact hr.mono (by decide)) bP .nil pass0 rfl) (pe_prop (pv 1) TT.cl hP GP (by exact hr.mono (by decide)) bP .nil pass0 rfl)) pa_nil)) pa_nil)))
      (pss_cons (ps_if (pt_cmpR op_gt (pe_callB call_len (by rfl) TT.len (by decide +kernel) (pa_cons (pv 2) pa_nil)) (pe_glob (v := .int 60) rfl hmost ⟨_, rfl⟩) (nomark _)) (pss_one (ps_raise rfl (takes_of rfl rfl rfl rfl) (pmk_own PySem.F.excBase_ValueError UL.xI UL.gI UL.kI (raises_own UL.bI UL.tI) rfl))) pss_nil)
      (pss_one (ps_ret (pe_make M GI (by exact hr.mono (by decide)) (by rfl) TT.mgC bI .nil (passes_call (takes_of rfl rfl rfl rfl) fun _ _ _ _ h => h) (pa_cons (pe_fld (pv 0) rfl) (pa_cons (pe_fld (pv 0) rfl) (pa_cons (pv 2) pa_nil)))))))), ?_⟩
    refine ⟨_, rfl, p, dt, _, rfl, t1, p, st, en, ps, rfl, hT, fun m1 y1 n1 hy1 => ?_⟩
    obtain ⟨H1, e1, k1, g1⟩ := made (o := .lst y1) n1
    rw [e1]
    refine ⟨_, rfl, r, dr, _, rfl, k1 _ _ r1, r, st', en', qs, rfl, hR.same k1, fun m2 y2 n2 hy2 => ?_⟩
    obtain ⟨H2, e2, k2, g2⟩ := made (o := .lst y2) n2
    rw [e2]
    have ly1 := hy1.len
    have ly2 := hy2.len
    refine ⟨m1, m2, _, _, rfl, rfl, k2 _ _ g1, g2, by rw [sizeLine_eq]; omega, fun m3 n3 => ?_⟩
    obtain ⟨H3, e3, k3, g3⟩ := made (o := .lst (y1 ++ y2)) n3
    rw [e3]
    have h12 : Prs H3 (y1 ++ y2) (ps ++ qs) := (hy1.same ((k1.trans k2).trans k3)).app (hy2.same (k2.trans k3))
    refine ⟨m3, _, _, rfl, SqL.of g3, h12, hfew, by rw [List.length_append]; omega, fun H4 sa na k4 hs => ?_⟩
    refine ⟨sa, _, rfl, hs, fun c ys nc hys => ?_⟩
    obtain ⟨H5, e5, k5, g5⟩ := made (o := .lst ys) nc
    rw [e5]
    have k05 := (((k1.trans k2).trans k3).trans k4).trans k5
    have hys5 := hys.same k5
    have hyl := hys5.len
    have lm : (marksP (ps ++ qs)).length = (nub (ps ++ qs)).length := sortP_len _
    refine ⟨_, rfl, _, _, rfl, .inl ⟨_, SqL.of g5, rfl⟩, _, _, rfl, rfl, _, rfl, ?_⟩
    refine ite2 (fun hc => ?_) (fun hc => ?_)
    · have hc' : (60 : Int) < (ys.length : Int) := of_decide_eq_true hc
      exact e (by omega) H5 k05
    · have hc' : ¬ (60 : Int) < (ys.length : Int) := fun z => hc (decide_eq_true z)
      refine ⟨_, rfl, p, CT, dt, _, _, rfl, k05 _ _ t1, TT.cl, TT.nS, tf_start _ _ _, _, rfl, p, CT, dt, _, _, rfl, k05 _ _ t1, TT.cl, TT.nE, tf_end _ _ _, _, rfl, ?_⟩
      intro x dy nx ndy nexy
      have k6 := mkSame (o := .ins CT dy []) (u := .own x) nx ndy
      have k := k05.trans k6
      have nd2 : (marksP (ps ++ qs)).Nodup := sortP_nd.mpr (nub_nd _)
      refine ⟨x, dy, c, a, b, st, en, ys, marksP (ps ++ qs), rfl, upd_same, ha.same k, hb.same k, SqL.of (k6 _ _ g5), hys5.same k6, by omega, fun _ _ H7 hT7 hB7 _ => ⟨rfl, ?_⟩, fun hbad => (hbad ⟨by omega, nd2⟩).elim⟩
      have es : sortP (marksP (ps ++ qs)) = marksP (ps ++ qs) := sortP_idem _
      rw [es] at hT7
      exact q (by omega) H7 x (k05.trans (mkBut nx ndy hB7)) (k05.free nx) hT7
end

/-! ### the law -/
section
open GxR NdefX PySem.Spec PyProof.Rows
variable {P : Program} {w : World} {K : PySem.W.Frag} {mg : Str → Option Value} {base : Heap}
def rInt1 : List V → Hp → VK → Prop := fun xs H Q => (∃ i, xs = [.int i] ∧ Q (.int i) H) ∨ ∃ k, xs = [.bl k] ∧ Q (.int (if k then 1 else 0)) H
abbrev NLaw : List Str := ["script", "numbers", "lengths", "gaps", "closed", "house", "start", "end", "picks", "turn", "at", "first", "last", "some", "more", "one", "other", "both", "many", "k", "place"]
theorem go_enum {a : Addr} {xs : List V} {H1 : Hp} {Qd : Hp → Prop} {B : V → Hp → (Hp → Prop) → Prop} (Pv : Nat → Hp → Prop) (h0 : Pv 0 H1) (hl : ∀ i H, Pv i H → SqL K H a xs)
    (hs : ∀ i x H T, xs[i]? = some x → Pv i H → H T = none → B (.ref T) (upd H T (.tup [.int (i : Nat), x])) (Pv (i + 1))) (hd : ∀ H, Pv xs.length H → Qd H) : Goes (Ite K a) H1 Qd B := by
  refine ⟨fun i m H => i + m = xs.length ∧ Pv i H, ⟨xs.length, Nat.zero_add _, h0⟩, fun i m H z => ?_⟩
  obtain ⟨e, p⟩ := z
  cases m with
  | zero =>
    have e2 : i = xs.length := by omega
    rw [e2] at p
    exact .inl ⟨⟨xs, hl _ H p, Nat.le_of_eq e2.symm⟩, hd H p⟩
  | succ m =>
    have lt : i < xs.length := by omega
    refine .inr ⟨⟨xs, xs[i], hl i H p, List.getElem?_eq_getElem lt⟩, Pv (i + 1), fun H' p' => ⟨m, Nat.lt_succ_self m, by omega, p'⟩, fun x H' y => ?_⟩
    obtain ⟨T, z, rfl, y2, rfl, y4⟩ := y
    exact hs i z H T (y4 xs (hl i H p)) p y2
def cutP (ps : List Pl) (lo hi : Option Int) : List Pl := (ps.drop (HT.sIx ps.length 0 lo)).take (HT.sIx ps.length ps.length hi - HT.sIx ps.length 0 lo)
theorem prs_cut {H : Hp} {vs : List V} {ps : List Pl} (h : Prs H vs ps) (lo hi : Option Int) : Prs H (cutV vs lo hi) (cutP ps lo hi) := by
  unfold cutV cutP
  rw [h.len]
  exact (h.drop _).take _
def gA : List Pl := cutP (gridP 8 8) none (some 40)
def gB : List Pl := cutP (gridP 8 8) (some 20) (some 60)
def gC : List Pl := cutP (gridP 8 8) (some 20) (some 61)
theorem gA_l : gA.length = 40 ∧ gA.Nodup := by decide +kernel
theorem gB_l : gB.length = 40 ∧ gB.Nodup := by decide +kernel
theorem gC_l : gC.length = 41 ∧ gC.Nodup := by decide +kernel
theorem gAB : (nub (sortP gA ++ sortP gB)).length = 60 := by decide +kernel
theorem gAC : (nub (sortP gA ++ sortP gC)).length = 61 := by decide +kernel
structure TopX (P : Program) (w : World) (K : PySem.W.Frag) (mg : Str → Option Value) (base : Heap) (k : Nat) (x : Str) (ps : List Str) (sp : Sp) where
  f : Addr
  fd : FuncData
  G : FnOk P w K mg base (L2.CX P w) k f fd ps sp
  b : Binds K fd ps []
  g : mg x = some (.ref f)
  kp : PySem.W.keepIn K (.ref f) = true
structure HouseT (P : Program) (w : World) (K : PySem.W.Frag) (mg : Str → Option Value) (base : Heap) extends LawTop mg where
  C : Addr
  CI : Addr
  CT : Addr
  CIT : Addr
  CL : Addr
  TL : Addr
  TI : Addr
  fI : Addr
  fdI : FuncData
  fT : Addr
  fdT : FuncData
  fP : Addr
  pp : Addr
  fdP : FuncData
  M : Mk K C fI
  GI : FnOk P w K mg base (L2.CX P w) 5 fI fdI ["self", "lengths", "gaps", "closed"] (spHouse K C CI TL TI)
  bI : Binds K fdI ["self", "lengths", "gaps", "closed"] []
  mgC : mg "House" = some (.ref C)
  MT : Mk K CT fT
  GT : FnOk P w K mg base (L2.CX P w) 2 fT fdT ["self", "start", "end", "picks"] (spTask K CT CIT)
  bT : Binds K fdT ["self", "start", "end", "picks"] []
  mgT : mg "Task" = some (.ref CT)
  clT : Cls K CT
  hP : PropOf K CT "picks" pp fP
  GP : FnOk P w K mg base CX0 1 fP fdP ["self"] (spPicks CT)
  bP : Binds K fdP ["self"] []
  same : MethD P w K mg base CT 3 "same_as" ["self", "other"] (spSame CT)
  gL : mg "TooLarge" = some (.ref CL)
  eL : PySem.W.exmOne K (.ref CL) (.ref CL) = some true
  set : mg "set" = none
  sorted : mg "sorted" = none
  enum : mg "enumerate" = none
def spLaw (K : PySem.W.Frag) (TL TI : Addr) : Sp := fun vs H Q _ => ∃ (a : Addr) (ns : List Int), vs = [.ref a] ∧ SqL K H a (ns.map V.int) ∧ ns.length ≤ 63 ∧ TabG H TL ∧ TabG H TI ∧ ∀ H', Q (.bl true) H'
theorem ok_law {f : Addr} {fd : FuncData} (F : Fun K "law" "law" s_law f fd) (Z : HouseT P w K mg base) (Nu : TopD P w K mg base 2 "_law_numbers" ["script", "many"] (spNumbers K)) (Pa : TopD P w K mg base 1 "_law_parts" ["numbers", "at"] (spParts K))
    (Ai : TopD P w K mg base 2 "_law_aims" ["numbers", "at", "lengths", "gaps", "many"] (spAims K)) (To : TopD P w K mg base 6 "_law_told" ["house", "task"] (spTold Z.CT Z.C)) (Fi : TopD P w K mg base 2 "_law_first_wrong" ["lengths", "gaps", "start", "end", "picks"] (spFirst K))
    (Sh : TopD P w K mg base 1 "_law_shifted" ["numbers", "at", "place", "lengths"] (spShift K)) (Gr : TopD P w K mg base 1 "_law_grid" ["wide", "high"] spGrid) (Jo : TopX P w K mg base 4 "joined_tasks" ["first", "second"] (spJoin Z.CT Z.CL)) :
    FnOk P w K mg base CX0 8 f fd ["script"] (spLaw K Z.TL Z.TI) := by
  refine F.ok sc_law (fun vs H Q E h => ?_) (fun cdv A outer s H vs Q E hr h => ?_)
  · obtain ⟨a, xs, rfl, _⟩ := h
    rfl
  · obtain ⟨a0, sc, rfl, hS, hlen, tL, tI, q⟩ := h
    have nd : NLaw.Nodup := sc_law.nd
    refine ⟨_, (pss_cons (ps_set (i := 1) nd rfl (.inr rfl) (pe_call Nu.G (by exact hr.mono (by decide)) (by rfl) Nu.g Nu.kp Nu.b .nil pass0 (pa_cons (pv 0) (pa_cons pe_int pa_nil))))
      (pss_cons (ps_asg (pe_call Pa.G (by exact hr.mono (by decide)) (by rfl) Pa.g Pa.kp Pa.b .nil pass0 (pa_cons (pv 1) (pa_cons pe_int pa_nil))) (pg_tup rfl (pgs_cons (pg_name (i := 2) nd rfl (.inr rfl)) (pgs_cons (pg_name (i := 3) nd rfl (.inl rfl)) (pgs_cons (pg_name (i := 4) nd rfl (.inl rfl)) pgs_nil)))))
      (pss_cons (ps_set (i := 5) nd rfl (.inl rfl) (pe_make Z.M Z.GI (by exact hr.mono (by decide)) (by rfl) Z.mgC Z.bI .nil (passes_call takes0 fun _ _ _ _ h => h) (pa_cons (pv 2) (pa_cons (pv 3) (pa_cons (pv 4) pa_nil)))))
      (pss_cons (ps_asg (pe_call Ai.G (by exact hr.mono (by decide)) (by rfl) Ai.g Ai.kp Ai.b .nil pass0 (pa_cons (pv 1) (pa_cons pe_int (pa_cons (pv 2) (pa_cons (pv 3) (pa_cons pe_int pa_nil)))))) (pg_tup rfl (pgs_cons (pg_name (i := 6) nd rfl (.inl rfl)) (pgs_cons (pg_name (i := 7) nd rfl (.inl rfl)) (pgs_cons (pg_name (i := 8) nd rfl (.inl rfl)) pgs_nil)))))
      (pss_cons (ps_if (pt_cmpR (op_neD (by exact hr.units)) (pe_call To.G (by exact hr.mono (by decide)) (by rfl) To.g To.kp To.b .nil pass0 (pa_cons (pv 5) (pa_cons (pe_make Z.MT Z.GT (by exact hr.mono (by decide)) (by rfl) Z.mgT Z.bT .nil (passes_call takes0 fun _ _ _ _ h => h) (pa_cons (pv 6) (pa_cons (pv 7) (pa_cons (pv 8) pa_nil)))) pa_nil))) (pe_lst (pa_cons pe_non pa_nil)) (nomark _)) (pss_one (ps_ret pe_bl)) pss_nil)
      (pss_cons (ps_for PassesOwn.never rfl (pi_range1 rfl Z.range (pa_cons pe_int pa_nil)) (pg_name (i := 9) nd rfl (.inl rfl)) (pss_cons (ps_set (i := 10) nd rfl (.inr rfl) (pe_op op_add pe_int (pe_op op_mul pe_int (pv 9))))
      (C8.pss_cut (ps_set (i := 11) nd rfl (.inl rfl) (pe_ifExp (pt_cmpR op_gt (pe_op op_mod (pe_callTy call_int1 (by rfl) Z.int (by decide +kernel) (pa_cons (pe_ix ix_list (pv 1) (pv 10) (fun _ _ => rfl)) pa_nil)) pe_int) pe_int (nomark _)) (pv 6) (pe_call Sh.G (by exact hr.mono (by decide)) (by rfl) Sh.g Sh.kp Sh.b .nil pass0 (pa_cons (pv 1) (pa_cons (pe_op op_add (pv 10) pe_int) (pa_cons (pv 6) (pa_cons (pv 2) pa_nil)))))))
      (C8.pss_cut (ps_set (i := 12) nd rfl (.inl rfl) (pe_ifExp (pt_cmpR op_gt (pe_op op_mod (pe_op op_fdiv (pe_callTy call_int1 (by rfl) Z.int (by decide +kernel) (pa_cons (pe_ix ix_list (pv 1) (pv 10) (fun _ _ => rfl)) pa_nil)) pe_int) pe_int) pe_int (nomark _)) (pv 7) (pe_call Sh.G (by exact hr.mono (by decide)) (by rfl) Sh.g Sh.kp Sh.b .nil pass0 (pa_cons (pv 1) (pa_cons (pe_op op_add (pv 10) pe_int) (pa_cons (pv 7) (pa_cons (pv 2) pa_nil)))))))
      (pss_cons (ps_setLc (i := 13) (own := [("k", 19), ("place", 20)]) (tt := tYes) rfl nd rfl rfl rfl (pi_enum (by rfl) Z.enum (pa_cons (pv 8) pa_nil)) (blkOk_by (N := NLaw) (sc := defScope s_law) (by decide +kernel)) (fun _ _ _ _ _ => (show PG _ _ (gTup K 2 (gCons (gName 19) (gCons (gName 20) gNil))) from pg_tup rfl (pgs_cons (pg_name (i := 19) nd rfl (Or.inl rfl)) (pgs_cons (pg_name (i := 20) nd rfl (Or.inl rfl)) pgs_nil)))) (fun _ _ _ _ _ => pts_nil) (fun _ _ _ _ _ => (pe_ifExp (pt_cmpR (r := rI0 fun i j => V.bl (decide (j < i))) op_gt (pe_op (r := rI (fun _ j => 0 < j) fun i j => .int (i % j)) op_mod (pe_callTy (r := rInt1) call_int1 (by rfl) Z.int (by decide +kernel) (pa_cons (pe_op (r := rI0 fun i j => V.int (i + j)) op_add (pe_ix (r := rIxL K) ix_list (pv 1) (pe_op (r := rI0 fun i j => V.int (i + j)) op_add (pv 10) pe_int) (fun _ _ => rfl)) (pv 19)) pa_nil)) pe_int) pe_int (nomark _)) (pv 20) (pe_call Sh.G (by exact hr.mono (by decide)) (by rfl) Sh.g Sh.kp Sh.b .nil pass0 (pa_cons (pv 1) (pa_cons (pe_op (r := rI0 fun i j => V.int (i + j)) op_add (pv 10) pe_int) (pa_cons (pv 20) (pa_cons (pv 2) pa_nil))))))))
      (pss_cons (ps_set (i := 13) nd rfl (.inl rfl) (pe_callB (call_sortS rfl (by exact hr.units)) (by rfl) Z.sorted (by decide +kernel) (pa_cons (pe_callTy (cr_setP rfl (by exact hr.units)) (by rfl) Z.set (by decide +kernel) (pa_cons (pv 13) pa_nil)) pa_nil)))
      (pss_one (ps_if (pt_cmpR (op_neD (by exact hr.units)) (pe_call To.G (by exact hr.mono (by decide)) (by rfl) To.g To.kp To.b .nil pass0 (pa_cons (pv 5) (pa_cons (pe_make Z.MT Z.GT (by exact hr.mono (by decide)) (by rfl) Z.mgT Z.bT .nil (passes_call takes0 fun _ _ _ _ h => h) (pa_cons (pv 11) (pa_cons (pv 12) (pa_cons (pe_revL (pv 13)) pa_nil)))) pa_nil))) (pe_call Fi.G (by exact hr.mono (by decide)) (by rfl) Fi.g Fi.kp Fi.b .nil pass0 (pa_cons (pv 2) (pa_cons (pv 3) (pa_cons (pv 11) (pa_cons (pv 12) (pa_cons (pv 13) pa_nil)))))) (nomark _)) (pss_one (ps_ret pe_bl)) pss_nil))))))))
      (pss_cons (ps_set (i := 14) nd rfl (.inl rfl) (pe_call Ai.G (by exact hr.mono (by decide)) (by rfl) Ai.g Ai.kp Ai.b .nil pass0 (pa_cons (pv 1) (pa_cons pe_int (pa_cons (pv 2) (pa_cons (pv 3) (pa_cons pe_int pa_nil)))))))
      (pss_cons (ps_set (i := 15) nd rfl (.inl rfl) (pe_make Z.MT Z.GT (by exact hr.mono (by decide)) (by rfl) Z.mgT Z.bT .nil (passes_call takes0 fun _ _ _ _ h => h) (pa_cons (pv 6) (pa_cons (pv 7) (pa_cons (pv 8) pa_nil)))))
      (pss_cons (ps_set (i := 16) nd rfl (.inl rfl) (pe_make Z.MT Z.GT (by exact hr.mono (by decide)) (by rfl) Z.mgT Z.bT .nil (passes_call takes0 fun _ _ _ _ h => h) (pa_cons (pe_ix ix_tup (pv 14) pe_int (fun _ _ => rfl)) (pa_cons (pe_ix ix_tup (pv 14) pe_int (fun _ _ => rfl)) (pa_cons (pe_ix ix_tup (pv 14) pe_int (fun _ _ => rfl)) pa_nil)))))
      (pss_cons (ps_set (i := 17) nd rfl (.inl rfl) (pe_call Jo.G (by exact hr.mono (by decide)) (by rfl) Jo.g Jo.kp Jo.b .nil (passes_call takes0 fun _ _ _ _ h => h) (pa_cons (pv 15) (pa_cons (pv 16) pa_nil))))
      (pss_cons (ps_if (PW.pt (pw_or (pt_not (pt_val (pe_meth (pv 17) Z.clT Z.same.m Z.same.G (by exact hr.mono (by decide)) Z.same.b .nil pass0 (pa_cons (pe_make Z.MT Z.GT (by exact hr.mono (by decide)) (by rfl) Z.mgT Z.bT .nil (passes_call takes0 fun _ _ _ _ h => h) (pa_cons (pv 6) (pa_cons (pv 7) (pa_cons (pe_callB (call_sortS rfl (by exact hr.units)) (by rfl) Z.sorted (by decide +kernel) (pa_cons (pe_callTy (cr_setP rfl (by exact hr.units)) (by rfl) Z.set (by decide +kernel) (pa_cons (pe_op op_cat (pv 8) (pe_ix ix_tup (pv 14) pe_int (fun _ _ => rfl))) pa_nil)) pa_nil)) pa_nil)))) pa_nil)))) (pw_or1 (pt_not (pt_val (pe_meth (pv 15) Z.clT Z.same.m Z.same.G (by exact hr.mono (by decide)) Z.same.b .nil pass0 (pa_cons (pe_make Z.MT Z.GT (by exact hr.mono (by decide)) (by rfl) Z.mgT Z.bT .nil (passes_call takes0 fun _ _ _ _ h => h) (pa_cons (pv 6) (pa_cons (pv 7) (pa_cons (pv 8) pa_nil)))) pa_nil))))))) (pss_one (ps_ret pe_bl)) pss_nil)
      (pss_cons (ps_set (i := 18) nd rfl (.inl rfl) (pe_call Gr.G (by exact hr.mono (by decide)) (by rfl) Gr.g Gr.kp Gr.b .nil pass0 (pa_cons pe_int (pa_cons pe_int pa_nil))))
      (pss_cons (ps_if (pt_cmpR op_ne (pe_callB call_len (by rfl) Z.len (by decide +kernel) (pa_cons (pe_prop (pe_call Jo.G (by exact hr.mono (by decide)) (by rfl) Jo.g Jo.kp Jo.b .nil (passes_call takes0 fun _ _ _ _ h => h) (pa_cons (pe_make Z.MT Z.GT (by exact hr.mono (by decide)) (by rfl) Z.mgT Z.bT .nil (passes_call takes0 fun _ _ _ _ h => h) (pa_cons (pe_tup (pa_cons pe_int (pa_cons pe_int pa_nil))) (pa_cons (pe_tup (pa_cons pe_int (pa_cons pe_int pa_nil))) (pa_cons (pe_slice sl_list (pv 18) po_none (po_some pe_int)) pa_nil)))) (pa_cons (pe_make Z.MT Z.GT (by exact hr.mono (by decide)) (by rfl) Z.mgT Z.bT .nil (passes_call takes0 fun _ _ _ _ h => h) (pa_cons (pe_tup (pa_cons pe_int (pa_cons pe_int pa_nil))) (pa_cons (pe_tup (pa_cons pe_int (pa_cons pe_int pa_nil))) (pa_cons (pe_slice sl_list (pv 18) (po_some pe_int) (po_some pe_int)) pa_nil)))) pa_nil))) Z.clT Z.hP Z.GP (by exact hr.mono (by decide)) Z.bP .nil pass0 rfl) pa_nil)) pe_int (nomark _)) (pss_one (ps_ret pe_bl)) pss_nil)
      (pss_one (ps_try_next (l := [(.ref Z.CL, none, _)]) rfl rfl takes0 (fun W pn xe tk _ => (pss_cons (ps_expr (pe_callS Jo.G (by exact hr.mono (by decide)) (by rfl) Jo.g Jo.kp Jo.b (fun τ => passAt tk τ) (pa_cons (pe_makeS Z.MT Z.GT (by exact hr.mono (by decide)) (by rfl) Z.mgT Z.bT (fun τ => passAt tk τ) (pa_cons (pe_tup (pa_cons pe_int (pa_cons pe_int pa_nil))) (pa_cons (pe_tup (pa_cons pe_int (pa_cons pe_int pa_nil))) (pa_cons (pe_slice (r := rSlL K) sl_list (pv 18) po_none (po_some pe_int)) pa_nil)))) (pa_cons (pe_makeS Z.MT Z.GT (by exact hr.mono (by decide)) (by rfl) Z.mgT Z.bT (fun τ => passAt tk τ) (pa_cons (pe_tup (pa_cons pe_int (pa_cons pe_int pa_nil))) (pa_cons (pe_tup (pa_cons pe_int (pa_cons pe_int pa_nil))) (pa_cons (pe_slice (r := rSlL K) sl_list (pv 18) (po_some pe_int) (po_some pe_int)) pa_nil)))) pa_nil))))
      (pss_one (ps_ret pe_bl)))) (Clauses.plain ⟨rfl, by decide, .inl Z.gL⟩ (fun a oe cls d pn _ _ => (pss_one (ps_ret pe_bl))) .nil)))))))))))))))), ?_⟩
    refine ⟨_, rfl, a0, sc, 90, rfl, hS, hlen, by decide, fun H1 p ns k1 np hp hln hs => ?_⟩
    refine ⟨_, rfl, p, ns, 0, rfl, SqL.of hp, hs, by omega, fun H2 t l g c ls gs xs cs k2 nt ht nl ng nc hl hg hc hx va hg4 hc6 => ?_⟩
    refine ⟨t, _, rfl, SqT.of ht, rfl, _, _, rfl, _, _, rfl, _, _, rfl, rfl, ?_⟩
    have k12 := k1.trans k2
    have tL2 := (kpS k12).tab _ tL
    have tI2 := (kpS k12).tab _ tI
    have hp2 := k2 _ _ hp
    have hxl := hx.len
    have lko : (kOf cs).length = cs.length := List.length_map _
    have hLs := va.lens
    have hs0 := hLs.pos2
    have hs1 := hLs.top va.1.1.2
    have hl1 := va.1.1.1
    have hl2 := va.1.1.2
    clear hS k12 tL tI k1 k2 np nt nl ng nc ht hp
    -- the house
    refine ⟨_, rfl, _, rfl, _, rfl, fun x dx nx ndx ne => ?_⟩
    have kM : Same H2 (upd (upd H2 dx (.own x)) x (.ins Z.C dx [])) := fun b z e => by
      rw [upd_ne (ne_of_none e nx), upd_ne (ne_of_none e ndx)]
      exact e
    refine ⟨x, dx, l, g, c, ls, gs, xs, cs, rfl, upd_same, kM.seq (SqL.of hl), kM.seq (SqL.of hg), kM.seq (SqL.of hc), hx.same kM, by omega, by omega, by omega, (kpS kM).tab _ tL2, (kpS kM).tab _ tI2, fun _ H3 hH k0 _ => ⟨rfl, ?_⟩, fun nv => absurd va nv⟩
    have k3 : Kp H2 H3 := mkKp nx ndx k0
    have hl3 := k3.lst hl
    have hg3 := k3.lst hg
    have hp3 := k3.lst hp2
    clear kM k0 hl hg hc hp2 hx tL2 tI2 k3 nx ndx ne
    -- start, end, picks
    refine ⟨_, rfl, _, rfl, _, rfl, p, l, g, ns, ls, gs, 24, 8, rfl, SqL.of hp3, SqL.of hl3, SqL.of hg3, hLs, hl1, hl2, by omega, by decide, fun H4 t4 m4 u v st en ys ps k4 nt4 nm4 ht4 hu hv hm4 hps cst cen hpl hnd hle => ?_⟩
    refine ⟨t4, _, rfl, SqT.of ht4, rfl, _, _, rfl, _, _, rfl, _, _, rfl, rfl, ?_⟩
    have hl4 := k4 _ _ hl3
    have hg4 := k4 _ _ hg3
    have hp4 := k4 _ _ hp3
    have hH4 := hH.kp (kpS k4)
    have lys := hps.len
    clear k4 hl3 hg3 hp3 hH nt4 nm4 ht4
    have wnone : wrongP ls gs st en (sortP ps) = none := by
      have w1 : [st, en].find? (fun p => !isCr ls gs p) = none := by simp [cst, cen]
      have w2 : (sortP ps).find? (fun p => !isPl ls gs p) = none := List.find?_eq_none.mpr fun p hp => by simp [hpl p (sortP_mem.mp hp)]
      unfold wrongP
      rw [w1, w2]
      rfl
    -- told of the task
    refine ⟨_, rfl, _, rfl, _, rfl, _, rfl, ?_⟩
    intro x5 d5 nx5 nd5 ne5
    have kA := mkSame (o := .ins Z.CT d5 []) (u := .own x5) nx5 nd5
    refine ⟨x5, d5, m4, u, v, st, en, ys, ps, rfl, upd_same, hu.same kA, hv.same kA, SqL.of (kA _ _ hm4), hps.same kA, by omega, fun _ _ H5 hT5 hB5 hF5 => ⟨rfl, ?_⟩, fun hbad => (hbad ⟨by omega, hnd⟩).elim⟩
    have k5 : Same H4 H5 := mkBut nx5 nd5 hB5
    refine ⟨x, x5, ls, gs, cs, st, en, sortP ps, rfl, hH4.kp (kpS k5), hT5, fun H6 w6 k6 hw6 => ?_⟩
    refine ⟨(by show 1 ≤ sizeLine; decide), fun r7 n7 => ?_⟩
    obtain ⟨H7, e7, k7, g7⟩ := made (o := .lst [V.non]) n7
    rw [e7]
    refine ⟨dW (wrongP ls gs st en (sortP ps)), dW none, (hw6.same k7).dp, Tw.dp (o := none) ⟨r7, rfl, g7⟩, sh_dW _, sh_dW _, _, rfl, ?_⟩
    rw [eqv_dW]
    refine iteNS wnone ?_
    have k47 := (k5.trans k6).trans k7
    clear hw6 g7 hT5 hB5 hF5 kA nx5 nd5 ne5 k5 k6 k7
    -- the turns
    refine ⟨3, rfl, by omega, by omega, ?_⟩
    refine for_range (lo := 0) (n := 3) (fun i σ H' => (∃ v9 v10 v11 v12 v13 : Option V, σ = [some (.ref a0), some (.ref p), some (.ref l), some (.ref g), some (.ref c), some (.ref x), some u, some v, some (.ref m4), v9, v10, v11, v12, v13, none, none, none, none, none, none, none]) ∧ Same H4 H') ?_ ?_ ?_
    · exact ⟨⟨_, _, _, _, _, rfl⟩, k47⟩
    · rintro i σ H' hi ⟨⟨v9, v10, v11, v12, v13, rfl⟩, kt⟩
      refine ⟨_, rfl, _, _, rfl, rfl, .inl ⟨by decide, by decide⟩, _, _, rfl, rfl, ?_⟩
      dsimp (config := { proj := false }) only
      obtain ⟨A0, hA⟩ : ∃ A0 : Nat, 46 + 10 * (0 + (i : Int)) = (A0 : Int) := ⟨46 + 10 * i, by omega⟩
      rw [hA]
      have hA2 : A0 ≤ 66 := by omega
      have hpt := kt _ _ hp4
      have hlt := kt _ _ hl4
      -- first, last
      refine ⟨fun σ' H6 => ∃ (w1 : V) (b1 : Pl), σ' = [some (.ref a0), some (.ref p), some (.ref l), some (.ref g), some (.ref c), some (.ref x), some u, some v, some (.ref m4), some (.int (0 + (i : Int))), some (.int A0), some w1, v12, v13, none, none, none, none, none, none, none] ∧ Same H4 H6 ∧ Pr H6 w1 b1, ?_, ?_⟩
      · refine ⟨_, rfl, _, rfl, p, _, _, _, rfl, rfl, SqL.of hpt, atI_nth (by omega) (by omega), .inl ⟨_, rfl, _, _, rfl, rfl, (by show (0 : Int) < 3; decide), _, _, rfl, rfl, _, rfl, ?_⟩⟩
        refine ite2 (fun _ => ?_) (fun _ => ?_)
        · exact ⟨_, rfl, u, st, rfl, kt, hu.same kt⟩
        · refine ⟨_, rfl, _, rfl, _, _, rfl, rfl, _, rfl, _, rfl, p, l, ns, ls, A0 + 1, u, st, rfl, SqL.of hpt, SqL.of hlt, by omega, hu.same kt, fun H6 w b k6 hw => ?_⟩
          exact ⟨w, b, rfl, kt.trans k6, hw⟩
      rintro σ' H6 ⟨w1, b1, rfl, k6, hw1⟩
      have hp6 := k6 _ _ hp4
      have hl6 := k6 _ _ hl4
      refine ⟨fun σ' H7 => ∃ (w2 : V) (b2 : Pl), σ' = [some (.ref a0), some (.ref p), some (.ref l), some (.ref g), some (.ref c), some (.ref x), some u, some v, some (.ref m4), some (.int (0 + (i : Int))), some (.int A0), some w1, some w2, v13, none, none, none, none, none, none, none] ∧ Same H4 H7 ∧ Pr H7 w1 b1 ∧ Pr H7 w2 b2, ?_, ?_⟩
      · refine ⟨_, rfl, _, rfl, p, _, _, _, rfl, rfl, SqL.of hp6, atI_nth (by omega) (by omega), .inl ⟨_, rfl, _, _, rfl, rfl, ⟨by decide, by decide⟩, _, _, rfl, rfl, (by show (0 : Int) < 3; decide), _, _, rfl, rfl, _, rfl, ?_⟩⟩
        refine ite2 (fun _ => ?_) (fun _ => ?_)
        · exact ⟨_, rfl, v, en, rfl, k6, hw1, hv.same k6⟩
        · refine ⟨_, rfl, _, rfl, _, _, rfl, rfl, _, rfl, _, rfl, p, l, ns, ls, A0 + 3, v, en, rfl, SqL.of hp6, SqL.of hl6, by omega, hv.same k6, fun H7 w b k7 hw => ?_⟩
          exact ⟨w, b, rfl, k6.trans k7, hw1.same k7, hw⟩
      rintro σ' H7 ⟨w2, b2, rfl, k7, hw1, hw2⟩
      have hp7 := k7 _ _ hp4
      have hl7 := k7 _ _ hl4
      have hm7 := k7 _ _ hm4
      have hps7 := hps.same k7
      -- some
      refine ⟨_, rfl, m4, ys, rfl, SqL.of hm7, fun D nD => ?_⟩
      refine go_enum (K := K) (a := m4) (xs := ys) (fun j H' => ∃ (vs : List V) (bs : List Pl), Same H7 H' ∧ H' D = some (.lst vs) ∧ Prs H' vs bs ∧ vs.length ≤ j) ?_ ?_ ?_ ?_
      · exact ⟨[], [], same_upd nD, upd_same, .nil, Nat.le_refl _⟩
      · rintro j H' ⟨vs, bs, k, _⟩
        exact SqL.of (k _ _ hm7)
      · rintro j y H8 T hj ⟨vs, bs, k8, hD, hvs, hle2⟩ nT
        have lt : j < ys.length := (List.getElem?_eq_some_iff.mp hj).1
        obtain ⟨pt, _, hyp⟩ := (hps7.same k8).at hj
        obtain ⟨H9, e9, k9, g9⟩ := made (o := .tup [.int (j : Nat), y]) nT
        rw [e9]
        have k79 := k8.trans k9
        have hD9 := k9 _ _ hD
        refine ⟨T, _, rfl, SqT.of g9, rfl, _, _, rfl, _, _, rfl, rfl, rfl, ?_⟩
        refine ⟨_, rfl, _, rfl, _, _, rfl, rfl, p, _, _, _, rfl, rfl, SqL.of (k79 _ _ hp7), atI_nth (by omega) (by omega), _, rfl, _, _, rfl, rfl, .inl ⟨_, rfl, _, _, rfl, rfl, (by show (0 : Int) < 3; decide), _, _, rfl, rfl, _, rfl, ?_⟩⟩
        refine ite2 (fun _ => ?_) (fun _ => ?_)
        · refine ⟨_, rfl, vs, hD9, by rw [sizeLine_eq]; omega, vs ++ [y], bs ++ [pt], Same.over k79 nD, upd_same, ((hvs.same k9).snoc (hyp.same k9)).over hD9, by rw [List.length_append]; show vs.length + 1 ≤ j + 1; omega⟩
        · refine ⟨_, rfl, _, rfl, _, _, rfl, rfl, _, rfl, _, rfl, p, l, ns, ls, A0 + 6, y, pt, rfl, SqL.of (k79 _ _ hp7), SqL.of (k79 _ _ hl7), by omega, hyp.same k9, fun Ha w b ka hw => ?_⟩
          have hDa := ka _ _ hD9
          exact ⟨vs, hDa, by rw [sizeLine_eq]; omega, vs ++ [w], bs ++ [b], Same.over (k79.trans ka) nD, upd_same, ((hvs.same (k9.trans ka)).snoc hw).over hDa, by rw [List.length_append]; show vs.length + 1 ≤ j + 1; omega⟩
      rintro H8 ⟨vs, bs, k8, hD, hvs, hle2⟩
      have lvs := hvs.len
      -- sorted(set(some))
      refine ⟨_, rfl, D, vs, bs, rfl, SqL.of hD, hvs, by omega, fun H9 sa na k9 hs => ⟨sa, _, rfl, hs, fun r zs nr hzs => ?_⟩⟩
      obtain ⟨Ha, ea, ka, ga⟩ := made (o := .lst zs) nr
      rw [ea]
      have hza := hzs.same ka
      have k7a := (k8.trans k9).trans ka
      have k4a := k7.trans k7a
      have lzs := hza.len
      have lm : (marksP bs).length = (nub bs).length := sortP_len _
      have ln := nub_le bs
      have ndm : (marksP bs).Nodup := sortP_nd.mpr (nub_nd _)
      -- told and due
      refine ⟨_, rfl, _, rfl, _, rfl, _, rfl, r, zs, rfl, SqL.of ga, fun rr nrr => ?_⟩
      obtain ⟨Hb, eb, kb, gb⟩ := made (o := .lst zs.reverse) nrr
      rw [eb]
      intro x6 d6 nx6 nd6 ne6
      have kC := mkSame (o := .ins Z.CT d6 []) (u := .own x6) nx6 nd6
      have k7b := k7a.trans kb
      have hrv := (hza.same kb).rev
      refine ⟨x6, d6, rr, w1, w2, b1, b2, zs.reverse, (marksP bs).reverse, rfl, upd_same, (hw1.same k7b).same kC, (hw2.same k7b).same kC, SqL.of (kC _ _ gb), hrv.same kC, by rw [List.length_reverse]; omega, fun _ _ Hc hTc hBc hFc => ⟨rfl, ?_⟩, fun hbad => (hbad ⟨by rw [List.length_reverse]; omega, (List.reverse_perm _).nodup_iff.mpr ndm⟩).elim⟩
      have kc : Same Hb Hc := mkBut nx6 nd6 hBc
      have k4c := (k4a.trans kb).trans kc
      refine ⟨x, x6, ls, gs, cs, b1, b2, sortP (marksP bs).reverse, rfl, hH4.kp (kpS k4c), hTc, fun Hd we kd hwe => ?_⟩
      have k4d := k4c.trans kd
      have kad := (kb.trans kc).trans kd
      refine ⟨_, rfl, _, rfl, _, rfl, _, rfl, _, rfl, l, g, r, w1, w2, ls, gs, b1, b2, zs, marksP bs, rfl, SqL.of (k4d _ _ hl4), SqL.of (k4d _ _ hg4), hl2, hLs, hw1.same (k7a.trans kad), hw2.same (k7a.trans kad), SqL.of (kad _ _ ga), hza.same kad, fun He wf ke hwf => ?_⟩
      refine ⟨dW (wrongP ls gs b1 b2 (sortP (marksP bs).reverse)), dW (wrongP ls gs b1 b2 (sortP (marksP bs))), (hwe.same ke).dp, hwf.dp, sh_dW _, sh_dW _, _, rfl, ?_⟩
      rw [eqv_dW]
      refine iteNS (by rw [sortP_congr (List.reverse_perm (marksP bs))]) ?_
      exact ⟨⟨_, _, _, _, _, rfl⟩, k4d.trans ke⟩
    rintro σ H8 ⟨⟨v9, v10, v11, v12, v13, rfl⟩, k8⟩
    -- more
    have hl8 := k8 _ _ hl4
    have hg8 := k8 _ _ hg4
    have hp8 := k8 _ _ hp4
    refine ⟨_, rfl, _, rfl, _, rfl, p, l, g, ns, ls, gs, 66, 8, rfl, SqL.of hp8, SqL.of hl8, SqL.of hg8, hLs, hl1, hl2, by omega, by decide, fun H9 t9 m9 u9 v9' st9 en9 ys9 ps9 k9 nt9 nm9 ht9 hu9 hv9 hm9 hps9 _ _ hpl9 hnd9 hle9 => ?_⟩
    have lys9 := hps9.len
    have k49 := k8.trans k9
    -- one
    refine ⟨_, rfl, _, rfl, _, rfl, ?_⟩
    intro x15 d15 nx15 nd15 ne15
    have km15 := mkSame (o := .ins Z.CT d15 []) (u := .own x15) nx15 nd15
    refine ⟨x15, d15, m4, u, v, st, en, ys, ps, rfl, upd_same, (hu.same k49).same km15, (hv.same k49).same km15, SqL.of (km15 _ _ (k49 _ _ hm4)), (hps.same k49).same km15, by omega, fun _ _ Q15 hT15 hB15 hF15 => ⟨rfl, ?_⟩, fun hbad => (hbad ⟨by omega, hnd⟩).elim⟩
    have m15 : Same H9 Q15 := mkBut nx15 nd15 hB15
    -- other
    have ht15 := m15 _ _ ht9
    refine ⟨_, rfl, t9, _, _, _, rfl, rfl, SqT.of ht15, rfl, _, rfl, t9, _, _, _, rfl, rfl, SqT.of ht15, rfl, _, rfl, t9, _, _, _, rfl, rfl, SqT.of ht15, rfl, ?_⟩
    intro x16 d16 nx16 nd16 ne16
    have km16 := mkSame (o := .ins Z.CT d16 []) (u := .own x16) nx16 nd16
    refine ⟨x16, d16, m9, u9, v9', st9, en9, ys9, ps9, rfl, upd_same, (hu9.same m15).same km16, (hv9.same m15).same km16, SqL.of (km16 _ _ (m15 _ _ hm9)), (hps9.same m15).same km16, by omega, fun _ _ Q16 hT16 hB16 hF16 => ⟨rfl, ?_⟩, fun hbad => (hbad ⟨by omega, hnd9⟩).elim⟩
    have m16 : Same Q15 Q16 := mkBut nx16 nd16 hB16
    -- both
    have few : (nub (sortP ps ++ sortP ps9)).length ≤ 16 := by
      have a := nub_le (sortP ps ++ sortP ps9)
      rw [List.length_append, sortP_len, sortP_len] at a
      omega
    refine ⟨_, rfl, _, rfl, x15, x16, st, en, st9, en9, sortP ps, sortP ps9, rfl, hT15.same m16, hT16, by omega, fun _ Ha xb ka nxb hTb => ?_, fun z => absurd few (by omega)⟩
    obtain ⟨db, lb, ab, bb, zb, ib, _⟩ := id hTb
    have k4a := ((k49.trans m15).trans m16).trans ka
    have k9a := (m15.trans m16).trans ka
    -- both.same_as
    refine ⟨_, rfl, xb, db, _, rfl, ib, tf_no _ _ _ (by decide +kernel) (by decide +kernel) (by decide +kernel), ?_⟩
    refine ⟨_, rfl, _, rfl, _, rfl, _, rfl, t9, _, _, _, rfl, rfl, SqT.of (k9a _ _ ht9), rfl, m4, m9, _, _, rfl, rfl, k4a _ _ hm4, k9a _ _ hm9, by rw [sizeLine_eq]; omega, fun c1 nc1 => ?_⟩
    obtain ⟨Hb, eb, kb, gb⟩ := made (o := .lst (ys ++ ys9)) nc1
    rw [eb]
    have h12 : Prs Hb (ys ++ ys9) (ps ++ ps9) := (hps.same (k4a.trans kb)).app (hps9.same (k9a.trans kb))
    refine ⟨c1, _, _, rfl, SqL.of gb, h12, by rw [List.length_append]; omega, fun Hc sa na kc hs => ⟨sa, _, rfl, hs, fun r zs nr hzs => ?_⟩⟩
    obtain ⟨Hd, ed, kd, gd⟩ := made (o := .lst zs) nr
    rw [ed]
    have hzd := hzs.same kd
    have kad := (kb.trans kc).trans kd
    have k4d := k4a.trans kad
    have lzs := hzd.len
    have lm : (marksP (ps ++ ps9)).length = (nub (ps ++ ps9)).length := sortP_len _
    have ln := nub_le (ps ++ ps9)
    rw [List.length_append] at ln
    have ndm : (marksP (ps ++ ps9)).Nodup := sortP_nd.mpr (nub_nd _)
    intro x21 d21 nx21 nd21 ne21
    have km21 := mkSame (o := .ins Z.CT d21 []) (u := .own x21) nx21 nd21
    refine ⟨x21, d21, r, u, v, st, en, zs, marksP (ps ++ ps9), rfl, upd_same, (hu.same k4d).same km21, (hv.same k4d).same km21, SqL.of (km21 _ _ (gd)), (hzd).same km21, by omega, fun _ _ Q21 hT21 hB21 hF21 => ⟨rfl, ?_⟩, fun hbad => (hbad ⟨by omega, ndm⟩).elim⟩
    have m21 : Same Hd Q21 := mkBut nx21 nd21 hB21
    have kbb := kad.trans m21
    refine ⟨xb, x21, st, en, st, en, _, _, rfl, hTb.same kbb, hT21, fun He ke => ⟨_, rfl, ?_⟩⟩
    refine iteNS ⟨rfl, rfl, ?_⟩ ?_
    · show marksP (sortP ps ++ sortP ps9) = sortP (marksP (ps ++ ps9))
      rw [show sortP (marksP (ps ++ ps9)) = marksP (ps ++ ps9) from sortP_idem _]
      exact marksP_congr fun q => by
        rw [List.mem_append, List.mem_append, sortP_mem, sortP_mem]
    have hT15e := ((hT15.same m16).same ka).same (kbb.trans ke)
    have k4e := (k4a.trans kbb).trans ke
    obtain ⟨d15', l15', a15', b15', z15', i15', _⟩ := id hT15e
    refine ⟨_, rfl, x15, d15', _, rfl, i15', tf_no _ _ _ (by decide +kernel) (by decide +kernel) (by decide +kernel), ?_⟩
    refine ⟨_, rfl, _, rfl, _, rfl, ?_⟩
    intro x22 d22 nx22 nd22 ne22
    have km22 := mkSame (o := .ins Z.CT d22 []) (u := .own x22) nx22 nd22
    refine ⟨x22, d22, m4, u, v, st, en, ys, ps, rfl, upd_same, (hu.same k4e).same km22, (hv.same k4e).same km22, SqL.of (km22 _ _ (k4e _ _ hm4)), (hps.same k4e).same km22, by omega, fun _ _ Q22 hT22 hB22 hF22 => ⟨rfl, ?_⟩, fun hbad => (hbad ⟨by omega, hnd⟩).elim⟩
    have m22 : Same He Q22 := mkBut nx22 nd22 hB22
    refine ⟨x15, x22, st, en, st, en, _, _, rfl, hT15e.same m22, hT22, fun Hf kf => ⟨_, rfl, ?_⟩⟩
    refine iteNS ⟨rfl, rfl, rfl⟩ ?_
    -- many
    refine ⟨8, 8, rfl, by decide, by decide, fun Hg mg' xg kg nmg hmg hxg => ?_⟩
    refine ⟨(by show 2 ≤ sizeLine; decide), fun a23 na23 => ?_⟩
    obtain ⟨Ia23, fa23, ja23, ya23⟩ := made (o := .tup [V.int 0, V.int 0]) na23
    have fa23' : upd Hg a23 (.tup [V.int 0, V.int 0]) = Ia23 := fa23
    rw [fa23']
    refine ⟨(by show 2 ≤ sizeLine; decide), fun b23 nb23 => ?_⟩
    obtain ⟨Ib23, fb23, jb23, yb23⟩ := made (o := .tup [V.int 1, V.int 0]) nb23
    have fb23' : upd Ia23 b23 (.tup [V.int 1, V.int 0]) = Ib23 := fb23
    rw [fb23']
    have hm23 := jb23 _ _ (ja23 _ _ (hmg))
    refine ⟨_, rfl, _, rfl, mg', _, rfl, SqL.of hm23, fun c23 nc23 => ?_⟩
    obtain ⟨Ic23, fc23, jc23, yc23⟩ := made (o := .lst (cutV xg none (some 40))) nc23
    have fc23' : upd Ib23 c23 (.lst (cutV xg none (some 40))) = Ic23 := fc23
    rw [fc23']
    have kc23 := (ja23.trans jb23).trans jc23
    have lc23 := gA_l
    intro x23 d23 nx23 nd23 ne23
    have km23 := mkSame (o := .ins Z.CT d23 []) (u := .own x23) nx23 nd23
    refine ⟨x23, d23, c23, .ref a23, .ref b23, (0, 0), (1, 0), (cutV xg none (some 40)), gA, rfl, upd_same, (show Pr Ic23 (.ref a23) (0, 0) from ⟨a23, rfl, jc23 _ _ (jb23 _ _ ya23)⟩).same km23, (show Pr Ic23 (.ref b23) (1, 0) from ⟨b23, rfl, jc23 _ _ yb23⟩).same km23, SqL.of (km23 _ _ (yc23)), ((show Prs Ic23 (cutV xg none (some 40)) gA from (prs_cut (hxg) _ _).same kc23)).same km23, by omega, fun _ _ Q23 hT23 hB23 hF23 => ⟨rfl, ?_⟩, fun hbad => (hbad ⟨by omega, gA_l.2⟩).elim⟩
    have m23 : Same Ic23 Q23 := mkBut nx23 nd23 hB23
    have kt23 := kc23.trans m23
    refine ⟨(by show 2 ≤ sizeLine; decide), fun a24 na24 => ?_⟩
    obtain ⟨Ia24, fa24, ja24, ya24⟩ := made (o := .tup [V.int 0, V.int 0]) na24
    have fa24' : upd Q23 a24 (.tup [V.int 0, V.int 0]) = Ia24 := fa24
    rw [fa24']
    refine ⟨(by show 2 ≤ sizeLine; decide), fun b24 nb24 => ?_⟩
    obtain ⟨Ib24, fb24, jb24, yb24⟩ := made (o := .tup [V.int 1, V.int 0]) nb24
    have fb24' : upd Ia24 b24 (.tup [V.int 1, V.int 0]) = Ib24 := fb24
    rw [fb24']
    have hm24 := jb24 _ _ (ja24 _ _ (kt23 _ _ hmg))
    refine ⟨_, rfl, _, rfl, _, rfl, mg', _, rfl, SqL.of hm24, fun c24 nc24 => ?_⟩
    obtain ⟨Ic24, fc24, jc24, yc24⟩ := made (o := .lst (cutV xg (some 20) (some 60))) nc24
    have fc24' : upd Ib24 c24 (.lst (cutV xg (some 20) (some 60))) = Ic24 := fc24
    rw [fc24']
    have kc24 := (ja24.trans jb24).trans jc24
    have lc24 := gB_l
    intro x24 d24 nx24 nd24 ne24
    have km24 := mkSame (o := .ins Z.CT d24 []) (u := .own x24) nx24 nd24
    refine ⟨x24, d24, c24, .ref a24, .ref b24, (0, 0), (1, 0), (cutV xg (some 20) (some 60)), gB, rfl, upd_same, (show Pr Ic24 (.ref a24) (0, 0) from ⟨a24, rfl, jc24 _ _ (jb24 _ _ ya24)⟩).same km24, (show Pr Ic24 (.ref b24) (1, 0) from ⟨b24, rfl, jc24 _ _ yb24⟩).same km24, SqL.of (km24 _ _ (yc24)), ((show Prs Ic24 (cutV xg (some 20) (some 60)) gB from (prs_cut (hxg.same kt23) _ _).same kc24)).same km24, by omega, fun _ _ Q24 hT24 hB24 hF24 => ⟨rfl, ?_⟩, fun hbad => (hbad ⟨by omega, gB_l.2⟩).elim⟩
    have m24 : Same Ic24 Q24 := mkBut nx24 nd24 hB24
    have kt24 := kc24.trans m24
    refine ⟨x23, x24, (0, 0), (1, 0), (0, 0), (1, 0), sortP gA, sortP gB, rfl, hT23.same kt24, hT24, by rw [gAB]; decide, fun _ Hh xh kh nxh hTh => ?_, fun z => absurd z (by rw [gAB]; decide)⟩
    obtain ⟨dh, lh, ah, bh, zh, ih, _⟩ := id hTh
    refine ⟨xh, dh, _, rfl, ih, xh, (0, 0), (1, 0), _, rfl, hTh, fun mm yy nmm hyy => ?_⟩
    obtain ⟨Hi, ei, ki, gi⟩ := made (o := .lst yy) nmm
    rw [ei]
    have lyy : yy.length = 60 := hyy.len.trans ((sortP_len _).trans gAB)
    refine ⟨_, _, rfl, .inl ⟨_, SqL.of gi, rfl⟩, rfl, _, rfl, ?_⟩
    refine iteNS (by rw [lyy]; rfl) ?_
    have kgi := ((kt23.trans kt24).trans kh).trans ki
    refine ⟨(by show 2 ≤ sizeLine; decide), fun a25 na25 => ?_⟩
    obtain ⟨Ia25, fa25, ja25, ya25⟩ := made (o := .tup [V.int 0, V.int 0]) na25
    have fa25' : upd Hi a25 (.tup [V.int 0, V.int 0]) = Ia25 := fa25
    rw [fa25']
    refine ⟨(by show 2 ≤ sizeLine; decide), fun b25 nb25 => ?_⟩
    obtain ⟨Ib25, fb25, jb25, yb25⟩ := made (o := .tup [V.int 1, V.int 0]) nb25
    have fb25' : upd Ia25 b25 (.tup [V.int 1, V.int 0]) = Ib25 := fb25
    rw [fb25']
    have hm25 := jb25 _ _ (ja25 _ _ (kgi _ _ hmg))
    refine ⟨_, rfl, _, rfl, mg', _, rfl, SqL.of hm25, fun c25 nc25 => ?_⟩
    obtain ⟨Ic25, fc25, jc25, yc25⟩ := made (o := .lst (cutV xg none (some 40))) nc25
    have fc25' : upd Ib25 c25 (.lst (cutV xg none (some 40))) = Ic25 := fc25
    rw [fc25']
    have kc25 := (ja25.trans jb25).trans jc25
    have lc25 := gA_l
    intro x25 d25 nx25 nd25 ne25
    have km25 := mkSame (o := .ins Z.CT d25 []) (u := .own x25) nx25 nd25
    refine ⟨x25, d25, c25, .ref a25, .ref b25, (0, 0), (1, 0), (cutV xg none (some 40)), gA, rfl, upd_same, (show Pr Ic25 (.ref a25) (0, 0) from ⟨a25, rfl, jc25 _ _ (jb25 _ _ ya25)⟩).same km25, (show Pr Ic25 (.ref b25) (1, 0) from ⟨b25, rfl, jc25 _ _ yb25⟩).same km25, SqL.of (km25 _ _ (yc25)), ((show Prs Ic25 (cutV xg none (some 40)) gA from (prs_cut (hxg.same kgi) _ _).same kc25)).same km25, by omega, fun _ _ Q25 hT25 hB25 hF25 => ⟨rfl, ?_⟩, fun hbad => (hbad ⟨by omega, gA_l.2⟩).elim⟩
    have m25 : Same Ic25 Q25 := mkBut nx25 nd25 hB25
    have kt25 := kc25.trans m25
    refine ⟨(by show 2 ≤ sizeLine; decide), fun a26 na26 => ?_⟩
    obtain ⟨Ia26, fa26, ja26, ya26⟩ := made (o := .tup [V.int 0, V.int 0]) na26
    have fa26' : upd Q25 a26 (.tup [V.int 0, V.int 0]) = Ia26 := fa26
    rw [fa26']
    refine ⟨(by show 2 ≤ sizeLine; decide), fun b26 nb26 => ?_⟩
    obtain ⟨Ib26, fb26, jb26, yb26⟩ := made (o := .tup [V.int 1, V.int 0]) nb26
    have fb26' : upd Ia26 b26 (.tup [V.int 1, V.int 0]) = Ib26 := fb26
    rw [fb26']
    have hm26 := jb26 _ _ (ja26 _ _ ((kgi.trans kt25) _ _ hmg))
    refine ⟨_, rfl, _, rfl, _, rfl, mg', _, rfl, SqL.of hm26, fun c26 nc26 => ?_⟩
    obtain ⟨Ic26, fc26, jc26, yc26⟩ := made (o := .lst (cutV xg (some 20) (some 61))) nc26
    have fc26' : upd Ib26 c26 (.lst (cutV xg (some 20) (some 61))) = Ic26 := fc26
    rw [fc26']
    have kc26 := (ja26.trans jb26).trans jc26
    have lc26 := gC_l
    intro x26 d26 nx26 nd26 ne26
    have km26 := mkSame (o := .ins Z.CT d26 []) (u := .own x26) nx26 nd26
    refine ⟨x26, d26, c26, .ref a26, .ref b26, (0, 0), (1, 0), (cutV xg (some 20) (some 61)), gC, rfl, upd_same, (show Pr Ic26 (.ref a26) (0, 0) from ⟨a26, rfl, jc26 _ _ (jb26 _ _ ya26)⟩).same km26, (show Pr Ic26 (.ref b26) (1, 0) from ⟨b26, rfl, jc26 _ _ yb26⟩).same km26, SqL.of (km26 _ _ (yc26)), ((show Prs Ic26 (cutV xg (some 20) (some 61)) gC from (prs_cut (hxg.same (kgi.trans kt25)) _ _).same kc26)).same km26, by omega, fun _ _ Q26 hT26 hB26 hF26 => ⟨rfl, ?_⟩, fun hbad => (hbad ⟨by omega, gC_l.2⟩).elim⟩
    have m26 : Same Ic26 Q26 := mkBut nx26 nd26 hB26
    have kt26 := kc26.trans m26
    refine ⟨x25, x26, (0, 0), (1, 0), (0, 0), (1, 0), sortP gA, sortP gC, rfl, hT25.same kt26, hT26, by rw [gAC]; decide, fun z => absurd z (by rw [gAC]; decide), fun _ Hk kk => ⟨true, Z.eL, fun _ y ny => ?_, fun z => nomatch z⟩⟩
    exact q _
end

/-! ### the end -/
section
open GxR NdefX PySem.Spec PyProof.Rows
/-! ### what the top has left -/
theorem all_mk {l : PySem.W.OpenLaw} {w : World} {K : PySem.W.Frag} {h : Heap} {mg : Str → Option Value} {fa : Addr} {TI TL : Addr} (X : K.In h) (G : h.Ns mainGlobals mg) (hfa : mg "law" = some (.ref fa))
    {C : Addr}
    {CI : Addr}
    {CL : Addr}
    {CIT : Addr}
    {CP : Addr}
    {Pe : Addr}
    {nm0 qn0 : Str} {N0 : Addr} {bs0 : List Value} {sn0 : List Str} {sb0 : List Value} {ab0 : Bool} {co0 : Option Bool} {dd0 : Option Addr} {ma0 mb0 mc0 md0 me0 : Option Value}
    {f_iCP : Addr}
    {od_iCP an_iCP : Option Addr} {sl_iCP : Array (Option Value)} {oc_iCP kV_iCP dc_iCP pm_iCP cd_iCP ct_iCP : Value}
    {CT : Addr}
    {tk5 : Tok}
    {f_tin : Addr}
    {od_tin an_tin : Option Addr} {sl_tin : Array (Option Value)} {oc_tin kV_tin dc_tin pm_tin cd_tin ct_tin : Value}
    {f_tsm : Addr}
    {od_tsm an_tsm : Option Addr} {sl_tsm : Array (Option Value)} {oc_tsm kV_tsm dc_tsm pm_tsm cd_tsm ct_tsm : Value}
    {pp : Addr}
    {prest : List Value}
    {f_tpk : Addr}
    {od_tpk an_tpk : Option Addr} {sl_tpk : Array (Option Value)} {oc_tpk kV_tpk dc_tpk pm_tpk cd_tpk ct_tpk : Value}
    {tk1 tk2 tk3 tk4 : Tok}
    {f_ini : Addr}
    {c8_ini : Addr}
    {od_ini an_ini : Option Addr} {sl_ini : Array (Option Value)} {oc_ini kV_ini dc_ini pm_ini ct_ini : Value}
    {f_al : Addr}
    {c8_al : Addr}
    {od_al an_al : Option Addr} {sl_al : Array (Option Value)} {oc_al kV_al dc_al pm_al ct_al : Value}
    {f_ipl : Addr}
    {od_ipl an_ipl : Option Addr} {sl_ipl : Array (Option Value)} {oc_ipl kV_ipl dc_ipl pm_ipl cd_ipl ct_ipl : Value}
    {f_icr : Addr}
    {od_icr an_icr : Option Addr} {sl_icr : Array (Option Value)} {oc_icr kV_icr dc_icr pm_icr cd_icr ct_icr : Value}
    {f_ilk : Addr}
    {od_ilk an_ilk : Option Addr} {sl_ilk : Array (Option Value)} {oc_ilk kV_ilk dc_ilk pm_ilk cd_ilk ct_ilk : Value}
    {f_cross : Addr}
    {od_cross an_cross : Option Addr} {sl_cross : Array (Option Value)} {oc_cross kV_cross dc_cross pm_cross cd_cross ct_cross : Value}
    {f_chk : Addr}
    {od_chk an_chk : Option Addr} {sl_chk : Array (Option Value)} {oc_chk kV_chk dc_chk pm_chk cd_chk ct_chk : Value}
    {f_joi : Addr}
    {od_joi an_joi : Option Addr} {sl_joi : Array (Option Value)} {oc_joi kV_joi dc_joi pm_joi cd_joi ct_joi : Value}
    {f_row : Addr}
    {od_row an_row : Option Addr} {sl_row : Array (Option Value)} {oc_row kV_row dc_row pm_row cd_row ct_row : Value}
    {f_num : Addr}
    {od_num an_num : Option Addr} {sl_num : Array (Option Value)} {oc_num kV_num dc_num pm_num cd_num ct_num : Value}
    {f_pa : Addr}
    {od_pa an_pa : Option Addr} {sl_pa : Array (Option Value)} {oc_pa kV_pa dc_pa pm_pa cd_pa ct_pa : Value}
    {f_cr2 : Addr}
    {od_cr2 an_cr2 : Option Addr} {sl_cr2 : Array (Option Value)} {oc_cr2 kV_cr2 dc_cr2 pm_cr2 cd_cr2 ct_cr2 : Value}
    {f_aim : Addr}
    {od_aim an_aim : Option Addr} {sl_aim : Array (Option Value)} {oc_aim kV_aim dc_aim pm_aim cd_aim ct_aim : Value}
    {f_to : Addr}
    {od_to an_to : Option Addr} {sl_to : Array (Option Value)} {oc_to kV_to dc_to pm_to cd_to ct_to : Value}
    {f_fi : Addr}
    {od_fi an_fi : Option Addr} {sl_fi : Array (Option Value)} {oc_fi kV_fi dc_fi pm_fi cd_fi ct_fi : Value}
    {f_sh : Addr}
    {od_sh an_sh : Option Addr} {sl_sh : Array (Option Value)} {oc_sh kV_sh dc_sh pm_sh cd_sh ct_sh : Value}
    {f_gr : Addr}
    {od_gr an_gr : Option Addr} {sl_gr : Array (Option Value)} {oc_gr kV_gr dc_gr pm_gr cd_gr ct_gr : Value}
    {f_law : Addr}
    {od_law an_law : Option Addr} {sl_law : Array (Option Value)} {oc_law kV_law dc_law pm_law cd_law ct_law : Value}
    (a_C : PySem.W.nsIn K mainGlobals "House" = some (some (.ref C)))
    (pg_C : PySem.W.plainGet K C Str.empty = true)
    (hd_C : PySem.W.hasDictIn K C = true)
    (po_C : PySem.W.plainOver K C = true)
    (sa_C : PySem.W.findIn K (.ref C) "__setattr__" = some (some (.builtin "object.__setattr__")))
    (mk_C : PySem.W.makesIn K C = true)
    (kc_C : PySem.W.keepIn K (.ref C) = true)
    (nplengths : PySem.W.findIn K (.ref C) "_lengths" = some none)
    (npgaps : PySem.W.findIn K (.ref C) "_gaps" = some none)
    (npcrosses : PySem.W.findIn K (.ref C) "_crosses" = some none)
    (nptop : PySem.W.findIn K (.ref C) "_top" = some none)
    (npclosed : PySem.W.findIn K (.ref C) "_closed" = some none)
    (a_CI : PySem.W.nsIn K mainGlobals "InvalidHouse" = some (some (.ref CI)))
    (kpCI : PySem.W.keepIn K (.ref CI) = true)
    (exCI : PySem.W.excIn K CI [.type "ValueError", .type "Exception", .type "BaseException", .type "object"] "ValueError.__new__" = true)
    (sbCI : PySem.W.subIn K (.ref CI) (.type "BaseException") = some true)
    (tyCI : PySem.W.typeIn K (.ref CI) = some (.type "type"))
    (dcCI : PySem.W.hasDictIn K CI = true)
    (ssCI : PySem.W.subIn K (.ref CI) (.ref CI) = some true)
    (a_CL : PySem.W.nsIn K mainGlobals "TooLarge" = some (some (.ref CL)))
    (kpCL : PySem.W.keepIn K (.ref CL) = true)
    (exCL : PySem.W.excIn K CL [.type "ValueError", .type "Exception", .type "BaseException", .type "object"] "ValueError.__new__" = true)
    (sbCL : PySem.W.subIn K (.ref CL) (.type "BaseException") = some true)
    (tyCL : PySem.W.typeIn K (.ref CL) = some (.type "type"))
    (dcCL : PySem.W.hasDictIn K CL = true)
    (ssCL : PySem.W.subIn K (.ref CL) (.ref CL) = some true)
    (a_CIT : PySem.W.nsIn K mainGlobals "InvalidTask" = some (some (.ref CIT)))
    (kpCIT : PySem.W.keepIn K (.ref CIT) = true)
    (exCIT : PySem.W.excIn K CIT [.type "ValueError", .type "Exception", .type "BaseException", .type "object"] "ValueError.__new__" = true)
    (sbCIT : PySem.W.subIn K (.ref CIT) (.type "BaseException") = some true)
    (tyCIT : PySem.W.typeIn K (.ref CIT) = some (.type "type"))
    (dcCIT : PySem.W.hasDictIn K CIT = true)
    (ssCIT : PySem.W.subIn K (.ref CIT) (.ref CIT) = some true)
    (a_CP : PySem.W.nsIn K mainGlobals "InvalidPlace" = some (some (.ref CP)))
    (a_Pe : PySem.W.nsIn K mainGlobals "PickError" = some (some (.ref Pe)))
    (kpCP : PySem.W.keepIn K (.ref CP) = true)
    (sbCP : PySem.W.subIn K (.ref CP) (.type "BaseException") = some true)
    (tyCP : PySem.W.typeIn K (.ref CP) = some (.type "type"))
    (dcCP : PySem.W.hasDictIn K CP = true)
    (ssCP : PySem.W.subIn K (.ref CP) (.ref CP) = some true)
    (xlCP : K.lookup CP = some (excClassObj nm0 qn0 CP N0 bs0 [.ref Pe, .type "ValueError", .type "Exception", .type "BaseException", .type "object"] true sn0 sb0 ab0 co0 dd0 ma0 mb0 mc0 md0 me0 "ValueError.__new__"))
    (saCP : PySem.W.findIn K (.ref CP) "__setattr__" = some (some (.builtin "object.__setattr__")))
    (noCP : PySem.W.findIn K (.ref CP) "place" = some none)
    (gaCP : PySem.W.findIn K (.ref CP) "__getattribute__" = some (some (.builtin "BaseException.__getattribute__")))
    (ggCP : PySem.W.findIn K (.ref CP) "__getattr__" = some none)
    (a_iCP : PySem.W.findIn K (.ref CP) "__init__" = some (some (.ref f_iCP)))
    (tiCP : PySem.W.typeIn K (.ref f_iCP) = some (.type "function"))
    (l_iCP : K.lookup f_iCP = some ⟨oc_iCP, od_iCP, .func (PySem.W.fnOf "__init__" "InvalidPlace.__init__" (defArgs s_InvalidPlace___init__) (defBody s_InvalidPlace___init__) (defScope s_InvalidPlace___init__) .none kV_iCP dc_iCP pm_iCP an_iCP cd_iCP ct_iCP), sl_iCP⟩)
    (c_iCP : PySem.W.codeIn K cd_iCP "InvalidPlace.__init__" = true)
    (k_iCP : PySem.W.keepIn K (.ref f_iCP) = true)
    (a_CT : PySem.W.nsIn K mainGlobals "Task" = some (some (.ref CT)))
    (pg_CT : PySem.W.plainGet K CT Str.empty = true)
    (hd_CT : PySem.W.hasDictIn K CT = true)
    (po_CT : PySem.W.plainOver K CT = true)
    (sa_CT : PySem.W.findIn K (.ref CT) "__setattr__" = some (some (.builtin "object.__setattr__")))
    (mk_CT : PySem.W.makesIn K CT = true)
    (kc_CT : PySem.W.keepIn K (.ref CT) = true)
    (tstart : PySem.W.findIn K (.ref CT) "start" = some none)
    (tend : PySem.W.findIn K (.ref CT) "end" = some none)
    (tppicks : PySem.W.findIn K (.ref CT) "_picks" = some none)
    (most : PySem.W.nsIn K mainGlobals "MOST_PICKS" = some (some (.int 60 tk5)))
    (a_tin : PySem.W.findIn K (.ref CT) "__init__" = some (some (.ref f_tin)))
    (i_tin : PySem.W.isFn K (.ref f_tin) = true)
    (l_tin : K.lookup f_tin = some ⟨oc_tin, od_tin, .func (PySem.W.fnOf "__init__" "Task.__init__" (defArgs s_Task___init__) (defBody s_Task___init__) (defScope s_Task___init__) .none kV_tin dc_tin pm_tin an_tin cd_tin ct_tin), sl_tin⟩)
    (c_tin : PySem.W.codeIn K cd_tin "Task.__init__" = true)
    (k_tin : PySem.W.keepIn K (.ref f_tin) = true)
    (a_tsm : PySem.W.findIn K (.ref CT) "same_as" = some (some (.ref f_tsm)))
    (i_tsm : PySem.W.isFn K (.ref f_tsm) = true)
    (l_tsm : K.lookup f_tsm = some ⟨oc_tsm, od_tsm, .func (PySem.W.fnOf "same_as" "Task.same_as" (defArgs s_Task_same_as) (defBody s_Task_same_as) (defScope s_Task_same_as) .none kV_tsm dc_tsm pm_tsm an_tsm cd_tsm ct_tsm), sl_tsm⟩)
    (c_tsm : PySem.W.codeIn K cd_tsm "Task.same_as" = true)
    (k_tsm : PySem.W.keepIn K (.ref f_tsm) = true)
    (pa : PySem.W.findIn K (.ref CT) "picks" = some (some (.ref pp)))
    (pg : PySem.W.specialIn K (.ref pp) "__get__" = some (some (.builtin "property.__get__")))
    (pt : PySem.W.takesIn K (.ref pp) = some true)
    (pr : PySem.W.recIn K pp "property" = some (.ref f_tpk :: prest))
    (l_tpk : K.lookup f_tpk = some ⟨oc_tpk, od_tpk, .func (PySem.W.fnOf "picks" "Task.picks" (defArgs s_Task_picks) (defBody s_Task_picks) (defScope s_Task_picks) .none kV_tpk dc_tpk pm_tpk an_tpk cd_tpk ct_tpk), sl_tpk⟩)
    (c_tpk : PySem.W.codeIn K cd_tpk "Task.picks" = true)
    (k_tpk : PySem.W.keepIn K (.ref f_tpk) = true)
    (cL : PySem.W.nsIn K mainGlobals "LONGEST" = some (some (.int 40 tk1)))
    (cS : PySem.W.nsIn K mainGlobals "MOST_STRETCHES" = some (some (.int 2 tk2)))
    (cG : PySem.W.nsIn K mainGlobals "MOST_GAPS" = some (some (.int 11 tk3)))
    (cC : PySem.W.nsIn K mainGlobals "MOST_CLOSED" = some (some (.int 200 tk4)))
    (a_ini : PySem.W.findIn K (.ref C) "__init__" = some (some (.ref f_ini)))
    (i_ini : PySem.W.isFn K (.ref f_ini) = true)
    (l_ini : K.lookup f_ini = some ⟨oc_ini, od_ini, .func (PySem.W.fnOf "__init__" "House.__init__" (defArgs s_House___init__) (defBody s_House___init__) (defScope s_House___init__) .none kV_ini dc_ini pm_ini an_ini (.ref c8_ini) ct_ini), sl_ini⟩)
    (c_ini : PySem.W.codeIn K (.ref c8_ini) "House.__init__" = true)
    (k_ini : PySem.W.keepIn K (.ref f_ini) = true)
    (a_al : PySem.W.nsIn K mainGlobals "_are_long" = some (some (.ref f_al)))
    (l_al : K.lookup f_al = some ⟨oc_al, od_al, .func (PySem.W.fnOf "_are_long" "_are_long" (defArgs s__are_long) (defBody s__are_long) (defScope s__are_long) .none kV_al dc_al pm_al an_al (.ref c8_al) ct_al), sl_al⟩)
    (c_al : PySem.W.codeIn K (.ref c8_al) "_are_long" = true)
    (k_al : PySem.W.keepIn K (.ref f_al) = true)
    (a_ipl : PySem.W.findIn K (.ref C) "is_place" = some (some (.ref f_ipl)))
    (i_ipl : PySem.W.isFn K (.ref f_ipl) = true)
    (l_ipl : K.lookup f_ipl = some ⟨oc_ipl, od_ipl, .func (PySem.W.fnOf "is_place" "House.is_place" (defArgs s_House_is_place) (defBody s_House_is_place) (defScope s_House_is_place) .none kV_ipl dc_ipl pm_ipl an_ipl cd_ipl ct_ipl), sl_ipl⟩)
    (c_ipl : PySem.W.codeIn K cd_ipl "House.is_place" = true)
    (k_ipl : PySem.W.keepIn K (.ref f_ipl) = true)
    (a_icr : PySem.W.findIn K (.ref C) "is_cross" = some (some (.ref f_icr)))
    (i_icr : PySem.W.isFn K (.ref f_icr) = true)
    (l_icr : K.lookup f_icr = some ⟨oc_icr, od_icr, .func (PySem.W.fnOf "is_cross" "House.is_cross" (defArgs s_House_is_cross) (defBody s_House_is_cross) (defScope s_House_is_cross) .none kV_icr dc_icr pm_icr an_icr cd_icr ct_icr), sl_icr⟩)
    (c_icr : PySem.W.codeIn K cd_icr "House.is_cross" = true)
    (k_icr : PySem.W.keepIn K (.ref f_icr) = true)
    (a_ilk : PySem.W.findIn K (.ref C) "is_link" = some (some (.ref f_ilk)))
    (i_ilk : PySem.W.isFn K (.ref f_ilk) = true)
    (l_ilk : K.lookup f_ilk = some ⟨oc_ilk, od_ilk, .func (PySem.W.fnOf "is_link" "House.is_link" (defArgs s_House_is_link) (defBody s_House_is_link) (defScope s_House_is_link) .none kV_ilk dc_ilk pm_ilk an_ilk cd_ilk ct_ilk), sl_ilk⟩)
    (c_ilk : PySem.W.codeIn K cd_ilk "House.is_link" = true)
    (k_ilk : PySem.W.keepIn K (.ref f_ilk) = true)
    (a_cross : PySem.W.nsIn K mainGlobals "_cross_heights" = some (some (.ref f_cross)))
    (l_cross : K.lookup f_cross = some ⟨oc_cross, od_cross, .func (PySem.W.fnOf "_cross_heights" "_cross_heights" (defArgs s__cross_heights) (defBody s__cross_heights) (defScope s__cross_heights) .none kV_cross dc_cross pm_cross an_cross cd_cross ct_cross), sl_cross⟩)
    (c_cross : PySem.W.codeIn K cd_cross "_cross_heights" = true)
    (k_cross : PySem.W.keepIn K (.ref f_cross) = true)
    (a_chk : PySem.W.nsIn K mainGlobals "check_task" = some (some (.ref f_chk)))
    (l_chk : K.lookup f_chk = some ⟨oc_chk, od_chk, .func (PySem.W.fnOf "check_task" "check_task" (defArgs s_check_task) (defBody s_check_task) (defScope s_check_task) .none kV_chk dc_chk pm_chk an_chk cd_chk ct_chk), sl_chk⟩)
    (c_chk : PySem.W.codeIn K cd_chk "check_task" = true)
    (k_chk : PySem.W.keepIn K (.ref f_chk) = true)
    (a_joi : PySem.W.nsIn K mainGlobals "joined_tasks" = some (some (.ref f_joi)))
    (l_joi : K.lookup f_joi = some ⟨oc_joi, od_joi, .func (PySem.W.fnOf "joined_tasks" "joined_tasks" (defArgs s_joined_tasks) (defBody s_joined_tasks) (defScope s_joined_tasks) .none kV_joi dc_joi pm_joi an_joi cd_joi ct_joi), sl_joi⟩)
    (c_joi : PySem.W.codeIn K cd_joi "joined_tasks" = true)
    (k_joi : PySem.W.keepIn K (.ref f_joi) = true)
    (a_row : PySem.W.nsIn K mainGlobals "_law_row" = some (some (.ref f_row)))
    (l_row : K.lookup f_row = some ⟨oc_row, od_row, .func (PySem.W.fnOf "_law_row" "_law_row" (defArgs s__law_row) (defBody s__law_row) (defScope s__law_row) .none kV_row dc_row pm_row an_row cd_row ct_row), sl_row⟩)
    (c_row : PySem.W.codeIn K cd_row "_law_row" = true)
    (k_row : PySem.W.keepIn K (.ref f_row) = true)
    (a_num : PySem.W.nsIn K mainGlobals "_law_numbers" = some (some (.ref f_num)))
    (l_num : K.lookup f_num = some ⟨oc_num, od_num, .func (PySem.W.fnOf "_law_numbers" "_law_numbers" (defArgs s__law_numbers) (defBody s__law_numbers) (defScope s__law_numbers) .none kV_num dc_num pm_num an_num cd_num ct_num), sl_num⟩)
    (c_num : PySem.W.codeIn K cd_num "_law_numbers" = true)
    (k_num : PySem.W.keepIn K (.ref f_num) = true)
    (a_pa : PySem.W.nsIn K mainGlobals "_law_parts" = some (some (.ref f_pa)))
    (l_pa : K.lookup f_pa = some ⟨oc_pa, od_pa, .func (PySem.W.fnOf "_law_parts" "_law_parts" (defArgs s__law_parts) (defBody s__law_parts) (defScope s__law_parts) .none kV_pa dc_pa pm_pa an_pa cd_pa ct_pa), sl_pa⟩)
    (c_pa : PySem.W.codeIn K cd_pa "_law_parts" = true)
    (k_pa : PySem.W.keepIn K (.ref f_pa) = true)
    (a_cr2 : PySem.W.nsIn K mainGlobals "_law_crosses" = some (some (.ref f_cr2)))
    (l_cr2 : K.lookup f_cr2 = some ⟨oc_cr2, od_cr2, .func (PySem.W.fnOf "_law_crosses" "_law_crosses" (defArgs s__law_crosses) (defBody s__law_crosses) (defScope s__law_crosses) .none kV_cr2 dc_cr2 pm_cr2 an_cr2 cd_cr2 ct_cr2), sl_cr2⟩)
    (c_cr2 : PySem.W.codeIn K cd_cr2 "_law_crosses" = true)
    (k_cr2 : PySem.W.keepIn K (.ref f_cr2) = true)
    (a_aim : PySem.W.nsIn K mainGlobals "_law_aims" = some (some (.ref f_aim)))
    (l_aim : K.lookup f_aim = some ⟨oc_aim, od_aim, .func (PySem.W.fnOf "_law_aims" "_law_aims" (defArgs s__law_aims) (defBody s__law_aims) (defScope s__law_aims) .none kV_aim dc_aim pm_aim an_aim cd_aim ct_aim), sl_aim⟩)
    (c_aim : PySem.W.codeIn K cd_aim "_law_aims" = true)
    (k_aim : PySem.W.keepIn K (.ref f_aim) = true)
    (a_to : PySem.W.nsIn K mainGlobals "_law_told" = some (some (.ref f_to)))
    (l_to : K.lookup f_to = some ⟨oc_to, od_to, .func (PySem.W.fnOf "_law_told" "_law_told" (defArgs s__law_told) (defBody s__law_told) (defScope s__law_told) .none kV_to dc_to pm_to an_to cd_to ct_to), sl_to⟩)
    (c_to : PySem.W.codeIn K cd_to "_law_told" = true)
    (k_to : PySem.W.keepIn K (.ref f_to) = true)
    (a_fi : PySem.W.nsIn K mainGlobals "_law_first_wrong" = some (some (.ref f_fi)))
    (l_fi : K.lookup f_fi = some ⟨oc_fi, od_fi, .func (PySem.W.fnOf "_law_first_wrong" "_law_first_wrong" (defArgs s__law_first_wrong) (defBody s__law_first_wrong) (defScope s__law_first_wrong) .none kV_fi dc_fi pm_fi an_fi cd_fi ct_fi), sl_fi⟩)
    (c_fi : PySem.W.codeIn K cd_fi "_law_first_wrong" = true)
    (k_fi : PySem.W.keepIn K (.ref f_fi) = true)
    (a_sh : PySem.W.nsIn K mainGlobals "_law_shifted" = some (some (.ref f_sh)))
    (l_sh : K.lookup f_sh = some ⟨oc_sh, od_sh, .func (PySem.W.fnOf "_law_shifted" "_law_shifted" (defArgs s__law_shifted) (defBody s__law_shifted) (defScope s__law_shifted) .none kV_sh dc_sh pm_sh an_sh cd_sh ct_sh), sl_sh⟩)
    (c_sh : PySem.W.codeIn K cd_sh "_law_shifted" = true)
    (k_sh : PySem.W.keepIn K (.ref f_sh) = true)
    (a_gr : PySem.W.nsIn K mainGlobals "_law_grid" = some (some (.ref f_gr)))
    (l_gr : K.lookup f_gr = some ⟨oc_gr, od_gr, .func (PySem.W.fnOf "_law_grid" "_law_grid" (defArgs s__law_grid) (defBody s__law_grid) (defScope s__law_grid) .none kV_gr dc_gr pm_gr an_gr cd_gr ct_gr), sl_gr⟩)
    (c_gr : PySem.W.codeIn K cd_gr "_law_grid" = true)
    (k_gr : PySem.W.keepIn K (.ref f_gr) = true)
    (a_law : PySem.W.nsIn K mainGlobals "law" = some (some (.ref f_law)))
    (l_law : K.lookup f_law = some ⟨oc_law, od_law, .func (PySem.W.fnOf "law" "law" (defArgs s_law) (defBody s_law) (defScope s_law) .none kV_law dc_law pm_law an_law cd_law ct_law), sl_law⟩)
    (c_law : PySem.W.codeIn K cd_law "law" = true)
    (k_law : PySem.W.keepIn K (.ref f_law) = true)
    (z_abs : PySem.W.nsIn K mainGlobals "abs" = some none)
    (z_all : PySem.W.nsIn K mainGlobals "all" = some none)
    (z_int : PySem.W.nsIn K mainGlobals "int" = some none)
    (z_len : PySem.W.nsIn K mainGlobals "len" = some none)
    (z_list : PySem.W.nsIn K mainGlobals "list" = some none)
    (z_max : PySem.W.nsIn K mainGlobals "max" = some none)
    (z_range : PySem.W.nsIn K mainGlobals "range" = some none)
    (z_set : PySem.W.nsIn K mainGlobals "set" = some none)
    (z_sorted : PySem.W.nsIn K mainGlobals "sorted" = some none)
    (z_sum : PySem.W.nsIn K mainGlobals "sum" = some none)
    (z_enumerate : PySem.W.nsIn K mainGlobals "enumerate" = some none)
    : ∃ fd : FuncData, (∀ (s : Shared) (v : Value), BindsTo s fd ⟨[v], []⟩ [("script", v)]) ∧
      ∀ base : Heap, K.In base → base.Ns mainGlobals mg → TabB base mg c8_ini TI → TabB base mg c8_al TL → FnOk l.prog w K mg base CX0 8 fa fd ["script"] (spLaw K TL TI) := by
  have e := hfa.symm.trans (PySem.W.mg_of X G a_law)
  cases e
  have F_ini : FunC K "__init__" "House.__init__" s_House___init__ f_ini c8_ini _ := ⟨⟨_, _, _, _, _, _, _, _, rfl, l_ini, c_ini⟩, k_ini⟩
  have F_al : FunC K "_are_long" "_are_long" s__are_long f_al c8_al _ := ⟨⟨_, _, _, _, _, _, _, _, rfl, l_al, c_al⟩, k_al⟩
  have F_ipl := fun_mk (st := s_House_is_place) l_ipl c_ipl k_ipl
  have F_icr := fun_mk (st := s_House_is_cross) l_icr c_icr k_icr
  have F_ilk := fun_mk (st := s_House_is_link) l_ilk c_ilk k_ilk
  have F_cross := fun_mk (st := s__cross_heights) l_cross c_cross k_cross
  have F_chk := fun_mk (st := s_check_task) l_chk c_chk k_chk
  have F_joi := fun_mk (st := s_joined_tasks) l_joi c_joi k_joi
  have F_row := fun_mk (st := s__law_row) l_row c_row k_row
  have F_num := fun_mk (st := s__law_numbers) l_num c_num k_num
  have F_pa := fun_mk (st := s__law_parts) l_pa c_pa k_pa
  have F_cr2 := fun_mk (st := s__law_crosses) l_cr2 c_cr2 k_cr2
  have F_aim := fun_mk (st := s__law_aims) l_aim c_aim k_aim
  have F_to := fun_mk (st := s__law_told) l_to c_to k_to
  have F_fi := fun_mk (st := s__law_first_wrong) l_fi c_fi k_fi
  have F_sh := fun_mk (st := s__law_shifted) l_sh c_sh k_sh
  have F_gr := fun_mk (st := s__law_grid) l_gr c_gr k_gr
  have F_law := fun_mk (st := s_law) l_law c_law k_law
  have b_ipl := F_ipl.binds (ps := ["self", "place"]) fun _ _ _ _ _ _ us hl => match us, hl with | [_, _], _ => rfl
  have b_icr := F_icr.binds (ps := ["self", "place"]) fun _ _ _ _ _ _ us hl => match us, hl with | [_, _], _ => rfl
  have b_ilk := F_ilk.binds (ps := ["self", "link"]) fun _ _ _ _ _ _ us hl => match us, hl with | [_, _], _ => rfl
  have b_cross := F_cross.binds (ps := ["lengths"]) fun _ _ _ _ _ _ us hl => match us, hl with | [_], _ => rfl
  have b_chk := F_chk.binds (ps := ["house", "task"]) fun _ _ _ _ _ _ us hl => match us, hl with | [_, _], _ => rfl
  have b_joi := F_joi.binds (ps := ["first", "second"]) fun _ _ _ _ _ _ us hl => match us, hl with | [_, _], _ => rfl
  have b_row := F_row.binds (ps := ["cell", "many"]) fun _ _ _ _ _ _ us hl => match us, hl with | [_, _], _ => rfl
  have b_num := F_num.binds (ps := ["script", "many"]) fun _ _ _ _ _ _ us hl => match us, hl with | [_, _], _ => rfl
  have b_pa := F_pa.binds (ps := ["numbers", "at"]) fun _ _ _ _ _ _ us hl => match us, hl with | [_, _], _ => rfl
  have b_cr2 := F_cr2.binds (ps := ["lengths"]) fun _ _ _ _ _ _ us hl => match us, hl with | [_], _ => rfl
  have b_aim := F_aim.binds (ps := ["numbers", "at", "lengths", "gaps", "many"]) fun _ _ _ _ _ _ us hl => match us, hl with | [_, _, _, _, _], _ => rfl
  have b_to := F_to.binds (ps := ["house", "task"]) fun _ _ _ _ _ _ us hl => match us, hl with | [_, _], _ => rfl
  have b_fi := F_fi.binds (ps := ["lengths", "gaps", "start", "end", "picks"]) fun _ _ _ _ _ _ us hl => match us, hl with | [_, _, _, _, _], _ => rfl
  have b_sh := F_sh.binds (ps := ["numbers", "at", "place", "lengths"]) fun _ _ _ _ _ _ us hl => match us, hl with | [_, _, _, _], _ => rfl
  have b_gr := F_gr.binds (ps := ["wide", "high"]) fun _ _ _ _ _ _ us hl => match us, hl with | [_, _], _ => rfl
  have b_law := F_law.binds (ps := ["script"]) fun _ _ _ _ _ _ us hl => match us, hl with | [_], _ => rfl
  have D : DrawTxt mg f_row := ⟨PySem.W.mg_none_of X G z_abs, PySem.W.mg_none_of X G z_int, PySem.W.mg_none_of X G z_range, PySem.W.mg_none_of X G z_len, PySem.W.mg_none_of X G z_max, PySem.W.mg_of X G a_row⟩
  have Y : HouseTop mg := { all := PySem.W.mg_none_of X G z_all, len := PySem.W.mg_none_of X G z_len, sum := PySem.W.mg_none_of X G z_sum, list := PySem.W.mg_none_of X G z_list, sorted := PySem.W.mg_none_of X G z_sorted, range := PySem.W.mg_none_of X G z_range, longest := ⟨tk1, PySem.W.mg_of X G cL⟩, stretches := ⟨tk2, PySem.W.mg_of X G cS⟩, mostGaps := ⟨tk3, PySem.W.mg_of X G cG⟩, mostClosed := ⟨tk4, PySem.W.mg_of X G cC⟩ }
  have T : HouseTxt K mg C := { cl := ⟨pg_C, hd_C, po_C, sa_C⟩, nL := nplengths, nG := npgaps, nX := npcrosses, nT := nptop, nC := npclosed }
  have UCI : ErrTxt K mg CI "InvalidHouse" := { gI := PySem.W.mg_of X G a_CI, kI := kpCI, xI := exCI, bI := sbCI, tI := tyCI }
  have UCL : ErrTxt K mg CL "TooLarge" := { gI := PySem.W.mg_of X G a_CL, kI := kpCL, xI := exCL, bI := sbCL, tI := tyCL }
  have F_iCP := fun_mk (st := s_InvalidPlace___init__) l_iCP c_iCP k_iCP
  have b_iCP := F_iCP.binds (ps := ["self", "place"]) fun _ _ _ _ _ _ us hl => match us, hl with | [_, _], _ => rfl
  have UP : PlcTxt K mg CP f_iCP := { g := PySem.W.mg_of X G a_CP, o := ⟨⟨nm0, qn0, N0, bs0, _, sn0, sb0, ab0, co0, dd0, ma0, mb0, mc0, md0, me0, xlCP, rfl⟩, saCP, sbCP, tyCP, kpCP⟩, n := noCP, i := a_iCP, y := tiCP }
  have LT : LawTop mg := { int := PySem.W.mg_none_of X G z_int, len := PySem.W.mg_none_of X G z_len, sum := PySem.W.mg_none_of X G z_sum, max := PySem.W.mg_none_of X G z_max, range := PySem.W.mg_none_of X G z_range }
  have m_ipl : Meth K C "is_place" f_ipl := ⟨a_ipl, i_ipl, k_ipl⟩
  have m_icr : Meth K C "is_cross" f_icr := ⟨a_icr, i_icr, k_icr⟩
  have m_ilk : Meth K C "is_link" f_ilk := ⟨a_ilk, i_ilk, k_ilk⟩
  have bI : Binds K _ ["self", "lengths", "gaps", "closed"] [] := (fun_mk (st := s_House___init__) l_ini c_ini k_ini).binds (ps := ["self", "lengths", "gaps", "closed"]) fun _ _ _ _ _ _ us hl => match us, hl with | [_, _, _, _], _ => rfl
  have bA : Binds K _ ["numbers"] [] := (fun_mk (st := s__are_long) l_al c_al k_al).binds (ps := ["numbers"]) fun _ _ _ _ _ _ us hl => match us, hl with | [_], _ => rfl
  refine ⟨PySem.W.fnOf "law" "law" (defArgs s_law) (defBody s_law) (defScope s_law) .none kV_law dc_law pm_law an_law cd_law ct_law, fun s v => .of_eq rfl, fun base _ _ TBI TBA => ?_⟩
  have F_tin := fun_mk (st := s_Task___init__) l_tin c_tin k_tin
  have b_tin := F_tin.binds (ps := ["self", "start", "end", "picks"]) fun _ _ _ _ _ _ us hl => match us, hl with | [_, _, _, _], _ => rfl
  have F_tsm := fun_mk (st := s_Task_same_as) l_tsm c_tsm k_tsm
  have b_tsm := F_tsm.binds (ps := ["self", "other"]) fun _ _ _ _ _ _ us hl => match us, hl with | [_, _], _ => rfl
  have F_tpk := fun_mk (st := s_Task_picks) l_tpk c_tpk k_tpk
  have b_tpk := F_tpk.binds (ps := ["self"]) fun _ _ _ _ _ _ us hl => match us, hl with | [_], _ => rfl
  have TT : TaskTxt K mg CT CIT := { cl := ⟨pg_CT, hd_CT, po_CT, sa_CT⟩, nS := tstart, nE := tend, nP := tppicks, mgC := PySem.W.mg_of X G a_CT, len := PySem.W.mg_none_of X G z_len, set := PySem.W.mg_none_of X G z_set, sorted := PySem.W.mg_none_of X G z_sorted, list := PySem.W.mg_none_of X G z_list, most := ⟨tk5, PySem.W.mg_of X G most⟩, gI := PySem.W.mg_of X G a_CIT, kI := kpCIT, xI := exCIT, bI := sbCIT, tI := tyCIT }
  have hPr : PropOf K CT "picks" pp f_tpk := ⟨pa, pg, pt, prest, pr⟩
  have MT : Mk K CT f_tin := ⟨mk_CT, a_tin, i_tin, kc_CT⟩
  have gPl := ok_is_place (P := l.prog) (w := w) (mg := mg) (base := base) F_ipl Y T
  have gCr := ok_is_cross (P := l.prog) (w := w) (mg := mg) (base := base) F_icr T gPl b_ipl m_ipl
  have gPk := ok_picks (P := l.prog) (w := w) (mg := mg) (base := base) F_tpk TT
  have gTk := ok_task (P := l.prog) (w := w) (mg := mg) (base := base) F_tin TT
  have gCk := ok_check (P := l.prog) (w := w) (mg := mg) (base := base) F_chk T TT UP (ok_plcinit F_iCP) b_iCP gPl b_ipl m_ipl gCr b_icr m_icr gPk b_tpk hPr
  have gJo := ok_joined (P := l.prog) (w := w) (mg := mg) (base := base) F_joi TT UCL MT gTk b_tin gPk b_tpk hPr
  let Z : HouseT l.prog w K mg base := { C := C, CI := CI, CT := CT, CIT := CIT, CL := CL, TL := TL, TI := TI, fI := f_ini, fdI := _, fT := f_tin, fdT := _, fP := f_tpk, pp := pp, fdP := _, M := ⟨mk_C, a_ini, i_ini, kc_C⟩, GI := ok_house F_ini TBI Y T UCI F_ilk b_ilk m_ilk F_al TBA bA (PySem.W.mg_of X G a_al) F_cross b_cross (PySem.W.mg_of X G a_cross), bI := bI, mgC := PySem.W.mg_of X G a_C, MT := MT, GT := gTk, bT := b_tin, mgT := PySem.W.mg_of X G a_CT, clT := TT.cl, hP := hPr, GP := gPk, bP := b_tpk, same := ⟨f_tsm, _, ⟨a_tsm, i_tsm, k_tsm⟩, ok_same F_tsm TT F_tpk b_tpk hPr, b_tsm⟩, gL := PySem.W.mg_of X G a_CL, eL := PySem.W.exm_ref sbCL dcCL tyCL ssCL, set := PySem.W.mg_none_of X G z_set, sorted := PySem.W.mg_none_of X G z_sorted, enum := PySem.W.mg_none_of X G z_enumerate, int := LT.int, len := LT.len, sum := LT.sum, max := LT.max, range := LT.range }
  have dCr : TopD l.prog w K mg base 1 "_law_crosses" ["lengths"] (spCross K) := ⟨f_cr2, _, ok_crosses2 F_cr2 LT, b_cr2, PySem.W.mg_of X G a_cr2, k_cr2⟩
  exact ok_law F_law Z ⟨f_num, _, ok_numbers F_num D F_row b_row, b_num, PySem.W.mg_of X G a_num, k_num⟩ ⟨f_pa, _, ok_parts F_pa LT, b_pa, PySem.W.mg_of X G a_pa, k_pa⟩ ⟨f_aim, _, ok_aims F_aim LT dCr, b_aim, PySem.W.mg_of X G a_aim, k_aim⟩ ⟨f_to, _, ok_told F_to gCk (PySem.W.mg_of X G a_chk) k_chk b_chk (PySem.W.mg_of X G a_CP) (PySem.W.exm_ref sbCP dcCP tyCP ssCP) ⟨gaCP, ggCP, sbCP, dcCP⟩ noCP, b_to, PySem.W.mg_of X G a_to, k_to⟩ ⟨f_fi, _, ok_first F_fi LT (PySem.W.mg_none_of X G z_sorted) dCr, b_fi, PySem.W.mg_of X G a_fi, k_fi⟩ ⟨f_sh, _, ok_shift F_sh LT, b_sh, PySem.W.mg_of X G a_sh, k_sh⟩ ⟨f_gr, _, ok_grid F_gr (PySem.W.mg_none_of X G z_range), b_gr, PySem.W.mg_of X G a_gr, k_gr⟩ ⟨f_joi, _, gJo, b_joi, PySem.W.mg_of X G a_joi, k_joi⟩
theorem tabB0 {base : Heap} {mg : Str → Option Value} {c P : Addr} (h : LamX.TabB base mg c P) : TabB base mg c P := ⟨h.code, h.bm, h.gP⟩
theorem tabG0 {H : Hp} {P : Addr} (h : H P = some (.tbl #[])) : TabG H P := ⟨#[], h, trivial⟩
theorem walk {l : PySem.W.OpenLaw} {q : Program} {loose : List Str} {XP : (Str → Option Value) → Heap → Prop} {YP : World → Heap → Prop} {d : DefRec} {K : Params → PySem.W.Frag} {cI cA TI TL : Addr}
    (hn : l.most = some 63) (hdf : d.params.defaults = []) (hY : ∀ (w : World) (h : Heap), YP w h → (K w.params).In h) (hT : ∀ (w : World) (h : Heap), YP w h → ∀ P ∈ [TI, TL], h.get? P = some (PySem.W.tabObj #[]))
    (nI : ∀ w : World, (K w.params).lookup TI = none) (nL : ∀ w : World, (K w.params).lookup TL = none) (eI : ∀ w : World, PySem.W.codeHdIn (K w.params) cI TI = true) (eA : ∀ w : World, PySem.W.codeHdIn (K w.params) cA TL = true)
    (F : ∀ (w : World) (mg : Str → Option Value) (fa : Addr) (h : Heap), (K w.params).In h → h.Ns mainGlobals mg → mg d.name = some (.ref fa) →
      ∃ fd : FuncData, (∀ (s : Shared) (u : Value), BindsTo s fd ⟨[u], []⟩ [("script", u)]) ∧
        ∀ base : Heap, (K w.params).In base → base.Ns mainGlobals mg → TabB base mg cI TI → TabB base mg cA TL → FnOk l.prog w (K w.params) mg base CX0 8 fa fd ["script"] (spLaw (K w.params) TL TI)) :
    PySem.W.WalkO q loose XP YP l.row.toRowW d [] (fun f vs => PySem.call f vs) := by
  refine LamX.walk_ofTs (n := 63) (k := 8) (x := "script") (CX := fun _ => CX0) hn (by decide) hdf ⟨rfl, by decide, by decide⟩ hY (fun w mg fa h Y KX G hmg => ?_) (fun _ _ _ _ _ z => z)
  obtain ⟨fd, hb, hF⟩ := F w mg fa h KX G hmg
  refine ⟨fd, [(cI, TI), (cA, TL)], spLaw (K w.params) TL TI, fun p hp => ?_, fun p hp => ?_, fun p hp => ?_, hb, fun H a ns hl _ hS hq => ⟨a, ns, rfl, hq, hl, tabG0 (hS (cA, TL) (by simp)), tabG0 (hS (cI, TI) (by simp)), fun _ => rfl⟩, fun base b1 b2 T => hF base b1 b2 (tabB0 (T (cI, TI) (by simp))) (tabB0 (T (cA, TL) (by simp)))⟩
  · rcases List.mem_cons.mp hp with rfl | hp
    · exact hT w h Y _ (by simp)
    · rw [List.mem_singleton.mp hp]
      exact hT w h Y _ (by simp)
  · rcases List.mem_cons.mp hp with rfl | hp
    · exact nI w
    · rw [List.mem_singleton.mp hp]
      exact nL w
  · rcases List.mem_cons.mp hp with rfl | hp
    · exact PySem.W.codeHd_of_K KX (eI w)
    · rw [List.mem_singleton.mp hp]
      exact PySem.W.codeHd_of_K KX (eA w)
end


end Pk
open PySem PySem.W PyProof.Rows
set_option maxRecDepth 100000 in
set_option maxHeartbeats 0 in
theorem PySem.Challenge.cw_pickaisle_k06_tasks_that_fit_holds : PySem.Challenge.rw_pickaisle_k06_tasks_that_fit.Holds := by
  w_on; o_law; o_head (kmHook hd.heap_39 [2, 3, 15, 17, 18, 20, 21, 22, 29, 30, 31, 32, 35, 42, 43, 44, 47, 54, 55, 56, 59, 66, 67, 68, 71, 78, 80, 81, 83, 84, 85, 86, 87, 97, 99, 100, 102, 103, 104, 106, 107, 109, 110, 111, 112, 114, 115, 117, 118, 119, 121, 122, 124, 125, 126, 128, 129, 131, 132, 133, 135, 136, 138, 139, 140, 142, 143, 145, 146, 147, 149, 150, 152, 153, 154, 156, 157, 159, 160, 161, 162, 163, 164, 165, 168, 170, 171, 173, 174, 175, 177, 178, 180, 181, 189, 192, 193, 194, 196, 197, 199, 200, 201, 202, 204, 205, 207, 208, 209, 210, 212, 213, 215, 216, 217, 218, 220, 221, 223, 224, 225, 226, 228, 229, 231, 232, 233, 234, 236, 237, 239, 240, 241, 243, 244, 246, 247, 248, 250, 251, 253, 254, 255, 257, 258, 260, 261, 262, 264, 265, 267, 268, 269, 271, 272, 274, 275, 276, 278, 279, 281, 282, 283, 285, 286, 288, 289, 290, 292, 293, 295, 296, 297, 299, 300, 302, 303, 304, 306, 307, 309, 310, 311, 313, 314, 316, 317, 318, 320, 321, 323, 324, 325, 327, 328, 330, 331, 332, 333, 334, 335, 336, 339, 341, 342, 344, 345, 346, 348, 349, 351, 352, 353, 355, 356, 358, 359, 360, 362, 363, 365, 366, 367, 370, 371, 372, 375, 376, 377, 379, 380, 382, 383, 384, 386, 387, 389, 390, 391, 393, 394, 396, 397, 398, 400, 401, 403, 404, 405, 407, 408, 410, 411, 412, 415, 416] (fun _ => by kernel_rfl) [190, 340]); (case hw => w_witness2)
  k_fill
  refine Pk.walk (l := PySem.Challenge.rw_pickaisle_k06_tasks_that_fit) (cI := 192) (cA := 344) (TI := 190) (TL := 340) rfl rfl (fun w h Y => km_in_of Y) (fun w h Y => km_tabs_of Y) (fun w => by kernel_rfl) (fun w => by kernel_rfl) (fun w => by kernel_rfl) (fun w => by kernel_rfl) ?F
  case F =>
    intro w mg fa h KX G hmg
    refine' Pk.all_mk KX G hmg ?a_C ?pg_C ?hd_C ?po_C ?sa_C ?mk_C ?kc_C ?nplengths ?npgaps ?npcrosses ?nptop ?npclosed ?a_CI ?kpCI ?exCI ?sbCI ?tyCI ?dcCI ?ssCI ?a_CL ?kpCL ?exCL ?sbCL ?tyCL ?dcCL ?ssCL ?a_CIT ?kpCIT ?exCIT ?sbCIT ?tyCIT ?dcCIT ?ssCIT ?a_CP ?a_Pe ?kpCP ?sbCP ?tyCP ?dcCP ?ssCP ?xlCP ?saCP ?noCP ?gaCP ?ggCP ?a_iCP ?tiCP ?l_iCP ?c_iCP ?k_iCP ?a_CT ?pg_CT ?hd_CT ?po_CT ?sa_CT ?mk_CT ?kc_CT ?tstart ?tend ?tppicks ?most ?a_tin ?i_tin ?l_tin ?c_tin ?k_tin ?a_tsm ?i_tsm ?l_tsm ?c_tsm ?k_tsm ?pa ?pg ?pt ?pr ?l_tpk ?c_tpk ?k_tpk ?cL ?cS ?cG ?cC ?a_ini ?i_ini ?l_ini ?c_ini ?k_ini ?a_al ?l_al ?c_al ?k_al ?a_ipl ?i_ipl ?l_ipl ?c_ipl ?k_ipl ?a_icr ?i_icr ?l_icr ?c_icr ?k_icr ?a_ilk ?i_ilk ?l_ilk ?c_ilk ?k_ilk ?a_cross ?l_cross ?c_cross ?k_cross ?a_chk ?l_chk ?c_chk ?k_chk ?a_joi ?l_joi ?c_joi ?k_joi ?a_row ?l_row ?c_row ?k_row ?a_num ?l_num ?c_num ?k_num ?a_pa ?l_pa ?c_pa ?k_pa ?a_cr2 ?l_cr2 ?c_cr2 ?k_cr2 ?a_aim ?l_aim ?c_aim ?k_aim ?a_to ?l_to ?c_to ?k_to ?a_fi ?l_fi ?c_fi ?k_fi ?a_sh ?l_sh ?c_sh ?k_sh ?a_gr ?l_gr ?c_gr ?k_gr ?a_law ?l_law ?c_law ?k_law ?z_abs ?z_all ?z_int ?z_len ?z_list ?z_max ?z_range ?z_set ?z_sorted ?z_sum ?z_enumerate
    (case a_C => k_is)
    (case pg_C => k_is)
    (case hd_C => k_is)
    (case po_C => k_is)
    (case sa_C => k_is)
    (case mk_C => k_is)
    (case kc_C => k_is)
    (case nplengths => k_is)
    (case npgaps => k_is)
    (case npcrosses => k_is)
    (case nptop => k_is)
    (case npclosed => k_is)
    (case a_CI => k_is)
    (case kpCI => k_is)
    (case exCI => k_exc)
    (case sbCI => k_is)
    (case tyCI => k_is)
    (case dcCI => k_is)
    (case ssCI => first | k_is | rfl)
    (case a_CL => k_is)
    (case kpCL => k_is)
    (case exCL => k_exc)
    (case sbCL => k_is)
    (case tyCL => k_is)
    (case dcCL => k_is)
    (case ssCL => first | k_is | rfl)
    (case a_CIT => k_is)
    (case kpCIT => k_is)
    (case exCIT => k_exc)
    (case sbCIT => k_is)
    (case tyCIT => k_is)
    (case dcCIT => k_is)
    (case ssCIT => first | k_is | rfl)
    (case a_CP => k_is)
    (case a_Pe => k_is)
    (case kpCP => k_is)
    (case sbCP => k_is)
    (case tyCP => k_is)
    (case dcCP => k_is)
    (case ssCP => first | k_is | rfl)
    (case xlCP => k_is)
    (case saCP => k_is)
    (case noCP => k_is)
    (case gaCP => k_is)
    (case ggCP => k_is)
    (case a_iCP => k_is)
    (case tiCP => k_is)
    (case l_iCP => k_is)
    (case c_iCP => k_is)
    (case k_iCP => k_is)
    (case a_CT => k_is)
    (case pg_CT => k_is)
    (case hd_CT => k_is)
    (case po_CT => k_is)
    (case sa_CT => k_is)
    (case mk_CT => k_is)
    (case kc_CT => k_is)
    (case tstart => k_is)
    (case tend => k_is)
    (case tppicks => k_is)
    (case most => k_is)
    (case a_tin => k_is)
    (case i_tin => k_is)
    (case l_tin => k_is)
    (case c_tin => k_is)
    (case k_tin => k_is)
    (case a_tsm => k_is)
    (case i_tsm => k_is)
    (case l_tsm => k_is)
    (case c_tsm => k_is)
    (case k_tsm => k_is)
    (case pa => k_is)
    (case pg => k_is)
    (case pt => k_is)
    (case pr => k_is)
    (case l_tpk => k_is)
    (case c_tpk => k_is)
    (case k_tpk => k_is)
    (case cL => k_is)
    (case cS => k_is)
    (case cG => k_is)
    (case cC => k_is)
    (case a_ini => k_is)
    (case i_ini => k_is)
    (case l_ini => k_is)
    (case c_ini => k_is)
    (case k_ini => k_is)
    (case a_al => k_is)
    (case l_al => k_is)
    (case c_al => k_is)
    (case k_al => k_is)
    (case a_ipl => k_is)
    (case i_ipl => k_is)
    (case l_ipl => k_is)
    (case c_ipl => k_is)
    (case k_ipl => k_is)
    (case a_icr => k_is)
    (case i_icr => k_is)
    (case l_icr => k_is)
    (case c_icr => k_is)
    (case k_icr => k_is)
    (case a_ilk => k_is)
    (case i_ilk => k_is)
    (case l_ilk => k_is)
    (case c_ilk => k_is)
    (case k_ilk => k_is)
    (case a_cross => k_is)
    (case l_cross => k_is)
    (case c_cross => k_is)
    (case k_cross => k_is)
    (case a_chk => k_is)
    (case l_chk => k_is)
    (case c_chk => k_is)
    (case k_chk => k_is)
    (case a_joi => k_is)
    (case l_joi => k_is)
    (case c_joi => k_is)
    (case k_joi => k_is)
    (case a_row => k_is)
    (case l_row => k_is)
    (case c_row => k_is)
    (case k_row => k_is)
    (case a_num => k_is)
    (case l_num => k_is)
    (case c_num => k_is)
    (case k_num => k_is)
    (case a_pa => k_is)
    (case l_pa => k_is)
    (case c_pa => k_is)
    (case k_pa => k_is)
    (case a_cr2 => k_is)
    (case l_cr2 => k_is)
    (case c_cr2 => k_is)
    (case k_cr2 => k_is)
    (case a_aim => k_is)
    (case l_aim => k_is)
    (case c_aim => k_is)
    (case k_aim => k_is)
    (case a_to => k_is)
    (case l_to => k_is)
    (case c_to => k_is)
    (case k_to => k_is)
    (case a_fi => k_is)
    (case l_fi => k_is)
    (case c_fi => k_is)
    (case k_fi => k_is)
    (case a_sh => k_is)
    (case l_sh => k_is)
    (case c_sh => k_is)
    (case k_sh => k_is)
    (case a_gr => k_is)
    (case l_gr => k_is)
    (case c_gr => k_is)
    (case k_gr => k_is)
    (case a_law => k_is)
    (case l_law => k_is)
    (case c_law => k_is)
    (case k_law => k_is)
    (case z_abs => k_is)
    (case z_all => k_is)
    (case z_int => k_is)
    (case z_len => k_is)
    (case z_list => k_is)
    (case z_max => k_is)
    (case z_range => k_is)
    (case z_set => k_is)
    (case z_sorted => k_is)
    (case z_sum => k_is)
    (case z_enumerate => k_is)


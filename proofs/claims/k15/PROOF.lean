import PyProof.Rows.All
import Wide.All
import OpenK.AllK
import Wide.FinOn
import KE.KExcIs
import KE.SortData
import KE.KNestM
import PyProof.StrBlock2
import HandS.ForMost
import HandS.Deep
import HandS.TupSets
import HandS.SortRule
import HandS.ForExc
import HandS.ExcInit
import HandS.ExcIs
import HandS.ExcField
import HandS.ExcValue
import HandS.ExcOwn
import HandS.Property
import HandS.CallSlots
import HandS.Style
import HandS.IsInst
import HandS.Codes
import HandS.TupLen
import HandS.Small
import HandS.EndTab
import HandS.GenList
import HandS.Nested
import HandS.AnyAll
import HandS.DictComp
import HandS.Dict
import HandS.Comp
import HandS.Conv
import HandS.Words
import HandS.WordsExc
import KE.DataMinMax
import HandS.SetFor
import HandS.Strs
import PySem.Challenge.RW_pickaisle_k15_walks
set_option Elab.async false
set_option linter.all false
set_option maxRecDepth 100000
set_option maxHeartbeats 8000000
open PySem PySem.W PyProof.Rows in
open_top hd for PySem.Challenge.rw_pickaisle_k15_walks
namespace Pk
open PySem L2
/-! ### errors that are held as values -/
/-- at a: an error of the class at D that is held; fs: its own attributes -/
def XvAt (H : Hp) (a D : Addr) (fs : List (Str × V)) : Prop :=
  (H a = some (ExO (.ref D) a) ∧ fs = []) ∨ ∃ d, H a = some (exo a D (some d)) ∧ H d = some (exd d fs)
theorem XvAt.same {H H' : Hp} {a D : Addr} {fs : List (Str × V)} (h : XvAt H a D fs) (k : Same H H') : XvAt H' a D fs := by
  rcases h with ⟨h, e⟩ | ⟨d, h, e⟩
  · exact .inl ⟨k _ _ h, e⟩
  · exact .inr ⟨d, k _ _ h, k _ _ e⟩
section
variable {X : Cx} {pins : List (Addr × Obj)} {σ : St} {H : Hp} {s : Shared}
theorem xv_inst {a D : Addr} {fs : List (Str × V)} (I : Inv X pins σ H s) (h : XvAt H a D fs) :
    ∃ oe od, PySem.W.InstAt s.heap a oe D od ∧ ∀ (f : Str) (v : V), fs.lookup f = some v → ∃ o u, od = some o ∧ PySem.W.lookIn f o = some (some u) ∧ RelV v u := by
  rcases h with ⟨h, rfl⟩ | ⟨d, h, e⟩
  · obtain ⟨⟨oe, vs, ho, hz, hd, h1, _⟩, _, _⟩ := I.hok a _ h
    refine ⟨oe, none, ⟨ho, hz.1, by unfold PySem.W.notCls; rw [hd], by rw [hz.2]; trivial⟩, fun f v l => ?_⟩
    cases l
  · obtain ⟨t1, ho⟩ := exo_at I.hok h
    obtain ⟨mA, hn, hr⟩ := exd_at I.hok e
    obtain ⟨od, hod, hl⟩ := lookIn_ns hn
    refine ⟨_, some od, ⟨ho, rfl, rfl, hod⟩, fun f v l => ?_⟩
    have q := hr f
    rw [l] at q
    obtain ⟨u, hu, ru⟩ := RelO.some_of q
    exact ⟨od, u, rfl, by rw [hl, hu], ru⟩
end
/-- isinstance(e, c), e an error that is held -/
def rIsV (K : PySem.W.Frag) : List V → Hp → VK → Prop := fun xs H Q => ∃ (a D : Addr) (fs : List (Str × V)) (c : V) (cv : Value) (b : Bool),
  xs = [.ref a, c] ∧ XvAt H a D fs ∧ ExcC K D ∧ (∀ u, RelV c u → u = cv) ∧ PySem.W.kitOne K (.ref D) cv = some b ∧ Q (.bl b) H
theorem call_isV {X : Cx} : CallR X (.builtin "isinstance") (rIsV X.K) := by
  intro pins s σ H xs us Q I r h
  obtain ⟨a, D, fs, c, cv, b, rfl, hx, C, hcv, e, q⟩ := h
  cases r with
  | cons rx rr =>
    cases rr with
    | cons rt rr =>
      cases rr
      cases rx
      obtain rfl := hcv _ rt
      obtain ⟨oe, od, J, _⟩ := xv_inst I hx
      have hcl : (PySem.W.clsIn X.K D).isSome = true := by
        obtain ⟨cd, hc, _⟩ := PySem.W.any_some C.hd
        rw [hc]
        rfl
      exact PySem.W.kia_one (PySem.W.kitx_exc hcl C.hg C.hk C.hs C.ha C.hn C.ht C.hm) I.kIn J e (fun z => nomatch z)
        fun tk => ⟨.bl b, H, I.kept (t' := tk) (fun _ _ z => z), rfl, q⟩
/-- e.f, e an error that is held -/
def tXvF (K : PySem.W.Frag) (n : Str) (te : TE) : TE := fun σ H Q => te σ H fun x H1 => ∃ (a C : Addr) (fs : List (Str × V)) (v : V),
  x = .ref a ∧ XvAt H1 a C fs ∧ XfC K C ∧ PySem.W.findIn K (.ref C) n = some none ∧ fs.lookup n = some v ∧ Q v H1
theorem pe_xvF {X : Cx} {e : Expr} {te : TE} {pos : Pos} {n : Str} (he : PE X e te) (hb : attributeBase e n X.env (eval e X.env) = eval e X.env := by rfl) :
    PE X (.Attribute e n pos) (tXvF X.K n te) := by
  refine ⟨fun pins s σ H Q I h => attr_of hb (thn (he.run pins s σ H _ I h) fun u s1 hh => ?_)⟩
  obtain ⟨x, H1, I1, rx, a, C, fs, v, rfl, hx, T, hno, l, q⟩ := hh
  obtain rfl : u = Value.ref a := rx
  obtain ⟨oe, od, J, hf⟩ := xv_inst I1 hx
  obtain ⟨o, u, rfl, hl, ru⟩ := hf n v l
  exact HandSPX.exc_get I1.kIn J T.ga T.gg T.exC (PySem.W.findObj_own T.hdC hno rfl hl) (handed_of ru) ⟨v, H1, I1.tok _, ru, q⟩
/-- C(e, ..) as a value, C an own class of errors whose __init__ keeps sp -/
def tMkV (C : Addr) (sp : Sp) (dvs : List V) (ta : TA) : TE := fun σ H Q => ta σ H fun vs H1 => vs.length ≤ 1000 ∧ ∀ a, H1 a = none →
  sp (.ref a :: (vs ++ dvs)) (upd H1 a (exo a C none)) (fun v H2 => v = .non ∧ Q (.ref a) H2) (fun _ _ _ => False)
section
variable {X : Cx} {e : Expr} {es : List Expr} {te : TE} {ta : TA} {p pos : Pos}
theorem pe_oexV {CX : CXT} {x : Str} {C fI : Addr} {k : Nat} {fd : FuncData} {ps : List Str} {sp : Sp} {ds : List Value} {dvs : List V} (T : OexC X.K C)
    (iC : PySem.W.findIn X.K (.ref C) "__init__" = some (some (.ref fI))) (tI : PySem.W.typeIn X.K (.ref fI) = some (.type "function"))
    (F1 : FnOk X.prog X.w X.K X.mg X.base CX k fI fd ps sp) (hr : Room (k + 1) X.A) (hb : Binds X.K fd ps ds) (hd : Vals dvs ds) (hx : Passes CX X (fun _ _ _ => False)) (hg : Gl X x) (hm : X.mg x = some (.ref C)) (ha : PA X (e :: es) ta)
    (hdb : (x == ("__debug__" : Str)) = false := by decide) (he : starEach (e :: es) X.env = (false, eval e X.env) :: starEach es X.env := by rfl) (hpl : (backTo pos (starEach es X.env)).any (·.1) = false := by rfl) :
    PE X (.Call (.Name x p) (e :: es) [] pos) (tMkV C sp dvs ta) := by
  refine ⟨fun pins s σ H Q I h => ?_⟩
  obtain ⟨nm, qn, N, bs, bm, sn, sb, ab, co, dd, k0, k1, k2, k3, k5, hC, hbm⟩ := T.cls
  refine wpAny_Call_Name_kw (ld_glob I hg hm ?_ hdb)
  refine PySem.W.callWith_K (h₀ := X.base) I.ok.mod.kin T.kC (thn (ha.run pos pins s σ H _ I h) fun us s1 hh => ?_) he hpl
  obtain ⟨vs, H1, I1, r1, hz, q1⟩ := hh
  refine ⟨I1.kIn, ?_⟩
  show wpAny _ _ (call (.ref C) us) _ _ _
  obtain ⟨hp, g, dr, tk, os⟩ := s1
  have hsz : hp.objs.size ≤ hp.objs.size + 1 := Nat.le_add_right _ 1
  have hn : H1 (hp.objs.size + 1) = none := I1.hok.fresh hsz
  have kk : ∀ b o, hp.get? b = some o → ((hp.push (PySem.W.kdv_tup us)).push (PySem.HandSPX.excO C hp.objs.size)).get? b = some o :=
    fun b o z => Heap.get?_push_of_some _ (Heap.get?_push_of_some _ z)
  have hget : ((hp.push (PySem.W.kdv_tup us)).push (PySem.HandSPX.excO C hp.objs.size)).get? (hp.objs.size + 1) = some (PySem.HandSPX.excO C hp.objs.size) := by
    heap_get
  have I2 : Inv X pins σ (upd H1 (hp.objs.size + 1) (exo (hp.objs.size + 1) C none))
      ⟨(hp.push (PySem.W.kdv_tup us)).push (PySem.HandSPX.excO C hp.objs.size), g, dr, tk, os⟩ := I1.laid (t' := tk) kk hsz (exo_ok hget)
  have r2 : Vals (V.ref (hp.objs.size + 1) :: (vs ++ dvs)) (Value.ref (hp.objs.size + 1) :: (us ++ ds)) := .cons rfl (r1.append hd)
  have hq := q1 (hp.objs.size + 1) hn
  have hl : (Value.ref (hp.objs.size + 1) :: us ++ ds).length = ps.length := by
    have z := r2.length
    rw [F1.len _ _ _ _ hq] at z
    exact z.symm
  have hus : us.length ≤ sizeLine := by
    have z := Paired.length r1
    rw [sizeLine_eq]
    omega
  refine wpAny_call (PySem.HandSPX.call_own F.excBase_ValueError (fun Y => PySem.HandSPX.refsVE_contains Y bm hbm) (I1.kIn _ _ hC)
    (PySem.W.looks_findIn I1.kIn iC) (fun self => PySem.W.bind_fn I1.kIn self tI) hus ?_)
  refine codeAny_mono (F1.run _ X.stack _ _ ⟨Value.ref (hp.objs.size + 1) :: us, []⟩ (Value.ref (hp.objs.size + 1) :: (us ++ ds)) _ _
    (fun _ _ _ => False) (hr.make C us []) (I2.env0.make C us []) (hb _ (Value.ref (hp.objs.size + 1) :: us) I2.kIn hl) r2 hq) fun r s' hq' => ?_
  cases r with
  | error er => exact hx pins σ _ _ er s' I2 hq'
  | ok fl =>
    cases fl with
    | ret u =>
      obtain ⟨v, H3, I3, rv, ev, q3⟩ := I2.after hq'
      subst ev
      exact ⟨rv, V.ref (hp.objs.size + 1), H3, I3, rfl, q3⟩
    | next => exact hq'.elim
    | brk => exact hq'.elim
    | cont => exact hq'.elim
end
/-- __init__(self, v): self.f = v, of an own class of errors -/
def spXI (K : PySem.W.Frag) (C : Addr) (f : Str) : Sp := fun vs H Q _ => ∃ (a : Addr) (v : V), vs = [.ref a, v] ∧ OexC K C ∧ PySem.W.findIn K (.ref C) f = some none ∧ H a = some (exo a C none) ∧
  ∀ dx, H dx = none → dx ≠ a → Q .non (upd (upd H dx (exd dx [(f, v)])) a (exo a C (some dx)))
/-- text * n -/
theorem op_rep_str {X : Cx} : OpR X (binaryOp .Mult) (fun x y H Q => ∃ z i, x = .str z ∧ y = .int i ∧ MulOk z i ∧ Q (.str (Txt.mul z i)) H) := by
  intro pins s σ H x y v u Q I rx ry h
  obtain ⟨z, i, rfl, rfl, hc, q⟩ := h
  obtain ⟨t, rfl⟩ := rx
  obtain ⟨t', rfl⟩ := ry
  exact SB.mul hc fun t' k => ⟨.str (Txt.mul z i), H, I.tok _, ⟨_, rfl⟩, q⟩

/-! ### places: tuples of two numbers, lists of them -/
abbrev Pl := Int × Int
/-- v is a tuple that holds the place p -/
def Pr (H : Hp) (v : V) (p : Pl) : Prop := ∃ t, v = .ref t ∧ H t = some (.tup [.int p.1, .int p.2])
theorem Pr.same {H H' : Hp} {v : V} {p : Pl} (h : Pr H v p) (k : Same H H') : Pr H' v p := by
  obtain ⟨t, rfl, h⟩ := h
  exact ⟨t, rfl, k _ _ h⟩
inductive Prs (H : Hp) : List V → List Pl → Prop
  | nil : Prs H [] []
  | cons {v : V} {p : Pl} {vs : List V} {ps : List Pl} : Pr H v p → Prs H vs ps → Prs H (v :: vs) (p :: ps)
theorem Prs.same {H H' : Hp} {vs : List V} {ps : List Pl} (h : Prs H vs ps) (k : Same H H') : Prs H' vs ps := by
  induction h with
  | nil => exact .nil
  | cons a _ ih => exact .cons (a.same k) ih
theorem Prs.len {H : Hp} {vs : List V} {ps : List Pl} (h : Prs H vs ps) : vs.length = ps.length := by
  induction h with
  | nil => rfl
  | cons a _ ih => exact congrArg (· + 1) ih
theorem Prs.app {H : Hp} {vs us : List V} {ps qs : List Pl} (h : Prs H vs ps) (k : Prs H us qs) : Prs H (vs ++ us) (ps ++ qs) := by
  induction h with
  | nil => exact k
  | cons a _ ih => exact .cons a ih
theorem Prs.snoc {H : Hp} {vs : List V} {v : V} {ps : List Pl} {p : Pl} (h : Prs H vs ps) (k : Pr H v p) : Prs H (vs ++ [v]) (ps ++ [p]) := h.app (.cons k .nil)
theorem Prs.at {H : Hp} {vs : List V} {ps : List Pl} (h : Prs H vs ps) : ∀ {i : Nat} {v : V}, vs[i]? = some v → ∃ p, ps[i]? = some p ∧ Pr H v p := by
  induction h with
  | nil => intro i v e; cases e
  | cons a _ ih =>
    intro i v e
    cases i with
    | zero => cases e; exact ⟨_, rfl, a⟩
    | succ i => exact ih e
theorem Prs.take {H : Hp} {vs : List V} {ps : List Pl} (h : Prs H vs ps) : ∀ n, Prs H (vs.take n) (ps.take n) := by
  induction h with
  | nil => intro n; cases n <;> exact .nil
  | cons a _ ih => intro n; cases n with
    | zero => exact .nil
    | succ n => exact .cons a (ih n)
theorem Prs.drop {H : Hp} {vs : List V} {ps : List Pl} (h : Prs H vs ps) : ∀ n, Prs H (vs.drop n) (ps.drop n) := by
  induction h with
  | nil => intro n; cases n <;> exact .nil
  | cons a r ih => intro n; cases n with
    | zero => exact .cons a r
    | succ n => exact ih n
theorem Prs.mem {H : Hp} {vs : List V} {ps : List Pl} (h : Prs H vs ps) {v : V} (m : v ∈ vs) : ∃ p ∈ ps, Pr H v p := by
  induction h with
  | nil => cases m
  | cons a _ ih =>
    rcases List.mem_cons.mp m with e | m
    · subst e; exact ⟨_, List.mem_cons_self, a⟩
    · obtain ⟨p, hp, k⟩ := ih m
      exact ⟨p, List.mem_cons_of_mem _ hp, k⟩
theorem Prs.rev {H : Hp} {vs : List V} {ps : List Pl} (h : Prs H vs ps) : Prs H vs.reverse ps.reverse := by
  induction h with
  | nil => exact .nil
  | cons a _ ih => rw [List.reverse_cons, List.reverse_cons]; exact ih.snoc a
/-! ### their data -/
def dP (p : Pl) : PyData := .tuple [.int p.1, .int p.2]
def dL (ps : List Pl) : PyData := .list (ps.map dP)
theorem Pr.dp {K : PySem.W.Frag} {H : Hp} {v : V} {p : Pl} (h : Pr H v p) : Dp K H v (dP p) := by
  obtain ⟨t, rfl, h⟩ := h
  exact .tup (SqT.of h) (.cons (.int _) (.cons (.int _) .nil))
theorem Prs.dps {K : PySem.W.Frag} {H : Hp} {vs : List V} {ps : List Pl} (h : Prs H vs ps) : DpAll K H vs (ps.map dP) := by
  induction h with
  | nil => exact .nil
  | cons a _ ih => exact .cons a.dp ih
theorem Prs.dl {K : PySem.W.Frag} {H : Hp} {l : Addr} {vs : List V} {ps : List Pl} (h : Prs H vs ps) (e : SqL K H l vs) : Dp K H (.ref l) (dL ps) := .lst e h.dps
theorem eqv_int (a b : Int) : PyData.eqv (.int a) (.int b) = decide (a = b) := by
  rw [PyData.eqv]
  rfl
theorem eqv_dP (p q : Pl) : PyData.eqv (dP p) (dP q) = decide (p = q) := by
  obtain ⟨a, b⟩ := p
  obtain ⟨c, d⟩ := q
  show PyData.eqvAll [.int a, .int b] [.int c, .int d] = _
  simp only [PyData.eqvAll, eqv_int, Prod.ext_iff, Bool.and_true, Bool.decide_and]
theorem eqvAll_dP : ∀ ps qs : List Pl, PyData.eqvAll (ps.map dP) (qs.map dP) = decide (ps = qs)
  | [], [] => by simp [PyData.eqvAll]
  | [], _ :: _ => by simp [PyData.eqvAll]
  | _ :: _, [] => by simp [PyData.eqvAll]
  | p :: ps, q :: qs => by
    simp only [List.map_cons, PyData.eqvAll, eqv_dP, eqvAll_dP ps qs, List.cons.injEq]
    by_cases h1 : p = q <;> by_cases h2 : ps = qs <;> simp [h1, h2]
theorem eqv_dL (ps qs : List Pl) : PyData.eqv (dL ps) (dL qs) = decide (ps = qs) := by
  unfold dL
  rw [PyData.eqv, eqvAll_dP]
theorem lay_dPs : ∀ ps : List Pl, PyData.canLayAll0 (ps.map dP) = true
  | [] => rfl
  | _ :: ps => by
    show (true && PyData.canLayAll0 (ps.map dP)) = true
    rw [lay_dPs ps]
    rfl
theorem depth_dPs : ∀ ps : List Pl, PyData.depthAll (ps.map dP) ≤ 1
  | [] => by show 0 ≤ 1; omega
  | _ :: ps => by
    have ih := depth_dPs ps
    show max 1 (PyData.depthAll (ps.map dP)) ≤ 1
    omega
theorem sh_dP (p : Pl) : SeqAt.shaped (dP p) = true := rfl
theorem sh_dL (ps : List Pl) : SeqAt.shaped (dL ps) = true := by
  have h := depth_dPs ps
  unfold SeqAt.shaped dL
  rw [show PyData.canLay0 (.list (ps.map dP)) = PyData.canLayAll0 (ps.map dP) from rfl, lay_dPs]
  refine decide_eq_true ?_
  show PyData.depthAll (ps.map dP) + 1 ≤ 64
  omega
theorem any_dP (ps : List Pl) (p : Pl) : ((ps.map dP).any fun z => PyData.eqv z (dP p)) = decide (p ∈ ps) := by
  induction ps with
  | nil => simp
  | cons q ps ih =>
    rw [List.map_cons, List.any_cons, ih, eqv_dP]
    by_cases h1 : q = p
    · subst h1; simp
    · have h2 : ¬ p = q := fun z => h1 z.symm
      simp [h1, h2]

/-! ### the order of places, lists in order, each place once -/
def lp (p q : Pl) : Prop := p.1 < q.1 ∨ (p.1 = q.1 ∧ p.2 ≤ q.2)
instance : DecidableRel lp := fun p q => inferInstanceAs (Decidable (p.1 < q.1 ∨ (p.1 = q.1 ∧ p.2 ≤ q.2)))
theorem lp_trans {p q r : Pl} (h : lp p q) (k : lp q r) : lp p r := by unfold lp at *; omega
theorem lp_total (p q : Pl) : lp p q ∨ lp q p := by unfold lp; omega
theorem lp_anti {p q : Pl} (h : lp p q) (k : lp q p) : p = q := by
  unfold lp at *
  exact Prod.ext (by omega) (by omega)
def insP (p : Pl) : List Pl → List Pl
  | [] => [p]
  | q :: r => if lp p q then p :: q :: r else q :: insP p r
def sortP : List Pl → List Pl
  | [] => []
  | p :: r => insP p (sortP r)
theorem insP_perm (p : Pl) : ∀ r, (insP p r).Perm (p :: r)
  | [] => .refl _
  | q :: r => by
    unfold insP
    split
    · exact .refl _
    · exact ((insP_perm p r).cons q).trans (.swap p q r)
theorem sortP_perm : ∀ r, (sortP r).Perm r
  | [] => .nil
  | p :: r => (insP_perm p (sortP r)).trans ((sortP_perm r).cons p)
theorem insP_pw (p : Pl) : ∀ {r}, List.Pairwise lp r → (insP p r).Pairwise lp
  | [], _ => List.pairwise_singleton _ _
  | q :: r, h => by
    unfold insP
    have hq : ∀ {x}, x ∈ r → lp q x := fun m => List.rel_of_pairwise_cons h m
    split
    · rename_i c
      refine List.pairwise_cons.mpr ⟨fun x hx => ?_, h⟩
      rcases List.mem_cons.mp hx with e | hx
      · rw [e]; exact c
      · exact lp_trans c (hq hx)
    · rename_i c
      refine List.pairwise_cons.mpr ⟨fun x hx => ?_, insP_pw p (List.Pairwise.of_cons h)⟩
      rcases List.mem_cons.mp ((insP_perm p r).mem_iff.mp hx) with e | hx
      · rw [e]; exact (lp_total p q).resolve_left c
      · exact hq hx
theorem sortP_pw : ∀ r, (sortP r).Pairwise lp
  | [] => .nil
  | p :: r => insP_pw p (sortP_pw r)
theorem pw_uniq : ∀ {a b : List Pl}, a.Perm b → a.Pairwise lp → b.Pairwise lp → a = b
  | [], b, h, _, _ => h.nil_eq
  | p :: a, [], h, _, _ => absurd h.length_eq (by simp)
  | p :: a, q :: b, h, ha, hb => by
    have e : p = q := by
      rcases List.mem_cons.mp (h.mem_iff.mp List.mem_cons_self) with e | m
      · exact e
      · rcases List.mem_cons.mp (h.mem_iff.mpr List.mem_cons_self) with e | m'
        · exact e.symm
        · exact lp_anti (List.rel_of_pairwise_cons ha m') (List.rel_of_pairwise_cons hb m)
    subst e
    rw [pw_uniq ((List.perm_cons p).mp h) ha.of_cons hb.of_cons]
theorem sortP_of {a b : List Pl} (h : a.Perm b) (ha : a.Pairwise lp) : a = sortP b := pw_uniq (h.trans (sortP_perm b).symm) ha (sortP_pw b)
theorem sortP_congr {a b : List Pl} (h : a.Perm b) : sortP a = sortP b := sortP_of ((sortP_perm a).trans h) (sortP_pw a)
theorem sortP_mem {p : Pl} {r : List Pl} : p ∈ sortP r ↔ p ∈ r := (sortP_perm r).mem_iff
theorem sortP_len (r : List Pl) : (sortP r).length = r.length := (sortP_perm r).length_eq
theorem sortP_nd {r : List Pl} : (sortP r).Nodup ↔ r.Nodup := (sortP_perm r).nodup_iff
theorem sortP_id {r : List Pl} (h : r.Pairwise lp) : sortP r = r := (sortP_of (.refl _) h).symm
theorem sortP_idem (r : List Pl) : sortP (sortP r) = sortP r := sortP_id (sortP_pw r)
/-- each place once -/
def nub : List Pl → List Pl
  | [] => []
  | p :: r => if p ∈ r then nub r else p :: nub r
theorem nub_mem {p : Pl} : ∀ {r : List Pl}, p ∈ nub r ↔ p ∈ r
  | [] => Iff.rfl
  | q :: r => by
    unfold nub
    split
    · rename_i h
      rw [nub_mem (r := r), List.mem_cons]
      exact ⟨.inr, fun k => k.elim (fun e => by rw [e]; exact h) id⟩
    · rw [List.mem_cons, List.mem_cons, nub_mem (r := r)]
theorem nub_nd : ∀ r : List Pl, (nub r).Nodup
  | [] => .nil
  | p :: r => by
    unfold nub
    split
    · exact nub_nd r
    · rename_i h
      exact List.nodup_cons.mpr ⟨fun m => h (nub_mem.mp m), nub_nd r⟩
theorem nub_le : ∀ r : List Pl, (nub r).length ≤ r.length
  | [] => Nat.le_refl _
  | p :: r => by
    unfold nub
    have := nub_le r
    split
    · rw [List.length_cons]; omega
    · rw [List.length_cons, List.length_cons]; omega
theorem nub_lt : ∀ r : List Pl, (nub r).length < r.length ↔ ¬ r.Nodup
  | [] => by simp [nub]
  | p :: r => by
    have ih := nub_lt r
    have hl := nub_le r
    unfold nub
    rw [List.nodup_cons]
    split
    · rename_i h
      rw [List.length_cons]
      exact ⟨fun _ k => k.1 h, fun _ => by omega⟩
    · rename_i h
      rw [List.length_cons, List.length_cons, Nat.add_lt_add_iff_right, ih]
      exact ⟨fun k z => k z.2, fun k z => k ⟨h, z⟩⟩
theorem nub_id : ∀ {r : List Pl}, r.Nodup → nub r = r
  | [], _ => rfl
  | p :: r, h => by
    unfold nub
    rw [if_neg (List.nodup_cons.mp h).1, nub_id (List.nodup_cons.mp h).2]
/-- in order, each once -/
def marksP (r : List Pl) : List Pl := sortP (nub r)
theorem marksP_of {a r : List Pl} (hn : a.Nodup) (hm : ∀ p, p ∈ a ↔ p ∈ r) (ho : a.Pairwise lp) : a = marksP r :=
  sortP_of ((List.perm_ext_iff_of_nodup hn (nub_nd r)).mpr fun p => (hm p).trans nub_mem.symm) ho
theorem marksP_congr {a r : List Pl} (h : ∀ p, p ∈ a ↔ p ∈ r) : marksP a = marksP r :=
  sortP_congr ((List.perm_ext_iff_of_nodup (nub_nd a) (nub_nd r)).mpr fun p => nub_mem.trans ((h p).trans nub_mem.symm))
/-! ### the rules -/
theorem perm_lift {α β : Type} {f : α → β} {us vs : List β} (h : us.Perm vs) : ∀ L : List α, us = L.map f → ∃ L1 : List α, vs = L1.map f ∧ L1.Perm L := by
  induction h with
  | nil =>
    intro L e
    cases L with
    | nil => exact ⟨[], rfl, .nil⟩
    | cons b L => cases e
  | cons x _ ih =>
    intro L e
    cases L with
    | nil => cases e
    | cons b L =>
      injection e with e1 e2
      obtain ⟨L1, e3, p⟩ := ih L e2
      exact ⟨b :: L1, by rw [List.map_cons, e1, e3], p.cons b⟩
  | swap x y l =>
    intro L e
    match L, e with
    | b :: c :: L, e =>
      injection e with e1 e
      injection e with e2 e3
      exact ⟨c :: b :: L, by rw [List.map_cons, List.map_cons, e1, e2, e3], .swap b c L⟩
  | trans _ _ ih1 ih2 =>
    intro L e
    obtain ⟨L1, e1, p1⟩ := ih1 L e
    obtain ⟨L2, e2, p2⟩ := ih2 L1 e1
    exact ⟨L2, e2, p2.trans p1⟩
/-- a set of places stands at a -/
def SetOf (P : Program) (w : World) (H : Hp) (a : Addr) (ps : List Pl) : Prop := ∃ L : List (Addr × List Int), H a = some (SetTO P w a L) ∧
  (∀ x ∈ L, ∃ p ∈ ps, x.2 = [p.1, p.2] ∧ H x.1 = some (.tup [.int p.1, .int p.2])) ∧ ∀ p ∈ ps, [p.1, p.2] ∈ L.map (·.2)
section
variable {X : Cx} {pins : List (Addr × Obj)} {σ : St} {H : Hp} {s : Shared}
def toP (x : Addr × List Int) : Pl := (x.2.getD 0 0, x.2.getD 1 0)
theorem setOf_list {P : Program} {w : World} {a : Addr} {ps : List Pl} {L : List (Addr × List Int)}
    (h1 : ∀ x ∈ L, ∃ p ∈ ps, x.2 = [p.1, p.2] ∧ H x.1 = some (.tup [.int p.1, .int p.2])) (h2 : ∀ p ∈ ps, [p.1, p.2] ∈ L.map (·.2)) (nd : (L.map (·.2)).Nodup) :
    (L.map toP).Nodup ∧ ∀ p, p ∈ L.map toP ↔ p ∈ ps := by
  constructor
  · refine List.pairwise_map.mpr (List.Pairwise.imp_of_mem (fun {x y} hx hy ne e => ?_) (List.pairwise_map.mp nd))
    obtain ⟨p, _, ep, _⟩ := h1 x hx
    obtain ⟨q, _, eq, _⟩ := h1 y hy
    unfold toP at e
    rw [ep, eq] at e
    apply ne
    rw [ep, eq]
    have e1 : p.1 = q.1 := (Prod.mk.inj e).1
    have e2 : p.2 = q.2 := (Prod.mk.inj e).2
    rw [e1, e2]
  · intro p
    constructor
    · intro m
      obtain ⟨x, hx, rfl⟩ := List.mem_map.mp m
      obtain ⟨p, hp, ep, _⟩ := h1 x hx
      unfold toP
      rw [ep]
      exact hp
    · intro m
      obtain ⟨x, hx, e⟩ := List.mem_map.mp (h2 p m)
      refine List.mem_map.mpr ⟨x, hx, ?_⟩
      unfold toP
      rw [e]
      rfl
/-- set(xs), xs a list of places -/
def rSetP (K : PySem.W.Frag) (P : Program) (w : World) : List V → Hp → VK → Prop := fun xs H Q => ∃ (l : Addr) (vs : List V) (ps : List Pl), xs = [.ref l] ∧ SqL K H l vs ∧ Prs H vs ps ∧ ps.length < 64 ∧
  ∀ (H' : Hp) (a : Addr), H a = none → Same H H' → SetOf P w H' a ps → Q (.ref a) H'
theorem prs_ks {K : PySem.W.Frag} {vs : List V} {ps : List Pl} (h : Prs H vs ps) : ∃ ks : List (Addr × List Int), vs = ks.map (fun p => V.ref p.1) ∧ (∀ x ∈ ks, ∃ p ∈ ps, x.2 = [p.1, p.2] ∧ H x.1 = some (.tup [.int p.1, .int p.2])) ∧ ks.map (·.2) = ps.map (fun p => [p.1, p.2]) := by
  induction h with
  | nil => exact ⟨[], rfl, fun x hx => (nomatch hx), rfl⟩
  | @cons v p vs ps a _ ih =>
    obtain ⟨t, rfl, ht⟩ := a
    obtain ⟨ks, e, k, m⟩ := ih
    refine ⟨(t, [p.1, p.2]) :: ks, by rw [e]; rfl, fun x hx => ?_, by rw [List.map_cons, m]; rfl⟩
    rcases List.mem_cons.mp hx with z | z
    · subst z
      exact ⟨p, List.mem_cons_self, rfl, ht⟩
    · obtain ⟨q, hq, r⟩ := k x z
      exact ⟨q, List.mem_cons_of_mem _ hq, r⟩
theorem cr_setP (hc : X.calm = true) (hu : X.A.units + 64 < cLine) : CallR X (.type "set") (rSetP X.K X.prog X.w) := by
  intro pins s σ H xs us Q I r h
  obtain ⟨l, vs, ps, rfl, hl, hp, hn, q⟩ := h
  obtain ⟨ks, rfl, hk, hm⟩ := prs_ks (K := X.K) hp
  refine cr_setOfT hc hu pins s σ H [.ref l] us Q I r ⟨l, ks, rfl, hl, fun x hx => ?_, ?_, fun a L ha h1 h2 => ?_⟩
  · obtain ⟨p, _, e, k⟩ := hk x hx
    rw [e]
    exact SqT.of k
  · have e := congrArg List.length hm
    rw [List.length_map, List.length_map] at e
    omega
  · have sm : Same H (upd H a (SetTO X.prog X.w a L)) := fun b o e => by
      rw [upd_ne (ne_of_none e ha)]
      exact e
    refine q _ a ha sm ⟨L, upd_same, fun x hx => ?_, fun p hp => ?_⟩
    · obtain ⟨p, hp, e, k⟩ := hk x (h1 x hx)
      exact ⟨p, hp, e, sm _ _ k⟩
    · have m : [p.1, p.2] ∈ ks.map (·.2) := by
        rw [hm]
        exact List.mem_map.mpr ⟨p, hp, rfl⟩
      obtain ⟨x, hx, e⟩ := List.mem_map.mp m
      rw [← e]
      exact h2 x hx
/-- len(s), s a set of places -/
theorem call_lenP : CallR X (.builtin "len") (fun xs H Q => ∃ (a : Addr) (ps : List Pl), xs = [.ref a] ∧ SetOf X.prog X.w H a ps ∧ Q (.int (nub ps).length) H) := by
  intro pins s σ H xs us Q I r h
  obtain ⟨a, ps, rfl, ⟨L, ha, h1, h2⟩, q⟩ := h
  rw [Vals.ref1 r]
  have R0 : SetT0 X.prog X.w s.heap a L := (I.hok a _ ha).1
  obtain ⟨es, ep, t, R⟩ := R0.full fun x hx => by
    obtain ⟨p, _, e, k⟩ := h1 x hx
    have z : SqT X.K H x.1 (x.2.map V.int) := by rw [e]; exact SqT.of k
    exact I.isT z
  obtain ⟨o, ho, hex, hd⟩ := R.ob
  obtain ⟨n1, n2⟩ := setOf_list (P := X.prog) (w := X.w) (a := a) h1 h2 R0.ex.choose_spec.choose_spec.choose_spec.2.2.2.1
  have hl : L.length = (nub ps).length := by
    have z : (L.map toP).Perm (nub ps) := (List.perm_ext_iff_of_nodup n1 (nub_nd ps)).mpr fun p => (n2 p).trans nub_mem.symm
    have z2 := z.length_eq
    rw [List.length_map] at z2
    exact z2
  have hsz := R.size
  have hfew := R.few
  refine call_len_set ho hex hd R.fits (by omega) ⟨.int (nub ps).length, H, I.tok _, ⟨_, by rw [hsz, hl]⟩, q⟩
end

section
open PyProof.Rows
/-! ### sorted(xs), xs a list of places; sorted(s), s a set of places -/
/-- what place a value stands for -/
def plAt (H : Hp) (v : V) : Pl := match v with
  | .ref t => (match H t with
    | some (.tup [.int a, .int b]) => (a, b)
    | _ => (0, 0))
  | _ => (0, 0)
theorem plAt_of {H : Hp} {v : V} {p : Pl} (h : Pr H v p) : plAt H v = p := by
  obtain ⟨t, rfl, h⟩ := h
  show (match H t with
    | some (.tup [.int a, .int b]) => (a, b)
    | _ => (0, 0)) = p
  rw [h]
theorem prs_plAt {H : Hp} {vs : List V} {ps : List Pl} (h : Prs H vs ps) : vs.map (plAt H) = ps := by
  induction h with
  | nil => rfl
  | cons a _ ih => rw [List.map_cons, ih, plAt_of a]
theorem prs_of_mem {H : Hp} : ∀ {ys : List V}, (∀ y ∈ ys, ∃ p, Pr H y p) → Prs H ys (ys.map (plAt H))
  | [], _ => .nil
  | y :: ys, h => by
    obtain ⟨p, hp⟩ := h y List.mem_cons_self
    refine .cons ?_ (prs_of_mem fun z hz => h z (List.mem_cons_of_mem _ hz))
    rw [plAt_of hp]
    exact hp
theorem prs_perm {H : Hp} {xs ys : List V} {ps : List Pl} (h : Prs H xs ps) (m : ys.Perm xs) : Prs H ys (ys.map (plAt H)) ∧ (ys.map (plAt H)).Perm ps := by
  refine ⟨prs_of_mem fun y hy => ?_, ?_⟩
  · obtain ⟨p, _, k⟩ := h.mem (m.mem_iff.mp hy)
    exact ⟨p, k⟩
  · have e := m.map (plAt H)
    rw [prs_plAt h] at e
    exact e
def rSortP (K : PySem.W.Frag) : List V → Hp → VK → Prop := fun vs H Q => ∃ (a : Addr) (xs : List V) (ps : List Pl), vs = [.ref a] ∧ SqL K H a xs ∧ Prs H xs ps ∧
  ∀ (p : Addr) (ys : List V), H p = none → Prs H ys (sortP ps) → Q (.ref p) (upd H p (.lst ys))
section
variable {X : Cx}
theorem call_sortP : CallR X (.builtin "sorted") (rSortP X.K) := by
  intro pins s σ H vs us Q I r h
  obtain ⟨a, xs, ps, rfl, hs, hp, q⟩ := h
  refine cr_sortedPO pins s σ H [.ref a] us Q I r ⟨a, xs, plAt H, rfl, hs, fun x hx => ?_, fun ys p h1 h2 hn => ?_⟩
  · obtain ⟨p, _, t, e, k⟩ := hp.mem hx
    refine ⟨t, e, ?_⟩
    have z : plAt H x = p := plAt_of ⟨t, e, k⟩
    rw [z]
    exact k
  · obtain ⟨k1, k2⟩ := prs_perm hp h2.perm
    have e : ys.map (plAt H) = sortP ps := sortP_of k2 (List.pairwise_map.mpr (List.Pairwise.imp (fun {x y} z => by
      have z1 : SrtO.lexB (plAt H y) (plAt H x) = false := z
      have z2 := SrtO.lexB_no.mp z1
      unfold lp
      omega) h1))
    rw [e] at k1
    exact q p ys hn k1
def rSortS (P : Program) (w : World) : List V → Hp → VK → Prop := fun vs H Q => ∃ (a : Addr) (ps : List Pl), vs = [.ref a] ∧ SetOf P w H a ps ∧
  ∀ (p : Addr) (ys : List V), H p = none → Prs H ys (marksP ps) → Q (.ref p) (upd H p (.lst ys))
theorem eachIs_map {α β : Type} {R : α → β → Prop} (f : β → α) : ∀ {bs : List β}, (∀ b ∈ bs, R (f b) b) → PySem.W.EachIs R (bs.map f) bs
  | [], _ => .nil
  | b :: bs, h => .cons (h b List.mem_cons_self) (eachIs_map f fun c hc => h c (List.mem_cons_of_mem _ hc))
theorem eachIs_back {α β : Type} {f : β → α} : ∀ {out : List α} {bs : List β}, PySem.W.EachIs (fun v b => v = f b) out bs → out = bs.map f
  | _, _, .nil => rfl
  | _, _, .cons e r => by rw [e, eachIs_back r]; rfl
theorem reads_two {h : Heap} {t : Addr} {a b : Int} (k : TS.TupInts h (.ref t) [a, b]) : ∃ as, Reads h (.ref t) (.tuple [.int a, .int b]) as ∧ as = [] := by
  obtain ⟨t', its, e, ⟨o, ho, hc, n, hd⟩, hi⟩ := k
  cases e
  generalize he : its.toList = l at hi
  cases hi with
  | cons _ t1 hi =>
    cases hi with
    | cons _ t2 hi =>
      cases hi
      exact ⟨[], .tuple ho hc hd (by rw [he]; exact .cons (.int _ _) (.cons (.int _ _) .nil)), rfl⟩
section
variable {P : Program} {w : World} {A : Around} {E : Value → Shared → Prop} {s : Shared}
theorem sorted_setP {a : Addr} {L : List (Addr × List Int)} {es : Array (Int × Value)} {ep : Nat} {t : SetTable} {Q : Value → Shared → Prop} (R : SetTR P w s.heap a L es ep t) (hh : A.handled = none) (hu : A.units + 64 < cLine)
    (hxy : ∀ b ∈ L, b.2 = [(toP b).1, (toP b).2])
    (hQ : ∀ (s' : Shared) (p : Addr) (out : Array Value) (c : Nat) (L' : List (Addr × List Int)), (∀ b o, s.heap.get? b = some o → s'.heap.get? b = some o) → s'.gens = s.gens → s'.os = s.os → s.heap.objs.size ≤ p →
      s'.heap.get? p = some (seqObj "list" out c) → out.toList = L'.map (fun q => Value.ref q.1) → L'.Perm L → L'.Pairwise (fun q r => lp (toP q) (toP r)) → Q (.ref p) s') :
    wpAny (model P w) A (call (.builtin "sorted") [.ref a]) Q E s := by
  obtain ⟨so, sho, shex, shd⟩ := R.ob
  have ssz := R.size
  have sfew := R.few
  have hcl : cLine = 10000 ∨ True := .inr trivial
  refine Calls.call_function_entry kind_sorted plain_sorted entry_sorted (args_sorted1 _) ?_
  unfold Builtin.«sorted»
  refine wpAny_bind (m := checkCount "sorted" 1 1 _) (wpAny_pure ?_)
  refine wpAny_bind (collect_set (A := A.in1) hh ⟨so, sho, shex.1, shd⟩ R.fits (by unfold scanBound; omega) R.tab.ris R.led fun s1 vs k1 z1 g1 o1 pm => ?_)
  have hes : es.toList.map (·.2) = L.map fun q => Value.ref q.1 := by
    rw [R.rows]
    unfold rowsOf
    rw [List.map_map]
    rfl
  rw [hes] at pm
  obtain ⟨L1, rfl, p1⟩ := perm_lift pm.symm L rfl
  have hvl : (L1.map fun q : Addr × List Int => Value.ref q.1).length < 64 := by
    rw [List.length_map, p1.length_eq]
    exact sfew
  refine wpAny_bind (wpAny_newList ?_ (by rw [sizeLine_eq]; omega))
  generalize hvs : (L1.map fun q : Addr × List Int => Value.ref q.1) = vs at *
  have hoL : (s1.heap.push (seqObj "list" vs.toArray 0)).get? s1.heap.objs.size = some (seqObj "list" vs.toArray 0) := Heap.get?_push_size _ rfl
  have tk : ∀ q ∈ L1, TS.TupInts (s1.heap.push (seqObj "list" vs.toArray 0)) (.ref q.1) [(toP q).1, (toP q).2] := fun q hq => by
    have hq' := p1.mem_iff.mp hq
    have z : TS.TupInts (s1.heap.push (seqObj "list" vs.toArray 0)) (.ref q.1) q.2 := tupInts_of (P := P) (w := w) (isT_keep (R.tup q hq') fun b u e => Heap.get?_push_of_some _ (k1 b u e))
    rw [hxy q hq'] at z
    exact z
  have er : PySem.W.EachIs (fun v (b : Addr × List Int) => ∃ as, Reads (s1.heap.push (seqObj "list" vs.toArray 0)) v (.tuple [.int (toP b).1, .int (toP b).2]) as ∧ s1.heap.objs.size ∉ as) vs L1 := by
    subst hvs
    refine eachIs_map _ fun b hb => ?_
    obtain ⟨as, k, e⟩ := reads_two (tk b hb)
    exact ⟨as, k, by rw [e]; simp⟩
  have ev : PySem.W.EachIs (fun v (b : Addr × List Int) => v = Value.ref b.1) vs L1 := by
    rw [← hvs]
    exact eachIs_map _ fun b _ => rfl
  refine wpAny_bind (wpAny_holding (PySem.W.list_sort_data (s := { s1 with heap := s1.heap.push (seqObj "list" vs.toArray 0) }) (enc := fun b : Addr × List Int => .tuple [.int (toP b).1, .int (toP b).2]) hoL ev er
    (PySem.W.AllAlike.of fun b b' => by rfl) (PySem.W.Sortable.tuples fun b => ⟨_, _, rfl⟩) ?_ (fun b _ => ?_) fun out ho he => ?_))
  · rw [← hvs, List.length_map] at hvl
    rw [sizeLine_eq]
    omega
  · have z : A.in1.units ≤ A.units + 3 := by
      unfold Around.in1
      simp
    show A.in1.units + 1 + 1 < cLine
    omega
  obtain ⟨c, hc⟩ := sortedHeap_at (vs := vs) (out := out.toArray) hoL
  have eo := eachIs_back he
  refine wpAny_pure ⟨_, rfl, hQ _ s1.heap.objs.size out.toArray c _ (fun b u e => ?_) g1 o1 z1 hc (by rw [List.toList_toArray]; exact eo) ((List.mergeSort_perm _ _).trans p1) ?_⟩
  · have q := k1 b u e
    have hlt := Heap.lt_size q
    show (sortedHeap _ s1.heap.objs.size vs out.toArray).get? b = some u
    rw [sortedHeap_old (Nat.ne_of_lt hlt) (by rw [size_push']; exact Nat.lt_succ_of_lt hlt)]
    exact Heap.get?_push_of_some _ q
  · rw [PySem.W.dataLe_ii]
    have z := List.pairwise_mergeSort (le := fun p q : Addr × List Int => decide ((toP p).1 < (toP q).1 ∨ ((toP p).1 = (toP q).1 ∧ (toP p).2 ≤ (toP q).2)))
      (fun a b c h1 h2 => decide_eq_true (by have k1 := of_decide_eq_true h1; have k2 := of_decide_eq_true h2; omega))
      (fun a b => by
        rw [Bool.or_eq_true, decide_eq_true_eq, decide_eq_true_eq]
        omega) L1
    exact List.Pairwise.imp (fun h => of_decide_eq_true h) z
end
theorem call_sortS (hc : X.calm = true) (hu : X.A.units + 64 < cLine) : CallR X (.builtin "sorted") (rSortS X.prog X.w) := by
  intro pins s σ H vs us Q I r h
  obtain ⟨a, ps, rfl, ⟨L, ha, h1, h2⟩, q⟩ := h
  rw [Vals.ref1 r]
  have R0 : SetT0 X.prog X.w s.heap a L := (I.hok a _ ha).1
  obtain ⟨es, ep, t, R⟩ := R0.full fun x hx => by
    obtain ⟨p, _, e, k⟩ := h1 x hx
    have z : SqT X.K H x.1 (x.2.map V.int) := by rw [e]; exact SqT.of k
    exact I.isT z
  obtain ⟨n1, n2⟩ := setOf_list (P := X.prog) (w := X.w) (a := a) h1 h2 R.nd
  have hxy : ∀ b ∈ L, b.2 = [(toP b).1, (toP b).2] := fun b hb => by
    obtain ⟨p, _, e, _⟩ := h1 b hb
    unfold toP
    rw [e]
    rfl
  refine sorted_setP R (I.ok.hd hc) hu hxy fun s' p out c L' kp kg ko hp hg hout pm pw => ?_
  have few := R.few
  have hl' : L'.length < 64 := by rw [pm.length_eq]; exact few
  have fresh : H p = none := I.hok.fresh hp
  have hz : (L'.map fun q => V.ref q.1).length ≤ sizeLine := by
    rw [List.length_map, sizeLine_eq]
    omega
  have hv : Vals (L'.map fun q => V.ref q.1) out.toList := by
    rw [hout]
    exact vals_of_refs L'
  have J : Inv X pins σ (upd H p (.lst (L'.map fun q => V.ref q.1))) { s with heap := s'.heap, gens := s'.gens, drawn := s'.drawn, toks := s'.toks } :=
    I.call (ch := []) (Un.laid kp hp fresh) (I.hok.laid kp hp ⟨hz, out.toList, c, hv, hg⟩) (by rw [kg]; exact I.bare) (fun _ z => nomatch z)
  have es' : s' = { s with heap := s'.heap, gens := s'.gens, drawn := s'.drawn, toks := s'.toks } := by
    obtain ⟨a1, a2, a3, a4, a5⟩ := s'
    obtain ⟨b1, b2, b3, b4, b5⟩ := s
    cases ko
    rfl
  rw [es']
  refine ⟨.ref p, _, J, rfl, q p _ fresh ?_⟩
  have e : L'.map toP = marksP ps := by
    refine marksP_of ((pm.map toP).nodup_iff.mpr n1) (fun p => ((pm.map toP).mem_iff).trans (n2 p)) (List.pairwise_map.mpr pw)
  rw [← e]
  have all : ∀ M : List (Addr × List Int), (∀ x ∈ M, x ∈ L) → Prs H (M.map fun q => V.ref q.1) (M.map toP) := by
    intro M
    induction M with
    | nil => intro _; exact .nil
    | cons x M ih =>
      intro hm
      obtain ⟨p, _, ep, k⟩ := h1 x (hm x List.mem_cons_self)
      refine .cons ⟨x.1, rfl, ?_⟩ (ih fun y hy => hm y (List.mem_cons_of_mem _ hy))
      rw [k]
      unfold toP
      rw [ep]
      rfl
  exact all L' fun x hx => pm.mem_iff.mp hx
end

end

section
open PySem.Spec PyProof.Rows
/-! ### try with several clauses, with and without names -/
/-- the ends of a clause whose name stands in slot i: behind it the slot is empty -/
def asEnds (i : Nat) (D : Ends) : Ends := { nx := fun τ G => D.nx (τ.set i none) G, rt := D.rt, bk := fun τ G => D.bk (τ.set i none) G, ct := fun τ G => D.ct (τ.set i none) G }
abbrev Sui := Addr → Value → Option Addr → TS
/-- what the clauses wish of an error of the body -/
def wNext (K : PySem.W.Frag) (Wo : WX) (D : Ends) : List (Value × Option Nat × Sui) → WX
  | [] => Wo
  | (c, none, ts) :: more => fun cls d τ G => ∃ b, PySem.W.exmOne K cls c = some b ∧ (b = true → ∀ x, G x = none → ts x cls d D τ G) ∧ (b = false → wNext K Wo D more cls d τ G)
  | (c, some i, ts) :: more => fun cls d τ G => ∃ b, PySem.W.exmOne K cls c = some b ∧ (b = true → ∀ x, G x = none → ts x cls d (asEnds i D) (τ.set i (some (.ref x))) G) ∧ (b = false → wNext K Wo D more cls d τ G)
/-- try: the body's reading, its errors wished for as the clauses take them -/
def tTry (K : PySem.W.Frag) (Wo : WX) (l : List (Value × Option Nat × Sui)) (tb : WX → TS) : TS := fun D τ G => tb (wNext K Wo D l) D τ G
inductive Clauses (X : Cx) : List ExceptHandler → List (Value × Option Nat × Sui) → Prop
  | nil : Clauses X [] []
  | plain {x : Str} {c : Value} {ts : Sui} {s0 : Stmt} {su : List Stmt} {p1 p2 : Pos} {hs : List ExceptHandler} {l : List (Value × Option Nat × Sui)} (hc : Names X x c)
      (hsu : ∀ (a : Addr) (oe : Obj) (cls : Value) (d : Option Addr) (pn : List (Addr × Obj)), Zc cls d oe → (∃ vs, oe.data = .fields vs) → PSs (X.suite a ((a, oe) :: pn)) (s0 :: su) (ts a cls d)) (more : Clauses X hs l) :
      Clauses X (.ExceptHandler (some (.Name x p1)) none (s0 :: su) p2 :: hs) ((c, none, ts) :: l)
  | named {x n : Str} {i : Nat} {c : Value} {ts : Sui} {s0 : Stmt} {su : List Stmt} {p1 p2 : Pos} {hs : List ExceptHandler} {l : List (Value × Option Nat × Sui)} (hN : X.N.Nodup) (hi : X.N[i]? = some n) (hn : X.env.kindOf n = some .local) (hc : Names X x c)
      (hsu : ∀ (a : Addr) (oe : Obj) (cls : Value) (d : Option Addr) (pn : List (Addr × Obj)), Zc cls d oe → (∃ vs, oe.data = .fields vs) → PSs (X.suite a ((a, oe) :: pn)) (s0 :: su) (ts a cls d)) (more : Clauses X hs l) :
      Clauses X (.ExceptHandler (some (.Name x p1)) (some n) (s0 :: su) p2 :: hs) ((c, some i, ts) :: l)
section
variable {X : Cx} {body : List Stmt} {c0 : ExceptHandler} {cs : List ExceptHandler} {l : List (Value × Option Nat × Sui)} {pos : Pos} {tb : WX → TS} {Wo : WX}
theorem ps_try_next (hst : X.stack = X.env :: X.outer) (hfm : X.env.frame = some X.env.locals) (tk : Takes X Wo)
    (hbody : ∀ (W : WX) (pn : List (Addr × Obj)) (xe : Value → Shared → Prop), Takes (X.tr pn xe) W → PassesOwn (model X.prog X.w) X.A X.env xe → PSs (X.tr pn xe) body (tb W))
    (hcs : Clauses X (c0 :: cs) l) : PS X (.Try body (c0 :: cs) [] [] pos) (tTry X.K Wo l tb) := by
  refine ⟨fun pins s τ G D I hw => ?_⟩
  have kk := I.ok
  have hfrs : X.A.frames = some (X.env :: X.outer) := by rw [kk.frames, hst]
  let M := model X.prog X.w
  refine wpAny_Try_except ?_
  refine wpAny_mono ((hbody (wNext X.K Wo D l) (X.pn ++ pins) (fun e s₁ => wpAny M X.A (noteFrame e X.env) (fun _ s₂ => wpAny M X.A (setFlight e none) (fun _ s₃ => wpAny M X.A (handleBy e X.env (c0 :: cs)) (SP X pins D) X.xe s₃) X.xe s₂) X.xe s₁)
    (fun u s' xx => ?_) PassesOwn.looking).run [] s τ G D (I.toTry _) hw) (fun fl s1 hsp => ?_) (fun e s1 he => he)
  · obtain ⟨a, B, sI, pins', τ', G', cls, d, rfl, J0, nb, up, sky, na, hos, hag, wish⟩ := xx
    have J : Inv X pins τ' G' sI := J0.ofTry kk
    have sk : Sky B (X.env :: X.outer) a (Zc cls d) X.env.locals s'.heap := hst ▸ sky
    show wpAny M X.A (noteFrame (.ref a) X.env) _ _ _
    refine Sky.land Zc.steady hfrs hfm sk fun h3 fl3 up3 => ?_
    have J3 : Inv X pins τ' G' { s' with heap := h3 } := J.landed nb fl3.1 (up.trans up3) hos hag
    obtain ⟨oe3, vs3, he3, hz3, hd3⟩ := fl3.there
    have nfr : a ∉ frs (X.env :: X.outer) := fun hm => by
      obtain ⟨_, o', e', hnf⟩ := fl3.2.2.1.mem hm
      rw [he3] at e'
      cases e'
      exact hnf _ hd3
    have nL : a ≠ X.env.locals := fun z => nfr (List.mem_filterMap.mpr ⟨X.env, List.mem_cons_self, by rw [hfm, z]⟩)
    have nF : a ∉ X.fs := fun hm => by
      obtain ⟨e, he, q⟩ := List.mem_filterMap.mp hm
      exact nfr (List.mem_filterMap.mpr ⟨e, List.mem_cons_of_mem _ he, q⟩)
    have S3 := J3.suite he3 hd3 na nL nF
    have LT : PySem.W.Looks M h3 (typeOf (.ref a)) cls := fun A Q E s k q => wpAny_typeOf_ref (k _ _ he3) (by rw [hz3.1]; exact q)
    have test : ∀ {x : Str} {c : Value} {p1 : Pos} {Q : Value → Shared → Prop} {E : Value → Shared → Prop}, Names X x c → Q c { s' with heap := h3 } → wpAny M (X.A.mark (some (.ref a))) (eval (.Name x p1) X.env) Q E { s' with heap := h3 } :=
      fun {x c p1 Q E} hc q => by
        obtain ⟨hg, hdbg, hm | ⟨hm, hv, hnn⟩⟩ := hc
        · exact ld_glob (X := X.suite a ((a, oe3) :: (X.pn ++ pins))) S3 hg hm q hdbg
        · exact ld_blt (X := X.suite a ((a, oe3) :: (X.pn ++ pins))) S3 hg hm hv q hnn hdbg
    have each : ∀ {hs : List ExceptHandler} {l' : List (Value × Option Nat × Sui)}, Clauses X hs l' → wNext X.K Wo D l' cls d τ' G' → wpAny M X.A (handleBy (.ref a) X.env hs) (SP X pins D) X.xe { s' with heap := h3 } := by
      intro hs l' hk
      induction hk with
      | nil =>
        intro wish
        refine wpAny_handleBy_nil ?_
        obtain ⟨k1, k2, k3, oe, vs, T, oT, ts', he, hz, hd, hf1, hr⟩ := id fl3
        unfold PySem.passOn
        refine wpAny_bind (wpAny_field he hd hf1 ?_)
        rw [if_neg (show ¬ ((Value.ref T == Value.none) = true) from by simp)]
        have out : wpAny M X.A (setFlight (.ref a) X.env.frame) (fun _ s4 => wpAny M X.A (throw (.ref a) : Sem Flow) (SP X pins D) X.xe s4) X.xe { s' with heap := h3 } := by
          rw [hfm]
          refine HandSPX.setFlight_upZ fl3 fun h4 hh4 up4 => wpAny_throw (tk _ _ ?_)
          exact ⟨a, B, sI, pins, τ', G', cls, d, rfl, J, nb, (up.trans up3).trans up4, .inr (.inr (hst ▸ hh4)), na, hos, hag, wish⟩
        first
          | exact wpAny_bind (wpAny_pure (wpAny_bind out))
          | exact wpAny_bind out
      | plain hc hsu more ih =>
        intro wish
        obtain ⟨b, hb1, yes, no⟩ := wish
        refine wpAny_handleBy_cons (codeAny_handlers_test ?_) (by intro q; cases q)
        refine test hc ((PySem.W.exm_one (M := M) J3.kIn LT hb1).here ?_)
        cases b with
        | false => exact ih (no rfl)
        | true =>
          refine codeAny_handlers_suite (HandSPX.lands_againZ fl3 fun h4 fl4 up4 => ?_)
          have J4 : Inv X pins τ' G' { s' with heap := h4 } := J.landed nb fl4.1 ((up.trans up3).trans up4) hos hag
          obtain ⟨oe4, vs4, he4, hz4, hd4⟩ := fl4.there
          refine wpAny_mono ((hsu a oe4 cls d (X.pn ++ pins) hz4 ⟨_, hd4⟩).run [] _ _ G' _ (J4.suite he4 hd4 na nL nF) (yes rfl a na)) (fun f s6 hsp => ?_) (fun _ _ z => z.elim)
          cases f with
          | ret u =>
            obtain ⟨v6, τ6, G6, S6, r6, q6⟩ := hsp
            exact ⟨v6, τ6, G6, S6.unsuite kk, r6, q6⟩
          | next =>
            obtain ⟨τ6, G6, S6, q6⟩ := hsp
            exact ⟨τ6, G6, S6.unsuite kk, q6⟩
          | brk =>
            obtain ⟨τ6, G6, S6, q6⟩ := hsp
            exact ⟨τ6, G6, S6.unsuite kk, q6⟩
          | cont =>
            obtain ⟨τ6, G6, S6, q6⟩ := hsp
            exact ⟨τ6, G6, S6.unsuite kk, q6⟩
      | named hN hi hn hc hsu more ih =>
        intro wish
        obtain ⟨b, hb1, yes, no⟩ := wish
        refine wpAny_handleBy_cons (codeAny_handlers_test ?_) (by intro q; cases q)
        refine test hc ((PySem.W.exm_one (M := M) J3.kIn LT hb1).here ?_)
        cases b with
        | false => exact ih (no rfl)
        | true =>
          refine codeAny_handlers_suite_as (HandSPX.lands_againZ fl3 fun h4 fl4 up4 => ?_)
          have J4 : Inv X pins τ' G' { s' with heap := h4 } := J.landed nb fl4.1 ((up.trans up3).trans up4) hos hag
          obtain ⟨oe4, vs4, he4, hz4, hd4⟩ := fl4.there
          refine store_ok (X := X.suite a ((a, oe4) :: (X.pn ++ pins))) (v := .ref a) (J4.suite he4 hd4 na nL nF) hN hi (.inl hn) rfl (fun s5 S5 => ?_) (.inr hn)
          refine wpAny_mono ((hsu a oe4 cls d (X.pn ++ pins) hz4 ⟨_, hd4⟩).run [] s5 _ G' _ S5 (yes rfl a na)) (fun f s6 hsp => ?_) (fun _ _ z => z.elim)
          cases f with
          | ret u =>
            obtain ⟨v6, τ6, G6, S6, r6, q6⟩ := hsp
            exact gone_ok (S6.unsuite kk) hN hi hn fun s7 J7 => ⟨v6, _, G6, J7, r6, q6⟩
          | next =>
            obtain ⟨τ6, G6, S6, q6⟩ := hsp
            exact gone_ok (S6.unsuite kk) hN hi hn fun s7 J7 => ⟨_, G6, J7, q6⟩
          | brk =>
            obtain ⟨τ6, G6, S6, q6⟩ := hsp
            exact gone_ok (S6.unsuite kk) hN hi hn fun s7 J7 => ⟨_, G6, J7, q6⟩
          | cont =>
            obtain ⟨τ6, G6, S6, q6⟩ := hsp
            exact gone_ok (S6.unsuite kk) hN hi hn fun s7 J7 => ⟨_, G6, J7, q6⟩
    exact each hcs wish
  · cases fl with
    | ret u =>
      obtain ⟨v, τ', G', J', r, q⟩ := hsp
      exact ⟨v, τ', G', J'.ofTry kk, r, q⟩
    | next =>
      obtain ⟨τ', G', J', q⟩ := hsp
      exact wpAny_execs_nil ⟨τ', G', J'.ofTry kk, q⟩
    | brk =>
      obtain ⟨τ', G', J', q⟩ := hsp
      exact ⟨τ', G', J'.ofTry kk, q⟩
    | cont =>
      obtain ⟨τ', G', J', q⟩ := hsp
      exact ⟨τ', G', J'.ofTry kk, q⟩
end

end

section
open PySem.Spec PyProof.Rows
/-! ### calls of methods and of classes whose errors are wished for at the caller's slots -/
section
variable {X : Cx} {CX : CXT} {k : Nat} {C f : Addr} {fd : FuncData} {ps : List Str} {sp : Sp} {E : L2.St → XK} {x m : Str} {p pos apos : Pos} {o e : Expr} {es : List Expr} {ta : TE} {t : TA}
def tMethS (C : Addr) (m : Str) (sp : Sp) (E : L2.St → XK) (ta : TE) (t : TA) : TE := fun τ G Q => ta τ G fun x G1 => ∃ a dx fs, x = .ref a ∧ G1 a = some (.ins C dx fs) ∧ fs.lookup m = none ∧ t τ G1 fun vs G2 => sp (x :: vs) G2 Q (E τ)
theorem pe_methS {pl : Sem Bool} (ho : PE X o ta) (c : Cls X.K C) (hm : Meth X.K C m f) (F : FnOk X.prog X.w X.K X.mg X.base CX k f fd ps sp) (hr : Room k X.A) (hb : Binds X.K fd ps []) (hx : ∀ τ, PassesAt CX X τ (E τ)) (ha : PA X (e :: es) t)
    (h1 : starEach (e :: es) X.env = (false, eval e X.env) :: starEach es X.env := by rfl) (h2 : (backTo pos (starEach es X.env)).any (·.1) = false := by rfl)
    (h3 : eval (.Call (.Attribute o m apos) (e :: es) [] pos) X.env = (do
      let recv ← eval o X.env
      standAt apos.atName
      let (g, first) ← holding [recv] (getMethod recv m pl)
      callWith pos g first (backTo pos (starEach (e :: es) X.env)) (backToKw pos (keywordEach [] X.env))) := by rfl) :
    PE X (.Call (.Attribute o m apos) (e :: es) [] pos) (tMethS C m sp E ta t) := by
  refine ⟨fun pins s τ G Q I h => PySem.W.methodCall_KW (pl := pl) (thn (ho.run pins s τ G _ I h) fun u s1 hh => ?_) h3⟩
  obtain ⟨y, G1, I1, ry, a, dx, fs, rfl, ea, l, q⟩ := hh
  obtain rfl : u = Value.ref a := ry
  refine getmeth_ok I1 ea c hm l (PySem.W.callWith_K (first := [.ref a]) (h₀ := X.base) I.ok.mod.kin hm.kp (thn (ha.run pos pins s1 τ G1 _ I1 q) fun us s2 hh => ?_) h1 h2)
  obtain ⟨vs, G2, I2, r, q2⟩ := hh
  refine ⟨I2.kIn, run_fnSD (dvs := []) (ds := []) (E := E) (us := .ref a :: us) (vs := .ref a :: vs) F hr hb .nil (hx τ) I2 (.cons rfl r) ?_⟩
  rw [List.append_nil]
  exact q2
def tMakeS (C : Addr) (sp : Sp) (E : L2.St → XK) (t : TA) : TE := fun τ G Q => t τ G fun vs G1 => ∀ x dx, G1 x = none → G1 dx = none → dx ≠ x →
  sp (.ref x :: vs) (upd (upd G1 dx (.own x)) x (.ins C dx [])) (fun v G2 => v = .non ∧ Q (.ref x) G2) (E τ)
theorem pe_makeS (M : Mk X.K C f) (F : FnOk X.prog X.w X.K X.mg X.base CX k f fd ps sp) (hr : Room (k + 1) X.A) (hg : Gl X x) (hm : X.mg x = some (.ref C)) (hb : Binds X.K fd ps []) (hx : ∀ τ, PassesAt CX X τ (E τ)) (ha : PA X (e :: es) t)
    (hdb : (x == ("__debug__" : Str)) = false := by decide) (h1 : starEach (e :: es) X.env = (false, eval e X.env) :: starEach es X.env := by rfl) (h2 : (backTo pos (starEach es X.env)).any (·.1) = false := by rfl) :
    PE X (.Call (.Name x p) (e :: es) [] pos) (tMakeS C sp E t) := by
  refine ⟨fun pins s τ G Q I h => wpAny_Call_Name_kw (ld_glob I hg hm ?_ hdb)⟩
  refine PySem.W.callWith_K (h₀ := X.base) I.ok.mod.kin M.kp (thn (ha.run pos pins s τ G _ I h) fun us s1 hh => ?_) h1 h2
  obtain ⟨vs, G1, I1, r, q⟩ := hh
  refine ⟨I1.kIn, ?_⟩
  show wpAny _ _ (call (.ref C) us) _ _ _
  let n := s1.heap.objs.size
  have hq := q (n + 1) n (I1.hok.fresh (Nat.le_succ _)) (I1.hok.fresh (Nat.le_refl _)) (Nat.ne_of_lt (Nat.lt_succ_self _))
  have I2 := Inv.made (C := C) I1
  have r2 : Vals (V.ref (n + 1) :: vs) (Value.ref (n + 1) :: us) := .cons rfl r
  have hl : (Value.ref (n + 1) :: us).length = ps.length := by
    have z := r2.length
    rw [F.len _ _ _ _ hq] at z
    exact z.symm
  have hbb := hb _ (Value.ref (n + 1) :: us) I2.kIn (by rw [List.append_nil]; exact hl)
  rw [List.append_nil] at hbb
  refine wpAny_call (make_map (f := f) I1.kIn M.makes M.init (beq_iff_eq.mp M.fn) (codeAny_mono (F.run _ X.stack _ _ ⟨Value.ref (n + 1) :: us, []⟩ (Value.ref (n + 1) :: us) _ _ (E τ) (hr.make C us []) (I2.env0.make C us []) hbb r2 hq) fun r s' hq' => ?_))
  cases r with
  | error z => exact hx τ pins _ _ z s' I2 hq'
  | ok fl =>
    cases fl with
    | ret u =>
      obtain ⟨v, G', I3, rv, ev, q3⟩ := I2.after hq'
      subst ev
      exact ⟨rv, V.ref (n + 1), G', I3, rfl, q3⟩
    | next => exact hq'.elim
    | brk => exact hq'.elim
    | cont => exact hq'.elim
end
/-! ### what was said of places stays when a list is written anew -/
theorem Pr.over {H : Hp} {m : Addr} {zs ws : List V} {v : V} {p : Pl} (h : Pr H v p) (hm : H m = some (.lst zs)) : Pr (upd H m (.lst ws)) v p := by
  obtain ⟨t, rfl, h⟩ := h
  exact ⟨t, rfl, by rw [upd_ne (ne_of h hm (by intro z; cases z))]; exact h⟩
theorem Prs.over {H : Hp} {m : Addr} {zs ws vs : List V} {ps : List Pl} (h : Prs H vs ps) (hm : H m = some (.lst zs)) : Prs (upd H m (.lst ws)) vs ps := by
  induction h with
  | nil => exact .nil
  | cons a _ ih => exact .cons (a.over hm) ih
theorem Same.over {H0 H : Hp} {m : Addr} {o : HO} (k : Same H0 H) (n : H0 m = none) : Same H0 (upd H m o) := fun b u e => by
  rw [upd_ne (ne_of_none e n)]
  exact k b u e
/-! ### lists of two lists of places -/
def dLL (a b : List Pl) : PyData := .list [dL a, dL b]
theorem eqv_dLL (a b a' b' : List Pl) : PyData.eqv (dLL a b) (dLL a' b') = decide (a = a' ∧ b = b') := by
  show PyData.eqvAll [dL a, dL b] [dL a', dL b'] = _
  simp only [PyData.eqvAll, eqv_dL, Bool.and_true, Bool.decide_and]
theorem sh_dLL (a b : List Pl) : SeqAt.shaped (dLL a b) = true := by
  have h1 := depth_dPs a
  have h2 := depth_dPs b
  have e : PyData.canLay0 (dLL a b) = (PyData.canLayAll0 (a.map dP) && (PyData.canLayAll0 (b.map dP) && true)) := rfl
  unfold SeqAt.shaped
  rw [e, lay_dPs, lay_dPs]
  refine decide_eq_true ?_
  show max (PyData.depthAll (a.map dP) + 1) (max (PyData.depthAll (b.map dP) + 1) 0) + 1 ≤ 64
  omega
def dPP (a b : Pl) : PyData := .tuple [dP a, dP b]
theorem eqv_dPP (a b a' b' : Pl) : PyData.eqv (dPP a b) (dPP a' b') = decide (a = a' ∧ b = b') := by
  show PyData.eqvAll [dP a, dP b] [dP a', dP b'] = _
  simp only [PyData.eqvAll, eqv_dP, Bool.and_true, Bool.decide_and]
theorem sh_dPP (a b : Pl) : SeqAt.shaped (dPP a b) = true := rfl

end

section
open PySem.Spec PyProof.Rows GenW GxR NdefX
/-! ### all and any over a generator expression whose element may call -/
/-- the generator's own frame -/
abbrev envG (X : Cx) (sc : Scope) (C : Addr) (cd : Value) : Env := genEnv sc (cloFrom X.env.cells sc.names []) C cd builtinsNs X.env
/-- and its surroundings; s0, H0: ahead of its frame; fp: the iterator's objects -/
abbrev cxG (X : Cx) (N : List Str) (sc : Scope) (B : Around) (s0 : Shared) (H0 : Hp) (cd : Value) (fp : List Addr) : Cx :=
  { X with
    A := B
    N := N
    s_0 := s0
    H_0 := H0
    env := envG X sc s0.heap.objs.size cd
    outer := X.stack
    stack := envG X sc s0.heap.objs.size cd :: X.stack
    ex := fp
    fn := fun _ => false
    calm := true
    pn := []
    xe := fun _ _ => False }
/-- what its scope must keep -/
structure GSc (env : Env) (sc : Scope) : Prop where
  kind : sc.kind = .function
  co : sc.isCoroutine = false
  cell : ∀ y ∈ sc.names, y.2 ≠ .cell
  dot : sc.names.lookup (".0" : Str) = some NameKind.local
  free : ∀ y ∈ sc.names, y.2 = .free → ∃ c, env.cells.lookup y.1 = some c
/-- the free names' slots: fr tells for each name its slot outside, none for an own one -/
def slotsG (fr : List (Option Nat)) (σ : L2.St) : L2.St := fr.map fun o => match o with
  | none => none
  | some j => (σ[j]?).join
structure GFr (X : Cx) (sc : Scope) (N : List Str) (fr : List (Option Nat)) : Prop where
  len : fr.length = N.length
  at_ : ∀ (i : Nat) (y : Str) (j : Nat), N[i]? = some y → fr[i]? = some (some j) → sc.names.lookup y = some .free ∧ X.N[j]? = some y ∧ (X.env.scope.names.lookup y = some .cell ∨ X.env.scope.names.lookup y = some .free)
theorem slotsG_some {fr : List (Option Nat)} {σ : L2.St} {i : Nat} {v : V} (h : (slotsG fr σ)[i]? = some (some v)) : ∃ j, fr[i]? = some (some j) ∧ σ[j]? = some (some v) := by
  unfold slotsG at h
  rw [List.getElem?_map] at h
  cases e : fr[i]? with
  | none => rw [e] at h; cases h
  | some o =>
    rw [e] at h
    cases o with
    | none => simp at h
    | some j =>
      refine ⟨j, rfl, ?_⟩
      have h2 : (σ[j]?).join = some v := by simpa using h
      cases q : σ[j]? with
      | none => rw [q] at h2; cases h2
      | some w => rw [q] at h2; cases w with
        | none => cases h2
        | some v' => cases h2; rfl
section
variable {X : Cx} {pins : List (Addr × Obj)} {σ : L2.St} {H : Hp} {s0 s5 : Shared}
/-- all stands that stood -/
theorem Inv.stood (I : Inv X pins σ H s0) (os : s5.os = s0.os) (k : ∀ b o, s0.heap.get? b = some o → s5.heap.get? b = some o) (hb : AllBare s5.gens) : Inv X pins σ H s5 :=
  I.call' (ch := []) os (Un.kept k) (I.hok.kept k) hb fun b z => absurd z (by simp)
theorem start_gen {N : List Str} {sc : Scope} {B : Around} {cd : Value} {fp : List Addr} {a : Addr} {o : Obj} {m : Str → Option Value}
    {fr : List (Option Nat)} (I : Inv X pins σ H s0) (S : GSc X.env sc) (FR : GFr X sc N fr) (hf : ∀ b ∈ fp, FpOk X pins H b ∧ b < s0.heap.objs.size) (hB : B.handled = none)
    (hfr : B.frames = some (envG X sc s0.heap.objs.size cd :: X.stack)) (os : s5.os = s0.os) (hb : AllBare s5.gens)
    (k : ∀ b u, s0.heap.get? b = some u → s5.heap.get? b = some u) (hn : s5.heap.Ns s0.heap.objs.size m)
    (ha : s0.heap.objs.size < a) (hao : s5.heap.get? a = some o) (hod : ∀ v, o.data ≠ .cell v) :
    Inv (cxG X N sc B s0 H cd fp) [(a, o)] (slotsG fr σ) H s5 := by
  have cm : ∀ {y c}, (cloFrom X.env.cells sc.names []).lookup y = some c → X.env.cells.lookup y = some c := fun {y c} e => clo_cm S.free e
  have nofs : ∀ b ∈ frs X.stack, b < s0.heap.objs.size := fun b hb => by
    rcases List.mem_cons.mp (I.stkSub b hb) with z | z
    · rw [z]; exact I.lt
    · obtain ⟨_, u, hu, _⟩ := I.funs.mem z
      exact Heap.lt_size hu
  refine ⟨⟨I.ok.mod, S.kind, I.ok.glob, rfl, Nat.le_refl _, fun y z c e1 e2 => I.ok.inj y z c (cm e1) (cm e2), fun y hy => ?_, fun y c z => ?_, fun _ => hB, hfr, .inr ⟨rfl, rfl⟩,
      fun b hb => ⟨Nat.ne_of_lt (hf b hb).2, fun y c e z => (hf b hb).1.2.2.2.2.1 y c (cm e) z⟩, I.bs, Nat.le_trans I.ok.bsz I.sz, fun b u e hb => ?_, fun b hb z => ?_, I.stack, I.stkFree⟩,
    os, hb, Un.kept k, ⟨m, hn, fun i y v h1 h2 => ?_⟩, fun y c e => ?_, I.hok.fresh (Nat.le_refl _), fun y c e => I.freeC y c (cm e), fun p hp => ?_, I.hok.kept k, ?_⟩
  · have hy : sc.names.lookup y = some .cell ∨ sc.names.lookup y = some .free := hy
    rcases hy with hy | hy
    · exact absurd rfl (S.cell _ (PySem.mem_of_lookup hy))
    · have hm := PySem.mem_of_lookup hy
      obtain ⟨c, hc⟩ := S.free _ hm rfl
      exact ⟨c, clo_has S.free hm hc⟩
  · exact absurd (show (false : Bool) = true from z) (by decide)
  · rcases (hf b hb).1.2.2.2.1 with z | z
    · exact I.ok.noex b u e z
    · exact absurd (Nat.lt_of_lt_of_le (Heap.lt_size e) (Nat.le_trans I.ok.bsz z)) (Nat.lt_irrefl _)
  · rcases List.mem_cons.mp (I.stkSub b z) with z | z
    · exact (hf b hb).1.2.1 z
    · exact (hf b hb).1.2.2.1 z
  · obtain ⟨j, e1, e2⟩ := slotsG_some h2
    obtain ⟨f1, f2, f3⟩ := FR.at_ i y j h1 e1
    obtain ⟨m0, _, hl⟩ := I.loc
    obtain ⟨u, r, lk⟩ := hl j y v f2 e2 (f3.elim (fun z => .inr (.inl z)) fun z => .inr (.inr z))
    refine fun _ => ⟨u, r, .inr ⟨.inr f1, ?_⟩⟩
    rcases lk with ⟨z, _⟩ | ⟨_, c, hc, hv⟩
    · have z : X.env.scope.names.lookup y = some .local := z
      rcases f3 with q | q <;> rw [q] at z <;> cases z
    · exact ⟨c, clo_has S.free (PySem.mem_of_lookup f1) hc, hv.keeps k⟩
  · obtain ⟨v, hv⟩ := I.cell y c (cm e)
    exact ⟨v, hv.keeps k⟩
  · have hp : p ∈ [(a, o)] := hp
    obtain rfl : p = (a, o) := by simpa using hp
    exact ⟨hao, I.hok.fresh (Nat.le_of_lt ha), Nat.ne_of_gt ha, fun z => absurd (Nat.lt_trans ha (nofs _ z)) (Nat.lt_irrefl _), hod⟩
  · show (slotsG fr σ).length = N.length
    unfold slotsG
    rw [List.length_map]
    exact FR.len
end

end

section
open PySem.Spec PyProof.Rows GenW GxR
/-! ### the generator's turns -/
/-- what it hands out; st: the answer at which the asker stops -/
def YG (Y : Cx) (pins : List (Addr × Obj)) (st : Bool) (Q : VK) : Protocol := fun _ _ v s kap =>
  ∃ σ' H' c, v = .bool c ∧ Inv Y pins σ' H' s ∧ (c = st → Q (.bl st) H') ∧
    (c ≠ st → ∀ s2 : Shared, s2.heap = s.heap → s2.os = s.os → AllBare s2.gens → kap (.send .none) s2)
def RG (Y : Cx) (pins : List (Addr × Obj)) (st : Bool) (Q : VK) : GenEnd := fun n s₀ r s₁ =>
  ((r = .ok (.ret .none) ∨ r = .ok .next) ∧ (fun (_ : Nat) (_ t : Shared) => ∃ σ' H', Inv Y pins σ' H' t ∧ Q (.bl (!st)) H') n s₀ s₁) ∨ ∃ e, r = .error e ∧ (fun (_ : Value) (_ : Shared) => False) e s₁
/-- the loop of the promise -/
def Turns (J : It) (g : TG) (te : TE) (st : Bool) (Q : VK) (W : Nat → Nat → L2.St → Hp → Prop) : Prop := ∀ i m σ H, W i m σ H →
  (J.stop i H ∧ Q (.bl (!st)) H) ∨ (J.go i H ∧ ∃ N : L2.St → Hp → Prop, (∀ σ' H', N σ' H' → ∃ m', m' < m ∧ W (i + 1) m' σ' H') ∧
    ∀ x H', J.yld i H x H' → g x σ H' fun σ2 H2 => te σ2 H2 fun y H3 => ∃ c, y = .bl c ∧ if c = st then Q (.bl st) H3 else N σ2 H3)
section
variable {Y : Cx} {A : Around} {tg elt iter : Expr} {sc : Scope} {pos : Pos} {it : Addr} {fp : List Addr} {tn : Nat → Heap → Prop} {J : It} {g : TG} {te : TE} {st : Bool} {Q : VK}
  {W : Nat → Nat → L2.St → Hp → Prop} {pins : List (Addr × Obj)}
theorem seg_turns (hc : Y.calm = true) (hco : Y.env.scope.isCoroutine = false)
    (hA : A.over (.compLoop (.GeneratorExp elt [⟨tg, iter, [], 0⟩] sc pos) 0 (.ref it) .none Y.env) [] = Y.A)
    (T : Turn Y.prog Y.w Y.K tg J fp it tn) (hg : PG Y tg g) (he : PE Y elt te) (hx : ∀ e s, Y.xe e s → False)
    (ff : ∀ b ∈ fp, ∀ H : Hp, H b = none → FpOk Y pins H b) (turn : Turns J g te st Q W) :
    ∀ (m n i : Nat) (σ : L2.St) (H : Hp) (s₀ s : Shared), m < n → Inv Y pins σ H s → tn i s.heap → (∀ b ∈ fp, H b = none) → W i m σ H →
      Seg (model Y.prog Y.w) A (RG Y pins st Q) (YG Y pins st Q) n s₀ (.compLoop (.GeneratorExp elt [⟨tg, iter, [], 0⟩] sc pos) 0 (.ref it) .none Y.env)
        ((model Y.prog Y.w).den (.compLoop (.GeneratorExp elt [⟨tg, iter, [], 0⟩] sc pos) 0 (.ref it) .none Y.env)) [] s := by
  intro m
  induction m using Nat.strongRecOn with
  | _ m ih =>
    intro n i σ H s₀ s hmn I ht hf hw
    have fpo : ∀ {H' : Hp}, (∀ b ∈ fp, H' b = none) → ∀ b ∈ fp, FpOk Y pins H' b := fun q b hb => ff b hb _ (q b hb)
    show Seg _ A _ _ n s₀ _ ((compTurn (.GeneratorExp elt [⟨tg, iter, [], 0⟩] sc pos) 0 (.ref it) .none Y.env).onRaise (leaving Y.env)) [] s
    rw [compTurn_gen, Sem.onRaise_eq_wrap]
    refine seg_bind_wrap (wpAny_standAt ?_)
    rcases turn i m σ H hw with ⟨hstop, q⟩ | ⟨go, N, hN, step⟩
    · refine seg_bind_wrap ?_
      rw [hA]
      refine wpAny_mono (T.done Y rfl rfl rfl hc i pins s σ H (fun _ _ => False) I (fpo hf) ht hstop) (fun r s4 h4 => ?_) fun _ _ e => e.elim
      obtain ⟨rfl, I4⟩ := h4
      exact seg_end (.ok .next) (.inl ⟨.inr rfl, σ, H, I4, q⟩)
    · refine seg_bind_wrap ?_
      rw [hA]
      refine wpAny_mono (T.item Y rfl rfl rfl hc i pins s σ H (fun _ _ => False) I (fpo hf) ht go) (fun r s4 h4 => ?_) fun _ _ e => e.elim
      obtain ⟨u, rfl, h4⟩ := h4
      refine seg_bind_wrap ?_
      rw [hA]
      refine wpAny_mono h4 (fun _ s5 h5 => ?_) fun _ _ e => e.elim
      obtain ⟨x, H5, I5, r5, y5, t5, f5⟩ := h5
      have I5' := I5.pinned (fpo f5) (T.obj _ _ t5)
      refine seg_bind_wrap ?_
      rw [hA]
      refine wpAny_mono (hg.run _ s5 σ H5 x u _ I5' r5 (step x H5 y5)) (fun _ s6 h6 => ?_) fun _ _ e => (hx _ _ e).elim
      obtain ⟨σ6, H6, I6, q6⟩ := h6
      simp only [List.forIn_nil]
      refine seg_bind_wrap (wpAny_pure ?_)
      simp only [if_true]
      have hy : ∀ v, yieldOut Y.env v = yieldValue v := fun v => by simp only [yieldOut, hco, Bool.false_eq_true, if_false]
      simp only [hy]
      rw [Sem.bind_eq_wrap', Sem.bind_eq_wrap', Sem.wrap_wrap, Sem.wrap_wrap]
      refine seg_wrap ?_
      rw [hA]
      refine wpAny_mono (he.run _ s6 σ6 H6 _ I6 q6) (fun y s7 h7 => ?_) fun _ _ e => (hx _ _ e).elim
      obtain ⟨v7, H7, I7, r7, c, rfl, q7⟩ := h7
      obtain rfl : y = .bool c := r7
      have J7 : Inv Y pins σ6 H7 s7 := I7.unpinned
      have t7 : tn (i + 1) s7.heap := T.keep _ _ _ t5 fun b hb o e => (I7.pin (b, o) (List.mem_append_right _ (List.mem_append_right _ (mem_pinsAt hb e)))).1
      have f7 : ∀ b ∈ fp, H7 b = none := fun b hb => by
        obtain ⟨o, e, _⟩ := T.obj _ _ t5 b hb
        exact (I7.pin (b, o) (List.mem_append_right _ (List.mem_append_right _ (mem_pinsAt hb e)))).2.1
      obtain ⟨k, rfl⟩ : ∃ k, n = k + 1 := ⟨n - 1, by omega⟩
      refine seg_at (seg_yield rfl rfl rfl ⟨σ6, H7, c, rfl, J7, fun e => ?_, fun e s2 eh eo eb => ?_⟩)
      · rw [if_pos e] at q7
        exact q7
      · rw [if_neg e] at q7
        obtain ⟨m', hm, w7⟩ := hN σ6 H7 q7
        exact seg_again rfl (ih m' hm k (i + 1) σ6 H7 s2 s2 (by omega) (Inv.stood J7 eo (fun b o z => by rw [eh]; exact z) eb) (by rw [eh]; exact t7) f7 w7)
/-- from its beginning -/
theorem seg_begins (hc : Y.calm = true) (hco : Y.env.scope.isCoroutine = false)
    (hA : A.over (.compLoop (.GeneratorExp elt [⟨tg, iter, [], 0⟩] sc pos) 0 (.ref it) .none Y.env) [] = Y.A)
    (T : Turn Y.prog Y.w Y.K tg J fp it tn) (hg : PG Y tg g) (he : PE Y elt te) (hx : ∀ e s, Y.xe e s → False)
    (ff : ∀ b ∈ fp, ∀ H : Hp, H b = none → FpOk Y pins H b) (turn : Turns J g te st Q W)
    (m n : Nat) (σ : L2.St) (H : Hp) (s₀ s : Shared) (hmn : m < n) (I : Inv Y pins σ H s) (ht : tn 0 s.heap) (hf : ∀ b ∈ fp, H b = none) (hw : W 0 m σ H) :
      Seg (model Y.prog Y.w) A (RG Y pins st Q) (YG Y pins st Q) n s₀ (.compStart (.GeneratorExp elt [⟨tg, iter, [], 0⟩] sc pos) 0 (.ref it) .none Y.env)
        ((model Y.prog Y.w).den (.compStart (.GeneratorExp elt [⟨tg, iter, [], 0⟩] sc pos) 0 (.ref it) .none Y.env)) [] s := by
  have rest := seg_turns hc hco hA T hg he hx ff turn m n 0 σ H s₀ s hmn I ht hf hw
  show Seg _ A _ _ n s₀ _ ((compStart (.GeneratorExp elt [⟨tg, iter, [], 0⟩] sc pos) 0 (.ref it) .none Y.env).onRaise (leaving Y.env)) [] s
  unfold compStart
  rw [Sem.onRaise_eq_wrap]
  show Seg _ A _ _ n s₀ _ ((ask >>= _).wrap _ _ _ _) [] s
  refine seg_bind_wrap (wpAny_askSetting ?_)
  split
  · exact seg_again rfl rest
  · refine seg_bind_wrap (wpAny_rule ?_)
    first
      | exact seg_bind_wrap (wpAny_standAt (seg_bind_wrap (T.self _ 0 s _ _ ht (seg_again rfl rest))))
      | (show Seg _ A _ _ n s₀ _ ((standAt iter.pos >>= _).wrap _ _ _ _) [] s
         exact seg_bind_wrap (wpAny_standAt (seg_bind_wrap (T.self _ 0 s _ _ ht (seg_again rfl rest)))))
end

end

section
open PySem.Spec PyProof.Rows GenW GxR
/-! ### who asks: all, any -/
section
variable {Y : Cx} {A : Around} {st : Bool} {Q : VK} {pins : List (Addr × Obj)} {R : Result → Shared → Prop} {a : Addr} {g : Nat}
theorem all_asks (hh : A.handled = none) (hd : A.depth < recursionLimit) (hp : ∀ σ' H' t, Inv Y pins σ' H' t → t.heap.IsGen a g)
    (hend : ∀ σ' H' b t, Inv Y pins σ' H' t → Q (.bl b) H' → R (.ok (.ret (.bool b))) t) :
    ∀ (n : Nat) (s : Shared), s.heap.IsGen a g → s.heap.NoLimit →
      (∃ gs, s.gens[g]? = some gs ∧ gs.Goes (model Y.prog Y.w) A.in1.in1 (RG Y pins false Q) (YG Y pins false Q) n (.send .none) (s.setGen g .running)) →
      codeAny (model Y.prog Y.w) A (.builtin "all.loop" ⟨[.ref a], []⟩) R s := by
  intro n
  induction n with
  | zero =>
    intro s hg hl ⟨gs, hgs, hgo⟩
    refine codeAny_builtin F.entry_all_loop ?_
    rw [Around.under_plainId F.plain_all_loop _]
    show wpAny _ A.in1 (pyNext (.ref a) >>= _) _ _ s
    refine wpAny_bind (next_genG (A := A.in1) hh hl hd hg hgs hgo (fun v s₁ gs' hbare hv => ?_) (fun s₁ hf h' hk => ?_) fun e s₁ he => he.elim)
    · obtain ⟨σ', H', c, rfl, J, h1, h2⟩ := hv
      refine wpAny_bind (wpAny_holding (wpAny_truthy_bool ?_))
      refine wpAny_bind (wpAny_letGo ?_)
      cases c with
      | true => exact (h2 (by decide) _ rfl rfl J.bare).elim
      | false =>
        simp only [Bool.false_eq_true, if_false]
        refine wpAny_bind (wpAny_rule (wpAny_pure ?_))
        exact hend σ' H' false _ (Inv.stood (s5 := s₁.setGen g gs') J rfl (fun _ _ z => z) (allBare_setGen J.bare hbare)) (h1 rfl)
    · obtain ⟨σ', H', J, q⟩ := hf
      refine wpAny_bind (wpAny_rule (wpAny_pure ?_))
      exact hend σ' H' true _ (Inv.stood (s5 := { s₁.setGen g .finished with heap := h' }) J rfl hk (allBare_setGen J.bare rfl)) q
  | succ n ih =>
    intro s hg hl ⟨gs, hgs, hgo⟩
    have hgl : g < s.gens.size := (Array.getElem?_eq_some_iff.mp hgs).1
    refine codeAny_builtin F.entry_all_loop ?_
    rw [Around.under_plainId F.plain_all_loop _]
    show wpAny _ A.in1 (pyNext (.ref a) >>= _) _ _ s
    refine wpAny_bind (wpAny_gsz (n := g + 1) hgl (next_genG (A := A.in1) hh hl hd hg hgs hgo (fun v s₁ gs' hbare hv => ?_) (fun s₁ hf h' hk => ?_) fun e s₁ he => he.elim))
    · intro hsz
      obtain ⟨σ', H', c, rfl, J, h1, h2⟩ := hv
      have J2 : Inv Y pins σ' H' (s₁.setGen g gs') := Inv.stood J rfl (fun _ _ z => z) (allBare_setGen J.bare hbare)
      have hs1 : g < s₁.gens.size := by
        have q : (s₁.setGen g gs').gens.size = s₁.gens.size := setGen_size _ _ _
        have q2 : g + 1 ≤ (s₁.setGen g gs').gens.size := hsz
        omega
      refine wpAny_bind (wpAny_holding (wpAny_truthy_bool ?_))
      refine wpAny_bind (wpAny_letGo ?_)
      cases c with
      | true =>
        simp only [if_true]
        exact wpAny_pure ⟨plainId_quiet F.plain_all_loop _, ih _ (hp _ _ _ J2) J2.nolimit ⟨gs', setGen_at hs1, h2 (by decide) _ rfl rfl (allBare_setGen J2.bare rfl)⟩⟩
      | false =>
        simp only [Bool.false_eq_true, if_false]
        refine wpAny_bind (wpAny_rule (wpAny_pure ?_))
        exact hend σ' H' false _ J2 (h1 rfl)
    · intro hsz
      obtain ⟨σ', H', J, q⟩ := hf
      refine wpAny_bind (wpAny_rule (wpAny_pure ?_))
      exact hend σ' H' true _ (Inv.stood (s5 := { s₁.setGen g .finished with heap := h' }) J rfl hk (allBare_setGen J.bare rfl)) q
theorem any_asks (hh : A.handled = none) (hd : A.depth < recursionLimit) (hp : ∀ σ' H' t, Inv Y pins σ' H' t → t.heap.IsGen a g)
    (hend : ∀ σ' H' b t, Inv Y pins σ' H' t → Q (.bl b) H' → R (.ok (.ret (.bool b))) t) :
    ∀ (n : Nat) (s : Shared), s.heap.IsGen a g → s.heap.NoLimit →
      (∃ gs, s.gens[g]? = some gs ∧ gs.Goes (model Y.prog Y.w) A.in1.in1 (RG Y pins true Q) (YG Y pins true Q) n (.send .none) (s.setGen g .running)) →
      codeAny (model Y.prog Y.w) A (.builtin "any.loop" ⟨[.ref a], []⟩) R s := by
  intro n
  induction n with
  | zero =>
    intro s hg hl ⟨gs, hgs, hgo⟩
    refine codeAny_builtin F.entry_any_loop ?_
    rw [Around.under_plainId F.plain_any_loop _]
    show wpAny _ A.in1 (pyNext (.ref a) >>= _) _ _ s
    refine wpAny_bind (next_genG (A := A.in1) hh hl hd hg hgs hgo (fun v s₁ gs' hbare hv => ?_) (fun s₁ hf h' hk => ?_) fun e s₁ he => he.elim)
    · obtain ⟨σ', H', c, rfl, J, h1, h2⟩ := hv
      refine wpAny_bind (wpAny_holding (wpAny_truthy_bool ?_))
      refine wpAny_bind (wpAny_letGo ?_)
      cases c with
      | false => exact (h2 (by decide) _ rfl rfl J.bare).elim
      | true =>
        simp only [if_true]
        refine wpAny_bind (wpAny_rule (wpAny_pure ?_))
        exact hend σ' H' true _ (Inv.stood (s5 := s₁.setGen g gs') J rfl (fun _ _ z => z) (allBare_setGen J.bare hbare)) (h1 rfl)
    · obtain ⟨σ', H', J, q⟩ := hf
      refine wpAny_bind (wpAny_rule (wpAny_pure ?_))
      exact hend σ' H' false _ (Inv.stood (s5 := { s₁.setGen g .finished with heap := h' }) J rfl hk (allBare_setGen J.bare rfl)) q
  | succ n ih =>
    intro s hg hl ⟨gs, hgs, hgo⟩
    have hgl : g < s.gens.size := (Array.getElem?_eq_some_iff.mp hgs).1
    refine codeAny_builtin F.entry_any_loop ?_
    rw [Around.under_plainId F.plain_any_loop _]
    show wpAny _ A.in1 (pyNext (.ref a) >>= _) _ _ s
    refine wpAny_bind (wpAny_gsz (n := g + 1) hgl (next_genG (A := A.in1) hh hl hd hg hgs hgo (fun v s₁ gs' hbare hv => ?_) (fun s₁ hf h' hk => ?_) fun e s₁ he => he.elim))
    · intro hsz
      obtain ⟨σ', H', c, rfl, J, h1, h2⟩ := hv
      have J2 : Inv Y pins σ' H' (s₁.setGen g gs') := Inv.stood J rfl (fun _ _ z => z) (allBare_setGen J.bare hbare)
      have hs1 : g < s₁.gens.size := by
        have q : (s₁.setGen g gs').gens.size = s₁.gens.size := setGen_size _ _ _
        have q2 : g + 1 ≤ (s₁.setGen g gs').gens.size := hsz
        omega
      refine wpAny_bind (wpAny_holding (wpAny_truthy_bool ?_))
      refine wpAny_bind (wpAny_letGo ?_)
      cases c with
      | false =>
        simp only [Bool.false_eq_true, if_false]
        exact wpAny_pure ⟨plainId_quiet F.plain_any_loop _, ih _ (hp _ _ _ J2) J2.nolimit ⟨gs', setGen_at hs1, h2 (by decide) _ rfl rfl (allBare_setGen J2.bare rfl)⟩⟩
      | true =>
        simp only [if_true]
        refine wpAny_bind (wpAny_rule (wpAny_pure ?_))
        exact hend σ' H' true _ J2 (h1 rfl)
    · intro hsz
      obtain ⟨σ', H', J, q⟩ := hf
      refine wpAny_bind (wpAny_rule (wpAny_pure ?_))
      exact hend σ' H' false _ (Inv.stood (s5 := { s₁.setGen g .finished with heap := h' }) J rfl hk (allBare_setGen J.bare rfl)) q
end

end

section
open PySem.Spec PyProof.Rows GenW GxR NdefX
/-! ### the expression -/
/-- where the generator's code runs, asked from A -/
abbrev arG (A : Around) (tg elt iter : Expr) (sc : Scope) (pos : Pos) (it : Addr) (env : Env) : Around :=
  A.in1.in1.over (.compLoop (.GeneratorExp elt [⟨tg, iter, [], 0⟩] sc pos) 0 (.ref it) .none env) []
theorem arG_hd {A : Around} {tg elt iter : Expr} {sc : Scope} {pos : Pos} {it : Addr} {env : Env} (h : A.handled = none) : (arG A tg elt iter sc pos it env).handled = none := h
theorem arG_frames {A : Around} {tg elt iter : Expr} {sc : Scope} {pos : Pos} {it : Addr} {env : Env} {l : List Env} (h : A.frames = some l) : (arG A tg elt iter sc pos it env).frames = some (env :: l) := by
  obtain ⟨hd, d, f, gs, u⟩ := A
  obtain rfl : f = some l := h
  rfl
theorem arG_room {k : Nat} {A : Around} {tg elt iter : Expr} {sc : Scope} {pos : Pos} {it : Addr} {env : Env} (r : Room (k + 1) A) : Room k (arG A tg elt iter sc pos it env) :=
  ⟨r.hd, by have := r.dp; show A.depth + 0 + 1 + 3 * k + 5 < _; omega, by have := r.un; show A.units + 1 + 1 + 0 + 3 + 16 * k + 200 < _; omega⟩
/-- a generator stands at a and has handed out nothing -/
def GReady (X : Cx) (pins : List (Addr × Obj)) (σ : L2.St) (N : List Str) (sc : Scope) (st : Bool) (Q : VK) (a : Addr) (s5 : Shared) : Prop :=
  ∃ (g : Nat) (B : Around) (s0 : Shared) (H0 : Hp) (cd : Value) (fp : List Addr) (ps : List (Addr × Obj)) (n : Nat),
    s5.heap.IsGen a g ∧ s5.heap.NoLimit ∧ (∀ σ' H' t, Inv (cxG X N sc B s0 H0 cd fp) ps σ' H' t → t.heap.IsGen a g) ∧
    (∀ σ' H' t, Inv (cxG X N sc B s0 H0 cd fp) ps σ' H' t → Inv X pins σ H' t) ∧
    ∃ gs, s5.gens[g]? = some gs ∧ gs.Goes (model X.prog X.w) X.A.in1.in1 (RG (cxG X N sc B s0 H0 cd fp) ps st Q) (YG (cxG X N sc B s0 H0 cd fp) ps st Q) n (.send .none) (s5.setGen g .running)
/-- the answer: the element's readings, one after another -/
def tAns (st : Bool) (te : TE) : TS := fun D σ H => te σ H fun y H3 => ∃ c, y = .bl c ∧ if c = st then D.rt (.bl st) H3 else D.nx σ H3
def tGen (P : Addr) (fr : List (Option Nat)) (wi : TI) (g : TG) (te : TE) (st : Bool) : TE := fun σ H Q => wi σ H fun J H1 => TabG H1 P ∧ ∀ H2, Tabbed P H1 H2 →
  ∃ W : Nat → Nat → L2.St → Hp → Prop, (∃ m, W 0 m (slotsG fr σ) H2) ∧ ∀ i m σ H, W i m σ H →
    (J.stop i H ∧ (Ends.mk (fun _ H' => Q (.bl (!st)) H') Q (fun _ _ => False) (fun _ _ => False)).nx σ H) ∨ (J.go i H ∧ ∃ N : L2.St → Hp → Prop, (∀ σ' H', N σ' H' → ∃ m', m' < m ∧ W (i + 1) m' σ' H') ∧
      ∀ x H', J.yld i H x H' → g x σ H' fun σ2 H2 => tAns st te { (Ends.mk (fun _ H' => Q (.bl (!st)) H') Q (fun _ _ => False) (fun _ _ => False)) with nx := N, ct := N, bk := fun _ H' => Q (.bl (!st)) H' } σ2 H2)
section
variable {X : Cx} {pins : List (Addr × Obj)} {σ : L2.St} {H : Hp} {s : Shared}
theorem make_gen {c P : Addr} {tg elt iter : Expr} {gpos : Pos} {sc : Scope} {N : List Str} {fr : List (Option Nat)} {wi : TI} {g : TG} {te : TE} {k : Nat} {st : Bool} {Q : VK} {Q' : Value → Shared → Prop}
    (hr : Room (k + 1) X.A) (TB : TabB X.base X.mg c P) (hcode : X.env.code = .ref c) (S : GSc X.env sc) (FR : GFr X sc N fr) (hi : PI X tg iter wi)
    (hb : ∀ (B : Around) (s0 : Shared) (H0 : Hp) (cd : Value) (fp : List Addr), Room k B → PG (cxG X N sc B s0 H0 cd fp) tg g ∧ PE (cxG X N sc B s0 H0 cd fp) elt te)
    (hs : ∀ v, genFold iter X.env v = pure v) (I : Inv X pins σ H s) (h : tGen P fr wi g te st σ H Q)
    (hQ : ∀ a s5, GReady X pins σ N sc st Q a s5 → Q' (.ref a) s5) :
    wpAny (model X.prog X.w) X.A (eval (.GeneratorExp elt [⟨tg, iter, [], 0⟩] sc gpos) X.env) Q' X.xe s := by
  refine wpAny_GeneratorExp_make S.co (closure_ok S.free) S.cell S.dot S.kind (by have := hr.dp; omega) ?_ hs
  refine thn (hi.run pins s σ H _ I h) fun xv s1 h1 => thn h1 fun itv s2 h2 => ?_
  obtain ⟨it, fp, tn, J, H2, rfl, I2, T, t2, f2, ⟨ps, hP, htr⟩, hW⟩ := h2
  have hPs : s2.heap.get? P = some { cls := .none, data := .fields ps } := I2.hok P _ hP
  have cd : PySem.W.CodeHd s2.heap c P := TB.code.keeps fun b u e => I2.bk b u e
  refine ⟨I2.nolimit, ?_⟩
  have cont : ∀ (code : Value) (h3 : Heap) (tk : Nat) (ps' : Array Value), Heap.ExtBut P s2.heap h3 → s2.heap.objs.size ≤ h3.objs.size → h3.get? P = some { cls := .none, data := .fields ps' } → (∃ more, ps' = ps ++ more) → TriplesOk ps'.toList →
      wpAny (model X.prog X.w) X.A (builtinsFor X.env.globals X.env.builtins) (fun bi s₄ => ∀ h', h'.Ns s₄.heap.objs.size (fun y => if y = ".0" then some (Value.ref it) else none) →
        Heap.SameBut s₄.heap.objs.size (s₄.heap.push { cls := .type "frame", data := .dict #[] }) h' →
          Q' (.ref h'.objs.size) { s₄ with
            gens := s₄.gens.push (.fresh (.compStart (.GeneratorExp elt [⟨tg, iter, [], 0⟩] sc gpos) 0 (.ref it) .none (genEnv sc (cloFrom X.env.cells sc.names []) s₄.heap.objs.size code bi X.env))),
            toks := s₄.toks + 1 + 1 + 1,
            heap := h'.push { cls := .type "generator", data := .fields #[.int s₄.gens.size 0, .str "<genexpr>" (s₄.toks + 1), .str (X.env.qual ++ "<genexpr>") (s₄.toks + 1 + 1)] } }) X.xe { s2 with heap := h3, toks := tk } := by
    intro code h3 tk ps' hx3 hsz hP3 hmore ht3
    obtain ⟨more, rfl⟩ := hmore
    obtain ⟨bm, ob, e1, e2, e3, e4, e5, e6, e7, e8⟩ := TB.bm
    have keep3 : ∀ b u, b ≠ P → s2.heap.get? b = some u → h3.get? b = some u := fun b u z e => hx3 b u z e
    have I3 : Inv X pins σ (upd H2 P (.tbl (ps ++ more))) { s2 with heap := h3, toks := tk } := inv_tab (g' := s2.gens) (d' := s2.drawn) I2 hP keep3 hP3 I2.bare
    have TT : Tabbed P H2 (upd H2 P (.tbl (ps ++ more))) := ⟨⟨ps ++ more, upd_same, ht3⟩, fun b z => upd_ne z⟩
    refine wpAny_builtinsFor (m := X.mg) (by rw [I3.ok.glob]; exact I3.mod.glob.keeps I3.bk) e1 e2 (I3.bk _ _ e5) e6 e7 e8 ?_
    intro h' hn' hs'
    -- the new frame at C, the generator behind it
    have sz' : h'.objs.size = h3.objs.size + 1 := by rw [hs'.1, Heap.size_push]
    have keep' : ∀ b u, h3.get? b = some u → h'.get? b = some u := fun b u e => hs'.extBut b u (Nat.ne_of_lt (Heap.lt_size e)) (Heap.get?_push_of_some _ e)
    obtain ⟨W, ⟨m0, w0⟩, turn⟩ := hW _ TT
    have neP : ∀ b ∈ fp, b ≠ P := fun b hb z => by
      have q := (f2 b hb).1
      rw [z, hP] at q
      cases q
    have ltC : ∀ b ∈ fp, b < h3.objs.size := fun b hb => by
      obtain ⟨u, hu, _⟩ := T.obj _ _ t2 b hb
      exact Nat.lt_of_lt_of_le (Heap.lt_size hu) hsz
    have f3 : ∀ b ∈ fp, FpOk X pins (upd H2 P (.tbl (ps ++ more))) b := fun b hb => ⟨by rw [upd_ne (neP b hb)]; exact (f2 b hb).1, (f2 b hb).2⟩
    have aC : h3.objs.size < h'.objs.size := by rw [sz']; exact Nat.lt_succ_self _
    generalize hgo : ({ cls := .type "generator", data := .fields #[.int s2.gens.size 0, .str "<genexpr>" (tk + 1), .str (X.env.qual ++ "<genexpr>") (tk + 1 + 1)] } : Obj) = genO
    have isg : ∀ {h : Heap}, h.get? h'.objs.size = some genO → h.IsGen h'.objs.size s2.gens.size := fun {h} e => by
      subst hgo
      exact ⟨_, _, _, e, rfl, rfl, rfl⟩
    have atA : (h'.push genO).get? h'.objs.size = some genO := Heap.get?_push_size _ (by subst hgo; rfl)
    have keep5 : ∀ b u, h3.get? b = some u → (h'.push genO).get? b = some u := fun b u e => Heap.get?_push_of_some _ (keep' b u e)
    let B : Around := arG X.A tg elt iter sc gpos it (envG X sc h3.objs.size code)
    have rB : Room k B := arG_room hr
    have nofs : ∀ b ∈ fp, b ∉ frs X.stack := fun b hb z => by
      rcases List.mem_cons.mp (I3.stkSub b z) with q | q
      · exact (f2 b hb).2.1 q
      · exact (f2 b hb).2.2.1 q
    refine hQ _ _ ⟨s2.gens.size, B, { s2 with heap := h3, toks := tk }, upd H2 P (.tbl (ps ++ more)), code, fp, [(h'.objs.size, genO)], m0 + 1, isg atA, I3.nolimit.keeps keep5,
      fun σ' H' t J => isg (J.pin (h'.objs.size, genO) (by simp)).1, fun σ' H' t J => ?_, _, Array.getElem?_push_size .., rfl, ?_⟩
    · exact I3.call' (ch := fp) J.os J.base J.hok J.bare fun b hb => ⟨(f2 b hb).2.2.2.1, (f2 b hb).2.1, (f2 b hb).2.2.2.2.1, (f2 b hb).2.2.2.2.2⟩
    · have I5 := start_gen (N := N) (B := B) (cd := code) (fp := fp) (a := h'.objs.size) (o := genO) I3 S FR (fun b hb => ⟨f3 b hb, ltC b hb⟩) rB.hd (arG_frames I3.ok.frames)
        (s5 := { s2 with gens := s2.gens.push (.fresh (.compStart (.GeneratorExp elt [⟨tg, iter, [], 0⟩] sc gpos) 0 (.ref it) .none (envG X sc h3.objs.size code))), toks := tk + 1 + 1 + 1, heap := h'.push genO })
        rfl (I3.bare.push rfl) keep5 (hn'.push _) aC atA (by subst hgo; intro v z; cases z)
      have I6 := Inv.stood (s5 := Shared.setGen { s2 with gens := s2.gens.push (.fresh (.compStart (.GeneratorExp elt [⟨tg, iter, [], 0⟩] sc gpos) 0 (.ref it) .none (envG X sc h3.objs.size code))), toks := tk + 1 + 1 + 1, heap := h'.push genO } s2.gens.size .running) I5 rfl (fun _ _ e => e) (allBare_setGen I5.bare rfl)
      have hb' := hb B { s2 with heap := h3, toks := tk } (upd H2 P (.tbl (ps ++ more))) code fp rB
      refine seg_begins (Y := cxG X N sc B { s2 with heap := h3, toks := tk } (upd H2 P (.tbl (ps ++ more))) code fp) (A := X.A.in1.in1) (tn := tn) (J := J) rfl S.co rfl T hb'.1 hb'.2 (fun _ _ e => e)
        (fun b hb H' hn => ⟨hn, Nat.ne_of_lt (ltC b hb), nofs b hb, .inl hb, fun y e he => (f2 b hb).2.2.2.2.1 y e (clo_cm S.free he), fun p hp => ?_⟩) turn m0 (m0 + 1) _ _ _ _ (Nat.lt_succ_self _) I6
        (T.keep 0 _ _ t2 fun b hb o e => keep5 b o (keep3 b o (neP b hb) e)) (fun b hb => (f3 b hb).1) w0
      have hp : p ∈ [(h'.objs.size, genO)] := hp
      obtain rfl : p = (h'.objs.size, genO) := by simpa using hp
      exact Nat.ne_of_gt (Nat.lt_trans (ltC b hb) aC)
  cases hf : codeAmong gpos ps.toList with
  | none =>
    refine wpAny_genexprCodeX hcode (cd.code hPs htr) (cd.tab hPs) hf fun c' h' tk hx hge hlt hco' _ htab' _ => ?_
    obtain ⟨o1, vs, f1, tf, fl, tg', inF, tx, tt, op, _, _, _, _, _, _, _, _, _, htr', _⟩ := hco'
    exact cont _ h' tk _ hx (Nat.le_trans hge (Nat.le_of_lt hlt)) htab'.2 ⟨_, rfl⟩ htr'
  | some cv =>
    refine wpAny_genexprCode_hit hcode (cd.code hPs htr) hf ?_
    exact cont cv s2.heap s2.toks ps (Heap.ExtBut.refl _ _) (Nat.le_refl _) hPs ⟨#[], by simp⟩ htr
theorem pe_allG {c P : Addr} {tg elt iter : Expr} {p pos gpos : Pos} {sc : Scope} {N : List Str} {fr : List (Option Nat)} {wi : TI} {g : TG} {te : TE} {k : Nat}
    (hr : Room (k + 1) X.A) (hg : Gl X "all") (hm : X.mg "all" = none) (hbt : bootBuiltins "all" = some (.builtin "all")) (TB : TabB X.base X.mg c P) (hcode : X.env.code = .ref c) (S : GSc X.env sc) (FR : GFr X sc N fr) (hi : PI X tg iter wi)
    (hb : ∀ (B : Around) (s0 : Shared) (H0 : Hp) (cd : Value) (fp : List Addr), Room k B → PG (cxG X N sc B s0 H0 cd fp) tg g ∧ PE (cxG X N sc B s0 H0 cd fp) elt te)
    (hs : ∀ v, genFold iter X.env v = pure v)
    (he : starEach [.GeneratorExp elt [⟨tg, iter, [], 0⟩] sc gpos] X.env = (false, eval (.GeneratorExp elt [⟨tg, iter, [], 0⟩] sc gpos) X.env) :: starEach [] X.env := by rfl) :
    PE X (.Call (.Name "all" p) [.GeneratorExp elt [⟨tg, iter, [], 0⟩] sc gpos] [] pos) (tGen P fr wi g te false) := by
  refine ⟨fun pins s σ H Q I h => ?_⟩
  refine wpAny_Call_Name_kw (ld_blt I hg hm hbt ?_)
  refine PyProof.Rows.callWith_builtin1 ?_ he (by rfl)
  rw [he]
  show wpAny _ X.A (spliced ((false, eval (.GeneratorExp elt [⟨tg, iter, [], 0⟩] sc gpos) X.env) :: backTo pos (starEach [] X.env))) _ _ s
  refine Calls.spliced_cons (make_gen hr TB hcode S FR hi hb hs I h fun a s5 hG => ?_)
  refine Calls.spliced_nil ?_
  obtain ⟨n, B, s0, H0, cd, fp, ps, m, q1, q2, q3, q4, q5⟩ := hG
  refine call_function_tree F.kind_all F.plain_all F.entry_all (F.args_all1 _) ?_
  unfold Builtin.«all»
  refine wpAny_bind (m := oneArg "all" _) (wpAny_pure ?_)
  refine wpAny_bind (wpAny_pyIter_gen q1 ?_)
  refine wpAny_pure ⟨plainId_quiet F.plain_all_loop _, ?_⟩
  exact all_asks (Y := cxG X N sc B s0 H0 cd fp) hr.hd (by have := hr.dp; omega) q3 (fun σ' H' b t J q => ⟨.bl b, H', q4 σ' H' t J, rfl, q⟩) m s5 q1 q2 q5
theorem pe_anyG {c P : Addr} {tg elt iter : Expr} {p pos gpos : Pos} {sc : Scope} {N : List Str} {fr : List (Option Nat)} {wi : TI} {g : TG} {te : TE} {k : Nat}
    (hr : Room (k + 1) X.A) (hg : Gl X "any") (hm : X.mg "any" = none) (hbt : bootBuiltins "any" = some (.builtin "any")) (TB : TabB X.base X.mg c P) (hcode : X.env.code = .ref c) (S : GSc X.env sc) (FR : GFr X sc N fr) (hi : PI X tg iter wi)
    (hb : ∀ (B : Around) (s0 : Shared) (H0 : Hp) (cd : Value) (fp : List Addr), Room k B → PG (cxG X N sc B s0 H0 cd fp) tg g ∧ PE (cxG X N sc B s0 H0 cd fp) elt te)
    (hs : ∀ v, genFold iter X.env v = pure v)
    (he : starEach [.GeneratorExp elt [⟨tg, iter, [], 0⟩] sc gpos] X.env = (false, eval (.GeneratorExp elt [⟨tg, iter, [], 0⟩] sc gpos) X.env) :: starEach [] X.env := by rfl) :
    PE X (.Call (.Name "any" p) [.GeneratorExp elt [⟨tg, iter, [], 0⟩] sc gpos] [] pos) (tGen P fr wi g te true) := by
  refine ⟨fun pins s σ H Q I h => ?_⟩
  refine wpAny_Call_Name_kw (ld_blt I hg hm hbt ?_)
  refine PyProof.Rows.callWith_builtin1 ?_ he (by rfl)
  rw [he]
  show wpAny _ X.A (spliced ((false, eval (.GeneratorExp elt [⟨tg, iter, [], 0⟩] sc gpos) X.env) :: backTo pos (starEach [] X.env))) _ _ s
  refine Calls.spliced_cons (make_gen hr TB hcode S FR hi hb hs I h fun a s5 hG => ?_)
  refine Calls.spliced_nil ?_
  obtain ⟨n, B, s0, H0, cd, fp, ps, m, q1, q2, q3, q4, q5⟩ := hG
  refine call_function_tree F.kind_any F.plain_any F.entry_any (F.args_any1 _) ?_
  unfold Builtin.«any»
  refine wpAny_bind (m := oneArg "any" _) (wpAny_pure ?_)
  refine wpAny_bind (wpAny_pyIter_gen q1 ?_)
  refine wpAny_pure ⟨plainId_quiet F.plain_any_loop _, ?_⟩
  exact any_asks (Y := cxG X N sc B s0 H0 cd fp) hr.hd (by have := hr.dp; omega) q3 (fun σ' H' b t J q => ⟨.bl b, H', q4 σ' H' t J, rfl, q⟩) m s5 q1 q2 q5
end

end

section
open PySem.Spec PyProof.Rows
/-! ### a dict comprehension whose keys are tuples -/
section
variable {X : Cx} {pins : List (Addr × Obj)} {σ : L2.St} {H : Hp} {s : Shared}
/-- an entry is laid under a tuple -/
theorem lay_entry {A : Around} {E : Value → Shared → Prop} {D b : Addr} {kvs : List (List Key × V)} {k : List Key} {v : V} {r : Value} {Q : Unit → Shared → Prop}
    (hu : A.units < cLine) (I : Inv X pins σ H s) (hD : H D = some (.dT kvs)) (hb : H b = some (.tup (k.map kV))) (hl : kvs.length < sizeLine) (rv : RelV v r)
    (h : ∀ s', Inv X pins σ (upd H D (.dT (putK kvs k v))) s' → Q () s') : wpAny (model X.prog X.w) A (dictSet D (.ref b) r) Q E s := by
  obtain ⟨le, nd, xs, rel, dd⟩ := dt_of I.hok hD
  have small : xs.length ≤ sizeLine := by rw [← Paired.length rel]; exact le
  have small2 : (putK kvs k v).length ≤ sizeLine := by
    have q := length_putK kvs k v
    omega
  refine wpAny_dictSet_heap (hsz := small) (show (tupleKind (mixKind X.prog X.w)).room A from hu) (key_of I.hok hb) dd fun h2 dd2 same => h _ ?_
  obtain ⟨o, es, ep, ho, p2, p3, p4, _, p5⟩ := dd2
  refine d_write I (by rw [hD]; exact True.intro) same ⟨o, ho⟩ ⟨small2, nd, _, (rel.put k hb rv).keeps fun c ys ec => ?_, o, es, ep, ho, p2, p3, p4, p5⟩
  have cD : c ≠ D := ne_of ec hD fun z => nomatch z
  rw [upd_ne cD]
  exact ec
/-- D: the new dict -/
def tDcT (wi : TI) (g : TG) (tk tv : TE) (vs : List Nat) : TE := fun σ H Q => wi σ H fun J H1 => ∀ D, H1 D = none → ∃ W : Nat → Nat → Hp → Prop, (∃ m, W 0 m (upd H1 D (.dT []))) ∧ ∀ i m H, W i m H →
  (J.stop i H ∧ Q (.ref D) H) ∨ (J.go i H ∧ ∃ Nx : Hp → Prop, (∀ H', Nx H' → ∃ m', m' < m ∧ W (i + 1) m' H') ∧
    ∀ x H', J.yld i H x H' → g x (wipe σ vs) H' fun σ2 H2 => wipe σ2 vs = wipe σ vs ∧ tk σ2 H2 fun y H4 => tv σ2 H4 fun z H5 =>
      ∃ b kvs k, y = .ref b ∧ H5 b = some (.tup (k.map kV)) ∧ H5 D = some (.dT kvs) ∧ kvs.length < sizeLine ∧ Nx (upd H5 D (.dT (putK kvs k z))))
theorem pe_dcT {kx vx tg iter : Expr} {scope : Scope} {own : List (Str × Nat)} {pos : Pos} {wi : TI} {g : TG} {tk tv : TE} (hc : X.calm = true) (hu : X.A.units < cLine) (hN : X.N.Nodup) (hi : PI X tg iter wi) (ok : BlkOk X.N X.env.scope scope own)
    (hb : ∀ (s : Shared) (H : Hp) (C : Addr) (cl : List (Str × Addr)) (fp : List Addr), PG (X.blk s H scope (compEnvC scope cl C X.env) fp) tg g ∧ PE (X.blk s H scope (compEnvC scope cl C X.env) fp) kx tk ∧ PE (X.blk s H scope (compEnvC scope cl C X.env) fp) vx tv)
    (hs : ∀ x, foldedSetIterable iter X.env x = pure x := by intro _; rfl) :
    PE X (.DictComp kx vx [⟨tg, iter, [], 0⟩] scope pos) (tDcT wi g tk tv (own.map (·.2))) := by
  refine ⟨fun pins s σ H Q I h => ?_⟩
  rw [arm_eval_DictComp]
  have caught : ∀ y ∈ scope.names, y.2 = .free → ∃ c, X.env.cells.lookup y.1 = some c := fun y hy e => by
    have q := ok.free y hy e
    exact I.ok.has _ (q.elim .inl .inr)
  refine wpAny_comprehension_free (use := none) rfl hs (closure_ok caught) ok.kind (fun y hy e => by rw [ok.uniq y hy, e]) ?_
  refine thn (hi.run pins s σ H _ I h) fun xv s1 h1 => thn h1 fun itv s2 h2 => ?_
  obtain ⟨it, fp, tn, J, H2, rfl, I2, T, t2, f2, rest⟩ := h2
  refine wpAny_newObj_type (newEnv_comp ?_)
  generalize eD : s2.heap.objs.size = D
  have nD : H2 D = none := I2.hok.fresh (Nat.le_of_eq eD)
  obtain ⟨W, ⟨m0, w0⟩, turn⟩ := rest D nD
  generalize e3 : ({ s2 with heap := s2.heap.push { cls := .type "dict", data := .dict #[] } } : Shared) = s3
  have heap3 : s3.heap = s2.heap.push { cls := .type "dict", data := .dict #[] } := by rw [← e3]
  have I3 : Inv X pins σ (upd H2 D (.dT [])) s3 := by
    rw [← e3]
    refine I2.laid (t' := s2.toks) (fun b o e => Heap.get?_push_of_some _ e) (Nat.le_of_eq eD) ?_
    rw [← eD]
    exact dt_empty s2.heap I2.big
  have old : ∀ b ∈ fp, b < s2.heap.objs.size := fun b hb => by
    obtain ⟨o, e, _⟩ := T.obj _ _ t2 b hb
    exact Heap.lt_size e
  have f3 : ∀ b ∈ fp, FpOk X pins (upd H2 D (.dT [])) b ∧ b < s3.heap.objs.size := fun b hb => by
    have lt := old b hb
    refine ⟨⟨?_, (f2 b hb).2⟩, by rw [heap3, Heap.size_push]; exact Nat.lt_succ_of_lt lt⟩
    rw [upd_ne (by rw [← eD]; exact Nat.ne_of_lt lt)]
    exact (f2 b hb).1
  have t3 : tn 0 s3.heap := T.keep _ _ _ t2 fun b _ o e => by rw [heap3]; exact Heap.get?_push_of_some _ e
  have I4 := block_start I3 ok hN f3
  obtain ⟨pg, pk, pv⟩ := hb s3 (upd H2 D (.dT [])) s3.heap.objs.size (cellsFrom (s3.heap.objs.size + 1) scope.names (cloFrom X.env.cells scope.names [])) fp
  show codeAny _ _ (.compStart (.DictComp kx vx [⟨tg, iter, [], 0⟩] scope pos) 0 (.ref it) (.ref D) (compEnvC scope (cellsFrom (s3.heap.objs.size + 1) scope.names (cloFrom X.env.cells scope.names [])) s3.heap.objs.size X.env))
    (compPost (model X.prog X.w) X.A X.xe none _ (.ref D) s3.heap.objs.size) { s3 with heap := pushCells (s3.heap.push { cls := .type "dict", data := .dict #[] }) scope.names }
  have none3 : ∀ b ∈ fp, (upd H2 D (.dT [])) b = none := fun b hb => (f3 b hb).1.1
  generalize ece : compEnvC scope (cellsFrom (s3.heap.objs.size + 1) scope.names (cloFrom X.env.cells scope.names [])) s3.heap.objs.size X.env = ce at I4 pg pk pv ⊢
  have ceL : ce.locals = s3.heap.objs.size := by subst ece; rfl
  generalize eH3 : upd H2 D (.dT []) = H3 at I3 I4 pg pk pv w0 none3 f3
  generalize e4 : ({ s3 with heap := pushCells (s3.heap.push { cls := .type "dict", data := .dict #[] }) scope.names } : Shared) = s4 at I4 ⊢
  have t4 : tn 0 s4.heap := T.keep _ _ _ t3 fun b _ o e => by rw [← e4]; exact pushCells_keeps _ _ _ _ (Heap.get?_push_of_some _ e)
  have fpo : ∀ {σ' : L2.St} {H' : Hp} {s' : Shared}, Inv (X.blk s3 H3 scope ce fp) [] σ' H' s' → (∀ b ∈ fp, H' b = none) → ∀ b ∈ fp, FpOk (X.blk s3 H3 scope ce fp) [] H' b := fun {σ' H' s'} I' hn b hb =>
    ⟨hn b hb, (I'.ok.exf b hb).1, I'.ok.exfs b hb, .inl hb, fun x c e => (I'.ok.exf b hb).2 x c e, fun p hp => absurd (show p ∈ ([] : List (Addr × Obj)) ++ [] from hp) (by simp)⟩
  have loop : codeAny (model X.prog X.w) X.A (.compLoop (.DictComp kx vx [⟨tg, iter, [], 0⟩] scope pos) 0 (.ref it) (.ref D) ce) (compPost (model X.prog X.w) X.A X.xe none (EP X pins σ Q) (.ref D) s3.heap.objs.size) s4 := by
    refine compLoop_anyD (fun n s' => ∃ i H', Inv (X.blk s3 H3 scope ce fp) [] (wipe σ (own.map (·.2))) H' s' ∧ tn i s'.heap ∧ (∀ b ∈ fp, H' b = none) ∧ W i n H') ?_ m0 ⟨0, H3, I4, t4, none3, w0⟩
    rintro n s5 ⟨i, H5, I5, t5, n5, w5⟩
    rcases turn i n H5 w5 with ⟨hstop, qq⟩ | ⟨go, Nx, hNx, step⟩
    · refine thnF (T.done (X.blk s3 H3 scope ce fp) rfl rfl rfl hc i [] s5 _ H5 (fun _ _ => False) I5 (fpo I5 n5) t5 hstop) fun r s6 h6 => ?_
      obtain ⟨rfl, I6⟩ := h6
      have I7 : Inv X pins σ H5 s6 := I3.call' (ch := fp) I6.os I6.base I6.hok I6.bare fun b hb =>
        have z := (f3 b hb).1.2
        ⟨z.2.2.1, z.1, z.2.2.2.1, z.2.2.2.2⟩
      have nC : H5 s3.heap.objs.size = none := by
        have z : H5 ce.locals = none := I6.free
        rwa [ceL] at z
      obtain ⟨m, hn, _⟩ := I6.loc
      have hn : s6.heap.Ns ce.locals m := hn
      rw [ceL] at hn
      obtain ⟨_, g1, _, g3, g4, g5⟩ := I3.fpOk (Nat.le_refl _) nC
      exact ⟨m, hn, fun h2 sb => ⟨.ref D, H5, I7.turned (t' := s6.toks) (fun b o ne e => (sb.2 b ne).trans e) nC g1 g3 g4 g5, rfl, qq⟩⟩
    · refine thnF (T.item (X.blk s3 H3 scope ce fp) rfl rfl rfl hc i [] s5 _ H5 (fun _ _ => False) I5 (fpo I5 n5) t5 go) fun r s6 h6 => ?_
      obtain ⟨u, rfl, h6⟩ := h6
      refine thnF h6 fun _ s7 ⟨x, H7, I7, r7, y7, t7, n7⟩ => ?_
      have J7 := I7.pinned (fpo I7 n7) (T.obj _ _ t7)
      refine thnF (pg.run _ s7 _ H7 x u _ J7 r7 (step x H7 y7)) fun _ s8 ⟨σ8, H8, I8, ew, q8⟩ => ?_
      simp only [List.forIn_nil]
      refine wpAny_pure ?_
      simp only [if_true]
      refine thnF (pk.run _ s8 σ8 H8 _ I8 q8) fun u1 s10 ⟨yk, H10, I10, r10, q10⟩ => ?_
      refine thnF (pv.run _ s10 σ8 H10 _ I10 q10) fun u2 s11 ⟨yv, H11, I11, r11, b, kvs, k, ek, hb11, hD11, hl11, nx⟩ => ?_
      subst ek
      obtain rfl : u1 = .ref b := r10
      refine lay_entry (X := X.blk s3 H3 scope ce fp) hu I11 hD11 hb11 hl11 r11 fun s12 I12 => ?_
      obtain ⟨m', lt, w'⟩ := hNx _ nx
      have len8 : (wipe σ (own.map (·.2))).length = σ8.length := by rw [← ew, wipe_length]
      have stay : ∀ c ∈ fp, ∀ o, s7.heap.get? c = some o → s12.heap.get? c = some o ∧ (upd H11 D (.dT (putK kvs k yv))) c = none := fun c hc' o e =>
        have z := I12.pin (c, o) (List.mem_append_right _ (List.mem_append_right _ (mem_pinsAt hc' e)))
        ⟨z.1, z.2.1⟩
      refine ⟨m', lt, i + 1, _, (I12.unpinned (pins := [])).weak len8 (fun j v e => ?_), T.keep _ _ _ t7 fun c hc' o e => (stay c hc' o e).1, fun c hc' => ?_, w'⟩
      · rw [← ew] at e
        exact (wipe_some e).1
      · obtain ⟨o, e, _⟩ := T.obj _ _ t7 c hc'
        exact (stay c hc' o e).2
  exact codeAny_compStart_dict loop (T.self X.A 0 _ _ _ t4 loop)
end

end

section
open PySem.Spec PyProof.Rows
/-! ### tuples of numbers and texts (links are such), lists of them -/
abbrev Tk := List L2.Key
/-- v is a tuple that holds k -/
def Kr (H : Hp) (v : V) (k : Tk) : Prop := ∃ t, v = .ref t ∧ H t = some (.tup (k.map kV))
theorem Kr.same {H H' : Hp} {v : V} {k : Tk} (h : Kr H v k) (z : Same H H') : Kr H' v k := by
  obtain ⟨t, rfl, h⟩ := h
  exact ⟨t, rfl, z _ _ h⟩
theorem Kr.over {H : Hp} {m : Addr} {zs ws : List V} {v : V} {k : Tk} (h : Kr H v k) (hm : H m = some (.lst zs)) : Kr (upd H m (.lst ws)) v k := by
  obtain ⟨t, rfl, h⟩ := h
  refine ⟨t, rfl, ?_⟩
  rw [upd_ne (ne_of h hm fun z => nomatch z)]
  exact h
inductive Krs (H : Hp) : List V → List Tk → Prop
  | nil : Krs H [] []
  | cons {v : V} {k : Tk} {vs : List V} {ks : List Tk} : Kr H v k → Krs H vs ks → Krs H (v :: vs) (k :: ks)
section
variable {H H' : Hp} {vs us : List V} {ks ls : List Tk}
theorem Krs.same (h : Krs H vs ks) (z : Same H H') : Krs H' vs ks := by
  induction h with
  | nil => exact .nil
  | cons a _ ih => exact .cons (a.same z) ih
theorem Krs.over {m : Addr} {zs ws : List V} (h : Krs H vs ks) (hm : H m = some (.lst zs)) : Krs (upd H m (.lst ws)) vs ks := by
  induction h with
  | nil => exact .nil
  | cons a _ ih => exact .cons (a.over hm) ih
theorem Krs.len (h : Krs H vs ks) : vs.length = ks.length := by
  induction h with
  | nil => rfl
  | cons a _ ih => exact congrArg (· + 1) ih
theorem Krs.app (h : Krs H vs ks) (g : Krs H us ls) : Krs H (vs ++ us) (ks ++ ls) := by
  induction h with
  | nil => exact g
  | cons a _ ih => exact .cons a ih
theorem Krs.snoc {v : V} {k : Tk} (h : Krs H vs ks) (g : Kr H v k) : Krs H (vs ++ [v]) (ks ++ [k]) := h.app (.cons g .nil)
theorem Krs.at (h : Krs H vs ks) : ∀ {i : Nat} {v : V}, vs[i]? = some v → ∃ k, ks[i]? = some k ∧ Kr H v k := by
  induction h with
  | nil => intro i v e; cases e
  | cons a _ ih =>
    intro i v e
    cases i with
    | zero => cases e; exact ⟨_, rfl, a⟩
    | succ i => exact ih e
theorem Krs.mem (h : Krs H vs ks) {v : V} (m : v ∈ vs) : ∃ k ∈ ks, Kr H v k := by
  induction h with
  | nil => cases m
  | cons a _ ih =>
    rcases List.mem_cons.mp m with e | m
    · subst e; exact ⟨_, List.mem_cons_self, a⟩
    · obtain ⟨k, hk, q⟩ := ih m
      exact ⟨k, List.mem_cons_of_mem _ hk, q⟩
/-- by their addresses -/
theorem Krs.split (h : Krs H vs ks) : ∃ L : List (Addr × Tk), vs = L.map (fun p => V.ref p.1) ∧ ks = L.map (·.2) ∧ ∀ p ∈ L, H p.1 = some (.tup (p.2.map kV)) := by
  induction h with
  | nil => exact ⟨[], rfl, rfl, fun p z => nomatch z⟩
  | cons a _ ih =>
    obtain ⟨t, rfl, e⟩ := a
    obtain ⟨L, rfl, rfl, q⟩ := ih
    refine ⟨(t, _) :: L, rfl, rfl, fun p hp => ?_⟩
    rcases List.mem_cons.mp hp with rfl | hp
    · exact e
    · exact q p hp
theorem krs_of {L : List (Addr × Tk)} (h : ∀ p ∈ L, H p.1 = some (.tup (p.2.map kV))) : Krs H (L.map fun p => V.ref p.1) (L.map (·.2)) := by
  induction L with
  | nil => exact .nil
  | cons p L ih => exact .cons ⟨p.1, rfl, h p List.mem_cons_self⟩ (ih fun q hq => h q (List.mem_cons_of_mem _ hq))
end
/-! ### their data -/
def kd : L2.Key → PyData
  | .inl i => .int i
  | .inr x => .str x
def dK (k : Tk) : PyData := .tuple (k.map kd)
def dKs (ks : List Tk) : PyData := .list (ks.map dK)
theorem eqv_kd (a b : L2.Key) : PyData.eqv (kd a) (kd b) = decide (a = b) := by
  cases a <;> cases b <;> simp only [kd, PyData.eqv, Sum.inl.injEq, Sum.inr.injEq, reduceCtorEq, decide_false] <;> first | rfl | (simp [PyData.eqv]; done) | skip
theorem eqvAll_kd : ∀ a b : Tk, PyData.eqvAll (a.map kd) (b.map kd) = decide (a = b)
  | [], [] => by simp [PyData.eqvAll]
  | [], _ :: _ => by simp [PyData.eqvAll]
  | _ :: _, [] => by simp [PyData.eqvAll]
  | p :: ps, q :: qs => by
    simp only [List.map_cons, PyData.eqvAll, eqv_kd, eqvAll_kd ps qs, List.cons.injEq]
    by_cases h1 : p = q <;> by_cases h2 : ps = qs <;> simp [h1, h2]
theorem eqv_dK (a b : Tk) : PyData.eqv (dK a) (dK b) = decide (a = b) := by
  unfold dK
  rw [PyData.eqv, eqvAll_kd]
theorem eqvAll_dK : ∀ ps qs : List Tk, PyData.eqvAll (ps.map dK) (qs.map dK) = decide (ps = qs)
  | [], [] => by simp [PyData.eqvAll]
  | [], _ :: _ => by simp [PyData.eqvAll]
  | _ :: _, [] => by simp [PyData.eqvAll]
  | p :: ps, q :: qs => by
    simp only [List.map_cons, PyData.eqvAll, eqv_dK, eqvAll_dK ps qs, List.cons.injEq]
    by_cases h1 : p = q <;> by_cases h2 : ps = qs <;> simp [h1, h2]
theorem eqv_dKs (ps qs : List Tk) : PyData.eqv (dKs ps) (dKs qs) = decide (ps = qs) := by
  unfold dKs
  rw [PyData.eqv, eqvAll_dK]
instance (k : Tk) (ks : List Tk) : Decidable (k ∈ ks) := decidable_of_iff (ks.any (fun q => decide (q = k)) = true) (by simp)
theorem any_dK (ks : List Tk) (k : Tk) : ((ks.map dK).any fun z => PyData.eqv z (dK k)) = decide (k ∈ ks) := by
  induction ks with
  | nil => simp
  | cons q ks ih =>
    rw [List.map_cons, List.any_cons, ih, eqv_dK]
    by_cases h1 : q = k
    · subst h1; simp
    · have h2 : ¬ k = q := fun z => h1 z.symm
      simp [h1, h2]
theorem dp_keys {K : PySem.W.Frag} {H : Hp} : ∀ k : Tk, DpAll K H (k.map kV) (k.map kd)
  | [] => .nil
  | .inl i :: k => .cons (.int i) (dp_keys k)
  | .inr x :: k => .cons (.str x) (dp_keys k)
theorem Kr.dp {K : PySem.W.Frag} {H : Hp} {v : V} {k : Tk} (h : Kr H v k) : Dp K H v (dK k) := by
  obtain ⟨t, rfl, h⟩ := h
  exact .tup (SqT.of h) (dp_keys k)
theorem Krs.dps {K : PySem.W.Frag} {H : Hp} {vs : List V} {ks : List Tk} (h : Krs H vs ks) : DpAll K H vs (ks.map dK) := by
  induction h with
  | nil => exact .nil
  | cons a _ ih => exact .cons a.dp ih
theorem Krs.dl {K : PySem.W.Frag} {H : Hp} {l : Addr} {vs : List V} {ks : List Tk} (h : Krs H vs ks) (e : SqL K H l vs) : Dp K H (.ref l) (dKs ks) := .lst e h.dps
theorem depth_kds : ∀ k : Tk, PyData.depthAll (k.map kd) = 0
  | [] => rfl
  | .inl _ :: k => by
    show max 0 (PyData.depthAll (k.map kd)) = 0
    rw [depth_kds k]
    rfl
  | .inr _ :: k => by
    show max 0 (PyData.depthAll (k.map kd)) = 0
    rw [depth_kds k]
    rfl
/-- its texts are texts -/
def okk (k : Tk) : Bool := PyData.canLayAll0 (k.map kd)
theorem lay_dKs : ∀ ks : List Tk, (∀ k ∈ ks, okk k = true) → PyData.canLayAll0 (ks.map dK) = true
  | [], _ => rfl
  | k :: ks, h => by
    show (PyData.canLayAll0 (k.map kd) && PyData.canLayAll0 (ks.map dK)) = true
    rw [lay_dKs ks fun q hq => h q (List.mem_cons_of_mem _ hq), show PyData.canLayAll0 (k.map kd) = true from h k List.mem_cons_self]
    rfl
theorem depth_dKs : ∀ ks : List Tk, PyData.depthAll (ks.map dK) ≤ 1
  | [] => by show 0 ≤ 1; omega
  | k :: ks => by
    have ih := depth_dKs ks
    show max (PyData.depthAll (k.map kd) + 1) (PyData.depthAll (ks.map dK)) ≤ 1
    rw [depth_kds]
    omega
theorem sh_dK {k : Tk} (h : okk k = true) : SeqAt.shaped (dK k) = true := by
  unfold SeqAt.shaped dK
  rw [show PyData.canLay0 (.tuple (k.map kd)) = PyData.canLayAll0 (k.map kd) from rfl, show PyData.canLayAll0 (k.map kd) = true from h]
  refine decide_eq_true ?_
  show PyData.depthAll (k.map kd) + 1 ≤ 64
  rw [depth_kds]
  omega
theorem sh_dKs {ks : List Tk} (hk : ∀ k ∈ ks, okk k = true) : SeqAt.shaped (dKs ks) = true := by
  unfold SeqAt.shaped dKs
  rw [show PyData.canLay0 (.list (ks.map dK)) = PyData.canLayAll0 (ks.map dK) from rfl, lay_dKs ks hk]
  have h := depth_dKs ks
  refine decide_eq_true ?_
  show PyData.depthAll (ks.map dK) + 1 ≤ 64
  omega

end

section
open PySem.Spec PyProof.Rows
/-! ### sorted(xs), xs a list of such tuples; sorted(d), d a dict whose keys they are -/
/-- where the texts stand -/
def shp (k : Tk) : List Bool := k.map fun x => match x with
  | .inl _ => false
  | .inr _ => true
def leK : Tk → Tk → Bool := PySem.W.dataLe false dK
def sortK (ks : List Tk) : List Tk := ks.mergeSort leK
theorem sortK_perm (ks : List Tk) : (sortK ks).Perm ks := List.mergeSort_perm _ _
theorem alike_kd : ∀ a b : Tk, shp a = shp b → PySem.W.alikeAll (a.map kd) (b.map kd) = true
  | [], [], _ => by simp [PySem.W.alikeAll]
  | [], _ :: _, h => by simp [shp] at h
  | _ :: _, [], h => by simp [shp] at h
  | x :: a, y :: b, h => by
    have h2 : shp a = shp b := by
      unfold shp at h ⊢
      simp only [List.map_cons, List.cons.injEq] at h
      exact h.2
    rw [List.map_cons, List.map_cons, PySem.W.alikeAll, alike_kd a b h2]
    unfold shp at h
    simp only [List.map_cons, List.cons.injEq] at h
    cases x <;> cases y <;> simp at h <;> simp [kd, PySem.W.alike]
theorem alike_dK {a b : Tk} (h : shp a = shp b) : PySem.W.alike (dK a) (dK b) = true := by
  unfold dK
  rw [PySem.W.alike]
  exact alike_kd a b h
theorem reads_keys {h : Heap} : ∀ (k : Tk) {its : List Value}, Vals (k.map kV) its → ReadsAll h its (k.map kd) []
  | [], _, .nil => .nil
  | .inl i :: k, _, .cons r t => by
    obtain ⟨u, rfl⟩ := (show ∃ u, _ = Value.int i u from r)
    exact .cons (.int i u) (reads_keys k t)
  | .inr x :: k, _, .cons r t => by
    obtain ⟨u, rfl⟩ := (show ∃ u, _ = Value.str x u from r)
    exact .cons (.str x u) (reads_keys k t)
theorem reads_k {P : Program} {w : World} {H : Hp} {h : Heap} {t : Addr} {k : Tk} (ok : HOk P w H h) (e : H t = some (.tup (k.map kV))) : Reads h (.ref t) (dK k) [] := by
  obtain ⟨_, its, r, o, ho, hc, n, hd⟩ := (show ObjOk P w H h t (.tup (k.map kV)) from ok t _ e)
  exact .tuple ho hc hd (reads_keys k (by simpa using r))
theorem each_map {α β : Type} {R : α → β → Prop} (f : β → α) : ∀ {bs : List β}, (∀ b ∈ bs, R (f b) b) → PySem.W.EachIs R (bs.map f) bs
  | [], _ => .nil
  | b :: bs, h => .cons (h b List.mem_cons_self) (each_map f fun c hc => h c (List.mem_cons_of_mem _ hc))
theorem refs_vals (L : List (Addr × Tk)) : Vals (L.map fun p => V.ref p.1) (L.map fun p => Value.ref p.1) := by
  induction L with
  | nil => exact .nil
  | cons p L ih => exact .cons rfl ih
theorem vals_refs' : ∀ {L : List (Addr × Tk)} {its : List Value}, Vals (L.map fun p => V.ref p.1) its → its = L.map fun p => Value.ref p.1
  | [], _, .nil => rfl
  | p :: L, _, .cons r t => by
    have r : _ = Value.ref p.1 := r
    rw [r, vals_refs' t]
    rfl
theorem sort_pairs (L : List (Addr × Tk)) : (L.mergeSort (PySem.W.dataLe false fun b => dK b.2)).map (·.2) = sortK (L.map (·.2)) := List.map_mergeSort fun a _ b _ => rfl
/-- the order sorts: all alike, none empty -/
def Fit (ks : List Tk) : Prop := ∃ sh : List Bool, sh ≠ [] ∧ ∀ k ∈ ks, shp k = sh
theorem Fit.alike {L : List (Addr × Tk)} (h : Fit (L.map (·.2))) : PySem.W.AllAlike (L.map fun b => dK b.2) := by
  obtain ⟨sh, _, q⟩ := h
  intro d hd d' hd'
  obtain ⟨b, hb, rfl⟩ := List.mem_map.mp hd
  obtain ⟨c, hc, rfl⟩ := List.mem_map.mp hd'
  exact alike_dK ((q _ (List.mem_map_of_mem hb)).trans (q _ (List.mem_map_of_mem hc)).symm)
theorem Fit.sortable {L : List (Addr × Tk)} (h : Fit (L.map (·.2))) : PySem.W.Sortable (L.map fun b => dK b.2) := .inl fun d hd => by
  obtain ⟨sh, q0, q⟩ := h
  obtain ⟨b, hb, rfl⟩ := List.mem_map.mp hd
  have e := q _ (List.mem_map_of_mem hb)
  cases hk : b.2 with
  | nil =>
    have hk2 : (b.2 : Tk) = [] := hk
    rw [show shp ((fun x : Addr × Tk => x.2) b) = shp b.2 from rfl, hk2] at e
    exact absurd e.symm q0
  | cons x r => exact ⟨kd x, r.map kd, rfl⟩
theorem depth_dK (k : Tk) : (dK k).depth = 1 := by
  show PyData.depthAll (k.map kd) + 1 = 1
  rw [depth_kds]
section
variable {X : Cx}
def rSortK (K : PySem.W.Frag) : List V → Hp → VK → Prop := fun vs H Q => ∃ (a : Addr) (xs : List V) (ks : List Tk), vs = [.ref a] ∧ SqL K H a xs ∧ Krs H xs ks ∧ Fit ks ∧
  ∀ (p : Addr) (ys : List V), H p = none → Krs H ys (sortK ks) → Q (.ref p) (upd H p (.lst ys))
theorem call_sortK (hu : X.A.units + 64 < cLine) : CallR X (.builtin "sorted") (rSortK X.K) := by
  intro pins s σ H vs us Q I r h
  obtain ⟨a, xs, ks, rfl, hs, hk, hf, q⟩ := h
  obtain ⟨its, rv, hl, hz⟩ := I.list hs
  rw [Vals.ref1 r]
  obtain ⟨L, rfl, rfl, hL⟩ := hk.split
  have e := vals_refs' rv
  subst e
  refine PySem.W.sorted_data (bs := L) (enc := fun b : Addr × Tk => dK b.2) (R := fun v b => v = Value.ref b.1) hl.isList (each_map _ fun b _ => rfl) (each_map _ fun b hb => ⟨[], reads_k I.hok (hL b hb)⟩) hf.alike hf.sortable
    (by rw [List.length_map] at hz; exact hz) (fun b _ => by show X.A.units + 2 + (dK b.2).depth < cLine; rw [depth_dK]; omega) fun out ho eo => ?_
  have eo2 := eachIs_back eo
  obtain ⟨ep, he'⟩ := PyProof.Rows.sortedAll_at s.heap (L.map fun p => Value.ref p.1) out.toArray
  have hlen : ((L.mergeSort (PySem.W.dataLe false fun b => dK b.2)).map fun p => V.ref p.1).length ≤ sizeLine := by
    rw [List.length_map, (List.mergeSort_perm _ _).length_eq]
    rw [List.length_map] at hz
    exact hz
  refine ⟨.ref _, upd H (s.heap.objs.size + 1) (.lst ((L.mergeSort (PySem.W.dataLe false fun b => dK b.2)).map fun p => V.ref p.1)), I.laid (t' := s.toks) (fun _ _ => PyProof.Rows.sortedAll_old) (Nat.le_succ _)
    ⟨hlen, out, ep, by rw [eo2]; exact refs_vals _, he'⟩, rfl, q _ _ (I.hok.fresh (Nat.le_succ _)) ?_⟩
  rw [← sort_pairs]
  exact krs_of fun p hp => hL p ((List.mergeSort_perm _ _).mem_iff.mp hp)
def rSortDT : List V → Hp → VK → Prop := fun vs H Q => ∃ (a : Addr) (kvs : List (Tk × V)), vs = [.ref a] ∧ Rd H a (.dT kvs) ∧ Fit (kvs.map (·.1)) ∧
  ∀ (p : Addr) (ys : List V), H p = none → Krs H ys (sortK (kvs.map (·.1))) → Q (.ref p) (upd H p (.lst ys))
theorem call_sortDT (hc : X.calm = true) (hu : X.A.units + 64 < cLine) : CallR X (.builtin "sorted") rSortDT := by
  intro pins s σ H vs us Q I r h
  obtain ⟨a, kvs, rfl, hd, hf, q⟩ := h
  rw [Vals.ref1 r]
  obtain ⟨z, lo, es0, pr, o, es, ep, ho, hx, hdt, he, hn⟩ := (show ObjOk X.prog X.w H s.heap a (.dT kvs) from hd.ok I.hok)
  have l1 : es.size = es0.length := size_of_entries he
  have l2 : kvs.length = es0.length := Paired.length pr
  refine Calls.call_function_entry PyProof.Rows.kind_sorted PyProof.Rows.plain_sorted PyProof.Rows.entry_sorted (PyProof.Rows.args_sorted1 _) ?_
  unfold Builtin.«sorted»
  refine wpAny_bind (m := checkCount "sorted" 1 1 _) (wpAny_pure ?_)
  refine wpAny_bind (PySem.W.kdu_collect (A := X.A.in1) (kdl_raw lo hx hdt) (I.ok.hd hc) ho (by omega) fun h' tk acc hk hacc => ?_)
  -- what was collected: the keys' addresses
  have ea : acc.toList = es0.map fun x => Value.ref x.2.1 := by
    have hl : acc.toList.length = es0.length := by rw [Array.length_toList, hacc.1]; exact l1
    refine List.ext_getElem? fun j => ?_
    rw [List.getElem?_map]
    cases hj : acc.toList[j]? with
    | none =>
      have h1 := List.getElem?_eq_none_iff.mp hj
      rw [List.getElem?_eq_none (by omega)]
      rfl
    | some v =>
      obtain ⟨en, hen, hv⟩ := hacc.2 j v (by rw [← Array.getElem?_toList]; exact hj)
      have qe := entry_at he j
      rw [hen] at qe
      cases hb : es0[j]? with
      | none =>
        rw [hb] at qe
        exact nomatch (show some en = none from qe)
      | some b =>
        rw [hb] at qe
        have e2 : en = entryOfKey (tupleKind (mixKind X.prog X.w)) b := Option.some.inj qe
        rw [hv, e2]
        rfl
  obtain ⟨L, eL1, eL2, hL⟩ : ∃ L : List (Addr × Tk), (es0.map fun x => Value.ref x.2.1) = L.map (fun p => Value.ref p.1) ∧ kvs.map (·.1) = L.map (·.2) ∧ ∀ p ∈ L, H p.1 = some (.tup (p.2.map kV)) := by
    clear ea hacc he l1 l2 q hf hd
    induction pr with
    | nil => exact ⟨[], rfl, rfl, fun p z => nomatch z⟩
    | cons h1 _ ih =>
      obtain ⟨L, e1, e2, e3⟩ := ih (by simp at z; omega) (by simp at hn; exact hn.2)
      rename_i p0 q0 _ _ _
      refine ⟨(q0.2.1, p0.1) :: L, by rw [List.map_cons, List.map_cons, e1], by rw [List.map_cons, List.map_cons, e2], fun p hp => ?_⟩
      rcases List.mem_cons.mp hp with rfl | hp
      · exact h1.2.1
      · exact e3 p hp
  rw [eL1] at ea
  rw [eL2] at hf q
  have hlen0 : L.length ≤ sizeLine := by
    have e := congrArg List.length eL2
    rw [List.length_map, List.length_map] at e
    omega
  have I1 : Inv X pins σ H { s with heap := h', toks := tk } := I.kept hk
  rw [ea]
  refine wpAny_bind (wpAny_newList ?_ (by rw [List.length_map]; exact hlen0))
  have hoL : (h'.push (seqObj "list" (L.map fun p => Value.ref p.1).toArray 0)).get? h'.objs.size = some (seqObj "list" (L.map fun p => Value.ref p.1).toArray 0) := Heap.get?_push_size _ rfl
  show wpAny _ _ _ _ _ { s with heap := h'.push (seqObj "list" (L.map fun p => Value.ref p.1).toArray 0), toks := tk }
  have ok2 : HOk X.prog X.w H (h'.push (seqObj "list" (L.map fun p => Value.ref p.1).toArray 0)) := I1.hok.kept fun b u e => Heap.get?_push_of_some _ e
  refine wpAny_bind (wpAny_holding (PySem.W.list_sort_data (s := { s with heap := h'.push (seqObj "list" (L.map fun p => Value.ref p.1).toArray 0), toks := tk }) (bs := L) (enc := fun b : Addr × Tk => dK b.2) (R := fun v b => v = Value.ref b.1)
    hoL (each_map _ fun b _ => rfl) (each_map _ fun b hb => ⟨[], reads_k ok2 (hL b hb), by simp⟩) hf.alike hf.sortable hlen0 (fun b _ => ?_) fun out hout eo => ?_))
  · have z1 : X.A.in1.units ≤ X.A.units + 3 := by
      unfold Around.in1
      simp
    show X.A.in1.units + 1 + (dK b.2).depth < cLine
    rw [depth_dK]
    omega
  have eo2 := eachIs_back eo
  obtain ⟨c, hcc⟩ := PyProof.Rows.sortedHeap_at (vs := L.map fun p => Value.ref p.1) (out := out.toArray) hoL
  have hlen : ((L.mergeSort (PySem.W.dataLe false fun b => dK b.2)).map fun p => V.ref p.1).length ≤ sizeLine := by
    rw [List.length_map, (List.mergeSort_perm _ _).length_eq]
    exact hlen0
  refine wpAny_pure ⟨_, rfl, .ref h'.objs.size, upd H h'.objs.size (.lst ((L.mergeSort (PySem.W.dataLe false fun b => dK b.2)).map fun p => V.ref p.1)), I1.laid (t' := tk) (fun b u e => ?_) (Nat.le_refl _)
    ⟨hlen, out, c, by rw [eo2]; exact refs_vals _, hcc⟩, rfl, q _ _ (I1.hok.fresh (Nat.le_refl _)) ?_⟩
  · have lt : b < h'.objs.size := Heap.lt_size e
    rw [PyProof.Rows.sortedHeap_old (Nat.ne_of_lt lt) (by rw [size_push']; exact Nat.lt_succ_of_lt lt)]
    exact Heap.get?_push_of_some _ e
  · rw [← sort_pairs]
    exact krs_of fun p hp => hL p ((List.mergeSort_perm _ _).mem_iff.mp hp)
end

end

section
open PySem.Spec PyProof.Rows GxR NdefX
/-! ### all stands that stood, but tables of code objects may have grown -/
structure Kp (H H' : Hp) : Prop where
  at_ : ∀ b o, H b = some o → (∀ ps, o ≠ .tbl ps) → H' b = some o
  tab : ∀ P, TabG H P → TabG H' P
theorem kpS {H H' : Hp} (h : Same H H') : Kp H H' := ⟨fun b o e _ => h b o e, fun P ⟨ps, e, t⟩ => ⟨ps, h _ _ e, t⟩⟩
theorem Kp.refl (H : Hp) : Kp H H := kpS (Same.refl H)
theorem Kp.trans {H H1 H2 : Hp} (a : Kp H H1) (b : Kp H1 H2) : Kp H H2 := ⟨fun c o e n => b.at_ c o (a.at_ c o e n) n, fun P h => b.tab P (a.tab P h)⟩
theorem Tabbed.kp {P : Addr} {H H' : Hp} (h : Tabbed P H H') (t : TabG H P) : Kp H H' := by
  obtain ⟨ps, e0, t0⟩ := t
  refine ⟨fun b o e n => ?_, fun P' ⟨qs, e, t'⟩ => ?_⟩
  · rw [h.2 b fun z => by rw [z, e0] at e; exact n ps (Option.some.inj e).symm]
    exact e
  · by_cases z : P' = P
    · rw [z]
      exact h.1
    · exact ⟨qs, by rw [h.2 _ z]; exact e, t'⟩
section
variable {H H' : Hp}
theorem Kp.ins (k : Kp H H') {b C dx : Addr} {fs : List (Str × V)} (e : H b = some (.ins C dx fs)) : H' b = some (.ins C dx fs) := k.at_ _ _ e fun _ z => nomatch z
theorem Kp.lst (k : Kp H H') {b : Addr} {xs : List V} (e : H b = some (.lst xs)) : H' b = some (.lst xs) := k.at_ _ _ e fun _ z => nomatch z
theorem Kp.tup (k : Kp H H') {b : Addr} {xs : List V} (e : H b = some (.tup xs)) : H' b = some (.tup xs) := k.at_ _ _ e fun _ z => nomatch z
theorem Kp.dT (k : Kp H H') {b : Addr} {kvs : List (Tk × V)} (e : H b = some (.dT kvs)) : H' b = some (.dT kvs) := k.at_ _ _ e fun _ z => nomatch z
theorem Kp.frz (k : Kp H H') {b : Addr} {o : Obj} {u : HO} (e : H b = some (.frz o u)) : H' b = some (.frz o u) := k.at_ _ _ e fun _ z => nomatch z
theorem Kp.seq {K : PySem.W.Frag} (k : Kp H H') {a : Addr} {xs : List V} (h : SqL K H a xs) : SqL K H' a xs := by
  rcases h with (h | ⟨o, h⟩) | h
  · exact .inl (.inl (k.lst h))
  · exact .inl (.inr ⟨o, k.frz h⟩)
  · exact .inr h
theorem Kp.free (k : Kp H H') {l : Addr} (h : H' l = none) : H l = none ∨ ∃ ps, H l = some (.tbl ps) := by
  cases q : H l with
  | none => exact .inl rfl
  | some o =>
    by_cases t : ∃ ps, o = .tbl ps
    · obtain ⟨ps, rfl⟩ := t
      exact .inr ⟨ps, rfl⟩
    · rw [k.at_ _ _ q fun ps z => t ⟨ps, z⟩] at h
      cases h
theorem Kr.kp {v : V} {x : Tk} (h : Kr H v x) (k : Kp H H') : Kr H' v x := by
  obtain ⟨t, rfl, h⟩ := h
  exact ⟨t, rfl, k.tup h⟩
theorem Krs.kp {vs : List V} {ks : List Tk} (h : Krs H vs ks) (k : Kp H H') : Krs H' vs ks := by
  induction h with
  | nil => exact .nil
  | cons a _ ih => exact .cons (a.kp k) ih
theorem Pr.kp {v : V} {p : Pl} (h : Pr H v p) (k : Kp H H') : Pr H' v p := by
  obtain ⟨t, rfl, h⟩ := h
  exact ⟨t, rfl, k.tup h⟩
theorem Prs.kp {vs : List V} {ps : List Pl} (h : Prs H vs ps) (k : Kp H H') : Prs H' vs ps := by
  induction h with
  | nil => exact .nil
  | cons a _ ih => exact .cons (a.kp k) ih
end
/-! ### a def whose code object is known -/
structure FunC (K : PySem.W.Frag) (x qual : Str) (st : Stmt) (f c : Addr) (fd : FuncData) : Prop where
  ex : ∃ (oc : Value) (od : Option Addr) (kV doc pm : Value) (an : Option Addr) (ct : Value) (osl : Array (Option Value)),
    fd = PySem.W.fnOf x qual (defArgs st) (defBody st) (defScope st) .none kV doc pm an (.ref c) ct ∧ K.lookup f = some ⟨oc, od, .func fd, osl⟩ ∧ PySem.W.codeIn K (.ref c) qual = true
  kp : PySem.W.keepIn K (.ref f) = true
section
variable {P : Program} {w : World} {K : PySem.W.Frag} {mg : Str → Option Value} {base : Heap}
theorem FunC.ok {x qual : Str} {st : Stmt} {f c : Addr} {fd : FuncData} {N ps : List Str} {k : Nat} {sp : Sp} (F : FunC K x qual st f c fd) (S : FnScope N ps (defScope st)) (len : ∀ vs H Q E, sp vs H Q E → vs.length = ps.length)
    (hbody : ∀ (A : Around) (outer : List Env) (s : Shared) (H : Hp) (vs : List V) (Q : VK) (E : XK), Room k (A.deeper (envOfC qual (defScope st) s.heap.objs.size f (.ref c))) → sp vs H Q E →
      ∃ t, PSs (cxOf CX0 P w K mg base N qual (defScope st) f (.ref c) A outer s H E).nox (defBody st) t ∧ t { nx := fun _ H' => Q .non H', rt := Q } (start N vs) H) : FnOk P w K mg base CX0 (k + 1) f fd ps sp := by
  obtain ⟨oc, od, kV, doc, pm, an, ct, osl, rfl, lk, hcd⟩ := F.ex
  refine fn_of lk hcd S len fun A outer s H vs Q E hr h => ?_
  obtain ⟨t, z, q⟩ := hbody A outer s H vs Q E hr h
  exact ⟨t, z.nox, q⟩
theorem FunC.okX {x qual : Str} {st : Stmt} {f c : Addr} {fd : FuncData} {N ps : List Str} {k : Nat} {sp : Sp} (F : FunC K x qual st f c fd) (S : FnScope N ps (defScope st)) (len : ∀ vs H Q E, sp vs H Q E → vs.length = ps.length)
    (hbody : ∀ (A : Around) (outer : List Env) (s : Shared) (H : Hp) (vs : List V) (Q : VK) (E : XK), Room k (A.deeper (envOfC qual (defScope st) s.heap.objs.size f (.ref c))) → sp vs H Q E →
      ∃ t, PSs (cxOf (L2.CX P w) P w K mg base N qual (defScope st) f (.ref c) A outer s H E) (defBody st) t ∧ t { nx := fun _ H' => Q .non H', rt := Q } (start N vs) H) : FnOk P w K mg base (L2.CX P w) (k + 1) f fd ps sp := by
  obtain ⟨oc, od, kV, doc, pm, an, ct, osl, rfl, lk, hcd⟩ := F.ex
  exact fn_of lk hcd S len fun A outer s H vs Q E hr h => hbody A outer s H vs Q E hr h
end
/-! ### a generator expression's scope, by looking -/
def gscC (outer sc : Scope) : Bool := (match sc.kind with | .function => true | _ => false) && !sc.isCoroutine && (match sc.names.lookup (".0" : Str) with | some .local => true | _ => false) &&
  (sc.names.all fun y => match y.2 with
    | .cell => false
    | .free => (match outer.names.lookup y.1 with | some .cell => true | _ => false)
    | _ => true)
theorem gsc_by {env : Env} {outer sc : Scope} (ho : env.scope = outer) (hc : env.cells = cellsFrom (env.locals + 1) env.scope.names []) (h : gscC outer sc = true) : GSc env sc := by
  subst ho
  unfold gscC at h
  simp only [Bool.and_eq_true, List.all_eq_true] at h
  obtain ⟨⟨⟨h1, h2⟩, h3⟩, h4⟩ := h
  refine ⟨?_, by simpa using h2, fun y hy e => ?_, ?_, fun y hy e => ?_⟩
  · split at h1
    · assumption
    · cases h1
  · have q := h4 y hy
    rw [e] at q
    cases q
  · split at h3
    · assumption
    · cases h3
  · have q := h4 y hy
    rw [e] at q
    have q2 : (match env.scope.names.lookup y.1 with | some .cell => true | _ => false) = true := q
    split at q2
    · rename_i z
      rw [hc]
      exact cell_has z
    · cases q2
def gfrC (XN : List Str) (outer sc : Scope) (N : List Str) (fr : List (Option Nat)) : Bool := decide (fr.length = N.length) && ((N.zip fr).all fun p => match p.2 with
  | none => true
  | some j => (match sc.names.lookup p.1 with | some .free => true | _ => false) && decide (XN[j]? = some p.1) && (match outer.names.lookup p.1 with | some .cell => true | _ => false))
theorem gfr_by {X : Cx} {outer sc : Scope} {XN N : List Str} {fr : List (Option Nat)} (ho : X.env.scope = outer) (hn : X.N = XN) (h : gfrC XN outer sc N fr = true) : GFr X sc N fr := by
  subst ho hn
  unfold gfrC at h
  simp only [Bool.and_eq_true, List.all_eq_true, decide_eq_true_eq] at h
  obtain ⟨h1, h2⟩ := h
  refine ⟨h1, fun i y j e1 e2 => ?_⟩
  have m : (y, some j) ∈ N.zip fr := by
    refine List.mem_of_getElem? (i := i) ?_
    rw [List.getElem?_zip_eq_some]
    exact ⟨e1, e2⟩
  have q := h2 _ m
  simp only [Bool.and_eq_true, decide_eq_true_eq] at q
  obtain ⟨⟨q1, q2⟩, q3⟩ := q
  refine ⟨?_, q2, .inl ?_⟩
  · split at q1
    · assumption
    · cases q1
  · split at q3
    · assumption
    · cases q3

end

section
open PySem.Spec PyProof.Rows
/-! ### the entries that a dict comprehension over a list lays -/
theorem dcT_list {K : PySem.W.Frag} {a : Addr} {xs : List V} {g : TG} {tk tv : TE} {vs : List Nat} {σ : L2.St} {H1 : Hp} {D : Addr} {Qd : Hp → Prop} (Pv : Nat → Hp → Prop) (h0 : Pv 0 (upd H1 D (.dT []))) (hl : ∀ i H, i ≤ xs.length → Pv i H → SqL K H a xs)
    (hs : ∀ i x H, xs[i]? = some x → Pv i H → g x (wipe σ vs) H fun σ2 H2 => wipe σ2 vs = wipe σ vs ∧ tk σ2 H2 fun y H4 => tv σ2 H4 fun z H5 =>
      ∃ b kvs k, y = .ref b ∧ H5 b = some (.tup (k.map kV)) ∧ H5 D = some (.dT kvs) ∧ kvs.length < sizeLine ∧ Pv (i + 1) (upd H5 D (.dT (putK kvs k z)))) (hd : ∀ H, Pv xs.length H → Qd H) :
    ∃ W : Nat → Nat → Hp → Prop, (∃ m, W 0 m (upd H1 D (.dT []))) ∧ ∀ i m H, W i m H →
      ((Itl K a).stop i H ∧ Qd H) ∨ ((Itl K a).go i H ∧ ∃ Nx : Hp → Prop, (∀ H', Nx H' → ∃ m', m' < m ∧ W (i + 1) m' H') ∧
        ∀ x H', (Itl K a).yld i H x H' → g x (wipe σ vs) H' fun σ2 H2 => wipe σ2 vs = wipe σ vs ∧ tk σ2 H2 fun y H4 => tv σ2 H4 fun z H5 =>
          ∃ b kvs k, y = .ref b ∧ H5 b = some (.tup (k.map kV)) ∧ H5 D = some (.dT kvs) ∧ kvs.length < sizeLine ∧ Nx (upd H5 D (.dT (putK kvs k z)))) := by
  refine ⟨fun i m H => m = xs.length - i ∧ i ≤ xs.length ∧ Pv i H, ⟨xs.length, by simp, Nat.zero_le _, h0⟩, fun i m H w => ?_⟩
  obtain ⟨rfl, le, p⟩ := w
  have q := hl i H le p
  by_cases lt : i < xs.length
  · refine .inr ⟨⟨xs, xs[i], q, List.getElem?_eq_getElem lt⟩, Pv (i + 1), fun H' p' => ⟨xs.length - (i + 1), by omega, rfl, lt, p'⟩, fun x H' y => ?_⟩
    obtain ⟨rfl, y⟩ := y
    exact hs i x _ (y xs q) p
  · obtain rfl : i = xs.length := by omega
    exact .inl ⟨⟨xs, q, Nat.le_refl _⟩, hd H p⟩
theorem snoc_ind {α : Type} {P : List α → Prop} (h0 : P []) (h1 : ∀ l x, P l → P (l ++ [x])) (l : List α) : P l := by
  rw [← List.reverse_reverse l]
  induction l.reverse with
  | nil => exact h0
  | cons x r ih =>
    rw [List.reverse_cons]
    exact h1 _ _ ih
/-- laid one after another -/
def ded (ks : List Tk) : List (Tk × V) := ks.foldl (fun kvs k => putK kvs k (.bl true)) []
theorem ded_snoc (ks : List Tk) (k : Tk) : ded (ks ++ [k]) = putK (ded ks) k (.bl true) := by
  unfold ded
  rw [List.foldl_append]
  rfl
theorem ded_mem : ∀ (ks : List Tk) (k : Tk), (valV (ded ks) k).isSome = decide (k ∈ ks) := by
  intro ks
  refine snoc_ind (P := fun ks : List Tk => ∀ k : Tk, (valV (ded ks) k).isSome = decide (k ∈ ks)) (fun k => by simp [ded, valV_nil]) (fun ks x ih k => ?_) ks
  rw [ded_snoc, valV_put]
  by_cases h : k = x
  · subst h
    simp
  · rw [if_neg h, ih k]
    simp [h]
theorem ded_le (ks : List Tk) : (ded ks).length ≤ ks.length := by
  refine snoc_ind (P := fun ks : List Tk => (ded ks).length ≤ ks.length) (Nat.le_refl _) (fun ks x ih => ?_) ks
  rw [ded_snoc, List.length_append]
  have q := length_putK (ded ks) x (.bl true)
  show _ ≤ ks.length + 1
  omega
theorem putK_old {kvs : List (Tk × V)} {k : Tk} (v : V) (h : (valV kvs k).isSome = true) : (putK kvs k v).length = kvs.length := by
  unfold putK
  rw [if_pos (by rw [valV_any]; exact h), List.length_map]
theorem ded_eq (ks : List Tk) : (ks.Nodup → ded ks = ks.map fun k => (k, V.bl true)) ∧ (¬ ks.Nodup → (ded ks).length < ks.length) := by
  refine snoc_ind (P := fun ks : List Tk => (ks.Nodup → ded ks = ks.map fun k => (k, V.bl true)) ∧ (¬ ks.Nodup → (ded ks).length < ks.length)) ⟨fun _ => rfl, fun h => (h .nil).elim⟩ (fun ks x ih => ?_) ks
  obtain ⟨ih1, ih2⟩ := ih
  have le := ded_le ks
  by_cases hx : x ∈ ks
  · have hv : (valV (ded ks) x).isSome = true := by rw [ded_mem]; exact decide_eq_true hx
    refine ⟨fun h => ?_, fun _ => ?_⟩
    · have z := (List.nodup_append.mp h).2.2 x hx x (by simp)
      exact (z rfl).elim
    · rw [ded_snoc, putK_old _ hv, List.length_append]
      show _ < ks.length + 1
      omega
  · have hv : valV (ded ks) x = none := by
      have q := ded_mem ks x
      rw [decide_eq_false hx] at q
      cases e : valV (ded ks) x with
      | none => rfl
      | some y => rw [e] at q; cases q
    have step : ded (ks ++ [x]) = ded ks ++ [(x, .bl true)] := by rw [ded_snoc, putK_new _ hv]
    refine ⟨fun h => ?_, fun h => ?_⟩
    · rw [step, ih1 (List.nodup_append.mp h).1, List.map_append]
      rfl
    · have hn : ¬ ks.Nodup := fun z => h (List.nodup_append.mpr ⟨z, by simp, fun y hy y' hy' e => by
        rw [List.mem_singleton.mp hy'] at e
        rw [e] at hy
        exact hx hy⟩)
      have q := ih2 hn
      rw [step, List.length_append, List.length_append]
      show (ded ks).length + 1 < ks.length + 1
      omega
theorem ded_keys {ks : List Tk} (h : ks.Nodup) : (ded ks).map (·.1) = ks := by
  rw [(ded_eq ks).1 h, List.map_map]
  exact List.map_id ks

end

section
open PySem.Spec PyProof.Rows
/-! ### set(xs), xs a list of numbers; its sorted members -/
/-- the set as it is made -/
abbrev nuI (w : World) : Obj := { cls := .type "set", dict := none, data := .set #[] 0 (.fresh 0 0 (!w.params.followText "set-order")) }
/-- what set.__init__ leaves of the numbers -/
def LeftI (w : World) (s : Shared) (ns : List Int) (s2 : Shared) : Prop := ∃ h' tk c, s2 = { s with heap := h', toks := tk } ∧ SetR w h' s.heap.objs.size (fun j => decide (j ∈ ns)) c ∧ c ≤ ns.length ∧ ∀ b o, s.heap.get? b = some o → h'.get? b = some o
section
variable {P : Program} {w : World} {A : Around} {E : Value → Shared → Prop} {s : Shared} {ns : List Int}
theorem wide_ints {l : Addr} {items : Array Value} {Q : Value → Shared → Prop} (hh : A.handled = none) (hl : s.heap.IsList l items) (hit : IntsAre items.toList ns) (few : ns.length + 1 < scanBound)
    (h : ∀ s2, LeftI w s ns s2 → Q (.ref s.heap.objs.size) s2) : wpAny (model P w) A (call (.type "set") [.ref l]) Q E s := by
  have size : items.size = ns.length := by
    rw [← Array.length_toList, IntsAre.length hit]
  obtain ⟨c, tl, mro⟩ := F.called_set.mro
  have made' := F.called_set.made
  have sub' := F.called_set.sub
  have not' := F.called_set.notType
  have can' := F.called_set.canCreate
  have chk' := F.typeCall_set_1 (.ref l)
  refine wpAny_call (codeAny_of_tree ?_)
  show wpAny _ _ (callAny (.type "set") _) _ _ _
  refine wpAny_pure ⟨Code.quiet_builtin _ (by decide +kernel), codeAny_builtin F.entry_type_call ?_⟩
  rw [Around.under_plain (weight_type_call_type "set" [.ref l] []) rfl]
  repeat (any_goals (first | assumption | wp_step))
  refine codeAny_mono (code_set_led1 (.ref l) (E := E) (Q₁ := fun v s1 => v = .ref s.heap.objs.size ∧ s1 = { s with heap := s.heap.push (nuI w) }) ⟨rfl, rfl⟩) fun r s1 hr => ?_
  cases r with
  | error e => exact hr
  | ok fl =>
    cases fl with
    | ret obj =>
      obtain ⟨rfl, rfl⟩ := hr
      have at_ : (s.heap.push (nuI w)).get? s.heap.objs.size = some (nuI w) := Heap.get?_push_size _ rfl
      have isS : Shared.TypeIs { s with heap := s.heap.push (nuI w) } (.ref s.heap.objs.size) "set" := ⟨_, at_, rfl⟩
      have look' := F.called_set.init.lookup
      have bind' := F.called_set.init.bind (.ref s.heap.objs.size)
      repeat (any_goals (first | assumption | wp_step))
      refine codeAny_mono (codeAny_call_builtin (R := wants (fun r s2 => r = .none ∧ LeftI w s ns s2) E) F.called_set.init.plain F.entry_set_init (check_set_init_1 isS ?_)) fun r2 s2 hr2 => ?_
      · obtain ⟨⟨cl, di, da, sl⟩, ho, hc, n0, hd⟩ := hl
        cases (hc : cl = .type "list")
        cases (hd : da = .seq items n0)
        have ho1 := Heap.get?_push_of_some (nuI w) ho
        have il : (s.heap.push (nuI w)).IsList l items := ⟨_, ho1, rfl, n0, rfl⟩
        have a1 := F.sub_list_set
        have a2 := F.sub_list_frozenset
        have a3 : (Value.type "list" == Value.type "dict") = false := by decide
        unfold Builtin.«set.__init__» noKeywords Builtin.Frozenset.updateFrom
        generalize hy : pyIter = Y
        wp_walk
        subst hy
        refine wpAny_pyIter_list il (wpAny_bind (wpAny_runValue ?_))
        have ls : l < s.heap.objs.size := Heap.lt_size ho
        have sz : (s.heap.push (nuI w)).objs.size = s.heap.objs.size + 1 := Heap.size_push ..
        have calm : A.in1.in1.in1.handled = none := by simp [hh]
        have apart : l ≠ (s.heap.push (nuI w)).objs.size := Nat.ne_of_lt (by rw [sz]; exact Nat.lt_succ_of_lt ls)
        refine set_update_ints ((Walks.list calm _ l apart items).toS) s.heap.objs.size ?_ ns size few (fun i v hv => ?_) (items.size - 0) 0 _ (by omega) (Nat.zero_le _) ⟨⟨_, Heap.get?_push_size _ rfl, rfl, rfl⟩, il.push _⟩ ⟨0, Nat.le_refl 0, setR_new_at (Heap.get?_push_of_some _ at_)⟩ fun s3 c3 mv le3 f => ?_
        · rw [sz]
          simp only [List.mem_cons, List.not_mem_nil, or_false, not_or]
          exact ⟨Nat.ne_of_lt (Nat.lt_succ_self _), Nat.ne_of_gt ls⟩
        · have lt : i < ns.length := by
            rw [← size]
            exact (Array.getElem?_eq_some_iff.mp hv).1
          obtain ⟨t, e⟩ := IntsAre.int_at hit i v (by rw [Array.getElem?_toList]; exact hv)
          refine ⟨ns[i], t, List.getElem?_eq_getElem lt, ?_⟩
          rw [e, List.getD_eq_getElem?_getD, List.getElem?_eq_getElem lt]
          rfl
        · obtain ⟨h3, g3, d3, k3, o3⟩ := s3
          cases (mv.gens : g3 = s.gens)
          cases (mv.drawn : d3 = s.drawn)
          cases (mv.os : o3 = s.os)
          rw [size] at le3
          refine wpAny_pure ?_
          refine wpAny_pure ⟨rfl, h3, k3, c3, rfl, f, le3, fun b o z => ?_⟩
          have lb : b < s.heap.objs.size := Heap.lt_size z
          exact mv.heap b o (by rw [sz]; simp only [List.mem_cons, List.not_mem_nil, or_false, not_or]; exact ⟨Nat.ne_of_lt lb, Nat.ne_of_lt (Nat.lt_succ_of_lt lb)⟩) (Heap.get?_push_of_some _ (Heap.get?_push_of_some _ z))
      · cases r2 with
        | error e => exact hr2
        | ok fl2 =>
          cases fl2 with
          | ret r =>
            obtain ⟨rfl, lf⟩ := hr2
            repeat (any_goals (first | assumption | wp_step))
            exact h _ lf
          | _ => exact hr2.elim
    | _ => exact hr.elim
end
/-- set(xs) of at most 60 numbers -/
def rSetI (K : PySem.W.Frag) (w : World) : List V → Hp → VK → Prop := fun xs H Q => ∃ (l : Addr) (ns : List Int), xs = [.ref l] ∧ SqL K H l (ns.map V.int) ∧ ns.length ≤ 60 ∧
  ∀ (a : Addr) (c : Nat), H a = none → c ≤ ns.length → Q (.ref a) (upd H a (SetO w a (fun j => decide (j ∈ ns)) c))
section
variable {X : Cx}
theorem cr_setI (hc : X.calm = true) : CallR X (.type "set") (rSetI X.K X.w) := by
  intro pins s σ H xs us Q I r h
  obtain ⟨l, ns, rfl, hl, hn, q⟩ := h
  rw [Vals.ref1 r]
  obtain ⟨its, rv, pl, hz⟩ := I.list hl
  refine wide_ints (P := X.prog) (w := X.w) (ns := ns) (I.ok.hd hc) pl.isList (by simpa using Vals.ints rv) (by unfold scanBound; omega) ?_
  rintro s2 ⟨h2, tk, c, rfl, f, le, kp⟩
  exact ⟨.ref s.heap.objs.size, upd H s.heap.objs.size (SetO X.w s.heap.objs.size (fun j => decide (j ∈ ns)) c), I.laid (t' := tk) kp (Nat.le_refl _) (setO_new f), rfl, q _ c (I.hok.fresh (Nat.le_refl _)) le⟩
end
/-- ascending lists with the same numbers are the same -/
theorem rise_uniq : ∀ {a b : List Int}, a.Pairwise (· < ·) → b.Pairwise (· < ·) → (∀ k, k ∈ a ↔ k ∈ b) → a = b
  | [], [], _, _, _ => rfl
  | [], y :: b, _, _, h => absurd ((h y).mpr List.mem_cons_self) (by simp)
  | x :: a, [], _, _, h => absurd ((h x).mp List.mem_cons_self) (by simp)
  | x :: a, y :: b, ha, hb, h => by
    have hx := fun {z} (m : z ∈ a) => List.rel_of_pairwise_cons ha m
    have hy := fun {z} (m : z ∈ b) => List.rel_of_pairwise_cons hb m
    have e : x = y := by
      rcases List.mem_cons.mp ((h x).mp List.mem_cons_self) with z | z
      · exact z
      · rcases List.mem_cons.mp ((h y).mpr List.mem_cons_self) with z' | z'
        · exact z'.symm
        · have := hx z'
          have := hy z
          omega
    subst e
    rw [rise_uniq ha.of_cons hb.of_cons fun k => ?_]
    constructor
    · intro m
      rcases List.mem_cons.mp ((h k).mp (List.mem_cons_of_mem _ m)) with z | z
      · have := hx m
        omega
      · exact z
    · intro m
      rcases List.mem_cons.mp ((h k).mpr (List.mem_cons_of_mem _ m)) with z | z
      · have := hy m
        omega
      · exact z

end

def topS (i : Nat) : Stmt := PySem.Challenge.pw_pickaisle_k15_walks.main.body.getD i (.Pass ⟨0, 0, 0, 0⟩)
abbrev s_InvalidPlace___init__ : Stmt := inClass (topS 5) 0
theorem sc_InvalidPlace___init__ : FnScope ["self", "place"] ["self", "place"] (defScope s_InvalidPlace___init__) := ⟨rfl, rfl, rfl, by decide +kernel, rfl, by decide +kernel, by decide +kernel⟩
abbrev s_InvalidWalk___init__ : Stmt := inClass (topS 6) 0
theorem sc_InvalidWalk___init__ : FnScope ["self", "number"] ["self", "number"] (defScope s_InvalidWalk___init__) := ⟨rfl, rfl, rfl, by decide +kernel, rfl, by decide +kernel, by decide +kernel⟩
abbrev s_walk_fault : Stmt := topS 8
theorem sc_walk_fault : FnScope ["house", "walk", "number"] ["house", "walk"] (defScope s_walk_fault) := ⟨rfl, rfl, rfl, by decide +kernel, rfl, by decide +kernel, by decide +kernel⟩
abbrev s_links_of_walk : Stmt := topS 9
theorem sc_links_of_walk : FnScope ["house", "walk", "fault", "one", "other"] ["house", "walk"] (defScope s_links_of_walk) := ⟨rfl, rfl, rfl, by decide +kernel, rfl, by decide +kernel, by decide +kernel⟩
abbrev s_walk_length : Stmt := topS 10
theorem sc_walk_length : FnScope ["house", "walk", "link"] ["house", "walk"] (defScope s_walk_length) := ⟨rfl, rfl, rfl, by decide +kernel, rfl, by decide +kernel, by decide +kernel⟩
abbrev s_House___init__ : Stmt := inClass (topS 16) 0
theorem sc_House___init__ : FnScope ["self", "lengths", "gaps", "closed", "link"] ["self", "lengths", "gaps", "closed"] (defScope s_House___init__) := ⟨rfl, rfl, rfl, by decide +kernel, rfl, by decide +kernel, by decide +kernel⟩
abbrev s_House_lengths : Stmt := inClass (topS 16) 1
theorem sc_House_lengths : FnScope ["self"] ["self"] (defScope s_House_lengths) := ⟨rfl, rfl, rfl, by decide +kernel, rfl, by decide +kernel, by decide +kernel⟩
abbrev s_House_gaps : Stmt := inClass (topS 16) 2
theorem sc_House_gaps : FnScope ["self"] ["self"] (defScope s_House_gaps) := ⟨rfl, rfl, rfl, by decide +kernel, rfl, by decide +kernel, by decide +kernel⟩
abbrev s_House_closed : Stmt := inClass (topS 16) 3
theorem sc_House_closed : FnScope ["self"] ["self"] (defScope s_House_closed) := ⟨rfl, rfl, rfl, by decide +kernel, rfl, by decide +kernel, by decide +kernel⟩
abbrev s_House_top : Stmt := inClass (topS 16) 4
theorem sc_House_top : FnScope ["self"] ["self"] (defScope s_House_top) := ⟨rfl, rfl, rfl, by decide +kernel, rfl, by decide +kernel, by decide +kernel⟩
abbrev s_House_aisles : Stmt := inClass (topS 16) 5
theorem sc_House_aisles : FnScope ["self"] ["self"] (defScope s_House_aisles) := ⟨rfl, rfl, rfl, by decide +kernel, rfl, by decide +kernel, by decide +kernel⟩
abbrev s_House_is_place : Stmt := inClass (topS 16) 7
theorem sc_House_is_place : FnScope ["self", "place", "aisle", "height"] ["self", "place"] (defScope s_House_is_place) := ⟨rfl, rfl, rfl, by decide +kernel, rfl, by decide +kernel, by decide +kernel⟩
abbrev s_House_is_link : Stmt := inClass (topS 16) 9
theorem sc_House_is_link : FnScope ["self", "link", "word", "aisle", "height"] ["self", "link"] (defScope s_House_is_link) := ⟨rfl, rfl, rfl, by decide +kernel, rfl, by decide +kernel, by decide +kernel⟩
abbrev s_House_is_closed : Stmt := inClass (topS 16) 10
theorem sc_House_is_closed : FnScope ["self", "link"] ["self", "link"] (defScope s_House_is_closed) := ⟨rfl, rfl, rfl, by decide +kernel, rfl, by decide +kernel, by decide +kernel⟩
abbrev s_House_length_of : Stmt := inClass (topS 16) 14
theorem sc_House_length_of : FnScope ["self", "link", "word", "aisle", "_"] ["self", "link"] (defScope s_House_length_of) := ⟨rfl, rfl, rfl, by decide +kernel, rfl, by decide +kernel, by decide +kernel⟩
abbrev s_House_link_between : Stmt := inClass (topS 16) 15
theorem sc_House_link_between : FnScope ["self", "one", "other", "aisle", "height", "farther", "link"] ["self", "one", "other"] (defScope s_House_link_between) := ⟨rfl, rfl, rfl, by decide +kernel, rfl, by decide +kernel, by decide +kernel⟩
abbrev s_House_beside : Stmt := inClass (topS 16) 16
theorem sc_House_beside : FnScope ["self", "place", "aisle", "height", "around", "joined", "other", "link"] ["self", "place"] (defScope s_House_beside) := ⟨rfl, rfl, rfl, by decide +kernel, rfl, by decide +kernel, by decide +kernel⟩
abbrev s__are_long : Stmt := topS 17
theorem sc__are_long : FnScope ["numbers", "number"] ["numbers"] (defScope s__are_long) := ⟨rfl, rfl, rfl, by decide +kernel, rfl, by decide +kernel, by decide +kernel⟩
abbrev s__cross_heights : Stmt := topS 18
theorem sc__cross_heights : FnScope ["lengths", "heights", "length"] ["lengths"] (defScope s__cross_heights) := ⟨rfl, rfl, rfl, by decide +kernel, rfl, by decide +kernel, by decide +kernel⟩
abbrev s__law_row : Stmt := topS 20
theorem sc__law_row : FnScope ["cell", "many", "row", "rest", "state", "k"] ["cell", "many"] (defScope s__law_row) := ⟨rfl, rfl, rfl, by decide +kernel, rfl, by decide +kernel, by decide +kernel⟩
abbrev s__law_numbers : Stmt := topS 21
theorem sc__law_numbers : FnScope ["script", "many", "cells", "each", "numbers", "cell", "number"] ["script", "many"] (defScope s__law_numbers) := ⟨rfl, rfl, rfl, by decide +kernel, rfl, by decide +kernel, by decide +kernel⟩
abbrev s__law_all_links : Stmt := topS 22
theorem sc__law_all_links : FnScope ["lengths", "gaps", "top", "found", "aisle", "height"] ["lengths", "gaps"] (defScope s__law_all_links) := ⟨rfl, rfl, rfl, by decide +kernel, rfl, by decide +kernel, by decide +kernel⟩
abbrev s__law_parts : Stmt := topS 23
theorem sc__law_parts : FnScope ["numbers", "at", "lengths", "gaps", "links", "closed", "k", "link"] ["numbers", "at"] (defScope s__law_parts) := ⟨rfl, rfl, rfl, by decide +kernel, rfl, by decide +kernel, by decide +kernel⟩
abbrev s__law_house : Stmt := topS 24
theorem sc__law_house : FnScope ["parts"] ["parts"] (defScope s__law_house) := ⟨rfl, rfl, rfl, by decide +kernel, rfl, by decide +kernel, by decide +kernel⟩
abbrev s__law_beside : Stmt := topS 25
theorem sc__law_beside : FnScope ["parts", "beside", "aisle", "height", "link", "one", "other", "length", "place"] ["parts"] (defScope s__law_beside) := ⟨rfl, rfl, rfl, by decide +kernel, rfl, by decide +kernel, by decide +kernel⟩
abbrev s__law_drawn_walk : Stmt := topS 26
theorem sc__law_drawn_walk : FnScope ["beside", "numbers", "at", "many", "places", "walk", "k", "around"] ["beside", "numbers", "at", "many"] (defScope s__law_drawn_walk) := ⟨rfl, rfl, rfl, by decide +kernel, rfl, by decide +kernel, by decide +kernel⟩
abbrev s__law_due : Stmt := topS 27
theorem sc__law_due : FnScope ["beside", "walk", "total", "k", "lengths", "other", "length"] ["beside", "walk"] (defScope s__law_due) := ⟨rfl, rfl, rfl, by decide +kernel, rfl, by decide +kernel, by decide +kernel⟩
abbrev s__law_length : Stmt := topS 28
theorem sc__law_length : FnScope ["house", "walk", "e"] ["house", "walk"] (defScope s__law_length) := ⟨rfl, rfl, rfl, by decide +kernel, rfl, by decide +kernel, by decide +kernel⟩
abbrev s_law : Stmt := topS 29
theorem sc_law : FnScope ["script", "numbers", "parts", "house", "beside", "places", "walk", "at", "drawn", "bad", "walks", "k", "one", "other", "links", "link", "length", "row", "fault", "handed", "told", "due"] ["script"] (defScope s_law) := ⟨rfl, rfl, rfl, by decide +kernel, rfl, by decide +kernel, by decide +kernel⟩
/-! ### heaps -/
theorem same_upd {H : Hp} {p : Addr} {o : HO} (h : H p = none) : Same H (upd H p o) := fun b x e => by
  rw [upd_ne (ne_of_none e h)]
  exact e
/-- a list of numbers below 1009 -/
def Small (ns : List Int) : Prop := ∀ n ∈ ns, 0 ≤ n ∧ n < 1009
theorem Small.nil : Small [] := fun _ h => nomatch h
theorem Small.snoc {ns : List Int} (h : Small ns) {n : Int} (h0 : 0 ≤ n) (h1 : n < 1009) : Small (ns ++ [n]) := fun k hk => by
  rcases List.mem_append.mp hk with z | z
  · exact h k z
  · rw [List.mem_singleton] at z
    subst z
    exact ⟨h0, h1⟩
theorem small1e7 {n : Nat} (h : n ≤ 100000) : n < sizeLine := Nat.lt_of_le_of_lt h (by decide)
section
local macro_rules | `(tactic| walk_at "rd1") => `(tactic| first
  | (refine Exists.intro _ (And.intro rfl ?_))
  | (refine ⟨_, _, rfl, rfl, ?_⟩)
  | (refine Or.inl (Exists.intro _ (And.intro rfl ?_)))
  | (refine ⟨_, _, _, rfl, rfl, by assumption, by assumption, ?_⟩)
  | (refine And.intro (Or.inl ⟨rfl, _, SqL.of (by assumption)⟩) ?_)
  | (refine And.intro (by (first | omega | (dsimp only; omega) | (constructor <;> omega) | (refine Or.inl ?_; constructor <;> omega) | (refine Or.inr ?_; constructor <;> omega) | exact ⟨by decide, by decide, by decide⟩)) ?_))
local macro_rules | `(tactic| walk_at "rd") => `(tactic| repeat walk_at "rd1")
variable {P : Program} {w : World} {K : PySem.W.Frag} {mg : Str → Option Value} {base : Heap}
/-- the names of built-ins that no def of the text hides -/
structure DrawTxt (mg : Str → Option Value) (fR : Addr) : Prop where
  abs : mg "abs" = none
  int : mg "int" = none
  range : mg "range" = none
  len : mg "len" = none
  max : mg "max" = none
  row : mg "_law_row" = some (.ref fR)
/-- a row of numbers: a new list of as many numbers as asked, each from 0 to 1008 -/
def spRow : Sp := fun vs H Q _ => ∃ (c : Int) (m : Nat), vs = [.int c, .int m] ∧ m ≤ 1000 ∧
  ∀ (H' : Hp) (p : Addr) (ns : List Int), Same H H' → H p = none → H' p = some (.lst (ns.map V.int)) → ns.length = m → Small ns → Q (.ref p) H'
theorem ok_row {f fR : Addr} {fd : FuncData} {k : Nat} (F : Fun K "_law_row" "_law_row" s__law_row f fd) (T : DrawTxt mg fR) : FnOk P w K mg base CX0 (k + 1) f fd ["cell", "many"] spRow := by
  refine F.ok sc__law_row (fun vs H Q E h => ?_) (fun cdv A outer s H vs Q E hr h => ?_)
  · obtain ⟨c, m, rfl, _⟩ := h
    rfl
  · obtain ⟨c, m, rfl, hm, q⟩ := h
    have nd := sc__law_row.nd
    refine ⟨_, pss_cons (ps_set (i := 2) nd rfl (.inl rfl) (pe_lst pa_nil))
      (pss_cons (ps_set (i := 3) nd rfl (.inl rfl) pe_int)
      (pss_cons (ps_if (pt_cmpR op_ge (pe_callB call_abs (by rfl) T.abs (by decide +kernel) (pa_cons (pv 0) pa_nil)) (pe_op op_pow pe_int pe_int) (nomark _))
          (pss_one (ps_set (i := 3) nd rfl (.inl rfl) (pe_callB call_abs (by rfl) T.abs (by decide +kernel) (pa_cons (pv 0) pa_nil)))) pss_nil)
      (pss_cons (ps_set (i := 4) nd rfl (.inl rfl) (pe_op op_mod (pe_callTy call_int1 (by rfl) T.int (by decide +kernel) (pa_cons (pe_callB call_abs (by rfl) T.abs (by decide +kernel) (pa_cons (pv 0) pa_nil)) pa_nil)) pe_int))
      (pss_cons (ps_for PassesOwn.never rfl (pi_range1 rfl T.range (pa_cons (pv 1) pa_nil)) (pg_name (i := 5) nd rfl (.inl rfl))
        (pss_cons (ps_set (i := 4) nd rfl (.inl rfl) (pe_op op_mod (pe_callTy call_int1 (by rfl) T.int (by decide +kernel)
            (pa_cons (pe_op op_add (pe_op op_mul (pe_op op_add (pv 4) pe_int) pe_int) (pe_op op_mul pe_int (pv 5))) pa_nil)) pe_int))
        (pss_one (ps_if (pt_cmpR op_gt (pv 3) pe_int (nomark _))
          (pss_cons (ps_expr (pe_bm PySem.F.plainAttrs_list PySem.F.slot_list_append PySem.F.type_list_append mt_append (pv 2)
              (pa_cons (pe_op op_mod (pe_callTy call_int1 (by rfl) T.int (by decide +kernel) (pa_cons (pv 3) pa_nil)) pe_int) pa_nil)))
            (pss_one (ps_set (i := 3) nd rfl (.inl rfl) (pe_op op_fdiv (pv 3) pe_int))))
          (pss_one (ps_expr (pe_bm PySem.F.plainAttrs_list PySem.F.slot_list_append PySem.F.type_list_append mt_append (pv 2)
              (pa_cons (pe_op op_mod (pe_callTy call_int1 (by rfl) T.int (by decide +kernel) (pa_cons (pe_op op_fdiv (pv 4) pe_int) pa_nil)) pe_int) pa_nil))))))))
      (pss_one (ps_ret (pv 2))))))), ?_⟩
    refine ⟨Nat.zero_le _, fun r nr => ?_⟩
    have s1 : Same H (upd H r (.lst [])) := same_upd nr
    walk_at "rd"
    refine ite2 (fun hc => ?_) (fun hc => ?_)
    all_goals
      walk_at "rd"
      refine for_range (lo := 0) (n := m) (fun i σ H' => ∃ (ns : List Int) (rst st : Int) (vk : Option V), σ = [some (.int c), some (.int m), some (.ref r), some (.int rst), some (.int st), vk] ∧ Same H H' ∧ H' r = some (.lst (ns.map V.int)) ∧ ns.length = i ∧ Small ns ∧ 0 ≤ st ∧ st < 2147483647)
        ⟨[], _, _, none, rfl, s1, upd_same, rfl, Small.nil, Int.emod_nonneg _ (by decide), Int.emod_lt_of_pos _ (by decide)⟩ ?_ ?_
      · rintro i σ H' hi ⟨ns, rst, st, vk, rfl, sm, hrow, hl, hs, h0, h1⟩
        have hlen : (ns.map V.int).length < sizeLine := by
          rw [List.length_map]
          exact small1e7 (by omega)
        walk_at "rd"
        refine ite2 (fun hc2 => ?_) (fun hc2 => ?_)
        · walk_at "rd"
          refine ⟨ns ++ [rst % 1009], _, _, _, rfl, fun b o e => ?_, ?_, ?_, hs.snoc (Int.emod_nonneg _ (by decide)) (Int.emod_lt_of_pos _ (by decide)), Int.emod_nonneg _ (by decide), Int.emod_lt_of_pos _ (by decide)⟩
          · rw [upd_ne (ne_of_none e nr)]
            exact sm b o e
          · rw [upd_same, List.map_append]
            rfl
          · rw [List.length_append, hl]
            rfl
        · walk_at "rd"
          refine ⟨ns ++ [((st + 1) * 48271 + 69621 * (0 + (i : Int))) % 2147483647 / 2048 % 1009], _, _, _, rfl, fun b o e => ?_, ?_, ?_, hs.snoc (Int.emod_nonneg _ (by decide)) (Int.emod_lt_of_pos _ (by decide)), Int.emod_nonneg _ (by decide), Int.emod_lt_of_pos _ (by decide)⟩
          · rw [upd_ne (ne_of_none e nr)]
            exact sm b o e
          · rw [upd_same, List.map_append]
            rfl
          · rw [List.length_append, hl]
            rfl
      · rintro σ H' ⟨ns, rst, st, vk, rfl, sm, hrow, hl, hs, h0, h1⟩
        exact ⟨_, rfl, q H' r ns sm nr hrow hl hs⟩
/-- as many numbers as asked, drawn from the script: a new list, each from 0 to 1008 -/
def spNumbers (K : PySem.W.Frag) : Sp := fun vs H Q _ => ∃ (a : Addr) (xs : List Int) (m : Nat), vs = [.ref a, .int m] ∧ SqL K H a (xs.map V.int) ∧ xs.length ≤ 63 ∧ m ≤ 200 ∧
  ∀ (H' : Hp) (p : Addr) (ns : List Int), Same H H' → H p = none → H' p = some (.lst (ns.map V.int)) → ns.length = m → Small ns → Q (.ref p) H'
theorem cut_all (xs : List V) (h : xs.length ≤ 63) : cutV xs none (some 63) = xs := by
  unfold cutV
  rw [show HT.sIx xs.length xs.length (some 63) = min 63 xs.length from HT.sIx_nat xs.length xs.length 63, HT.sIx_none, List.drop_zero, Nat.sub_zero, Nat.min_eq_right h, List.take_length]
theorem cut_to (xs : List V) (m : Nat) : cutV xs none (some (m : Int)) = xs.take m := by
  unfold cutV
  rw [HT.sIx_nat, HT.sIx_none, List.drop_zero, Nat.sub_zero]
  rcases Nat.le_total m xs.length with h | h
  · rw [Nat.min_eq_left h]
  · rw [Nat.min_eq_right h, List.take_length, List.take_of_length_le h]
def lenAt (H : Hp) (p : Addr) : Nat := match H p with
  | some (.lst xs) => xs.length
  | _ => 0
theorem lenAt_of {H : Hp} {p : Addr} {xs : List V} (h : H p = some (.lst xs)) : lenAt H p = xs.length := by
  unfold lenAt
  rw [h]
theorem each_nat (m n : Nat) (hm : m ≤ 200) : ∃ e : Nat, 1 + (m : Int).fdiv (if (n : Int) > 1 then (n : Int) else 1) = (e : Int) ∧ e ≤ 201 := by
  have hp : 0 < (if (n : Int) > 1 then (n : Int) else 1) := by split <;> omega
  have e1 : (m : Int).fdiv (if (n : Int) > 1 then (n : Int) else 1) = (m : Int) / (if (n : Int) > 1 then (n : Int) else 1) := Int.fdiv_eq_ediv_of_nonneg _ (Int.le_of_lt hp)
  have h0 : 0 ≤ (m : Int) / (if (n : Int) > 1 then (n : Int) else 1) := Int.ediv_nonneg (by omega) (Int.le_of_lt hp)
  have h1 : (m : Int) / (if (n : Int) > 1 then (n : Int) else 1) ≤ m := Int.ediv_le_self _ (by omega)
  rw [e1]
  exact ⟨(1 + (m : Int) / (if (n : Int) > 1 then (n : Int) else 1)).toNat, by omega, by omega⟩
theorem ok_numbers {f fR : Addr} {fd fdR : FuncData} (F : Fun K "_law_numbers" "_law_numbers" s__law_numbers f fd) (T : DrawTxt mg fR) (FR : Fun K "_law_row" "_law_row" s__law_row fR fdR) (bR : Binds K fdR ["cell", "many"] []) :
    FnOk P w K mg base CX0 2 f fd ["script", "many"] (spNumbers K) := by
  have GR : FnOk P w K mg base CX0 1 fR fdR ["cell", "many"] spRow := ok_row FR T
  refine F.ok sc__law_numbers (fun vs H Q E h => ?_) (fun cdv A outer s H vs Q E hr h => ?_)
  · obtain ⟨a, xs, m, rfl, _⟩ := h
    rfl
  · obtain ⟨a, xs, m, rfl, hS, hx, hm, q⟩ := h
    have nd := sc__law_numbers.nd
    refine ⟨_, pss_cons (ps_set (i := 2) nd rfl (.inl rfl) (pe_slice sl_list (pv 0) po_none (po_some pe_int)))
      (pss_cons (ps_set (i := 3) nd rfl (.inl rfl) (pe_op op_add pe_int (pe_op op_fdivN (pv 1) (pe_callB (call_max2 rfl) (by rfl) T.max (by decide +kernel)
          (pa_cons pe_int (pa_cons (pe_callB call_len (by rfl) T.len (by decide +kernel) (pa_cons (pv 2) pa_nil)) pa_nil))))))
      (pss_cons (ps_set (i := 4) nd rfl (.inl rfl) (pe_lst pa_nil))
      (pss_cons (ps_for PassesOwn.never rfl (pi_list (pv 2)) (pg_name (i := 5) nd rfl (.inl rfl))
        (pss_one (ps_for PassesOwn.never rfl (pi_list (pe_call GR hr (by rfl) T.row FR.kp bR .nil pass0 (pa_cons (pv 5) (pa_cons (pv 3) pa_nil)))) (pg_name (i := 6) nd rfl (.inl rfl))
          (pss_one (ps_expr (pe_bm PySem.F.plainAttrs_list PySem.F.slot_list_append PySem.F.type_list_append mt_append (pv 4) (pa_cons (pv 6) pa_nil)))))))
      (pss_cons (ps_while PassesOwn.never (pt_cmpR op_lt (pe_callB call_len (by rfl) T.len (by decide +kernel) (pa_cons (pv 4) pa_nil)) (pv 1) (nomark _))
        (pss_one (ps_expr (pe_bm PySem.F.plainAttrs_list PySem.F.slot_list_append PySem.F.type_list_append mt_append (pv 4) (pa_cons pe_int pa_nil)))))
      (pss_one (ps_ret (pe_slice sl_list (pv 4) po_none (po_some (pv 1))))))))), ?_⟩
    refine ⟨_, rfl, _, rfl, a, _, rfl, hS, fun c nc => ?_⟩
    rw [cut_all _ (by rw [List.length_map]; exact hx)]
    have s1 : Same H (upd H c (.lst (xs.map V.int))) := same_upd nc
    refine ⟨_, rfl, _, rfl, _, _, rfl, .inl ⟨_, SqL.of upd_same, rfl⟩, _, _, rfl, _, _, rfl, rfl, ?_, ?_⟩
    · constructor
      · rw [List.length_map]
        split <;> omega
      · rw [List.length_map]
        split <;> omega
    refine ⟨_, _, rfl, rfl, ?_⟩
    dsimp only
    obtain ⟨e, he, hle⟩ := each_nat m (List.map V.int xs).length hm
    rw [he]
    refine ⟨Nat.zero_le _, fun b nb => ?_⟩
    have s2 : Same (upd H c (.lst (xs.map V.int))) (upd (upd H c (.lst (xs.map V.int))) b (.lst [])) := same_upd nb
    have nbc : c ≠ b := ne_of_none upd_same nb
    have nb0 : H b = none := s1.free nb
    -- for cell in cells
    refine ⟨_, rfl, c, rfl, ⟨_, SqL.of (s2 _ _ upd_same)⟩, for_list (K := K) (a := c) (xs := xs.map V.int) (fun i σ H' => ∃ (ns : List Int) (v5 v6 : Option V), σ = [some (.ref a), some (.int m), some (.ref c), some (.int e), some (.ref b), v5, v6] ∧ Same H H' ∧ H' c = some (.lst (xs.map V.int)) ∧ H' b = some (.lst (ns.map V.int)) ∧ ns.length ≤ i * 201 ∧ Small ns)
      ⟨[], none, none, rfl, s1.trans s2, s2 _ _ upd_same, upd_same, Nat.zero_le _, Small.nil⟩ (fun i σ H' _ ⟨_, _, _, _, _, hc, _⟩ => SqL.of hc) ?_ ?_⟩
    · rintro i y σ H' hi ⟨ns, v5, v6, rfl, sm, hc, hb, hl, hs⟩
      obtain ⟨z, hz, rfl⟩ : ∃ z, xs[i]? = some z ∧ y = V.int z := by
        rw [List.getElem?_map] at hi
        cases e : xs[i]? with
        | none =>
          rw [e] at hi
          cases hi
        | some z =>
          rw [e] at hi
          exact ⟨z, rfl, (Option.some.inj hi).symm⟩
      have hil : i < xs.length := (List.getElem?_eq_some_iff.mp hz).1
      -- for number in _law_row(cell, each)
      refine ⟨_, rfl, _, rfl, z, e, rfl, by omega, fun H2 r rs s3 nr hr2 hrl hrs => ?_⟩
      refine ⟨r, rfl, ⟨_, SqL.of hr2⟩, for_list (K := K) (a := r) (xs := rs.map V.int) (fun j σ H3 => ∃ (ms : List Int) (v6 : Option V), σ = [some (.ref a), some (.int m), some (.ref c), some (.int e), some (.ref b), some (.int z), v6] ∧ Same H H3 ∧ H3 r = some (.lst (rs.map V.int)) ∧ H3 c = some (.lst (xs.map V.int)) ∧ H3 b = some (.lst (ms.map V.int)) ∧ ms.length = ns.length + j ∧ Small ms)
        ⟨ns, v6, rfl, sm.trans s3, hr2, s3 _ _ hc, s3 _ _ hb, rfl, hs⟩ (fun j σ H3 _ ⟨_, _, _, _, h, _⟩ => SqL.of h) ?_ ?_⟩
      · rintro j y σ H3 hj ⟨ms, v6, rfl, sm3, hr3, hc3, hb3, hl3, hs3⟩
        obtain ⟨n, hn, rfl⟩ : ∃ n, rs[j]? = some n ∧ y = V.int n := by
          rw [List.getElem?_map] at hj
          cases e : rs[j]? with
          | none =>
            rw [e] at hj
            cases hj
          | some z =>
            rw [e] at hj
            exact ⟨z, rfl, (Option.some.inj hj).symm⟩
        have hjl : j < rs.length := (List.getElem?_eq_some_iff.mp hn).1
        have hb3l : (ms.map V.int).length < sizeLine := by
          rw [List.length_map]
          exact small1e7 (by omega)
        have nrb : r ≠ b := fun z => by
          rw [z] at nr
          rw [nr] at hb
          cases hb
        obtain ⟨g0, g1⟩ := hrs n (List.mem_of_getElem? hn)
        walk_at "rd"
        refine ⟨ms ++ [n], _, rfl, fun d o e => ?_, by rw [upd_ne nrb]; exact hr3, by rw [upd_ne nbc]; exact hc3, ?_, ?_, hs3.snoc g0 g1⟩
        · rw [upd_ne (ne_of_none e nb0)]
          exact sm3 d o e
        · rw [upd_same, List.map_append]
          rfl
        · rw [List.length_append, hl3]
          rfl
      · rintro σ H3 ⟨ms, v6, rfl, sm3, hr3, hc3, hb3, hl3, hs3⟩
        rw [List.length_map] at hl3
        exact ⟨ms, _, _, rfl, sm3, hc3, hb3, by rw [Nat.succ_mul]; omega, hs3⟩
    · rintro σ H' ⟨ns, v5, v6, rfl, sm, hc, hb, hl, hs⟩
      rw [List.length_map] at hl
      -- while len(numbers) < many
      refine while_by (fun σ H' => ∃ ns : List Int, σ = [some (.ref a), some (.int m), some (.ref c), some (.int e), some (.ref b), v5, v6] ∧ Same H H' ∧ H' b = some (.lst (ns.map V.int)) ∧ Small ns) (fun _ H' => m - lenAt H' b)
        ⟨ns, rfl, sm, hb, hs⟩ ?_ ?_
      · rintro σ H' ⟨ns, rfl, sm, hb, hs⟩
        refine ⟨_, rfl, _, _, rfl, .inl ⟨_, SqL.of hb, rfl⟩, _, rfl, _, _, rfl, rfl, _, rfl, ?_⟩
        rw [List.length_map]
        refine ite2 (fun hlt => ?_) (fun hlt => ?_)
        · have hlt' : ns.length < m := by
            have := of_decide_eq_true hlt
            omega
          have hbl : (ns.map V.int).length < sizeLine := by
            rw [List.length_map]
            exact small1e7 (by omega)
          walk_at "rd"
          refine ⟨⟨ns ++ [0], rfl, fun d o e => ?_, ?_, hs.snoc (by decide) (by decide)⟩, ?_⟩
          · rw [upd_ne (ne_of_none e nb0)]
            exact sm d o e
          · rw [upd_same, List.map_append]
            rfl
          · rw [lenAt_of upd_same, lenAt_of hb, List.length_append, List.length_map]
            show m - (ns.length + 1) < m - ns.length
            omega
        · have hge : m ≤ ns.length := by
            have : ¬ ((ns.length : Int) < (m : Int)) := fun z => hlt (decide_eq_true z)
            omega
          refine ⟨_, rfl, _, rfl, _, rfl, b, _, rfl, SqL.of hb, fun p np => ?_⟩
          rw [cut_to, ← List.map_take]
          refine q _ p (ns.take m) (fun d o e => ?_) (sm.free np) upd_same (by rw [List.length_take]; omega) (fun n hn => hs n (List.mem_of_mem_take hn))
          rw [upd_ne (ne_of_none (sm d o e) np)]
          exact sm d o e
      · rintro σ H Q Q' h ⟨v, e1, x, n, e2, l, u, e3, i, j, ei, ej, k, ek, q⟩
        exact ⟨v, e1, x, n, e2, l, u, e3, i, j, ei, ej, k, ek, h _ _ q⟩
end

/-! ### houses: their helpers -/
section
open GxR NdefX PySem.Spec PyProof.Rows
variable {P : Program} {w : World} {K : PySem.W.Frag} {mg : Str → Option Value} {base : Heap}
def longN (n : Int) : Bool := decide (1 ≤ n) && decide (n ≤ 40)
/-- what the top has left for them -/
structure HouseTop (mg : Str → Option Value) : Prop where
  all : mg "all" = none
  len : mg "len" = none
  sum : mg "sum" = none
  list : mg "list" = none
  sorted : mg "sorted" = none
  range : mg "range" = none
  longest : ∃ t, mg "LONGEST" = some (.int 40 t)
  stretches : ∃ t, mg "MOST_STRETCHES" = some (.int 2 t)
  mostGaps : ∃ t, mg "MOST_GAPS" = some (.int 11 t)
  mostClosed : ∃ t, mg "MOST_CLOSED" = some (.int 200 t)
def spLong (K : PySem.W.Frag) (T : Addr) : Sp := fun vs H Q _ => ∃ (l : Addr) (ns : List Int), vs = [.ref l] ∧ SqL K H l (ns.map V.int) ∧ TabG H T ∧
  ∀ H', Tabbed T H H' → Q (.bl (ns.all longN)) H'
theorem ok_long {f c T : Addr} {fd : FuncData} (F : FunC K "_are_long" "_are_long" s__are_long f c fd) (Z : HouseTop mg) (TB : TabB base mg c T) : FnOk P w K mg base CX0 3 f fd ["numbers"] (spLong K T) := by
  refine F.ok sc__are_long (fun vs H Q E h => ?_) (fun A outer s H vs Q E hr h => ?_)
  · obtain ⟨l, ns, rfl, _⟩ := h
    rfl
  · obtain ⟨l, ns, rfl, hl, ht, q⟩ := h
    obtain ⟨t, hlong⟩ := Z.longest
    refine ⟨_, pss_one (ps_ret (pe_allG (k := 1) (N := ["number"]) (fr := [none]) (g := gName 0) hr (by rfl) Z.all (by decide +kernel) TB rfl (gsc_by (outer := defScope s__are_long) rfl rfl (by decide +kernel)) (gfr_by (outer := defScope s__are_long) (XN := ["numbers", "number"]) rfl rfl (by decide +kernel)) (pi_list (pv 0))
      (fun B s0 H0 cd fp rB => ⟨pg_name (i := 0) (show (["number"] : List Str).Nodup by decide) rfl (.inl rfl), pe_chain op_le op_le pe_int (pv 0) (pe_glob (v := .int 40) rfl hlong ⟨_, rfl⟩)⟩) (fun _ => rfl))), ?_⟩
    refine ⟨_, rfl, l, rfl, ⟨_, hl⟩, ht, fun H2 t2 => ?_⟩
    have hl2 : SqL K H2 l (ns.map V.int) := (Tabbed.kp t2 ht).seq hl
    refine for_list (K := K) (a := l) (xs := ns.map V.int) (fun i σ H' => (∃ z, σ = [z]) ∧ H' = H2 ∧ (ns.take i).all longN = true) ?_ ?_ ?_ ?_
    · exact ⟨⟨none, rfl⟩, rfl, rfl⟩
    · rintro i σ H' _ ⟨_, rfl, _⟩
      exact hl2
    · rintro i x σ H' hx ⟨⟨z, rfl⟩, rfl, hp⟩
      rw [List.getElem?_map] at hx
      cases hn : ns[i]? with
      | none => rw [hn] at hx; cases hx
      | some n =>
        rw [hn] at hx
        cases hx
        have et : ns.take (i + 1) = ns.take i ++ [n] := by rw [List.take_add_one, hn]; rfl
        have fals : longN n = false → ns.all longN = false := fun e => by
          rw [Bool.eq_false_iff]
          intro z
          rw [List.all_eq_true] at z
          rw [z n (List.mem_of_getElem? hn)] at e
          cases e
        refine ⟨_, rfl, _, _, rfl, rfl, _, rfl, ?_⟩
        refine ite2 (fun h1 => ?_) (fun h1 => ?_)
        · refine ⟨_, _, rfl, rfl, _, rfl, ?_⟩
          refine ite2 (fun h2 => ?_) (fun h2 => ?_)
          · have e : longN n = false := by
              unfold longN
              rw [h2, Bool.and_false]
            have z := q H' t2
            rw [fals e] at z
            exact z
          · refine ⟨⟨_, rfl⟩, rfl, ?_⟩
            have e2 : decide (n ≤ 40) = true := by simpa using h2
            rw [et, List.all_append, hp]
            show (true && (longN n && true)) = true
            unfold longN
            rw [h1, e2]
            rfl
        · refine ⟨_, rfl, ?_⟩
          rw [if_pos rfl]
          have e : longN n = false := by
            unfold longN
            rw [show decide (1 ≤ n) = false by simpa using h1]
            rfl
          have z := q H' t2
          rw [fals e] at z
          exact z
    · rintro σ H' ⟨_, rfl, hp⟩
      rw [List.length_map, List.take_length] at hp
      have z := q H' t2
      rw [hp] at z
      exact z
end

/-! ### houses: cross heights, links -/
section
open GxR NdefX PySem.Spec PyProof.Rows
variable {P : Program} {w : World} {K : PySem.W.Frag} {mg : Str → Option Value} {base : Heap}
def crossN (ns : List Int) : List Int := (List.range (ns.length + 1)).map fun k => (ns.take k).sum
theorem atI_last {α : Type} (xs : List α) (x : α) : atI (xs ++ [x]) (-1) = some x := by
  unfold atI ixN
  rw [if_neg (by decide), List.length_append]
  have h : (-(1 : Int) : Int) + ((xs.length + [x].length : Nat) : Int) = (xs.length : Int) := by
    show (-1 : Int) + ((xs.length + 1 : Nat) : Int) = _
    omega
  split
  · show (xs ++ [x])[(-1 + ((xs.length + [x].length : Nat) : Int)).toNat]? = some x
    rw [h]
    simp
  · rename_i z
    exact absurd (by show -((xs.length + 1 : Nat) : Int) ≤ -1; omega) z
def spCross (K : PySem.W.Frag) : Sp := fun vs H Q _ => ∃ (l : Addr) (ns : List Int), vs = [.ref l] ∧ SqL K H l (ns.map V.int) ∧ ns.length ≤ 1000 ∧
  ∀ (H' : Hp) (p : Addr), Same H H' → H p = none → H' p = some (.lst ((crossN ns).map V.int)) → Q (.ref p) H'
theorem ok_cross {f : Addr} {fd : FuncData} (F : Fun K "_cross_heights" "_cross_heights" s__cross_heights f fd) : FnOk P w K mg base CX0 2 f fd ["lengths"] (spCross K) := by
  refine F.ok sc__cross_heights (fun vs H Q E h => ?_) (fun cdv A outer s H vs Q E hr h => ?_)
  · obtain ⟨l, ns, rfl, _⟩ := h
    rfl
  · obtain ⟨l, ns, rfl, hl, hn, q⟩ := h
    have nd := sc__cross_heights.nd
    refine ⟨_, (pss_cons (ps_set (i := 1) nd rfl (.inl rfl) (pe_lst (pa_cons pe_int pa_nil)))
      (pss_cons (ps_for PassesOwn.never rfl (pi_list (pv 0)) (pg_name (i := 2) nd rfl (.inl rfl)) (pss_one (ps_expr (pe_bm PySem.F.plainAttrs_list PySem.F.slot_list_append PySem.F.type_list_append mt_append (pv 1) (pa_cons (pe_op op_add (pe_ix ix_list (pv 1) (pe_un un_neg pe_int) (fun _ _ => rfl)) (pv 2)) pa_nil)))))
      (pss_one (ps_ret (pv 1))))), ?_⟩
    refine ⟨by decide, fun r nr => ?_⟩
    have sR : ∀ o, Same H (upd H r o) := fun o => same_upd nr
    refine ⟨_, rfl, l, rfl, ⟨_, (sR _).seq hl⟩, ?_⟩
    refine for_list (K := K) (a := l) (xs := ns.map V.int) (fun i σ H' => (∃ z, σ = [some (.ref l), some (.ref r), z]) ∧ H' = upd H r (.lst (((List.range (i + 1)).map fun k => (ns.take k).sum).map V.int))) ?_ ?_ ?_ ?_
    · exact ⟨⟨none, rfl⟩, rfl⟩
    · rintro i σ H' _ ⟨_, rfl⟩
      exact (sR _).seq hl
    · rintro i x σ H' hx ⟨⟨z, rfl⟩, rfl⟩
      rw [List.getElem?_map] at hx
      cases hi : ns[i]? with
      | none => rw [hi] at hx; cases hx
      | some n =>
        rw [hi] at hx
        cases hx
        have lt := (List.getElem?_eq_some_iff.mp hi).1
        have et : ns.take (i + 1) = ns.take i ++ [n] := by rw [List.take_add_one, hi]; rfl
        have er : ((List.range (i + 1)).map fun k => (ns.take k).sum).map V.int = (((List.range i).map fun k => (ns.take k).sum).map V.int) ++ [V.int (ns.take i).sum] := by
          rw [List.range_succ, List.map_append, List.map_append]
          rfl
        refine ⟨_, rfl, ?_⟩
        refine And.intro (Or.inl ⟨rfl, _, SqL.of upd_same⟩) ?_
        refine ⟨_, rfl, _, rfl, r, _, -1, _, rfl, rfl, SqL.of upd_same, by rw [er]; exact atI_last _ _, _, rfl, _, _, rfl, rfl, ?_⟩
        refine ⟨r, _, _, rfl, rfl, upd_same, ?_, ⟨_, rfl⟩, ?_⟩
        · rw [List.length_map, List.length_map, List.length_range, sizeLine_eq]
          omega
        · rw [upd_upd, List.range_succ (n := i + 1), List.map_append, List.map_append]
          show upd H r (.lst (_ ++ [V.int ((ns.take i).sum + n)])) = upd H r (.lst (_ ++ [V.int (ns.take (i + 1)).sum]))
          rw [et, List.sum_append]
          simp
    · rintro σ H' ⟨⟨z, rfl⟩, rfl⟩
      refine ⟨_, rfl, ?_⟩
      rw [List.length_map]
      exact q _ r (sR _) nr upd_same
end

/-! ### houses: what stands in one -/
section
open GxR NdefX PySem.Spec PyProof.Rows
variable {P : Program} {w : World} {K : PySem.W.Frag} {mg : Str → Option Value} {base : Heap}
def hf (l g c t d : V) : List (Str × V) := putF "_closed" d (putF "_top" t (putF "_crosses" c (putF "_gaps" g (putF "_lengths" l []))))
theorem hk1 : ¬ (("_lengths" : Str) = "_gaps") := by decide +kernel
theorem hk2 : ¬ (("_lengths" : Str) = "_crosses") := by decide +kernel
theorem hk3 : ¬ (("_lengths" : Str) = "_top") := by decide +kernel
theorem hk4 : ¬ (("_lengths" : Str) = "_closed") := by decide +kernel
theorem hk5 : ¬ (("_gaps" : Str) = "_crosses") := by decide +kernel
theorem hk6 : ¬ (("_gaps" : Str) = "_top") := by decide +kernel
theorem hk7 : ¬ (("_gaps" : Str) = "_closed") := by decide +kernel
theorem hk8 : ¬ (("_crosses" : Str) = "_top") := by decide +kernel
theorem hk9 : ¬ (("_crosses" : Str) = "_closed") := by decide +kernel
theorem hk10 : ¬ (("_top" : Str) = "_closed") := by decide +kernel
section
variable (l g c t d : V)
theorem hf_lengths : (hf l g c t d).lookup ("_lengths" : Str) = some l := by
  unfold hf
  rw [lookup_putF, if_neg hk4, lookup_putF, if_neg hk3, lookup_putF, if_neg hk2, lookup_putF, if_neg hk1, lookup_putF, if_pos rfl]
theorem hf_gaps : (hf l g c t d).lookup ("_gaps" : Str) = some g := by
  unfold hf
  rw [lookup_putF, if_neg hk7, lookup_putF, if_neg hk6, lookup_putF, if_neg hk5, lookup_putF, if_pos rfl]
theorem hf_crosses : (hf l g c t d).lookup ("_crosses" : Str) = some c := by
  unfold hf
  rw [lookup_putF, if_neg hk9, lookup_putF, if_neg hk8, lookup_putF, if_pos rfl]
theorem hf_top : (hf l g c t d).lookup ("_top" : Str) = some t := by
  unfold hf
  rw [lookup_putF, if_neg hk10, lookup_putF, if_pos rfl]
theorem hf_closed : (hf l g c t d).lookup ("_closed" : Str) = some d := by
  unfold hf
  rw [lookup_putF, if_pos rfl]
theorem hf_no {m : Str} (h1 : ¬ m = "_lengths") (h2 : ¬ m = "_gaps") (h3 : ¬ m = "_crosses") (h4 : ¬ m = "_top") (h5 : ¬ m = "_closed") : (hf l g c t d).lookup m = none := by
  unfold hf
  rw [lookup_putF, if_neg h5, lookup_putF, if_neg h4, lookup_putF, if_neg h3, lookup_putF, if_neg h2, lookup_putF, if_neg h1]
  rfl
end
/-- a link's key -/
def lk (x : Str) (a h : Int) : Tk := [.inr x, .inl a, .inl h]
/-- it is one of the house -/
def isLk (ls gs : List Int) (x : Str) (a h : Int) : Bool :=
  if x = "up" then (decide (0 ≤ a) && decide (a ≤ gs.length)) && (decide (0 ≤ h) && decide (h < ls.sum))
  else decide (x = "over") && ((decide (0 ≤ a) && decide (a < gs.length)) && decide (h ∈ crossN ls))
/-- the fields that do not tell the closed links -/
def PartAt (C : Addr) (H : Hp) (p : Addr) (ls gs : List Int) : Prop := ∃ (dx l g c : Addr) (d : V), H p = some (.ins C dx (hf (.ref l) (.ref g) (.ref c) (.int ls.sum) d)) ∧
  H l = some (.lst (ls.map V.int)) ∧ H g = some (.lst (gs.map V.int)) ∧ H c = some (.lst ((crossN ls).map V.int))
theorem PartAt.kp {C : Addr} {H H' : Hp} {p : Addr} {ls gs : List Int} (h : PartAt C H p ls gs) (k : Kp H H') : PartAt C H' p ls gs := by
  obtain ⟨dx, l, g, c, d, h1, h2, h3, h4⟩ := h
  exact ⟨dx, l, g, c, d, k.ins h1, k.lst h2, k.lst h3, k.lst h4⟩
structure HouseTxt (K : PySem.W.Frag) (mg : Str → Option Value) (C : Addr) : Prop where
  cl : Cls K C
  nL : NoAttr K C "_lengths"
  nG : NoAttr K C "_gaps"
  nX : NoAttr K C "_crosses"
  nT : NoAttr K C "_top"
  nC : NoAttr K C "_closed"
theorem inV_ints (x : Int) (ns : List Int) : inV (.int x) (ns.map V.int) = decide (x ∈ ns) := by
  unfold inV
  induction ns with
  | nil => simp
  | cons n ns ih =>
    rw [List.map_cons, List.any_cons, ih]
    have e : eqV (.int n) (.int x) = decide (n = x) := by rfl
    rw [e]
    by_cases h : n = x
    · subst h; simp
    · have h2 : ¬ x = n := fun z => h z.symm
      simp [h, h2]
theorem flat_ints (ns : List Int) : (ns.map V.int).all flatV = true := by
  rw [List.all_eq_true]
  intro x hx
  obtain ⟨n, _, rfl⟩ := List.mem_map.mp hx
  rfl
/-- the reading of te hands out v and changes nothing -/
def Tells (te : TE) (σ : L2.St) (H : Hp) (v : V) : Prop := ∀ Q : VK, Q v H → te σ H Q
theorem tells_chain {tb tc : TE} {σ : L2.St} {H : Hp} {i0 j n : Int} {f : Int → Int → Bool} (hb : Tells tb σ H (.int j)) (hc : Tells tc σ H (.int n)) :
    Tells (tChain (rI0 fun i j => V.bl (decide (i ≤ j))) (rI0 fun i j => V.bl (f i j)) (tC (.int i0)) tb tc) σ H (.bl (decide (i0 ≤ j) && f j n)) := fun Q q => by
  refine hb _ ⟨_, _, rfl, rfl, _, rfl, ?_⟩
  refine ite2 (fun h => ?_) (fun h => ?_)
  · refine hc _ ⟨_, _, rfl, rfl, ?_⟩
    rw [h, Bool.true_and] at q
    exact q
  · rw [show decide (i0 ≤ j) = false by simpa using h, Bool.false_and] at q
    exact q
theorem tells_and {ta tb : TE} {σ : L2.St} {H : Hp} {a b : Bool} (ha : Tells ta σ H (.bl a)) (hb : Tells tb σ H (.bl b)) : Tells (tAndV ta tb) σ H (.bl (a && b)) := fun Q q => by
  refine ha _ ⟨_, rfl, ?_⟩
  cases a with
  | true => exact hb _ q
  | false => exact q
def spLink (C : Addr) : Sp := fun vs H Q _ => ∃ (p : Addr) (v : V) (ls gs : List Int) (x : Str) (a h : Int), vs = [.ref p, v] ∧ PartAt C H p ls gs ∧ Kr H v (lk x a h) ∧ Q (.bl (isLk ls gs x a h)) H
theorem ok_link {f C : Addr} {fd : FuncData} (F : Fun K "is_link" "House.is_link" s_House_is_link f fd) (Z : HouseTop mg) (T : HouseTxt K mg C) : FnOk P w K mg base CX0 1 f fd ["self", "link"] (spLink C) := by
  refine F.ok sc_House_is_link (fun vs H Q E h => ?_) (fun cdv A outer s H vs Q E hr h => ?_)
  · obtain ⟨p, v, ls, gs, x, a, h, rfl, _⟩ := h
    rfl
  · obtain ⟨p, v, ls, gs, x, a, h, rfl, ⟨dx, l, g, c, d, h1, h2, h3, h4⟩, ⟨t, rfl, ht⟩, q⟩ := h
    have nd := sc_House_is_link.nd
    refine ⟨_, (pss_cons (ps_asg (pv 1) (pg_tup rfl (pgs_cons (pg_name (i := 2) nd rfl (.inl rfl)) (pgs_cons (pg_name (i := 3) nd rfl (.inl rfl)) (pgs_cons (pg_name (i := 4) nd rfl (.inl rfl)) pgs_nil)))))
      (pss_cons (ps_if (pt_cmpR op_eq (pv 2) pe_str (nomark _)) (pss_one (ps_ret (pe_and (pe_chain op_le op_le pe_int (pv 3) (pe_callB call_len (by rfl) Z.len (by decide +kernel) (pa_cons (pe_fld (pv 0) rfl) pa_nil))) (pe_one (pe_chain op_le op_lt pe_int (pv 4) (pe_fld (pv 0) rfl)))))) pss_nil)
      (pss_one (ps_ret (pe_and (pe_cmpR op_eq (pv 2) pe_str (nomark _)) (pe_and (pe_chain op_le op_lt pe_int (pv 3) (pe_callB call_len (by rfl) Z.len (by decide +kernel) (pa_cons (pe_fld (pv 0) rfl) pa_nil))) (pe_one (pe_cmpR op_in_seq (pv 4) (pe_fld (pv 0) rfl) (by rfl))))))))), ?_⟩
    refine ⟨_, rfl, t, _, rfl, SqT.of ht, rfl, _, _, rfl, _, _, rfl, _, _, rfl, rfl, ?_⟩
    have var : ∀ {σ : L2.St} {i : Nat} {v : V}, σ[i]? = some (some v) → Tells (tVar i) σ H v := fun e Q q => ⟨_, e, q⟩
    have fld : ∀ {σ : L2.St} {f : Str} {v : V}, σ[0]? = some (some (V.ref p)) → NoAttr K C f → (hf (.ref l) (.ref g) (.ref c) (.int ls.sum) d).lookup f = some v → Tells (tFld K (tVar 0) f) σ H v := fun e n z Q q =>
      ⟨_, e, p, C, dx, _, _, rfl, h1, T.cl, n, z, q⟩
    have cnt : ∀ {σ : L2.St}, σ[0]? = some (some (V.ref p)) → Tells (tCB (fun xs H1 Q => ∃ x n, xs = [x] ∧ LenV K x H1 n ∧ Q (V.int (n : Nat)) H1) (tCons (tFld K (tVar 0) "_gaps") tNil)) σ H (.int gs.length) := fun e Q q =>
      fld e T.nG (hf_gaps _ _ _ _ _) _ ⟨_, _, rfl, .inl ⟨_, SqL.of h3, rfl⟩, by rw [List.length_map]; exact q⟩
    refine ⟨_, rfl, rfl, _, rfl, ?_⟩
    refine ite2 (fun hc => ?_) (fun hc => ?_)
    · have hx : x = "up" := V.str.inj (of_decide_eq_true hc)
      refine tells_and (tells_chain (f := fun i j => decide (i ≤ j)) (var rfl) (cnt rfl)) (tells_chain (f := fun i j => decide (i < j)) (var rfl) (fld rfl T.nT (hf_top _ _ _ _ _))) _ ?_
      unfold isLk at q
      rw [if_pos hx] at q
      exact q
    · have hx : ¬ x = "up" := fun z => by
        rw [z] at hc
        exact hc (decide_eq_true rfl)
      have eqq : Tells (tOp rEq (tVar 2) (tC (V.str "over"))) [some (.ref p), some (.ref t), some (.str x), some (.int a), some (.int h)] H (.bl (decide (x = "over"))) := fun Q q =>
        ⟨_, rfl, rfl, by rw [show decide (V.str x = V.str "over") = decide (x = "over") by simp]; exact q⟩
      have inn : Tells (tOp (rIn K false) (tVar 4) (tFld K (tVar 0) "_crosses")) [some (.ref p), some (.ref t), some (.str x), some (.int a), some (.int h)] H (.bl (decide (h ∈ crossN ls))) := fun Q q =>
        ⟨_, rfl, fld rfl T.nX (hf_crosses _ _ _ _ _) _ ⟨c, _, rfl, .inl (SqL.of h4), rfl, flat_ints _, by rw [inV_ints]; exact q⟩⟩
      refine tells_and eqq (tells_and (tells_chain (f := fun i j => decide (i < j)) (var rfl) (cnt rfl)) inn) _ ?_
      unfold isLk at q
      rw [if_neg hx] at q
      exact q
end

/-! ### houses: made -/
section
open GxR NdefX PySem.Spec PyProof.Rows
variable {P : Program} {w : World} {K : PySem.W.Frag} {mg : Str → Option Value} {base : Heap}
theorem Room.units0 {k : Nat} {A : Around} (r : Room k A) : A.units < cLine := by
  have := r.un
  omega
/-- all but what is at p is as it was, tables aside -/
structure KpB (p : Addr) (H H' : Hp) : Prop where
  at_ : ∀ b o, H b = some o → b ≠ p → (∀ ps, o ≠ .tbl ps) → H' b = some o
  tab : ∀ P, TabG H P → TabG H' P
section
variable {p : Addr} {H H1 H2 : Hp}
theorem KpB.refl : KpB p H H := ⟨fun _ _ e _ _ => e, fun _ t => t⟩
theorem KpB.kp (k : KpB p H H1) (m : Kp H1 H2) : KpB p H H2 := ⟨fun b o e n t => m.at_ b o (k.at_ b o e n t) t, fun P t => m.tab P (k.tab P t)⟩
theorem KpB.new {r : Addr} {o : HO} (k : KpB p H H1) (n : H1 r = none) : KpB p H (upd H1 r o) := k.kp (kpS (same_upd n))
theorem KpB.put {C dx : Addr} {fs gs : List (Str × V)} (k : KpB p H H1) (hp : H1 p = some (.ins C dx fs)) : KpB p H (upd H1 p (.ins C dx gs)) :=
  ⟨fun b o e n t => by rw [upd_ne n]; exact k.at_ b o e n t, fun P t => by
    obtain ⟨ps, e, t'⟩ := k.tab P t
    exact ⟨ps, by rw [upd_ne (ne_of hp e fun z => nomatch z).symm]; exact e, t'⟩⟩
end
/-- a new object is laid, then a field of p is set -/
theorem stepF {p r C dx : Addr} {fs gs : List (Str × V)} {H H2 : Hp} {o : HO} (kb : KpB p H H2) (hp : H2 p = some (.ins C dx fs)) (n : H2 r = none) :
    ∃ H3, upd (upd H2 r o) p (.ins C dx gs) = H3 ∧ KpB p H H3 ∧ H3 p = some (.ins C dx gs) ∧ H3 r = some o ∧ (∀ b u, H2 b = some u → b ≠ p → H3 b = some u) ∧ ∀ b, H3 b = none → H2 b = none := by
  have pr : p ≠ r := ne_of_none hp n
  refine ⟨_, rfl, (kb.new n).put (fs := fs) (by rw [upd_ne pr]; exact hp), upd_same, by rw [upd_ne pr.symm, upd_same], fun b u e h => ?_, fun b e => ?_⟩
  · rw [upd_ne h, upd_ne (ne_of_none e n)]
    exact e
  · cases q : H2 b with
    | none => rfl
    | some u =>
      by_cases z : b = p
      · rw [z, upd_same] at e
        cases e
      · rw [upd_ne z, upd_ne (ne_of_none q n), q] at e
        cases e
theorem stepP {p C dx : Addr} {fs gs : List (Str × V)} {H H2 : Hp} (kb : KpB p H H2) (hp : H2 p = some (.ins C dx fs)) :
    ∃ H3, upd H2 p (.ins C dx gs) = H3 ∧ KpB p H H3 ∧ H3 p = some (.ins C dx gs) ∧ (∀ b u, H2 b = some u → b ≠ p → H3 b = some u) ∧ ∀ b, H3 b = none → H2 b = none := by
  refine ⟨_, rfl, kb.put hp, upd_same, fun b u e h => by rw [upd_ne h]; exact e, fun b e => ?_⟩
  by_cases z : b = p
  · rw [z, upd_same] at e
    cases e
  · rw [upd_ne z] at e
    exact e
theorem lenF {f : Str} {v : V} {fs : List (Str × V)} {n : Nat} (h : fs.length < n) : (putF f v fs).length < n + 1 := by
  have q := length_putF f v fs
  omega
theorem seqP {K : PySem.W.Frag} {p C dx a : Addr} {fs : List (Str × V)} {H H2 : Hp} {xs : List V} (hp : H p = some (.ins C dx fs)) (k : ∀ b u, H b = some u → b ≠ p → H2 b = some u) (h : SqL K H a xs) : SqL K H2 a xs := by
  rcases h with (h | ⟨o, h⟩) | h
  · exact .inl (.inl (k _ _ h (ne_of hp h fun z => nomatch z).symm))
  · exact .inl (.inr ⟨o, k _ _ h (ne_of hp h fun z => nomatch z).symm⟩)
  · exact .inr h
theorem krsP {p C dx : Addr} {fs : List (Str × V)} {H H2 : Hp} {xs : List V} {ks : List Tk} (hp : H p = some (.ins C dx fs)) (k : ∀ b u, H b = some u → b ≠ p → H2 b = some u) (h : Krs H xs ks) : Krs H2 xs ks := by
  induction h with
  | nil => exact .nil
  | cons a _ ih =>
    obtain ⟨t, rfl, e⟩ := a
    exact .cons ⟨t, rfl, k _ _ e (ne_of hp e fun z => nomatch z).symm⟩ ih
/-- what the house's keys are -/
def kOf (cs : List (Str × Int × Int)) : List Tk := cs.map fun c => lk c.1 c.2.1 c.2.2
def Valid (ls gs : List Int) (cs : List (Str × Int × Int)) : Prop := ((1 ≤ ls.length ∧ ls.length ≤ 2) ∧ ls.all longN = true) ∧ (gs.length ≤ 11 ∧ gs.all longN = true) ∧ cs.length ≤ 200 ∧ (kOf cs).Nodup ∧ ∀ c ∈ cs, isLk ls gs c.1 c.2.1 c.2.2 = true
/-- a house stands at p -/
def HouseAt (C : Addr) (H : Hp) (p : Addr) (ls gs : List Int) (cs : List (Str × Int × Int)) : Prop := Valid ls gs cs ∧ ∃ dx l g c d : Addr, H p = some (.ins C dx (hf (.ref l) (.ref g) (.ref c) (.int ls.sum) (.ref d))) ∧
  H l = some (.lst (ls.map V.int)) ∧ H g = some (.lst (gs.map V.int)) ∧ H c = some (.lst ((crossN ls).map V.int)) ∧ H d = some (.dT ((kOf cs).map fun k => (k, V.bl true)))
structure ErrTxt (K : PySem.W.Frag) (mg : Str → Option Value) (CI : Addr) (x : Str) : Prop where
  gI : mg x = some (.ref CI)
  kI : PySem.W.keepIn K (.ref CI) = true
  xI : PySem.W.excIn K CI [.type "ValueError", .type "Exception", .type "BaseException", .type "object"] "ValueError.__new__" = true
  bI : PySem.W.subIn K (.ref CI) (.type "BaseException") = some true
  tI : PySem.W.typeIn K (.ref CI) = some (.type "type")
/-- no list stands there -/
def NoLst (H : Hp) (b : Addr) : Prop := ∀ zs, H b ≠ some (.lst zs)
theorem Kp.noLst {H H' : Hp} {b : Addr} (k : Kp H H') (n : H' b = none) : NoLst H b := fun zs e => by
  rcases k.free n with z | ⟨ps, z⟩
  · rw [z] at e
    cases e
  · rw [z] at e
    cases e
def spHouse (K : PySem.W.Frag) (C CI TL TI : Addr) : Sp := fun vs H Q E => ∃ (p dx l g c : Addr) (ls gs : List Int) (xs : List V) (cs : List (Str × Int × Int)), vs = [.ref p, .ref l, .ref g, .ref c] ∧ H p = some (.ins C dx []) ∧
  SqL K H l (ls.map V.int) ∧ SqL K H g (gs.map V.int) ∧ SqL K H c xs ∧ Krs H xs (kOf cs) ∧ ls.length ≤ 1000 ∧ gs.length ≤ 1000 ∧ cs.length ≤ 1000 ∧ TabG H TL ∧ TabG H TI ∧
  (Valid ls gs cs → ∀ H', HouseAt C H' p ls gs cs → KpB p H H' → (∀ (dx l g c : Addr) (t d : V), H' p = some (.ins C dx (hf (.ref l) (.ref g) (.ref c) t d)) → NoLst H l ∧ NoLst H g ∧ NoLst H c) → Q .non H') ∧
  (¬ Valid ls gs cs → ∀ H', KpB p H H' → E (.ref CI) none H')
theorem ok_house {f cI TI C CI fL fA cA TL fX : Addr} {fd fdL fdA fdX : FuncData} (F : FunC K "__init__" "House.__init__" s_House___init__ f cI fd) (TB : TabB base mg cI TI) (Z : HouseTop mg) (T : HouseTxt K mg C) (U : ErrTxt K mg CI "InvalidHouse")
    (FL : Fun K "is_link" "House.is_link" s_House_is_link fL fdL) (bL : Binds K fdL ["self", "link"] []) (mL : Meth K C "is_link" fL)
    (FA : FunC K "_are_long" "_are_long" s__are_long fA cA fdA) (TBA : TabB base mg cA TL) (bA : Binds K fdA ["numbers"] []) (gA : mg "_are_long" = some (.ref fA))
    (FX : Fun K "_cross_heights" "_cross_heights" s__cross_heights fX fdX) (bX : Binds K fdX ["lengths"] []) (gX : mg "_cross_heights" = some (.ref fX)) :
    FnOk P w K mg base (L2.CX P w) 5 f fd ["self", "lengths", "gaps", "closed"] (spHouse K C CI TL TI) := by
  have GL : FnOk P w K mg base CX0 1 fL fdL ["self", "link"] (spLink C) := ok_link FL Z T
  have GA : FnOk P w K mg base CX0 3 fA fdA ["numbers"] (spLong K TL) := ok_long FA Z TBA
  have GX : FnOk P w K mg base CX0 2 fX fdX ["lengths"] (spCross K) := ok_cross FX
  refine F.okX sc_House___init__ (fun vs H Q E h => ?_) (fun A outer s H vs Q E hr h => ?_)
  · obtain ⟨p, dx, l, g, c, ls, gs, xs, cs, rfl, _⟩ := h
    rfl
  · obtain ⟨p, dx, l, g, c, ls, gs, xs, cs, rfl, hp, hl, hg, hc, hx, bl, bg, bc, tL, tI, q, e⟩ := h
    obtain ⟨_, hStr⟩ := Z.stretches
    obtain ⟨_, hGap⟩ := Z.mostGaps
    obtain ⟨_, hClo⟩ := Z.mostClosed
    have nd := sc_House___init__.nd
    have hxl := hx.len
    refine ⟨_, (pss_cons (ps_if (PW.pt (pw_or (pt_not (pt_chain op_le op_le pe_int (pe_callB call_len (by rfl) Z.len (by decide +kernel) (pa_cons (pv 1) pa_nil)) (pe_glob (v := .int 2) rfl hStr ⟨_, rfl⟩))) (pw_or1 (pt_not (pt_val (pe_call GA (by exact hr.mono (by decide)) (by rfl) gA FA.kp bA .nil pass0 (pa_cons (pv 1) pa_nil))))))) (pss_one (ps_raise rfl (takes_of rfl rfl rfl rfl) (pmk_own PySem.F.excBase_ValueError U.xI U.gI U.kI (raises_own U.bI U.tI) rfl))) pss_nil)
      (pss_cons (ps_if (PW.pt (pw_or (pt_cmpR op_gt (pe_callB call_len (by rfl) Z.len (by decide +kernel) (pa_cons (pv 2) pa_nil)) (pe_glob (v := .int 11) rfl hGap ⟨_, rfl⟩) (nomark _)) (pw_or1 (pt_not (pt_val (pe_call GA (by exact hr.mono (by decide)) (by rfl) gA FA.kp bA .nil pass0 (pa_cons (pv 2) pa_nil))))))) (pss_one (ps_raise rfl (takes_of rfl rfl rfl rfl) (pmk_own PySem.F.excBase_ValueError U.xI U.gI U.kI (raises_own U.bI U.tI) rfl))) pss_nil)
      (pss_cons (ps_fld (pv 0) (pe_callTy call_list_of (by rfl) Z.list (by decide +kernel) (pa_cons (pv 1) pa_nil)) rfl)
      (pss_cons (ps_fld (pv 0) (pe_callTy call_list_of (by rfl) Z.list (by decide +kernel) (pa_cons (pv 2) pa_nil)) rfl)
      (pss_cons (ps_fld (pv 0) (pe_call GX (by exact hr.mono (by decide)) (by rfl) gX FX.kp bX .nil pass0 (pa_cons (pv 1) pa_nil)) rfl)
      (pss_cons (ps_fld (pv 0) (pe_callB (cr_sum rfl) (by rfl) Z.sum (by decide +kernel) (pa_cons (pv 1) pa_nil)) rfl)
      (pss_cons (ps_fld (pv 0) (pe_dcT (own := [("link", 4)]) (g := gName 4) rfl (by exact hr.units0) nd (pi_list (pv 3)) (blkOk_by (N := ["self", "lengths", "gaps", "closed", "link"]) (sc := defScope s_House___init__) (by decide +kernel)) (fun _ _ _ _ _ => ⟨pg_name (i := 4) nd rfl (.inl rfl), pv 4, pe_bl⟩)) rfl)
      (pss_cons (ps_if (PW.pt (pw_or (pt_cmpR op_gt (pe_callB call_len (by rfl) Z.len (by decide +kernel) (pa_cons (pv 3) pa_nil)) (pe_glob (v := .int 200) rfl hClo ⟨_, rfl⟩) (nomark _)) (pw_or1 (pt_cmpR op_lt (pe_callB call_len_dT (by rfl) Z.len (by decide +kernel) (pa_cons (pe_fld (pv 0) rfl) pa_nil)) (pe_callB call_len (by rfl) Z.len (by decide +kernel) (pa_cons (pv 3) pa_nil)) (nomark _))))) (pss_one (ps_raise rfl (takes_of rfl rfl rfl rfl) (pmk_own PySem.F.excBase_ValueError U.xI U.gI U.kI (raises_own U.bI U.tI) rfl))) pss_nil)
      (pss_one (ps_if (pt_not (pt_val (pe_allG (k := 3) (N := ["link", "self"]) (fr := [none, some 0]) (g := gName 0) (by exact hr) (by rfl) Z.all (by decide +kernel) TB rfl (gsc_by (outer := defScope s_House___init__) rfl rfl (by decide +kernel)) (gfr_by (outer := defScope s_House___init__) (XN := ["self", "lengths", "gaps", "closed", "link"]) rfl rfl (by decide +kernel)) (pi_list (pv 3)) (fun B s0 H0 cd fp rB => ⟨pg_name (i := 0) (show (["link", "self"] : List Str).Nodup by decide) rfl (.inl rfl), (pe_meth (pv 1) T.cl mL GL (by exact rB.mono (by decide)) bL .nil pass0 (pa_cons (pv 0) pa_nil))⟩) (fun _ => rfl)))) (pss_one (ps_raise rfl (takes_of rfl rfl rfl rfl) (pmk_own PySem.F.excBase_ValueError U.xI U.gI U.kI (raises_own U.bI U.tI) rfl))) pss_nil)))))))))), ?_⟩
    have bad : ∀ {H' : Hp}, ¬ Valid ls gs cs → KpB p H H' → E (.ref CI) none H' := fun {H'} n k => e n H' k
    refine (tells_chain (f := fun i j => decide (i ≤ j)) (j := (ls.length : Int)) (n := 2) (fun Q q => ⟨_, rfl, _, _, rfl, .inl ⟨_, hl, rfl⟩, by rw [List.length_map]; exact q⟩) (fun Q q => q)) _ ⟨_, rfl, ?_⟩
    refine ite2 (fun h1 => ?_) (fun h1 => ?_)
    · exact bad (fun v => by
        have v1 := v.1.1
        simp at h1
        omega) KpB.refl
    refine ⟨_, rfl, l, ls, rfl, hl, tL, fun H1 t1 => ⟨_, rfl, ?_⟩⟩
    have k1 : Kp H H1 := Tabbed.kp t1 tL
    refine ite2 (fun h2 => ?_) (fun h2 => ?_)
    · exact bad (fun v => by
        rw [v.1.2] at h2
        cases h2) (KpB.refl.kp k1)
    have v1 : (1 ≤ ls.length ∧ ls.length ≤ 2) ∧ ls.all longN = true := ⟨by simp at h1; omega, by simpa using h2⟩
    refine ⟨_, rfl, _, _, rfl, .inl ⟨_, k1.seq hg, rfl⟩, _, _, rfl, rfl, _, rfl, ?_⟩
    refine ite2 (fun h3 => ?_) (fun h3 => ?_)
    · exact bad (fun v => by
        have v2 := v.2.1.1
        simp at h3
        omega) (KpB.refl.kp k1)
    refine ⟨_, rfl, g, gs, rfl, k1.seq hg, k1.tab _ tL, fun H2 t2 => ⟨_, rfl, ?_⟩⟩
    have k2 : Kp H H2 := k1.trans (Tabbed.kp t2 (k1.tab _ tL))
    refine ite2 (fun h4 => ?_) (fun h4 => ?_)
    · exact bad (fun v => by
        rw [v.2.1.2] at h4
        cases h4) (KpB.refl.kp k2)
    have v2 : gs.length ≤ 11 ∧ gs.all longN = true := ⟨by simp at h3; omega, by simpa using h4⟩
    have kb2 : KpB p H H2 := KpB.refl.kp k2
    have hp2 := k2.ins hp
    -- self._lengths
    refine ⟨_, rfl, l, _, rfl, .inl (k2.seq hl), fun r1 n1 => ⟨_, rfl, p, C, dx, [], rfl, by rw [upd_ne (ne_of_none hp2 n1)]; exact hp2, T.cl, T.nL, by show 0 < 1000; decide, ?_⟩⟩
    obtain ⟨H3, e3, kb3, hp3, g3, s3, f3⟩ := stepF (o := .lst (ls.map V.int)) (gs := putF "_lengths" (.ref r1) []) kb2 hp2 n1
    rw [e3]
    have l3 := seqP hp2 s3 (k2.seq hl)
    have q3 := seqP hp2 s3 (k2.seq hg)
    have c3 := seqP hp2 s3 (k2.seq hc)
    have x3 := krsP hp2 s3 (hx.kp k2)
    -- self._gaps
    refine ⟨_, rfl, g, _, rfl, .inl q3, fun r2 n2 => ⟨_, rfl, p, C, dx, _, rfl, by rw [upd_ne (ne_of_none hp3 n2)]; exact hp3, T.cl, T.nG, by show 1 < 1000; decide, ?_⟩⟩
    obtain ⟨H4, e4, kb4, hp4, g4, s4, f4⟩ := stepF (o := .lst (gs.map V.int)) (gs := putF "_gaps" (.ref r2) (putF "_lengths" (.ref r1) [])) kb3 hp3 n2
    rw [e4]
    have l4 := seqP hp3 s4 l3
    have c4 := seqP hp3 s4 c3
    have x4 := krsP hp3 s4 x3
    have gL4 := s4 _ _ g3 (ne_of hp3 g3 fun z => nomatch z).symm
    have len0 : ([] : List (Str × V)).length < 1 := by decide
    -- self._crosses
    refine ⟨_, rfl, l, ls, rfl, l4, bl, fun H5 r3 sm5 n3 g5 => ⟨_, rfl, p, C, dx, _, rfl, sm5 _ _ hp4, T.cl, T.nX, Nat.lt_of_lt_of_le (lenF (lenF len0)) (by decide), ?_⟩⟩
    obtain ⟨H6, e6, kb6, hp6, s6, f6⟩ := stepP (gs := putF "_crosses" (.ref r3) (putF "_gaps" (.ref r2) (putF "_lengths" (.ref r1) []))) (kb4.kp (kpS sm5)) (sm5 _ _ hp4)
    rw [e6]
    have hp5 := sm5 _ _ hp4
    have l6 := seqP hp5 s6 (sm5.seq l4)
    have c6 := seqP hp5 s6 (sm5.seq c4)
    have x6 := krsP hp5 s6 (x4.same sm5)
    have gL6 := s6 _ _ (sm5 _ _ gL4) (ne_of hp5 (sm5 _ _ gL4) fun z => nomatch z).symm
    have gG6 := s6 _ _ (sm5 _ _ g4) (ne_of hp5 (sm5 _ _ g4) fun z => nomatch z).symm
    have gX6 := s6 _ _ g5 (ne_of hp5 g5 fun z => nomatch z).symm
    -- self._top
    refine ⟨_, rfl, l, ls, rfl, l6, _, rfl, p, C, dx, _, rfl, hp6, T.cl, T.nT, Nat.lt_of_lt_of_le (lenF (lenF (lenF len0))) (by decide), ?_⟩
    obtain ⟨H7, e7, kb7, hp7, s7, f7⟩ := stepP (gs := putF "_top" (.int ls.sum) (putF "_crosses" (.ref r3) (putF "_gaps" (.ref r2) (putF "_lengths" (.ref r1) [])))) kb6 hp6
    rw [e7]
    have c7 := seqP hp6 s7 c6
    have x7 := krsP hp6 s7 x6
    have gL7 := s7 _ _ gL6 (ne_of hp6 gL6 fun z => nomatch z).symm
    have gG7 := s7 _ _ gG6 (ne_of hp6 gG6 fun z => nomatch z).symm
    have gX7 := s7 _ _ gX6 (ne_of hp6 gX6 fun z => nomatch z).symm
    -- self._closed
    refine ⟨_, rfl, c, rfl, ⟨_, c7⟩, fun D nD => ?_⟩
    have sD : ∀ o, Same H7 (upd H7 D o) := fun o => same_upd nD
    refine dcT_list (K := K) (a := c) (xs := xs) (fun i H' => H' = upd H7 D (.dT (ded ((kOf cs).take i)))) rfl ?_ ?_ ?_
    · rintro i H' _ rfl
      exact (sD _).seq c7
    · rintro i x H' hi rfl
      obtain ⟨y, hy, t, rfl, ht⟩ := (x7.same (sD (.dT (ded ((kOf cs).take i))))).at hi
      refine ⟨rfl, _, rfl, t, _, y, rfl, ht, upd_same, ?_, ?_⟩
      · have z1 := ded_le ((kOf cs).take i)
        have z2 : ((kOf cs).take i).length ≤ (kOf cs).length := List.length_take_le' _ _
        have z3 : (kOf cs).length = cs.length := List.length_map _
        rw [sizeLine_eq]
        omega
      · rw [upd_upd, List.take_add_one, hy]
        show _ = upd H7 D (.dT (ded ((kOf cs).take i ++ [y])))
        rw [ded_snoc]
    · rintro H' rfl
      rw [hxl, List.take_length]
      refine ⟨_, rfl, p, C, dx, _, rfl, sD _ _ _ hp7, T.cl, T.nC, Nat.lt_of_lt_of_le (lenF (lenF (lenF (lenF len0)))) (by decide), ?_⟩
      obtain ⟨H8, e8, kb8, hp8, g8, s8, f8⟩ := stepF (o := .dT (ded (kOf cs))) (gs := hf (.ref r1) (.ref r2) (.ref r3) (.int ls.sum) (.ref D)) kb7 hp7 nD
      have e8' : upd (upd H7 D (.dT (ded (kOf cs)))) p (.ins C dx (putF "_closed" (.ref D) (putF "_top" (.int ls.sum) (putF "_crosses" (.ref r3) (putF "_gaps" (.ref r2) (putF "_lengths" (.ref r1) [])))))) = H8 := e8
      rw [e8']
      have c8 := seqP hp7 s8 c7
      have x8 := krsP hp7 s8 x7
      have gL8 := s8 _ _ gL7 (ne_of hp7 gL7 fun z => nomatch z).symm
      have gG8 := s8 _ _ gG7 (ne_of hp7 gG7 fun z => nomatch z).symm
      have gX8 := s8 _ _ gX7 (ne_of hp7 gX7 fun z => nomatch z).symm
      have kl : (kOf cs).length = cs.length := List.length_map _
      -- too many, or one twice
      refine ⟨_, rfl, _, _, rfl, .inl ⟨_, c8, rfl⟩, _, _, rfl, rfl, _, rfl, ?_⟩
      refine ite2 (fun h5 => ?_) (fun h5 => ?_)
      · exact bad (fun v => by
          have v3 := v.2.2.1
          simp at h5
          omega) kb8
      have v3 : cs.length ≤ 200 := by
        simp at h5
        omega
      refine ⟨_, rfl, p, C, dx, _, _, rfl, hp8, T.cl, T.nC, hf_closed _ _ _ _ _, D, _, rfl, g8, _, rfl, _, _, rfl, .inl ⟨_, c8, rfl⟩, _, _, rfl, rfl, _, rfl, ?_⟩
      refine ite2 (fun h6 => ?_) (fun h6 => ?_)
      · exact bad (fun v => by
          rw [(ded_eq (kOf cs)).1 v.2.2.2.1, List.length_map] at h6
          have z := of_decide_eq_true h6
          omega) kb8
      have v4 : (kOf cs).Nodup := Decidable.byContradiction fun n => h6 (decide_eq_true (by
        have z := (ded_eq (kOf cs)).2 n
        omega))
      -- each is a link
      have tab8 : TabG H8 TI := kb8.tab _ tI
      refine ⟨_, rfl, c, rfl, ⟨_, c8⟩, tab8, fun H9 t9 => ?_⟩
      have k9 : Kp H8 H9 := Tabbed.kp t9 tab8
      have kb9 : KpB p H H9 := kb8.kp k9
      have hp9 := k9.ins hp8
      have x9 := x8.kp k9
      have part : PartAt C H9 p ls gs := ⟨dx, r1, r2, r3, _, hp9, k9.lst gL8, k9.lst gG8, k9.lst gX8⟩
      refine for_list (K := K) (a := c) (xs := xs) (fun i σ H' => (∃ z, σ = [z, some (.ref p)]) ∧ H' = H9 ∧ ∀ c ∈ cs.take i, isLk ls gs c.1 c.2.1 c.2.2 = true) ?_ ?_ ?_ ?_
      · exact ⟨⟨none, rfl⟩, rfl, fun c z => by simp at z⟩
      · rintro i σ H' _ ⟨_, rfl, _⟩
        exact k9.seq c8
      · rintro i x H0 H' hi ⟨⟨z, rfl⟩, rfl, hall⟩
        obtain ⟨y, hy, hk⟩ := x9.at hi
        unfold kOf at hy
        rw [List.getElem?_map] at hy
        cases hci : cs[i]? with
        | none => rw [hci] at hy; cases hy
        | some ci =>
          rw [hci] at hy
          cases hy
          refine ⟨_, rfl, p, dx, _, rfl, hp9, hf_no _ _ _ _ _ (by decide +kernel) (by decide +kernel) (by decide +kernel) (by decide +kernel) (by decide +kernel), _, rfl, p, x, ls, gs, ci.1, ci.2.1, ci.2.2, rfl, part, hk, _, rfl, ?_⟩
          refine ite2 (fun h7 => ?_) (fun h7 => ?_)
          · refine ⟨_, rfl, ?_⟩
            exact bad (fun v => by
              rw [v.2.2.2.2 ci (List.mem_of_getElem? hci)] at h7
              cases h7) kb9
          · refine ⟨⟨_, rfl⟩, rfl, fun c' hc' => ?_⟩
            rw [List.take_add_one, hci] at hc'
            rcases List.mem_append.mp hc' with z1 | z1
            · exact hall c' z1
            · have z2 : c' = ci := by simpa using z1
              rw [z2]
              simpa using h7
      · rintro σ H' ⟨⟨z, rfl⟩, rfl, hall⟩
        rw [hxl, kl, List.take_length] at hall
        have va : Valid ls gs cs := ⟨v1, v2, v3, v4, hall⟩
        refine ⟨_, rfl, ?_⟩
        refine q va H' ⟨va, dx, r1, r2, r3, D, hp9, k9.lst gL8, k9.lst gG8, k9.lst gX8, ?_⟩ kb9 (fun dx' l' g' c' t' d' z => ?_)
        · rw [← (ded_eq (kOf cs)).1 v4]
          exact k9.dT g8
        · rw [hp9] at z
          have z2 := Option.some.inj z
          injection z2 with _ _ z3
          have e1 := hf_lengths (.ref r1) (.ref r2) (.ref r3) (.int ls.sum) (.ref D)
          have e2 := hf_gaps (.ref r1) (.ref r2) (.ref r3) (.int ls.sum) (.ref D)
          have e3' := hf_crosses (.ref r1) (.ref r2) (.ref r3) (.int ls.sum) (.ref D)
          rw [z3, hf_lengths] at e1
          rw [z3, hf_gaps] at e2
          rw [z3, hf_crosses] at e3'
          obtain rfl : l' = r1 := V.ref.inj (Option.some.inj e1)
          obtain rfl : g' = r2 := V.ref.inj (Option.some.inj e2)
          obtain rfl : c' = r3 := V.ref.inj (Option.some.inj e3')
          exact ⟨Kp.noLst k2 n1, Kp.noLst k2 (f3 _ n2), Kp.noLst k2 (f3 _ (f4 _ n3))⟩
end

/-! ### houses: what they tell -/
section
open GxR NdefX PySem.Spec PyProof.Rows
variable {P : Program} {w : World} {K : PySem.W.Frag} {mg : Str → Option Value} {base : Heap}
theorem HouseAt.kp {C : Addr} {H H' : Hp} {p : Addr} {ls gs : List Int} {cs : List (Str × Int × Int)} (h : HouseAt C H p ls gs cs) (k : Kp H H') : HouseAt C H' p ls gs cs := by
  obtain ⟨v, dx, l, g, c, d, h1, h2, h3, h4, h5⟩ := h
  exact ⟨v, dx, l, g, c, d, k.ins h1, k.lst h2, k.lst h3, k.lst h4, k.dT h5⟩
theorem HouseAt.part {C : Addr} {H : Hp} {p : Addr} {ls gs : List Int} {cs : List (Str × Int × Int)} (h : HouseAt C H p ls gs cs) : PartAt C H p ls gs := by
  obtain ⟨v, dx, l, g, c, d, h1, h2, h3, h4, h5⟩ := h
  exact ⟨dx, l, g, c, _, h1, h2, h3, h4⟩
theorem fit_kOf (cs : List (Str × Int × Int)) : Fit (kOf cs) := ⟨[true, false, false], by decide, fun k hk => by
  obtain ⟨c, _, rfl⟩ := List.mem_map.mp hk
  rfl⟩
/-- a list of numbers of the house's own, handed out anew -/
def spNums (C : Addr) (f : List Int → List Int → List Int) : Sp := fun vs H Q _ => ∃ (p : Addr) (ls gs : List Int) (cs : List (Str × Int × Int)), vs = [.ref p] ∧ HouseAt C H p ls gs cs ∧
  ∀ r, H r = none → Q (.ref r) (upd H r (.lst ((f ls gs).map V.int)))
def spNum (C : Addr) (f : List Int → List Int → Int) : Sp := fun vs H Q _ => ∃ (p : Addr) (ls gs : List Int) (cs : List (Str × Int × Int)), vs = [.ref p] ∧ HouseAt C H p ls gs cs ∧ Q (.int (f ls gs)) H
def spClosed (C : Addr) : Sp := fun vs H Q _ => ∃ (p : Addr) (ls gs : List Int) (cs : List (Str × Int × Int)), vs = [.ref p] ∧ HouseAt C H p ls gs cs ∧
  ∀ (r : Addr) (ys : List V), H r = none → Krs H ys (sortK (kOf cs)) → Q (.ref r) (upd H r (.lst ys))
theorem ok_lengths {f C : Addr} {fd : FuncData} (F : Fun K "lengths" "House.lengths" s_House_lengths f fd) (Z : HouseTop mg) (T : HouseTxt K mg C) : FnOk P w K mg base CX0 1 f fd ["self"] (spNums C (fun ls _ => ls)) := by
  refine F.ok sc_House_lengths (fun vs H Q E h => ?_) (fun cdv A outer s H vs Q E hr h => ?_)
  · obtain ⟨p, ls, gs, cs, rfl, _⟩ := h
    rfl
  · obtain ⟨p, ls, gs, cs, rfl, ⟨_, dx, l, g, c, d, h1, h2, h3, h4, h5⟩, q⟩ := h
    exact ⟨_, (pss_one (ps_ret (pe_callTy call_list_of (by rfl) Z.list (by decide +kernel) (pa_cons (pe_fld (pv 0) rfl) pa_nil)))), _, rfl, p, C, dx, _, _, rfl, h1, T.cl, T.nL, hf_lengths _ _ _ _ _, l, _, rfl, .inl (SqL.of h2), q⟩
theorem ok_gaps {f C : Addr} {fd : FuncData} (F : Fun K "gaps" "House.gaps" s_House_gaps f fd) (Z : HouseTop mg) (T : HouseTxt K mg C) : FnOk P w K mg base CX0 1 f fd ["self"] (spNums C (fun _ gs => gs)) := by
  refine F.ok sc_House_gaps (fun vs H Q E h => ?_) (fun cdv A outer s H vs Q E hr h => ?_)
  · obtain ⟨p, ls, gs, cs, rfl, _⟩ := h
    rfl
  · obtain ⟨p, ls, gs, cs, rfl, ⟨_, dx, l, g, c, d, h1, h2, h3, h4, h5⟩, q⟩ := h
    exact ⟨_, (pss_one (ps_ret (pe_callTy call_list_of (by rfl) Z.list (by decide +kernel) (pa_cons (pe_fld (pv 0) rfl) pa_nil)))), _, rfl, p, C, dx, _, _, rfl, h1, T.cl, T.nG, hf_gaps _ _ _ _ _, g, _, rfl, .inl (SqL.of h3), q⟩

theorem ok_top {f C : Addr} {fd : FuncData} (F : Fun K "top" "House.top" s_House_top f fd) (T : HouseTxt K mg C) : FnOk P w K mg base CX0 1 f fd ["self"] (spNum C fun ls _ => ls.sum) := by
  refine F.ok sc_House_top (fun vs H Q E h => ?_) (fun cdv A outer s H vs Q E hr h => ?_)
  · obtain ⟨p, ls, gs, cs, rfl, _⟩ := h
    rfl
  · obtain ⟨p, ls, gs, cs, rfl, ⟨_, dx, l, g, c, d, h1, h2, h3, h4, h5⟩, q⟩ := h
    exact ⟨_, (pss_one (ps_ret (pe_fld (pv 0) rfl))), _, rfl, p, C, dx, _, _, rfl, h1, T.cl, T.nT, hf_top _ _ _ _ _, q⟩
theorem ok_aisles {f C : Addr} {fd : FuncData} (F : Fun K "aisles" "House.aisles" s_House_aisles f fd) (Z : HouseTop mg) (T : HouseTxt K mg C) : FnOk P w K mg base CX0 1 f fd ["self"] (spNum C fun _ gs => (gs.length : Int) + 1) := by
  refine F.ok sc_House_aisles (fun vs H Q E h => ?_) (fun cdv A outer s H vs Q E hr h => ?_)
  · obtain ⟨p, ls, gs, cs, rfl, _⟩ := h
    rfl
  · obtain ⟨p, ls, gs, cs, rfl, ⟨_, dx, l, g, c, d, h1, h2, h3, h4, h5⟩, q⟩ := h
    exact ⟨_, (pss_one (ps_ret (pe_op op_add (pe_callB call_len (by rfl) Z.len (by decide +kernel) (pa_cons (pe_fld (pv 0) rfl) pa_nil)) pe_int))), _, rfl, p, C, dx, _, _, rfl, h1, T.cl, T.nG, hf_gaps _ _ _ _ _, _, _, rfl, .inl ⟨_, SqL.of h3, rfl⟩, _, _, rfl, rfl, by rw [List.length_map]; exact q⟩
theorem ok_closed {f C : Addr} {fd : FuncData} (F : Fun K "closed" "House.closed" s_House_closed f fd) (Z : HouseTop mg) (T : HouseTxt K mg C) : FnOk P w K mg base CX0 2 f fd ["self"] (spClosed C) := by
  refine F.ok sc_House_closed (fun vs H Q E h => ?_) (fun cdv A outer s H vs Q E hr h => ?_)
  · obtain ⟨p, ls, gs, cs, rfl, _⟩ := h
    rfl
  · obtain ⟨p, ls, gs, cs, rfl, ⟨_, dx, l, g, c, d, h1, h2, h3, h4, h5⟩, q⟩ := h
    have ek : ((kOf cs).map fun k => (k, V.bl true)).map (·.1) = kOf cs := by
      rw [List.map_map]
      exact List.map_id _
    refine ⟨_, (pss_one (ps_ret (pe_callB (call_sortDT rfl (by exact hr.units)) (by rfl) Z.sorted (by decide +kernel) (pa_cons (pe_fld (pv 0) rfl) pa_nil)))), _, rfl, p, C, dx, _, _, rfl, h1, T.cl, T.nC, hf_closed _ _ _ _ _, d, _, rfl, .inl h5, by rw [ek]; exact fit_kOf cs, fun r ys nr hy => ?_⟩
    rw [ek] at hy
    exact q r ys nr hy
end

/-! ### drawn houses -/
section
open GxR NdefX PySem.Spec PyProof.Rows
variable {P : Program} {w : World} {K : PySem.W.Frag} {mg : Str → Option Value} {base : Heap}
theorem room65 {k : Nat} {A : Around} (r : Room k A) : A.units + 65 < cLine := by
  have := r.un
  omega
structure LawTop (mg : Str → Option Value) : Prop where
  int : mg "int" = none
  len : mg "len" = none
  sum : mg "sum" = none
  max : mg "max" = none
  range : mg "range" = none
/-! #### what readings tell -/
section
variable {σ : L2.St} {H : Hp} {ta tb : TE} {i j : Int}
theorem Tells.go {te : TE} {v : V} {Q : VK} (h : Tells te σ H v) (q : Q v H) : te σ H Q := h Q q
theorem go_rng {te : TE} {j : Int} {R : It → Hp → Prop} (h : Tells te σ H (.int j)) (h0 : -(2 ^ 62) ≤ j) (h1 : j < 2 ^ 62) (q : R (Itr 0 j.toNat) H) : iRng1 (tCons te tNil) σ H R := h _ ⟨_, rfl, h0, h1, q⟩
theorem tells_var {n : Nat} {v : V} (e : σ[n]? = some (some v)) : Tells (tVar n) σ H v := fun Q q => ⟨_, e, q⟩
theorem tells_c {v : V} : Tells (tC v) σ H v := fun Q q => q
theorem tells_I {C : Int → Int → Prop} {g : Int → Int → V} (ha : Tells ta σ H (.int i)) (hb : Tells tb σ H (.int j)) (h : C i j) : Tells (tOp (rI C g) ta tb) σ H (g i j) := fun Q q => ha _ (hb _ ⟨_, _, rfl, rfl, h, q⟩)
theorem tells_I0 {g : Int → Int → V} (ha : Tells ta σ H (.int i)) (hb : Tells tb σ H (.int j)) : Tells (tOp (rI0 g) ta tb) σ H (g i j) := fun Q q => ha _ (hb _ ⟨_, _, rfl, rfl, q⟩)
theorem tells_int (ha : Tells ta σ H (.int i)) : Tells (tCB (fun xs H Q => (∃ i, xs = [.int i] ∧ Q (.int i) H) ∨ ∃ k, xs = [.bl k] ∧ Q (.int (if k then 1 else 0)) H) (tCons ta tNil)) σ H (.int i) := fun Q q => ha _ (.inl ⟨_, rfl, q⟩)
def nth (ns : List Int) (i : Int) : Int := (ns[i.toNat]?).getD 0
theorem nth_small {ns : List Int} (h : Small ns) (i : Int) : 0 ≤ nth ns i ∧ nth ns i < 1009 := by
  unfold nth
  cases e : ns[i.toNat]? with
  | none => decide
  | some n => exact h n (List.mem_of_getElem? e)
theorem atI_nth {ns : List Int} {i : Int} (h0 : 0 ≤ i) (h1 : i < ns.length) : atI (ns.map V.int) i = some (V.int (nth ns i)) := by
  have e : ((i.toNat : Nat) : Int) = i := Int.toNat_of_nonneg h0
  have lt : i.toNat < ns.length := by omega
  have z : atI (ns.map V.int) ((i.toNat : Nat) : Int) = some (V.int (nth ns i)) := by
    refine atI_nat ?_
    unfold nth
    rw [List.getElem?_map, List.getElem?_eq_getElem lt]
    rfl
  rw [e] at z
  exact z
theorem tells_ix {l : Addr} {ns : List Int} (ha : Tells ta σ H (.ref l)) (hb : Tells tb σ H (.int i)) (hl : SqL K H l (ns.map V.int)) (h0 : 0 ≤ i) (h1 : i < ns.length) : Tells (tOp (rIxL K) ta tb) σ H (.int (nth ns i)) := fun Q q => ha _ (hb _ ⟨l, _, i, _, rfl, rfl, hl, atI_nth h0 h1, q⟩)
theorem tells_len {l : Addr} {xs : List V} (ha : Tells ta σ H (.ref l)) (hl : SqL K H l xs) : Tells (tCB (fun xs H1 Q => ∃ x n, xs = [x] ∧ LenV K x H1 n ∧ Q (V.int (n : Nat)) H1) (tCons ta tNil)) σ H (.int xs.length) := fun Q q => ha _ ⟨_, _, rfl, .inl ⟨_, hl, rfl⟩, q⟩
theorem tells_sum {l : Addr} {ns : List Int} (ha : Tells ta σ H (.ref l)) (hl : SqL K H l (ns.map V.int)) : Tells (tCB (rSum K) (tCons ta tNil)) σ H (.int ns.sum) := fun Q q => ha _ ⟨_, _, rfl, hl, q⟩
end
theorem ok_lk {x : Str} (h : PyData.canLay0 (.str x) = true) (a b : Int) : okk (lk x a b) = true := by
  show (PyData.canLay0 (.str x) && (true && (true && true))) = true
  rw [h]
  rfl

theorem pick4 {z : Int} (h0 : 0 ≤ z) (h4 : z < 4) : ∃ mo : Int, atI [V.int 4, V.int 9, V.int 12, V.int 40] z = some (.int mo) ∧ 4 ≤ mo ∧ mo ≤ 40 := by
  have : z = 0 ∨ z = 1 ∨ z = 2 ∨ z = 3 := by omega
  rcases this with rfl | rfl | rfl | rfl
  · exact ⟨4, rfl, by decide, by decide⟩
  · exact ⟨9, rfl, by decide, by decide⟩
  · exact ⟨12, rfl, by decide, by decide⟩
  · exact ⟨40, rfl, by decide, by decide⟩
/-- numbers from 1 to 40 -/
def Lens (ls : List Int) : Prop := ∀ x ∈ ls, 1 ≤ x ∧ x ≤ 40
theorem Lens.all {ls : List Int} (h : Lens ls) : ls.all longN = true := List.all_eq_true.mpr fun x hx => by
  have q := h x hx
  unfold longN
  rw [decide_eq_true q.1, decide_eq_true q.2]
  rfl
theorem Lens.snoc {ls : List Int} (h : Lens ls) {x : Int} (h1 : 1 ≤ x) (h2 : x ≤ 40) : Lens (ls ++ [x]) := fun y hy => by
  rcases List.mem_append.mp hy with z | z
  · exact h y z
  · rw [List.mem_singleton.mp z]
    exact ⟨h1, h2⟩
theorem Lens.pos {ls : List Int} (h : Lens ls) : ∀ k, 0 ≤ (ls.take k).sum := by
  intro k
  have all : ∀ xs : List Int, (∀ x ∈ xs, 1 ≤ x ∧ x ≤ 40) → 0 ≤ xs.sum := by
    intro xs
    induction xs with
    | nil => intro _; decide
    | cons x xs ih =>
      intro q
      have q1 := q x List.mem_cons_self
      have q2 := ih fun y hy => q y (List.mem_cons_of_mem _ hy)
      rw [List.sum_cons]
      omega
  exact all _ fun x hx => h x (List.mem_of_mem_take hx)
theorem Lens.pos1 {ls : List Int} (h : Lens ls) (hl : 1 ≤ ls.length) : 1 ≤ ls.sum := by
  cases ls with
  | nil => simp at hl
  | cons x ls =>
    have q1 := h x List.mem_cons_self
    have q2 := Lens.pos (ls := ls) (fun y hy => h y (List.mem_cons_of_mem _ hy)) ls.length
    rw [List.take_length] at q2
    rw [List.sum_cons]
    omega
theorem made {H : Hp} {a : Addr} {o : HO} (h : H a = none) : ∃ H', upd H a o = H' ∧ Same H H' ∧ H' a = some o := ⟨_, rfl, same_upd h, upd_same⟩
end

section
open GxR NdefX PySem.Spec PyProof.Rows
variable {P : Program} {w : World} {K : PySem.W.Frag} {mg : Str → Option Value} {base : Heap}
/-- behind a new object: all but it is as it was -/
theorem mkKp {H H' : Hp} {x dx : Addr} {o u : HO} (n : H x = none) (m : H dx = none) (k : KpB x (upd (upd H dx u) x o) H') : Kp H H' := by
  have step : ∀ b z, H b = some z → (upd (upd H dx u) x o) b = some z := fun b z e => by
    rw [upd_ne (ne_of_none e n), upd_ne (ne_of_none e m)]
    exact e
  exact ⟨fun b z e t => k.at_ b z (step b z e) (ne_of_none e n) t, fun P ⟨ps, e, t⟩ => k.tab P ⟨ps, step _ _ e, t⟩⟩
structure PropD (P : Program) (w : World) (K : PySem.W.Frag) (mg : Str → Option Value) (base : Heap) (C : Addr) (k : Nat) (x : Str) (sp : Sp) where
  f : Addr
  p : Addr
  fd : FuncData
  h : PropOf K C x p f
  G : FnOk P w K mg base CX0 k f fd ["self"] sp
  b : Binds K fd ["self"] []
structure MethD (P : Program) (w : World) (K : PySem.W.Frag) (mg : Str → Option Value) (base : Heap) (C : Addr) (k : Nat) (x : Str) (ps : List Str) (sp : Sp) where
  f : Addr
  fd : FuncData
  m : Meth K C x f
  G : FnOk P w K mg base CX0 k f fd ps sp
  b : Binds K fd ps []
structure TopD (P : Program) (w : World) (K : PySem.W.Frag) (mg : Str → Option Value) (base : Heap) (k : Nat) (x : Str) (ps : List Str) (sp : Sp) where
  f : Addr
  fd : FuncData
  G : FnOk P w K mg base CX0 k f fd ps sp
  b : Binds K fd ps []
  g : mg x = some (.ref f)
  kp : PySem.W.keepIn K (.ref f) = true
theorem okk_valid {ls gs : List Int} {cs : List (Str × Int × Int)} (v : Valid ls gs cs) : ∀ k ∈ kOf cs, okk k = true := fun k hk => by
  obtain ⟨c, hc, rfl⟩ := List.mem_map.mp hk
  have q := v.2.2.2.2 c hc
  refine ok_lk ?_ _ _
  unfold isLk at q
  by_cases h1 : c.1 = "up"
  · rw [h1]
    decide +kernel
  · rw [if_neg h1] at q
    have h2 : c.1 = "over" := by
      simp only [Bool.and_eq_true, decide_eq_true_eq] at q
      exact q.1
    rw [h2]
    decide +kernel
/-- the places of a grid, aisle by aisle -/
def gridP (wd hg : Nat) : List Pl := (List.range wd).flatMap fun (a : Nat) => (List.range hg).map fun (b : Nat) => ((a : Int), (b : Int))
theorem grid_succ (wd hg : Nat) : gridP (wd + 1) hg = gridP wd hg ++ (List.range hg).map fun (b : Nat) => ((wd : Int), (b : Int)) := by
  unfold gridP
  rw [List.range_succ, List.flatMap_append]
  simp
theorem grid_len (wd hg : Nat) : (gridP wd hg).length = wd * hg := by
  induction wd with
  | zero => simp [gridP]
  | succ n ih => rw [grid_succ, List.length_append, ih, List.length_map, List.length_range, Nat.succ_mul]
theorem Lens.pos2 {ls : List Int} (h : Lens ls) : 0 ≤ ls.sum := by
  have q := h.pos ls.length
  rw [List.take_length] at q
  exact q
theorem Lens.le {ls : List Int} (h : Lens ls) (k : Nat) : (ls.take k).sum ≤ ls.sum := by
  have e : ls.sum = (ls.take k).sum + (ls.drop k).sum := by
    rw [← List.sum_append, List.take_append_drop]
  have q : Lens (ls.drop k) := fun x hx => h x (List.mem_of_mem_drop hx)
  have z := q.pos2
  omega
theorem Lens.top {ls : List Int} (h : Lens ls) (hl : ls.length ≤ 2) : ls.sum ≤ 80 := by
  match ls, h, hl with
  | [], _, _ => decide
  | [x], h, _ =>
    have := h x (by simp)
    simp
    omega
  | [x, y], h, _ =>
    have := h x (by simp)
    have := h y (by simp)
    simp
    omega
  | _ :: _ :: _ :: _, _, hl => simp at hl
theorem Lens.cross {ls : List Int} (h : Lens ls) {y : Int} (hy : y ∈ crossN ls) : 0 ≤ y ∧ y ≤ ls.sum := by
  unfold crossN at hy
  obtain ⟨k, _, rfl⟩ := List.mem_map.mp hy
  exact ⟨h.pos k, h.le k⟩
end
/-! ### going over a range or a list, whatever a turn does -/
section
open GxR NdefX PySem.Spec PyProof.Rows
variable {P : Program} {w : World} {K : PySem.W.Frag} {mg : Str → Option Value} {base : Heap}
abbrev Goes (J : It) (H1 : Hp) (Qd : Hp → Prop) (B : V → Hp → (Hp → Prop) → Prop) : Prop := ∃ W : Nat → Nat → Hp → Prop, (∃ m, W 0 m H1) ∧ ∀ i m H, W i m H →
  (J.stop i H ∧ Qd H) ∨ (J.go i H ∧ ∃ Nx : Hp → Prop, (∀ H', Nx H' → ∃ m', m' < m ∧ W (i + 1) m' H') ∧ ∀ x H', J.yld i H x H' → B x H' Nx)
theorem go_range {lo : Int} {n : Nat} {H1 : Hp} {Qd : Hp → Prop} {B : V → Hp → (Hp → Prop) → Prop} (Pv : Nat → Hp → Prop) (h0 : Pv 0 H1)
    (hs : ∀ i H, i < n → Pv i H → B (.int (lo + i)) H (Pv (i + 1))) (hd : ∀ H, Pv n H → Qd H) : Goes (Itr lo n) H1 Qd B := by
  refine ⟨fun i m H => i + m = n ∧ Pv i H, ⟨n, Nat.zero_add n, h0⟩, fun i m H z => ?_⟩
  obtain ⟨e, p⟩ := z
  cases m with
  | zero =>
    have e2 : i = n := by omega
    rw [e2] at p
    exact .inl ⟨Nat.le_of_eq e2.symm, hd H p⟩
  | succ m =>
    have lt : i < n := by omega
    refine .inr ⟨lt, Pv (i + 1), fun H' p' => ⟨m, Nat.lt_succ_self m, by omega, p'⟩, fun x H' y => ?_⟩
    obtain ⟨y1, y2⟩ := y
    rw [y1, y2]
    exact hs i H lt p
theorem go_list {a : Addr} {xs : List V} {H1 : Hp} {Qd : Hp → Prop} {B : V → Hp → (Hp → Prop) → Prop} (Pv : Nat → Hp → Prop) (h0 : Pv 0 H1) (hl : ∀ i H, Pv i H → SqL K H a xs)
    (hs : ∀ i x H, xs[i]? = some x → Pv i H → B x H (Pv (i + 1))) (hd : ∀ H, Pv xs.length H → Qd H) : Goes (Itl K a) H1 Qd B := by
  refine ⟨fun i m H => i + m = xs.length ∧ Pv i H, ⟨xs.length, Nat.zero_add _, h0⟩, fun i m H z => ?_⟩
  obtain ⟨e, p⟩ := z
  cases m with
  | zero =>
    have e2 : i = xs.length := by omega
    rw [e2] at p
    exact .inl ⟨⟨xs, hl _ H p, Nat.le_of_eq e2.symm⟩, hd H p⟩
  | succ m =>
    have lt : i < xs.length := by omega
    refine .inr ⟨⟨xs, xs[i], hl i H p, List.getElem?_eq_getElem lt⟩, Pv (i + 1), fun H' p' => ⟨m, Nat.lt_succ_self m, by omega, p'⟩, fun x H' y => ?_⟩
    obtain ⟨y1, y2⟩ := y
    rw [y1]
    exact hs i x H (y2 xs (hl i H p)) p
/-! ### all links -/
def lkC (c : Str × Int × Int) : Tk := lk c.1 c.2.1 c.2.2
theorem kOf_eq (cs : List (Str × Int × Int)) : kOf cs = cs.map lkC := rfl
theorem lkC_inj {c d : Str × Int × Int} (h : lkC c = lkC d) : c = d := by
  obtain ⟨x, a, b⟩ := c
  obtain ⟨y, a', b'⟩ := d
  have h' : lk x a b = lk y a' b' := h
  unfold lk at h'
  injection h' with e1 e2
  injection e2 with e3 e4
  injection e4 with e5 _
  rw [Sum.inr.inj e1, Sum.inl.inj e3, Sum.inl.inj e5]
theorem mem_kOf {c : Str × Int × Int} {cs : List (Str × Int × Int)} : lkC c ∈ kOf cs ↔ c ∈ cs := by
  rw [kOf_eq]
  refine ⟨fun h => ?_, fun h => List.mem_map_of_mem h⟩
  obtain ⟨d, hd, e⟩ := List.mem_map.mp h
  rw [← lkC_inj e]
  exact hd
theorem mem_grid {n m : Nat} {a b : Int} : (a, b) ∈ gridP n m ↔ 0 ≤ a ∧ a < n ∧ 0 ≤ b ∧ b < m := by
  unfold gridP
  simp only [List.mem_flatMap, List.mem_range, List.mem_map, Prod.mk.injEq]
  constructor
  · rintro ⟨i, hi, j, hj, rfl, rfl⟩
    omega
  · rintro ⟨h1, h2, h3, h4⟩
    exact ⟨a.toNat, by omega, b.toNat, by omega, by omega, by omega⟩
def upsL (n s : Nat) : List (Str × Int × Int) := (gridP n s).map fun p => (("up" : Str), p.1, p.2)
def overA (ls : List Int) (a : Nat) : List (Str × Int × Int) := (crossN ls).map fun h => (("over" : Str), (a : Int), h)
def oversL (ls : List Int) (n : Nat) : List (Str × Int × Int) := (List.range n).flatMap (overA ls)
theorem overs_succ (ls : List Int) (n : Nat) : oversL ls (n + 1) = oversL ls n ++ overA ls n := by
  unfold oversL
  rw [List.range_succ, List.flatMap_append]
  simp
theorem crossN_len (ls : List Int) : (crossN ls).length = ls.length + 1 := by
  unfold crossN
  rw [List.length_map, List.length_range]
theorem overs_len (ls : List Int) (n : Nat) : (oversL ls n).length = n * (ls.length + 1) := by
  induction n with
  | zero => simp [oversL]
  | succ n ih =>
    rw [overs_succ, List.length_append, ih, Nat.succ_mul]
    unfold overA
    rw [List.length_map, crossN_len]
def linksL (ls gs : List Int) : List (Str × Int × Int) := oversL ls gs.length ++ upsL (gs.length + 1) ls.sum.toNat
theorem over_up : ¬ (("over" : Str) = "up") := by decide +kernel
theorem mem_links {ls gs : List Int} (h0 : 0 ≤ ls.sum) (c : Str × Int × Int) : c ∈ linksL ls gs ↔ isLk ls gs c.1 c.2.1 c.2.2 = true := by
  obtain ⟨x, a, b⟩ := c
  unfold linksL upsL oversL overA isLk
  simp only [List.mem_append, List.mem_flatMap, List.mem_range, List.mem_map, Prod.mk.injEq, Prod.exists]
  by_cases hx : x = "up"
  · subst hx
    rw [if_pos rfl]
    constructor
    · rintro (⟨i, hi, h, _, e, _⟩ | ⟨p, q, hm, _, rfl, rfl⟩)
      · exact absurd e over_up
      · have z := mem_grid.mp hm
        simp only [Bool.and_eq_true, decide_eq_true_eq]
        omega
    · intro z
      simp only [Bool.and_eq_true, decide_eq_true_eq] at z
      exact .inr ⟨a, b, mem_grid.mpr (by omega), rfl, rfl, rfl⟩
  · rw [if_neg hx]
    simp only [Bool.and_eq_true, decide_eq_true_eq]
    constructor
    · rintro (⟨i, hi, h, hh, rfl, rfl, rfl⟩ | ⟨p, q, _, e, _⟩)
      · exact ⟨rfl, ⟨by omega, by omega⟩, hh⟩
      · exact absurd e.symm hx
    · rintro ⟨rfl, ⟨h1, h2⟩, h3⟩
      exact .inl ⟨a.toNat, by omega, b, h3, rfl, by omega, rfl⟩
theorem Room.units1 {k : Nat} {A : Around} (r : Room k A) : A.units + 1 < cLine := by
  have := r.un
  omega
theorem val_closed {ls gs : List Int} {cs : List (Str × Int × Int)} (v : Valid ls gs cs) (k : Tk) : (valV ((kOf cs).map fun k => (k, V.bl true)) k).isSome = decide (k ∈ kOf cs) := by
  rw [← (ded_eq (kOf cs)).1 v.2.2.2.1]
  exact ded_mem _ _
theorem Valid.lens {ls gs : List Int} {cs : List (Str × Int × Int)} (v : Valid ls gs cs) : Lens ls := fun x hx => by
  have z := List.all_eq_true.mp v.1.2 x hx
  unfold longN at z
  rw [Bool.and_eq_true, decide_eq_true_eq, decide_eq_true_eq] at z
  exact z
/-! ### places, cross places, closed links -/
def isPl (ls gs : List Int) (p : Pl) : Bool := (decide (0 ≤ p.1) && decide (p.1 ≤ gs.length)) && (decide (0 ≤ p.2) && decide (p.2 ≤ ls.sum))
def isCr (ls gs : List Int) (p : Pl) : Bool := isPl ls gs p && decide (p.2 ∈ crossN ls)
def spPl (C : Addr) (f : List Int → List Int → Pl → Bool) : Sp := fun vs H Q _ => ∃ (p : Addr) (v : V) (ls gs : List Int) (cs : List (Str × Int × Int)) (pl : Pl), vs = [.ref p, v] ∧ HouseAt C H p ls gs cs ∧ Pr H v pl ∧ Q (.bl (f ls gs pl)) H
def spClosedQ (C : Addr) : Sp := fun vs H Q _ => ∃ (p : Addr) (v : V) (ls gs : List Int) (cs : List (Str × Int × Int)) (k : Tk), vs = [.ref p, v] ∧ HouseAt C H p ls gs cs ∧ Kr H v k ∧ Q (.bl (decide (k ∈ kOf cs))) H
theorem Pr.kr {H : Hp} {v : V} {p : Pl} (h : Pr H v p) : ∃ t, v = .ref t ∧ H t = some (.tup [.int p.1, .int p.2]) := h
theorem ok_is_place {f C : Addr} {fd : FuncData} (F : Fun K "is_place" "House.is_place" s_House_is_place f fd) (Z : HouseTop mg) (T : HouseTxt K mg C) : FnOk P w K mg base CX0 1 f fd ["self", "place"] (spPl C isPl) := by
  refine F.ok sc_House_is_place (fun vs H Q E h => ?_) (fun cdv A outer s H vs Q E hr h => ?_)
  · obtain ⟨p, v, ls, gs, cs, pl, rfl, _⟩ := h
    rfl
  · obtain ⟨p, v, ls, gs, cs, pl, rfl, ⟨_, dx, l, g, c, d, h1, h2, h3, h4, h5⟩, ⟨t, rfl, ht⟩, q⟩ := h
    have nd := sc_House_is_place.nd
    refine ⟨_, (pss_cons (ps_asg (pv 1) (pg_tup rfl (pgs_cons (pg_name (i := 2) nd rfl (.inl rfl)) (pgs_cons (pg_name (i := 3) nd rfl (.inl rfl)) pgs_nil))))
      (pss_one (ps_ret (pe_and (pe_chain op_le op_le pe_int (pv 2) (pe_callB call_len (by rfl) Z.len (by decide +kernel) (pa_cons (pe_fld (pv 0) rfl) pa_nil))) (pe_one (pe_chain op_le op_le pe_int (pv 3) (pe_fld (pv 0) rfl))))))), ?_⟩
    refine ⟨_, rfl, t, _, rfl, SqT.of ht, rfl, _, _, rfl, _, _, rfl, rfl, ?_⟩
    have var : ∀ {σ : L2.St} {i : Nat} {v : V}, σ[i]? = some (some v) → Tells (tVar i) σ H v := fun e Q q => ⟨_, e, q⟩
    have fld : ∀ {σ : L2.St} {f : Str} {v : V}, σ[0]? = some (some (V.ref p)) → NoAttr K C f → (hf (.ref l) (.ref g) (.ref c) (.int ls.sum) (.ref d)).lookup f = some v → Tells (tFld K (tVar 0) f) σ H v := fun e n z Q q =>
      ⟨_, e, p, C, dx, _, _, rfl, h1, T.cl, n, z, q⟩
    have cnt : ∀ {σ : L2.St}, σ[0]? = some (some (V.ref p)) → Tells (tCB (fun xs H1 Q => ∃ x n, xs = [x] ∧ LenV K x H1 n ∧ Q (V.int (n : Nat)) H1) (tCons (tFld K (tVar 0) "_gaps") tNil)) σ H (.int gs.length) := fun e Q q =>
      fld e T.nG (hf_gaps _ _ _ _ _) _ ⟨_, _, rfl, .inl ⟨_, SqL.of h3, rfl⟩, by rw [List.length_map]; exact q⟩
    refine tells_and (tells_chain (f := fun i j => decide (i ≤ j)) (var rfl) (cnt rfl)) (tells_chain (f := fun i j => decide (i ≤ j)) (var rfl) (fld rfl T.nT (hf_top _ _ _ _ _))) _ ?_
    exact q
theorem ok_is_closed {f C : Addr} {fd : FuncData} (F : Fun K "is_closed" "House.is_closed" s_House_is_closed f fd) (T : HouseTxt K mg C) : FnOk P w K mg base CX0 1 f fd ["self", "link"] (spClosedQ C) := by
  refine F.ok sc_House_is_closed (fun vs H Q E h => ?_) (fun cdv A outer s H vs Q E hr h => ?_)
  · obtain ⟨p, v, ls, gs, cs, k, rfl, _⟩ := h
    rfl
  · obtain ⟨p, v, ls, gs, cs, k, rfl, hH, ⟨t, rfl, ht⟩, q⟩ := h
    obtain ⟨va, dx, l, g, c, d, h1, h2, h3, h4, h5⟩ := id hH
    refine ⟨_, (pss_one (ps_ret (pe_cmp (pc_din (by exact Room.units1 hr) (pv 1) (pe_fld (pv 0) rfl))))), ?_⟩
    refine ⟨_, rfl, _, rfl, p, C, dx, _, _, rfl, h1, T.cl, T.nC, hf_closed _ _ _ _ _, d, _, rfl, DGet.t h5 ht, ?_⟩
    rw [val_closed va]
    exact q
theorem kOf_app (a b : List (Str × Int × Int)) : kOf (a ++ b) = kOf a ++ kOf b := List.map_append
theorem kOf_len (a : List (Str × Int × Int)) : (kOf a).length = a.length := List.length_map _
def farP (x : Str) (a h : Int) : Pl := if x = "up" then (a, h + 1) else (a + 1, h)
def lenLk (gs : List Int) (x : Str) (a : Int) : Int := if x = "up" then 1 else nth gs a
def spEnds (C CL : Addr) : Sp := fun vs H Q E => ∃ (p : Addr) (v : V) (ls gs : List Int) (cs : List (Str × Int × Int)) (x : Str) (a h : Int), vs = [.ref p, v] ∧ HouseAt C H p ls gs cs ∧ Kr H v (lk x a h) ∧
  (isLk ls gs x a h = true → ∀ (H' : Hp) (r : Addr) (u1 u2 : V), Same H H' → H' r = some (.tup [u1, u2]) → Pr H' u1 (a, h) → Pr H' u2 (farP x a h) → Q (.ref r) H') ∧ (isLk ls gs x a h = false → E (.ref CL) none H)
def spLenOf (C CL : Addr) : Sp := fun vs H Q E => ∃ (p : Addr) (v : V) (ls gs : List Int) (cs : List (Str × Int × Int)) (x : Str) (a h : Int), vs = [.ref p, v] ∧ HouseAt C H p ls gs cs ∧ Kr H v (lk x a h) ∧
  (isLk ls gs x a h = true → Q (.int (lenLk gs x a)) H) ∧ (isLk ls gs x a h = false → E (.ref CL) none H)
theorem isLk_aisle {ls gs : List Int} {x : Str} {a h : Int} (e : isLk ls gs x a h = true) (hx : ¬ x = "up") : 0 ≤ a ∧ a < gs.length := by
  unfold isLk at e
  rw [if_neg hx] at e
  simp only [Bool.and_eq_true, decide_eq_true_eq] at e
  exact e.2.1

theorem ok_length_of {f fL C CL : Addr} {fd fdL : FuncData} (F : Fun K "length_of" "House.length_of" s_House_length_of f fd) (Z : HouseTop mg) (T : HouseTxt K mg C) (U : ErrTxt K mg CL "InvalidLink") (GL : FnOk P w K mg base CX0 1 fL fdL ["self", "link"] (spLink C)) (bL : Binds K fdL ["self", "link"] []) (mL : Meth K C "is_link" fL) :
    FnOk P w K mg base (L2.CX P w) 2 f fd ["self", "link"] (spLenOf C CL) := by
  refine F.okX sc_House_length_of (fun vs H Q E h => ?_) (fun cdv A outer s H vs Q E hr h => ?_)
  · obtain ⟨p, v, ls, gs, cs, x, a, h, rfl, _⟩ := h
    rfl
  · obtain ⟨p, v, ls, gs, cs, x, a, h, rfl, hH, ⟨t, rfl, ht⟩, q, e⟩ := h
    obtain ⟨va, dx, l, g, c, d, h1, h2, h3, h4, h5⟩ := id hH
    have nd := sc_House_length_of.nd
    refine ⟨_, (pss_cons (ps_if (pt_not (pt_val (pe_meth (pv 0) T.cl mL GL hr bL .nil pass0 (pa_cons (pv 1) pa_nil)))) (pss_one (ps_raise rfl (takes_of rfl rfl rfl rfl) (pmk_own PySem.F.excBase_ValueError U.xI U.gI U.kI (raises_own U.bI U.tI) rfl))) pss_nil)
      (pss_cons (ps_asg (pv 1) (pg_tup rfl (pgs_cons (pg_name (i := 2) nd rfl (.inl rfl)) (pgs_cons (pg_name (i := 3) nd rfl (.inl rfl)) (pgs_cons (pg_name (i := 4) nd rfl (.inl rfl)) pgs_nil)))))
      (pss_cons (ps_if (pt_cmpR op_eq (pv 2) pe_str (nomark _)) (pss_one (ps_ret pe_int)) pss_nil)
      (pss_one (ps_ret (pe_ix ix_list (pe_fld (pv 0) rfl) (pv 3) (fun _ _ => rfl))))))), ?_⟩
    refine ⟨_, rfl, p, dx, _, rfl, h1, hf_no _ _ _ _ _ (by decide +kernel) (by decide +kernel) (by decide +kernel) (by decide +kernel) (by decide +kernel), _, rfl, p, .ref t, ls, gs, x, a, h, rfl, hH.part, ⟨t, rfl, ht⟩, _, rfl, ?_⟩
    cases hi : isLk ls gs x a h with
    | false => exact e hi
    | true =>
      refine ⟨_, rfl, t, [V.str x, V.int a, V.int h], rfl, SqT.of ht, rfl, _, _, rfl, _, _, rfl, _, _, rfl, rfl, ?_⟩
      refine ⟨_, rfl, rfl, _, rfl, ?_⟩
      have q2 := q hi
      refine ite2 (fun hc => ?_) (fun hc => ?_)
      · have hx : x = "up" := V.str.inj (of_decide_eq_true hc)
        unfold lenLk at q2
        rw [if_pos hx] at q2
        exact q2
      · have hx : ¬ x = "up" := fun z => by
          rw [z] at hc
          exact hc (decide_eq_true rfl)
        obtain ⟨b0, b1⟩ := isLk_aisle hi hx
        unfold lenLk at q2
        rw [if_neg hx] at q2
        exact ⟨_, rfl, p, C, dx, _, _, rfl, h1, T.cl, T.nG, hf_gaps _ _ _ _ _, _, rfl, g, _, a, _, rfl, rfl, SqL.of h3, atI_nth b0 b1, q2⟩
end

/-! ### min and max of two places -/
section
open PySem.W PySem.SeqAt PyProof.Rows
variable {prog : Program} {w : World} {A : Around} {E : Value → Shared → Prop} {s : Shared} {a b : Value} {x y : PyData} {as : List Addr} {Q : Value → Shared → Prop}
theorem best_two {P : Nat → Value → Prop} {bt : Nat → Nat → Bool} {v : Value} (h : (#[a, b] : Array Value)[argBest bt 1]? = some v) : v = if bt 1 0 = true then b else a := by
  cases e : bt 1 0 with
  | true =>
    have z : argBest bt 1 = 1 := by simp [argBest, e]
    rw [z] at h
    exact (Option.some.inj h).symm
  | false =>
    have z : argBest bt 1 = 0 := by simp [argBest, e]
    rw [z] at h
    exact (Option.some.inj h).symm
theorem max_two_data (hh : A.handled = none) (hr : ReadsAll s.heap [a, b] [x, y] as) (ha : AlikeAll [x, y]) (hu : A.units + 1 + PyData.depthAll [x, y] < cLine)
    (hq : ∀ h' tk, (∀ c o, s.heap.get? c = some o → h'.get? c = some o) → Q (if dataLt x y = true then b else a) { s with heap := h', toks := tk }) : wpAny (model prog w) A (call (.builtin "max") [a, b]) Q E s := by
  have nm : (toString "max" ++ toString ".loop" : String) = "max.loop" := by decide
  have hT : (s.heap.push { cls := .type "tuple", data := .seq #[a, b] }).IsTuple s.heap.objs.size #[a, b] := ⟨_, Heap.get?_push_size _ rfl, rfl, 0, rfl⟩
  have old : ∀ c o, s.heap.get? c = some o → (s.heap.push { cls := .type "tuple", data := .seq #[a, b] }).get? c = some o := fun c o e => Heap.get?_push_of_some _ e
  have hr2 := ReadsAll.keeps old hr
  refine call_function_tree F.kind_max F.plain_max F.entry_max (F.args_max2 _ _) (show wpAny _ A.in1 (Builtin.Builtins.bindParams "max" ["key", "default"] 0 ⟨[], []⟩ >>= _) _ _ s from wpAny_bind (wpAny_of_eq (show _ = pure [none, none] from rfl) (show wpAny _ A.in1 (newTuple [a, b] >>= _) _ _ s from wpAny_bind (wpAny_newObj_type ?_))))
  refine wpAny_bind (iter_tupleW (A := A.in1) hh hT fun s2 e W st hfp hw hk => ?_)
  refine wpAny_bind (wpAny_newObj_type ?_)
  have nS : s2.heap.objs.size ∉ _ := fun z => Nat.lt_irrefl _ (hfp _ z)
  rw [nm]
  refine wpAny_pure ⟨plainId_quiet F.plain_max_loop _, codeAny_max_loop_firstH W _ hw _ (cmpIn_gt (A := A.in1) hr2 ha (by show A.units + 1 + _ < _; exact hu)) s2.heap.objs.size nS (fresh_in hk) _ (Nat.zero_lt_succ 1) (fun c o z => Heap.get?_push_of_some _ (hk c o z)) (W.frame 0 s2 _ s2.toks st (Nat.le_refl _) fun c _ o z => Heap.get?_push_of_some _ z) (Heap.get?_push_size _ rfl) fun v s' hP hm => ?_⟩
  obtain ⟨h', tk, rfl, hk'⟩ := moved_old e rfl (Moved.drop_new (tk := s2.toks) hm (Nat.le_refl _))
  have ev := best_two (P := fun _ _ => True) hP
  rw [ev]
  exact hq h' tk fun c o z => hk' c o (old c o z)
theorem min_two_data (hh : A.handled = none) (hr : ReadsAll s.heap [a, b] [x, y] as) (ha : AlikeAll [x, y]) (hu : A.units + 1 + PyData.depthAll [x, y] < cLine)
    (hq : ∀ h' tk, (∀ c o, s.heap.get? c = some o → h'.get? c = some o) → Q (if dataLt y x = true then b else a) { s with heap := h', toks := tk }) : wpAny (model prog w) A (call (.builtin "min") [a, b]) Q E s := by
  have nm : (toString "min" ++ toString ".loop" : String) = "min.loop" := by decide
  have hT : (s.heap.push { cls := .type "tuple", data := .seq #[a, b] }).IsTuple s.heap.objs.size #[a, b] := ⟨_, Heap.get?_push_size _ rfl, rfl, 0, rfl⟩
  have old : ∀ c o, s.heap.get? c = some o → (s.heap.push { cls := .type "tuple", data := .seq #[a, b] }).get? c = some o := fun c o e => Heap.get?_push_of_some _ e
  have hr2 := ReadsAll.keeps old hr
  refine call_function_tree F.kind_min F.plain_min F.entry_min (F.args_min2 _ _) (show wpAny _ A.in1 (Builtin.Builtins.bindParams "min" ["key", "default"] 0 ⟨[], []⟩ >>= _) _ _ s from wpAny_bind (wpAny_of_eq (show _ = pure [none, none] from rfl) (show wpAny _ A.in1 (newTuple [a, b] >>= _) _ _ s from wpAny_bind (wpAny_newObj_type ?_))))
  refine wpAny_bind (iter_tupleW (A := A.in1) hh hT fun s2 e W st hfp hw hk => ?_)
  refine wpAny_bind (wpAny_newObj_type ?_)
  have nS : s2.heap.objs.size ∉ _ := fun z => Nat.lt_irrefl _ (hfp _ z)
  rw [nm]
  refine wpAny_pure ⟨plainId_quiet F.plain_min_loop _, codeAny_min_loop_firstH W _ hw _ (cmpIn_lt (A := A.in1) hr2 ha (by show A.units + 1 + _ < _; exact hu)) s2.heap.objs.size nS (fresh_in hk) _ (Nat.zero_lt_succ 1) (fun c o z => Heap.get?_push_of_some _ (hk c o z)) (W.frame 0 s2 _ s2.toks st (Nat.le_refl _) fun c _ o z => Heap.get?_push_of_some _ z) (Heap.get?_push_size _ rfl) fun v s' hP hm => ?_⟩
  obtain ⟨h', tk, rfl, hk'⟩ := moved_old e rfl (Moved.drop_new (tk := s2.toks) hm (Nat.le_refl _))
  have ev := best_two (P := fun _ _ => True) hP
  rw [ev]
  exact hq h' tk fun c o z => hk' c o (old c o z)
end
section
open PySem.Spec PyProof.Rows
variable {X : Cx}
def lsP (p q : Pl) : Bool := decide (p.1 < q.1 ∨ (p.1 = q.1 ∧ p.2 < q.2))
theorem lt_dP (p q : Pl) : PySem.W.dataLt (dP p) (dP q) = lsP p q := PySem.W.dataLt_ii _ _ _ _
def rMax2P : List V → Hp → VK → Prop := fun vs H Q => ∃ (u v : V) (p q : Pl), vs = [u, v] ∧ Pr H u p ∧ Pr H v q ∧ Q (if lsP p q = true then v else u) H
def rMin2P : List V → Hp → VK → Prop := fun vs H Q => ∃ (u v : V) (p q : Pl), vs = [u, v] ∧ Pr H u p ∧ Pr H v q ∧ Q (if lsP q p = true then v else u) H
theorem alike_dP (p q : Pl) : PySem.W.AlikeAll [dP p, dP q] := by
  have h : ∀ a b : Pl, PySem.W.alike (dP a) (dP b) = true := fun a b => by
    show PySem.W.alike (.tuple [.int _, .int _]) (.tuple [.int _, .int _]) = true
    simp [PySem.W.alike, PySem.W.alikeAll]
  refine ⟨fun d hd d' hd' => ?_, fun d hd => ?_⟩
  · simp only [List.mem_cons, List.not_mem_nil, or_false] at hd hd'
    rcases hd with rfl | rfl <;> rcases hd' with rfl | rfl <;> exact h _ _
  · simp only [List.mem_cons, List.not_mem_nil, or_false] at hd
    rcases hd with rfl | rfl <;> (intro z; cases z)
theorem call_max2P (hc : X.calm = true) (hu : X.A.units + 3 < cLine) : CallR X (.builtin "max") rMax2P := by
  intro pins s σ H xs us Q I r h
  obtain ⟨u, v, p, q, rfl, hp, hq, z⟩ := h
  obtain ⟨a, b, rfl, r1, r2⟩ := vals2 r
  obtain ⟨as, d1⟩ := Dp.reads I (dP p) u a hp.dp r1
  obtain ⟨bs, d2⟩ := Dp.reads I (dP q) v b hq.dp r2
  refine max_two_data (I.ok.hd hc) (.cons d1 (.cons d2 .nil)) (alike_dP p q) (by show X.A.units + 1 + 1 < cLine; omega) fun h' tk k => ⟨_, H, I.kept k, ?_, z⟩
  rw [lt_dP]
  cases lsP p q with
  | true => exact r2
  | false => exact r1
theorem call_min2P (hc : X.calm = true) (hu : X.A.units + 3 < cLine) : CallR X (.builtin "min") rMin2P := by
  intro pins s σ H xs us Q I r h
  obtain ⟨u, v, p, q, rfl, hp, hq, z⟩ := h
  obtain ⟨a, b, rfl, r1, r2⟩ := vals2 r
  obtain ⟨as, d1⟩ := Dp.reads I (dP p) u a hp.dp r1
  obtain ⟨bs, d2⟩ := Dp.reads I (dP q) v b hq.dp r2
  refine min_two_data (I.ok.hd hc) (.cons d1 (.cons d2 .nil)) (alike_dP p q) (by show X.A.units + 1 + 1 < cLine; omega) fun h' tk k => ⟨_, H, I.kept k, ?_, z⟩
  rw [lt_dP]
  cases lsP q p with
  | true => exact r2
  | false => exact r1
end

/-! ### the link between two places; what is beside a place -/
section
open GxR NdefX PySem.Spec PyProof.Rows
variable {P : Program} {w : World} {K : PySem.W.Frag} {mg : Str → Option Value} {base : Heap}
theorem Room.units3 {k : Nat} {A : Around} (r : Room k A) : A.units + 3 < cLine := by
  have := r.un
  omega
def loP (p q : Pl) : Pl := if lsP q p = true then q else p
def hiP (p q : Pl) : Pl := if lsP p q = true then q else p
def joinC (p q : Pl) : Option (Str × Int × Int) :=
  if hiP p q = ((loP p q).1, (loP p q).2 + 1) then some (("up" : Str), (loP p q).1, (loP p q).2)
  else if hiP p q = ((loP p q).1 + 1, (loP p q).2) then some (("over" : Str), (loP p q).1, (loP p q).2) else none
def lnkB (ls gs : List Int) (cs : List (Str × Int × Int)) (p q : Pl) : Option (Str × Int × Int) := match joinC p q with
  | none => none
  | some c => if (isLk ls gs c.1 c.2.1 c.2.2 && !decide (lkC c ∈ kOf cs)) = true then some c else none
theorem lnkB_lk {ls gs : List Int} {cs : List (Str × Int × Int)} {p q : Pl} {c : Str × Int × Int} (h : lnkB ls gs cs p q = some c) : isLk ls gs c.1 c.2.1 c.2.2 = true := by
  unfold lnkB at h
  split at h
  · cases h
  · rename_i d _
    split at h
    · rename_i z
      cases h
      rw [Bool.and_eq_true] at z
      exact z.1
    · cases h
def spBetween (C : Addr) : Sp := fun vs H Q _ => ∃ (p : Addr) (u v : V) (ls gs : List Int) (cs : List (Str × Int × Int)) (a b : Pl), vs = [.ref p, u, v] ∧ HouseAt C H p ls gs cs ∧ Pr H u a ∧ Pr H v b ∧
  (lnkB ls gs cs a b = none → ∀ H', Same H H' → Q .non H') ∧ (∀ c, lnkB ls gs cs a b = some c → ∀ (H' : Hp) (t : Addr), Same H H' → H' t = some (.tup ((lkC c).map kV)) → Q (.ref t) H')
theorem ok_between {f fL fC C : Addr} {fd fdL fdC : FuncData} (F : Fun K "link_between" "House.link_between" s_House_link_between f fd) (hmin : mg "min" = none) (hmax : mg "max" = none) (T : HouseTxt K mg C)
    (GL : FnOk P w K mg base CX0 1 fL fdL ["self", "link"] (spLink C)) (bL : Binds K fdL ["self", "link"] []) (mL : Meth K C "is_link" fL) (GC : FnOk P w K mg base CX0 1 fC fdC ["self", "link"] (spClosedQ C)) (bC : Binds K fdC ["self", "link"] []) (mC : Meth K C "is_closed" fC) :
    FnOk P w K mg base CX0 2 f fd ["self", "one", "other"] (spBetween C) := by
  refine F.ok sc_House_link_between (fun vs H Q E h => ?_) (fun cdv A outer s H vs Q E hr h => ?_)
  · obtain ⟨p, u, v, ls, gs, cs, a, b, rfl, _⟩ := h
    rfl
  · obtain ⟨p, u, v, ls, gs, cs, a, b, rfl, hH, hu, hv, q0, q1⟩ := h
    obtain ⟨va, dx, l, g, c, d, h1, h2, h3, h4, h5⟩ := id hH
    have nd := sc_House_link_between.nd
    refine ⟨_, (pss_cons (ps_asg (pe_callB (call_min2P rfl (by exact Room.units3 hr)) (by rfl) hmin (by decide +kernel) (pa_cons (pv 1) (pa_cons (pv 2) pa_nil))) (pg_tup rfl (pgs_cons (pg_name (i := 3) nd rfl (.inl rfl)) (pgs_cons (pg_name (i := 4) nd rfl (.inl rfl)) pgs_nil))))
      (pss_cons (ps_set (i := 5) nd rfl (.inl rfl) (pe_callB (call_max2P rfl (by exact Room.units3 hr)) (by rfl) hmax (by decide +kernel) (pa_cons (pv 1) (pa_cons (pv 2) pa_nil))))
      (C8.pss_cut (ps_if (pt_cmpR (op_eqD hr.units) (pv 5) (pe_tup (pa_cons (pv 3) (pa_cons (pe_op op_add (pv 4) pe_int) pa_nil))) (nomark _)) (pss_one (ps_set (i := 6) nd rfl (.inl rfl) (pe_tup (pa_cons pe_str (pa_cons (pv 3) (pa_cons (pv 4) pa_nil)))))) (pss_one (ps_if (pt_cmpR (op_eqD hr.units) (pv 5) (pe_tup (pa_cons (pe_op op_add (pv 3) pe_int) (pa_cons (pv 4) pa_nil))) (nomark _)) (pss_one (ps_set (i := 6) nd rfl (.inl rfl) (pe_tup (pa_cons pe_str (pa_cons (pv 3) (pa_cons (pv 4) pa_nil)))))) (pss_one (ps_ret pe_non)))))
      (pss_cons (ps_if (PW.pt (pw_and (pt_val (pe_meth (pv 0) T.cl mL GL hr bL .nil pass0 (pa_cons (pv 6) pa_nil))) (pw_and1 (pt_not (pt_val (pe_meth (pv 0) T.cl mC GC hr bC .nil pass0 (pa_cons (pv 6) pa_nil))))))) (pss_one (ps_ret (pv 6))) pss_nil)
      (pss_one (ps_ret pe_non)))))), ?_⟩
    have hlo : ∃ t, (if lsP b a = true then v else u) = .ref t ∧ H t = some (.tup [.int (loP a b).1, .int (loP a b).2]) := by
      unfold loP
      cases lsP b a with
      | true => exact hv
      | false => exact hu
    have hhi : Pr H (if lsP a b = true then v else u) (hiP a b) := by
      unfold hiP
      cases lsP a b with
      | true => exact hv
      | false => exact hu
    obtain ⟨tl, el, hl⟩ := hlo
    refine ⟨_, rfl, _, rfl, u, v, a, b, rfl, hu, hv, tl, _, el, SqT.of hl, rfl, _, _, rfl, _, _, rfl, rfl, ?_⟩
    refine ⟨_, rfl, _, rfl, u, v, a, b, rfl, hu, hv, ?_⟩
    generalize (if lsP a b = true then v else u) = vh at hhi
    refine ⟨fun σ' H' => ∃ (k : Str × Int × Int) (t6 : Addr), joinC a b = some k ∧ σ' = [some (.ref p), some u, some v, some (.int (loP a b).1), some (.int (loP a b).2), some vh, some (.ref t6)] ∧ Same H H' ∧ H' t6 = some (.tup ((lkC k).map kV)), ?_, ?_⟩
    · refine ⟨_, rfl, _, rfl, _, rfl, _, _, rfl, rfl, (by show 2 ≤ sizeLine; decide), fun t1 n1 => ?_⟩
      obtain ⟨H1, e1, k1, g1⟩ := made (o := .tup [V.int (loP a b).1, V.int ((loP a b).2 + 1)]) n1
      rw [e1]
      refine ⟨dP (hiP a b), dP ((loP a b).1, (loP a b).2 + 1), (hhi.same k1).dp, Pr.dp ⟨t1, rfl, g1⟩, sh_dP _, sh_dP _, _, rfl, ?_⟩
      rw [eqv_dP]
      refine ite2 (fun hc => ?_) (fun hc => ?_)
      · have hc' := of_decide_eq_true hc
        refine ⟨_, rfl, _, rfl, (by show 3 ≤ sizeLine; decide), fun t6 n6 => ?_⟩
        obtain ⟨H2, e2, k2, g2⟩ := made (o := .tup [V.str "up", V.int (loP a b).1, V.int (loP a b).2]) n6
        have e2' : upd H1 t6 (.tup [V.str "up", V.int (loP a b).1, V.int (loP a b).2]) = H2 := e2
        rw [e2']
        exact ⟨(("up" : Str), (loP a b).1, (loP a b).2), t6, by unfold joinC; rw [if_pos hc'], rfl, k1.trans k2, g2⟩
      · have hc' : ¬ hiP a b = ((loP a b).1, (loP a b).2 + 1) := fun z => hc (decide_eq_true z)
        refine ⟨_, rfl, _, rfl, _, _, rfl, rfl, _, rfl, (by show 2 ≤ sizeLine; decide), fun t2 n2 => ?_⟩
        obtain ⟨H2, e2, k2, g2⟩ := made (o := .tup [V.int ((loP a b).1 + 1), V.int (loP a b).2]) n2
        rw [e2]
        have k12 := k1.trans k2
        refine ⟨dP (hiP a b), dP ((loP a b).1 + 1, (loP a b).2), (hhi.same k12).dp, Pr.dp ⟨t2, rfl, g2⟩, sh_dP _, sh_dP _, _, rfl, ?_⟩
        rw [eqv_dP]
        refine ite2 (fun hd => ?_) (fun hd => ?_)
        · have hd' := of_decide_eq_true hd
          refine ⟨_, rfl, _, rfl, (by show 3 ≤ sizeLine; decide), fun t6 n6 => ?_⟩
          obtain ⟨H3, e3, k3, g3⟩ := made (o := .tup [V.str "over", V.int (loP a b).1, V.int (loP a b).2]) n6
          have e3' : upd H2 t6 (.tup [V.str "over", V.int (loP a b).1, V.int (loP a b).2]) = H3 := e3
          rw [e3']
          exact ⟨(("over" : Str), (loP a b).1, (loP a b).2), t6, by unfold joinC; rw [if_neg hc', if_pos hd'], rfl, k12.trans k3, g3⟩
        · have hd' : ¬ hiP a b = ((loP a b).1 + 1, (loP a b).2) := fun z => hd (decide_eq_true z)
          refine q0 ?_ H2 k12
          have ej : joinC a b = none := by unfold joinC; rw [if_neg hc', if_neg hd']
          unfold lnkB
          rw [ej]
    · rintro σ' H2 ⟨⟨x, ka, kh⟩, t6, ej, rfl, k2, g6⟩
      have hk : Kr H2 (.ref t6) (lk x ka kh) := ⟨t6, rfl, g6⟩
      have hH2 := hH.kp (kpS k2)
      have en : lnkB ls gs cs a b = if (isLk ls gs x ka kh && !decide (lkC (x, ka, kh) ∈ kOf cs)) = true then some (x, ka, kh) else none := by
        unfold lnkB
        rw [ej]
      refine ⟨_, rfl, p, dx, _, rfl, k2 _ _ h1, hf_no _ _ _ _ _ (by decide +kernel) (by decide +kernel) (by decide +kernel) (by decide +kernel) (by decide +kernel), _, rfl, p, .ref t6, ls, gs, x, ka, kh, rfl, hH2.part, hk, _, rfl, ?_⟩
      cases hi : isLk ls gs x ka kh with
      | false =>
        refine iteF (iteF ?_)
        refine q0 ?_ H2 k2
        rw [en, hi]
        rfl
      | true =>
        refine iteT ?_
        refine ⟨_, rfl, p, dx, _, rfl, k2 _ _ h1, hf_no _ _ _ _ _ (by decide +kernel) (by decide +kernel) (by decide +kernel) (by decide +kernel) (by decide +kernel), _, rfl, p, .ref t6, ls, gs, cs, lk x ka kh, rfl, hH2, hk, _, rfl, ?_⟩
        have ed : lkC (x, ka, kh) = lk x ka kh := rfl
        rw [hi, ed] at en
        cases hcl : decide (lk x ka kh ∈ kOf cs) with
        | true =>
          refine iteF ?_
          refine q0 ?_ H2 k2
          rw [en, hcl]
          rfl
        | false =>
          refine iteT ?_
          refine ⟨_, rfl, q1 (x, ka, kh) ?_ H2 t6 k2 g6⟩
          rw [en, hcl]
          rfl
def aroundP (p : Pl) : List Pl := [(p.1 - 1, p.2), (p.1, p.2 - 1), (p.1, p.2 + 1), (p.1 + 1, p.2)]
def besO (ls gs : List Int) (cs : List (Str × Int × Int)) (p q : Pl) : Option (Pl × Int) := (lnkB ls gs cs p q).map fun c => (q, lenLk gs c.1 c.2.1)
def besL (ls gs : List Int) (cs : List (Str × Int × Int)) (p : Pl) : List (Pl × Int) := (aroundP p).filterMap (besO ls gs cs p)
/-- v is a tuple of a place and a number -/
def Br (H : Hp) (v : V) (r : Pl × Int) : Prop := ∃ t u, v = .ref t ∧ H t = some (.tup [u, .int r.2]) ∧ Pr H u r.1
theorem Br.same {H H' : Hp} {v : V} {r : Pl × Int} (h : Br H v r) (k : Same H H') : Br H' v r := by
  obtain ⟨t, u, e, h1, h2⟩ := h
  exact ⟨t, u, e, k _ _ h1, h2.same k⟩
theorem Br.over {H : Hp} {m : Addr} {zs ws : List V} {v : V} {r : Pl × Int} (h : Br H v r) (hm : H m = some (.lst zs)) : Br (upd H m (.lst ws)) v r := by
  obtain ⟨t, u, e, h1, h2⟩ := h
  exact ⟨t, u, e, by rw [upd_ne (ne_of h1 hm fun z => nomatch z)]; exact h1, h2.over hm⟩
inductive Brs (H : Hp) : List V → List (Pl × Int) → Prop
  | nil : Brs H [] []
  | cons {v : V} {r : Pl × Int} {vs : List V} {rs : List (Pl × Int)} : Br H v r → Brs H vs rs → Brs H (v :: vs) (r :: rs)
theorem Brs.same {H H' : Hp} {vs : List V} {rs : List (Pl × Int)} (h : Brs H vs rs) (k : Same H H') : Brs H' vs rs := by
  induction h with
  | nil => exact .nil
  | cons a _ ih => exact .cons (a.same k) ih
theorem Brs.over {H : Hp} {m : Addr} {zs ws vs : List V} {rs : List (Pl × Int)} (h : Brs H vs rs) (hm : H m = some (.lst zs)) : Brs (upd H m (.lst ws)) vs rs := by
  induction h with
  | nil => exact .nil
  | cons a _ ih => exact .cons (a.over hm) ih
theorem Brs.snoc {H : Hp} {vs : List V} {v : V} {rs : List (Pl × Int)} {r : Pl × Int} (h : Brs H vs rs) (g : Br H v r) : Brs H (vs ++ [v]) (rs ++ [r]) := by
  induction h with
  | nil => exact .cons g .nil
  | cons a _ ih => exact .cons a ih
theorem Brs.len {H : Hp} {vs : List V} {rs : List (Pl × Int)} (h : Brs H vs rs) : vs.length = rs.length := by
  induction h with
  | nil => rfl
  | cons a _ ih => exact congrArg (· + 1) ih
def dB (r : Pl × Int) : PyData := .tuple [dP r.1, .int r.2]
def dBs (rs : List (Pl × Int)) : PyData := .list (rs.map dB)
theorem eqv_dB (a b : Pl × Int) : PyData.eqv (dB a) (dB b) = decide (a = b) := by
  show PyData.eqvAll [dP a.1, .int a.2] [dP b.1, .int b.2] = _
  simp only [PyData.eqvAll, eqv_dP, eqv_int, Bool.and_true, ← Bool.decide_and]
  congr 1
  exact propext Prod.ext_iff.symm
theorem eqvAll_dB : ∀ a b : List (Pl × Int), PyData.eqvAll (a.map dB) (b.map dB) = decide (a = b)
  | [], [] => by simp [PyData.eqvAll]
  | [], _ :: _ => by simp [PyData.eqvAll]
  | _ :: _, [] => by simp [PyData.eqvAll]
  | p :: ps, q :: qs => by
    simp only [List.map_cons, PyData.eqvAll, eqv_dB, eqvAll_dB ps qs, List.cons.injEq]
    by_cases h1 : p = q <;> by_cases h2 : ps = qs <;> simp [h1, h2]
theorem eqv_dBs (a b : List (Pl × Int)) : PyData.eqv (dBs a) (dBs b) = decide (a = b) := by
  unfold dBs
  rw [PyData.eqv, eqvAll_dB]
theorem Brs.dps {H : Hp} {vs : List V} {rs : List (Pl × Int)} (h : Brs H vs rs) : DpAll K H vs (rs.map dB) := by
  induction h with
  | nil => exact .nil
  | cons a _ ih =>
    obtain ⟨t, u, rfl, h1, h2⟩ := a
    exact .cons (.tup (SqT.of h1) (.cons h2.dp (.cons (.int _) .nil))) ih
theorem Brs.dl {H : Hp} {l : Addr} {vs : List V} {rs : List (Pl × Int)} (h : Brs H vs rs) (e : SqL K H l vs) : Dp K H (.ref l) (dBs rs) := .lst e h.dps
theorem lay_dBs : ∀ rs : List (Pl × Int), PyData.canLayAll0 (rs.map dB) = true
  | [] => rfl
  | _ :: rs => by
    show (true && PyData.canLayAll0 (rs.map dB)) = true
    rw [lay_dBs rs]
    rfl
theorem depth_dBs : ∀ rs : List (Pl × Int), PyData.depthAll (rs.map dB) ≤ 2
  | [] => by show 0 ≤ 2; omega
  | _ :: rs => by
    have ih := depth_dBs rs
    show max 2 (PyData.depthAll (rs.map dB)) ≤ 2
    omega
theorem sh_dBs (rs : List (Pl × Int)) : SeqAt.shaped (dBs rs) = true := by
  have h := depth_dBs rs
  unfold SeqAt.shaped dBs
  rw [show PyData.canLay0 (.list (rs.map dB)) = PyData.canLayAll0 (rs.map dB) from rfl, lay_dBs]
  refine decide_eq_true ?_
  show PyData.depthAll (rs.map dB) + 1 ≤ 64
  omega
/-- the error of places that are none -/
structure PlcTxt (K : PySem.W.Frag) (mg : Str → Option Value) (CP fP : Addr) : Prop where
  g : mg "InvalidPlace" = some (.ref CP)
  o : OexC K CP
  n : PySem.W.findIn K (.ref CP) "place" = some none
  i : PySem.W.findIn K (.ref CP) "__init__" = some (some (.ref fP))
  y : PySem.W.typeIn K (.ref fP) = some (.type "function")
theorem ok_plcinit {f C : Addr} {fd : FuncData} (F : Fun K "__init__" "InvalidPlace.__init__" s_InvalidPlace___init__ f fd) : FnOk P w K mg base CX0 1 f fd ["self", "place"] (spXI K C "place") := by
  refine F.ok sc_InvalidPlace___init__ (fun vs H Q E h => ?_) (fun cdv A outer s H vs Q E hr h => ?_)
  · obtain ⟨a, v, rfl, _⟩ := h
    rfl
  · obtain ⟨a, v, rfl, T, hno, ha, q⟩ := h
    exact ⟨_, pss_one (ps_ost (pv 0) (pv 1)), v, rfl, _, rfl, a, C, rfl, T, hno, .inl ⟨ha, q⟩⟩
theorem raised {H : Hp} {a d C : Addr} {f : Str} {v : V} (ha : H a = none) (hd : (upd H a (exo a C none)) d = none) (hne : d ≠ a) :
    (upd (upd (upd H a (exo a C none)) d (exd d [(f, v)])) a (exo a C (some d))) a = some (exo a C (some d)) ∧ (upd (upd (upd H a (exo a C none)) d (exd d [(f, v)])) a (exo a C (some d))) d = some (exd d [(f, v)]) ∧ H d = none ∧
    Same H (upd (del (upd (upd (upd H a (exo a C none)) d (exd d [(f, v)])) a (exo a C (some d))) a) d (.xd [(f, v)])) := by
  have hdn : H d = none := by
    rw [upd_ne hne] at hd
    exact hd
  refine ⟨upd_same, by rw [upd_ne hne, upd_same], hdn, fun b o e => ?_⟩
  have h1 : b ≠ a := ne_of_none e ha
  have h2 : b ≠ d := ne_of_none e hdn
  rw [upd_ne h2, del_ne h1, upd_ne h1, upd_ne h2, upd_ne h1]
  exact e
def spBeside (C CP : Addr) : Sp := fun vs H Q E => ∃ (p : Addr) (v : V) (ls gs : List Int) (cs : List (Str × Int × Int)) (a : Pl), vs = [.ref p, v] ∧ HouseAt C H p ls gs cs ∧ Pr H v a ∧
  (isPl ls gs a = true → ∀ (H' : Hp) (r : Addr) (xs : List V), Same H H' → H r = none → H' r = some (.lst xs) → Brs H' xs (besL ls gs cs a) → Q (.ref r) H') ∧
  (isPl ls gs a = false → ∀ (H' : Hp) (d : Addr), Same H H' → H' d = some (.xd [("place", v)]) → E (.ref CP) (some d) H')
theorem ok_beside {f fP fB fN fI C CP CL : Addr} {fd fdP fdB fdN fdI : FuncData} (F : Fun K "beside" "House.beside" s_House_beside f fd) (T : HouseTxt K mg C) (U : PlcTxt K mg CP fI) (GI : FnOk P w K mg base CX0 1 fI fdI ["self", "place"] (spXI K CP "place")) (bI : Binds K fdI ["self", "place"] [])
    (GP : FnOk P w K mg base CX0 1 fP fdP ["self", "place"] (spPl C isPl)) (bP : Binds K fdP ["self", "place"] []) (mP : Meth K C "is_place" fP) (GB : FnOk P w K mg base CX0 2 fB fdB ["self", "one", "other"] (spBetween C)) (bB : Binds K fdB ["self", "one", "other"] []) (mB : Meth K C "link_between" fB)
    (GN : FnOk P w K mg base (L2.CX P w) 2 fN fdN ["self", "link"] (spLenOf C CL)) (bN : Binds K fdN ["self", "link"] []) (mN : Meth K C "length_of" fN) : FnOk P w K mg base (L2.CX P w) 4 f fd ["self", "place"] (spBeside C CP) := by
  refine F.okX sc_House_beside (fun vs H Q E h => ?_) (fun cdv A outer s H vs Q E hr h => ?_)
  · obtain ⟨p, v, ls, gs, cs, a, rfl, _⟩ := h
    rfl
  · obtain ⟨p, v, ls, gs, cs, a, rfl, hH, hv, q, e⟩ := h
    obtain ⟨va, dx, l, g, c, d, h1, h2, h3, h4, h5⟩ := id hH
    have nd := sc_House_beside.nd
    refine ⟨_, (pss_cons (ps_if (pt_not (pt_val (pe_meth (pv 0) T.cl mP GP (by exact hr.mono (by decide)) bP .nil pass0 (pa_cons (pv 1) pa_nil)))) (pss_one (ps_raise rfl (takes_of rfl rfl rfl rfl) (pmk_oex U.o U.i U.y GI (by exact hr.mono (by decide)) bI .nil pass0 (by rfl) U.g (pa_cons (pv 1) pa_nil)))) pss_nil)
      (pss_cons (ps_asg (pv 1) (pg_tup rfl (pgs_cons (pg_name (i := 2) nd rfl (.inl rfl)) (pgs_cons (pg_name (i := 3) nd rfl (.inl rfl)) pgs_nil))))
      (pss_cons (ps_set (i := 4) nd rfl (.inl rfl) (pe_lst (pa_cons (pe_tup (pa_cons (pe_op op_sub (pv 2) pe_int) (pa_cons (pv 3) pa_nil))) (pa_cons (pe_tup (pa_cons (pv 2) (pa_cons (pe_op op_sub (pv 3) pe_int) pa_nil))) (pa_cons (pe_tup (pa_cons (pv 2) (pa_cons (pe_op op_add (pv 3) pe_int) pa_nil))) (pa_cons (pe_tup (pa_cons (pe_op op_add (pv 2) pe_int) (pa_cons (pv 3) pa_nil))) pa_nil))))))
      (pss_cons (ps_set (i := 5) nd rfl (.inl rfl) (pe_lst pa_nil))
      (pss_cons (ps_for (passes_of rfl) rfl (pi_list (pv 4)) (pg_name (i := 6) nd rfl (.inl rfl)) (pss_cons (ps_set (i := 7) nd rfl (.inl rfl) (pe_meth (pv 0) T.cl mB GB (by exact hr.mono (by decide)) bB .nil pass0 (pa_cons (pv 1) (pa_cons (pv 6) pa_nil))))
      (pss_one (ps_if (pt_cmp (pc_notN (pv 7))) (pss_one (ps_expr (pe_bm PySem.F.plainAttrs_list PySem.F.slot_list_append PySem.F.type_list_append mt_append (pv 5) (pa_cons (pe_tup (pa_cons (pv 6) (pa_cons (pe_meth (pv 0) T.cl mN GN (by exact hr.mono (by decide)) bN .nil (passes_call (takes_of rfl rfl rfl rfl) fun _ _ _ _ h => h) (pa_cons (pv 7) pa_nil)) pa_nil))) pa_nil)))) pss_nil))))
      (pss_one (ps_ret (pv 5)))))))), ?_⟩
    refine ⟨_, rfl, p, dx, _, rfl, h1, hf_no _ _ _ _ _ (by decide +kernel) (by decide +kernel) (by decide +kernel) (by decide +kernel) (by decide +kernel), _, rfl, p, v, ls, gs, cs, a, rfl, hH, hv, _, rfl, ?_⟩
    cases hi : isPl ls gs a with
    | false =>
      refine iteT ?_
      refine ⟨_, rfl, by show 1 ≤ 1000; decide, fun y ny => ⟨y, v, rfl, U.o, U.n, upd_same, fun dd hd hne => ⟨rfl, dd, [("place", v)], ?_⟩⟩⟩
      obtain ⟨g1, g2, g3, g4⟩ := raised (f := "place") (v := v) ny hd hne
      exact ⟨g1, g2, g3, e hi _ dd g4 upd_same⟩
    | true =>
      refine iteF ?_
      obtain ⟨t, rfl, ht⟩ := id hv
      refine ⟨_, rfl, t, _, rfl, SqT.of ht, rfl, _, _, rfl, _, _, rfl, rfl, ?_⟩
      refine ⟨_, rfl, _, _, rfl, rfl, _, rfl, (by show 2 ≤ sizeLine; decide), fun t1 n1 => ?_⟩
      obtain ⟨H1, e1, k1, g1⟩ := made (o := .tup [V.int (a.1 - 1), V.int a.2]) n1
      rw [e1]
      refine ⟨_, rfl, _, rfl, _, _, rfl, rfl, (by show 2 ≤ sizeLine; decide), fun t2 n2 => ?_⟩
      obtain ⟨H2, e2, k2, g2⟩ := made (o := .tup [V.int a.1, V.int (a.2 - 1)]) n2
      rw [e2]
      refine ⟨_, rfl, _, rfl, _, _, rfl, rfl, (by show 2 ≤ sizeLine; decide), fun t3 n3 => ?_⟩
      obtain ⟨H3, e3, k3, g3⟩ := made (o := .tup [V.int a.1, V.int (a.2 + 1)]) n3
      rw [e3]
      refine ⟨_, rfl, _, _, rfl, rfl, _, rfl, (by show 2 ≤ sizeLine; decide), fun t4 n4 => ?_⟩
      obtain ⟨H4, e4, k4, g4⟩ := made (o := .tup [V.int (a.1 + 1), V.int a.2]) n4
      rw [e4]
      refine ⟨(by show 4 ≤ sizeLine; decide), fun ra nra => ?_⟩
      obtain ⟨H5, e5, k5, g5⟩ := made (o := .lst [V.ref t1, V.ref t2, V.ref t3, V.ref t4]) nra
      rw [e5]
      have s4 := k5
      have s3 := k4.trans s4
      have s2 := k3.trans s3
      have s1 := k2.trans s2
      have s0 := k1.trans s1
      have har : Prs H5 [V.ref t1, V.ref t2, V.ref t3, V.ref t4] (aroundP a) := .cons ⟨t1, rfl, s1 _ _ g1⟩ (.cons ⟨t2, rfl, s2 _ _ g2⟩ (.cons ⟨t3, rfl, s3 _ _ g3⟩ (.cons ⟨t4, rfl, s4 _ _ g4⟩ .nil)))
      refine ⟨Nat.zero_le _, fun rj nrj => ?_⟩
      have kj : Same H5 (upd H5 rj (.lst [])) := same_upd nrj
      refine ⟨_, rfl, ra, rfl, ⟨_, SqL.of (kj _ _ g5)⟩, ?_⟩
      refine for_list (K := K) (a := ra) (xs := [V.ref t1, V.ref t2, V.ref t3, V.ref t4]) (fun i σ H' => ∃ (ys : List V) (v6 v7 : Option V), σ = [some (.ref p), some (.ref t), some (.int a.1), some (.int a.2), some (.ref ra), some (.ref rj), v6, v7] ∧ Same H5 H' ∧ H' rj = some (.lst ys) ∧ Brs H' ys (((aroundP a).take i).filterMap (besO ls gs cs a)) ∧ ys.length ≤ i) ?_ ?_ ?_ ?_
      · exact ⟨[], none, none, rfl, kj, upd_same, .nil, Nat.le_refl _⟩
      · rintro i σ H' _ ⟨ys, v6, v7, _, kt, _⟩
        exact SqL.of (kt _ _ g5)
      · rintro i x σ H' hx ⟨ys, v6, v7, rfl, kt, hrj, hys, hle⟩
        have lt : i < 4 := (List.getElem?_eq_some_iff.mp hx).1
        obtain ⟨b, hb, hxb⟩ := (har.same kt).at hx
        have k0t := s0.trans kt
        have et : (aroundP a).take (i + 1) = (aroundP a).take i ++ [b] := by
          rw [List.take_add_one, hb]
          rfl
        refine ⟨_, rfl, p, dx, _, rfl, k0t _ _ h1, hf_no _ _ _ _ _ (by decide +kernel) (by decide +kernel) (by decide +kernel) (by decide +kernel) (by decide +kernel), _, rfl, _, rfl, p, .ref t, x, ls, gs, cs, a, b, rfl, hH.kp (kpS k0t), hv.same k0t, hxb, fun en H6 k6 => ?_, fun cc en H6 t6 k6 g6 => ?_⟩
        · refine ⟨_, rfl, _, rfl, iteF ?_⟩
          refine ⟨ys, _, _, rfl, kt.trans k6, k6 _ _ hrj, ?_, by omega⟩
          rw [et, List.filterMap_append]
          have z : [b].filterMap (besO ls gs cs a) = [] := by
            have eb : besO ls gs cs a b = none := by
              unfold besO
              rw [en]
              rfl
            rw [List.filterMap_cons_none eb, List.filterMap_nil]
          rw [z, List.append_nil]
          exact hys.same k6
        · obtain ⟨cx, ca, ch⟩ := cc
          have hlk := lnkB_lk en
          have k06 := k0t.trans k6
          have hrj6 := k6 _ _ hrj
          refine ⟨_, rfl, _, rfl, iteT ?_⟩
          refine ⟨_, rfl, .inl ⟨rfl, _, SqL.of hrj6⟩, _, rfl, _, rfl, p, dx, _, rfl, k06 _ _ h1, hf_no _ _ _ _ _ (by decide +kernel) (by decide +kernel) (by decide +kernel) (by decide +kernel) (by decide +kernel), _, rfl, p, .ref t6, ls, gs, cs, cx, ca, ch, rfl, hH.kp (kpS k06), ⟨t6, rfl, g6⟩, fun _ => ⟨(by show 2 ≤ sizeLine; decide), fun t7 n7 => ?_⟩, fun z => absurd hlk (by rw [z]; decide)⟩
          obtain ⟨H7, e7, k7, g7⟩ := made (o := .tup [x, V.int (lenLk gs cx ca)]) n7
          rw [e7]
          have nrj5 : H5 rj = none := nrj
          refine ⟨rj, ys, _, rfl, rfl, k7 _ _ hrj6, by rw [sizeLine_eq]; omega, ?_⟩
          refine ⟨_, _, _, rfl, Same.over ((kt.trans k6).trans k7) nrj5, upd_same, ?_, by rw [List.length_append]; show ys.length + 1 ≤ i + 1; omega⟩
          rw [et, List.filterMap_append]
          have z : [b].filterMap (besO ls gs cs a) = [(b, lenLk gs cx ca)] := by
            have eb : besO ls gs cs a b = some (b, lenLk gs cx ca) := by
              unfold besO
              rw [en]
              rfl
            rw [List.filterMap_cons_some eb, List.filterMap_nil]
          rw [z]
          exact ((hys.same (k6.trans k7)).snoc ⟨t7, x, rfl, g7, hxb.same (k6.trans k7)⟩).over (k7 _ _ hrj6)
      · rintro σ H' ⟨ys, v6, v7, rfl, kt, hrj, hys, hle⟩
        exact ⟨_, rfl, q hi H' rj ys (s0.trans kt) (s0.free nrj) hrj hys⟩
end

/-! ### links with their ends and lengths -/
section
open GxR NdefX PySem.Spec PyProof.Rows
variable {P : Program} {w : World} {K : PySem.W.Frag} {mg : Str → Option Value} {base : Heap}
/-- all tuples stay -/
def Tu (H H' : Hp) : Prop := ∀ b xs, H b = some (.tup xs) → H' b = some (.tup xs)
theorem Tu.refl (H : Hp) : Tu H H := fun _ _ e => e
theorem Tu.trans {H H1 H2 : Hp} (a : Tu H H1) (b : Tu H1 H2) : Tu H H2 := fun c xs e => b c xs (a c xs e)
theorem tuS {H H' : Hp} (k : Same H H') : Tu H H' := fun b _ e => k b _ e
theorem tuK {H H' : Hp} (k : Kp H H') : Tu H H' := fun b _ e => k.tup e
theorem tuU {H : Hp} {m : Addr} {o : HO} (h : ∀ xs, H m ≠ some (.tup xs)) : Tu H (upd H m o) := fun b xs e => by
  rw [upd_ne fun z => h xs (by rw [← z]; exact e)]
  exact e
theorem tuL {H : Hp} {m : Addr} {zs ws : List V} (h : H m = some (.lst zs)) : Tu H (upd H m (.lst ws)) := tuU fun xs z => by
  rw [h] at z
  cases z
theorem tuN {H : Hp} {m : Addr} {o : HO} (h : H m = none) : Tu H (upd H m o) := tuU fun xs z => by
  rw [h] at z
  cases z
theorem Pr.tu {H H' : Hp} {v : V} {p : Pl} (h : Pr H v p) (k : Tu H H') : Pr H' v p := by
  obtain ⟨t, rfl, h⟩ := h
  exact ⟨t, rfl, k _ _ h⟩
theorem Kr.tu {H H' : Hp} {v : V} {k : Tk} (h : Kr H v k) (q : Tu H H') : Kr H' v k := by
  obtain ⟨t, rfl, h⟩ := h
  exact ⟨t, rfl, q _ _ h⟩
theorem Br.tu {H H' : Hp} {v : V} {r : Pl × Int} (h : Br H v r) (k : Tu H H') : Br H' v r := by
  obtain ⟨t, u, rfl, h, q⟩ := h
  exact ⟨t, u, rfl, k _ _ h, q.tu k⟩
theorem Prs.tu {H H' : Hp} {vs : List V} {ps : List Pl} (h : Prs H vs ps) (k : Tu H H') : Prs H' vs ps := by
  induction h with
  | nil => exact .nil
  | cons a _ ih => exact .cons (a.tu k) ih
theorem Krs.tu {H H' : Hp} {vs : List V} {ks : List Tk} (h : Krs H vs ks) (k : Tu H H') : Krs H' vs ks := by
  induction h with
  | nil => exact .nil
  | cons a _ ih => exact .cons (a.tu k) ih
theorem Brs.tu {H H' : Hp} {vs : List V} {rs : List (Pl × Int)} (h : Brs H vs rs) (k : Tu H H') : Brs H' vs rs := by
  induction h with
  | nil => exact .nil
  | cons a _ ih => exact .cons (a.tu k) ih
/-- each item is as R says -/
inductive Fa {α : Type} (R : V → α → Prop) : List V → List α → Prop
  | nil : Fa R [] []
  | cons {v : V} {a : α} {vs : List V} {as : List α} : R v a → Fa R vs as → Fa R (v :: vs) (a :: as)
theorem Fa.mono {α : Type} {R R' : V → α → Prop} {vs : List V} {as : List α} (h : Fa R vs as) (k : ∀ v a, R v a → R' v a) : Fa R' vs as := by
  induction h with
  | nil => exact .nil
  | cons a _ ih => exact .cons (k _ _ a) ih
theorem Fa.len {α : Type} {R : V → α → Prop} {vs : List V} {as : List α} (h : Fa R vs as) : vs.length = as.length := by
  induction h with
  | nil => rfl
  | cons a _ ih => exact congrArg (· + 1) ih
theorem Fa.app {α : Type} {R : V → α → Prop} {vs us : List V} {as bs : List α} (h : Fa R vs as) (g : Fa R us bs) : Fa R (vs ++ us) (as ++ bs) := by
  induction h with
  | nil => exact g
  | cons a _ ih => exact .cons a ih
theorem Fa.snoc {α : Type} {R : V → α → Prop} {vs : List V} {v : V} {as : List α} {a : α} (h : Fa R vs as) (g : R v a) : Fa R (vs ++ [v]) (as ++ [a]) := h.app (.cons g .nil)
theorem Fa.at {α : Type} {R : V → α → Prop} {vs : List V} {as : List α} (h : Fa R vs as) : ∀ {i : Nat} {v : V}, vs[i]? = some v → ∃ a, as[i]? = some a ∧ R v a := by
  induction h with
  | nil => intro i v e; cases e
  | cons a _ ih =>
    intro i v e
    cases i with
    | zero => cases e; exact ⟨_, rfl, a⟩
    | succ i => exact ih e
theorem Fa.at' {α : Type} {R : V → α → Prop} {vs : List V} {as : List α} (h : Fa R vs as) : ∀ {i : Nat} {a : α}, as[i]? = some a → ∃ v, vs[i]? = some v ∧ R v a := by
  induction h with
  | nil => intro i v e; cases e
  | cons a _ ih =>
    intro i v e
    cases i with
    | zero => cases e; exact ⟨_, rfl, a⟩
    | succ i => exact ih e
theorem Fa.take {α : Type} {R : V → α → Prop} {vs : List V} {as : List α} (h : Fa R vs as) : ∀ n, Fa R (vs.take n) (as.take n) := by
  induction h with
  | nil => intro n; cases n <;> exact .nil
  | cons a _ ih => intro n; cases n with
    | zero => exact .nil
    | succ n => exact .cons a (ih n)
theorem Fa.drop {α : Type} {R : V → α → Prop} {vs : List V} {as : List α} (h : Fa R vs as) : ∀ n, Fa R (vs.drop n) (as.drop n) := by
  induction h with
  | nil => intro n; cases n <;> exact .nil
  | cons a r ih => intro n; cases n with
    | zero => exact .cons a r
    | succ n => exact ih n
theorem Fa.rev {α : Type} {R : V → α → Prop} {vs : List V} {as : List α} (h : Fa R vs as) : Fa R vs.reverse as.reverse := by
  induction h with
  | nil => exact .nil
  | cons a _ ih => rw [List.reverse_cons, List.reverse_cons]; exact ih.snoc a
/-- a link, its ends, its length -/
abbrev Ed := (Str × Int × Int) × Pl × Pl × Int
def En (H : Hp) (v : V) (e : Ed) : Prop := ∃ (t : Addr) (k a b : V), v = .ref t ∧ H t = some (.tup [k, a, b, .int e.2.2.2]) ∧ Kr H k (lkC e.1) ∧ Pr H a e.2.1 ∧ Pr H b e.2.2.1
theorem En.tu {H H' : Hp} {v : V} {e : Ed} (h : En H v e) (k : Tu H H') : En H' v e := by
  obtain ⟨t, c, a, b, rfl, h, h1, h2, h3⟩ := h
  exact ⟨t, c, a, b, rfl, k _ _ h, h1.tu k, h2.tu k, h3.tu k⟩
abbrev Ens (H : Hp) := Fa (En H)
theorem Ens.tu {H H' : Hp} {vs : List V} {es : List Ed} (h : Ens H vs es) (k : Tu H H') : Ens H' vs es := h.mono fun _ _ e => e.tu k
def upE (a h : Int) : Ed := (("up", a, h), (a, h), (a, h + 1), 1)
def ovE (gs : List Int) (a h : Int) : Ed := (("over", a, h), (a, h), (a + 1, h), nth gs a)
def upsE (n s : Nat) : List Ed := (List.range n).flatMap fun (a : Nat) => (List.range s).map fun (h : Nat) => upE a h
def ovsE (ls gs : List Int) (n : Nat) : List Ed := (List.range n).flatMap fun (a : Nat) => (crossN ls).map fun h => ovE gs a h
/-- all links of a house -/
def allE (ls gs : List Int) : List Ed := upsE (gs.length + 1) ls.sum.toNat ++ ovsE ls gs gs.length
theorem upsE_succ (n s : Nat) : upsE (n + 1) s = upsE n s ++ (List.range s).map fun (h : Nat) => upE n h := by
  unfold upsE
  rw [List.range_succ, List.flatMap_append]
  simp
theorem ovsE_succ (ls gs : List Int) (n : Nat) : ovsE ls gs (n + 1) = ovsE ls gs n ++ (crossN ls).map fun h => ovE gs n h := by
  unfold ovsE
  rw [List.range_succ, List.flatMap_append]
  simp
theorem upsE_len (n s : Nat) : (upsE n s).length = n * s := by
  induction n with
  | zero => simp [upsE]
  | succ n ih => rw [upsE_succ, List.length_append, ih, List.length_map, List.length_range, Nat.add_mul, Nat.one_mul]
theorem ovsE_len (ls gs : List Int) (n : Nat) : (ovsE ls gs n).length = n * (ls.length + 1) := by
  induction n with
  | zero => simp [ovsE]
  | succ n ih => rw [ovsE_succ, List.length_append, ih, List.length_map, crossN_len, Nat.add_mul, Nat.one_mul]
/-- the cross heights rise -/
theorem cross_rise {ls : List Int} (hL : Lens ls) (h1 : 1 ≤ ls.length) (h2 : ls.length ≤ 2) : (crossN ls).Pairwise (· < ·) ∧ ∀ k, k ∈ [0, nth ls 0, ls.sum] ↔ k ∈ crossN ls := by
  match ls, h1, h2 with
  | [a], _, _ =>
    have ha := (hL a (by simp)).1
    have e : crossN [a] = [0, a] := by
      show [(0 : Int), [a].sum] = [0, a]
      simp
    rw [e]
    refine ⟨by simp; omega, fun k => ?_⟩
    show k ∈ [0, a, [a].sum] ↔ _
    simp
  | [a, b], _, _ =>
    have ha := (hL a (by simp)).1
    have hb := (hL b (by simp)).1
    have e : crossN [a, b] = [0, a, a + b] := by
      show [(0 : Int), [a].sum, [a, b].sum] = [0, a, a + b]
      simp
    rw [e]
    refine ⟨by simp; omega, fun k => ?_⟩
    show k ∈ [0, a, [a, b].sum] ↔ _
    simp
def spAllE (K : PySem.W.Frag) : Sp := fun vs H Q _ => ∃ (l g : Addr) (ls gs : List Int), vs = [.ref l, .ref g] ∧ SqL K H l (ls.map V.int) ∧ SqL K H g (gs.map V.int) ∧ Lens ls ∧ 1 ≤ ls.length ∧ ls.length ≤ 2 ∧ gs.length ≤ 11 ∧
  ∀ (H' : Hp) (r : Addr) (xs : List V), Same H H' → H r = none → H' r = some (.lst xs) → Ens H' xs (allE ls gs) → Q (.ref r) H'
/-- a new entry behind the others -/
theorem ens_new {H H' : Hp} {r t1 t2 t3 t4 : Addr} {xs : List V} {es : List Ed} {e : Ed} {k a b : V} (n0 : H r = none) (k0 : Same H H') (hr : H' r = some (.lst xs)) (hx : Ens H' xs es) {H1 : Hp} (k1 : Same H' H1) (g1 : Kr H1 k (lkC e.1)) (g2 : Pr H1 a e.2.1) (g3 : Pr H1 b e.2.2.1) (g4 : H1 t4 = some (.tup [k, a, b, .int e.2.2.2])) :
    Same H (upd H1 r (.lst (xs ++ [.ref t4]))) ∧ (upd H1 r (.lst (xs ++ [.ref t4]))) r = some (.lst (xs ++ [.ref t4])) ∧ Ens (upd H1 r (.lst (xs ++ [.ref t4]))) (xs ++ [.ref t4]) (es ++ [e]) := by
  have hr1 := k1 _ _ hr
  have tu := tuL (ws := xs ++ [.ref t4]) hr1
  exact ⟨Same.over (k0.trans k1) n0, upd_same, (hx.tu ((tuS k1).trans tu)).snoc (En.tu ⟨t4, k, a, b, rfl, g4, g1, g2, g3⟩ tu)⟩
theorem ok_alle {f : Addr} {fd : FuncData} (F : Fun K "_law_all_links" "_law_all_links" s__law_all_links f fd) (hsum : mg "sum" = none) (hlen : mg "len" = none) (hrange : mg "range" = none) (hsorted : mg "sorted" = none) (hset : mg "set" = none) : FnOk P w K mg base CX0 1 f fd ["lengths", "gaps"] (spAllE K) := by
  refine F.ok sc__law_all_links (fun vs H Q E h => ?_) (fun cdv A outer s H vs Q E hr h => ?_)
  · obtain ⟨l, g, ls, gs, rfl, _⟩ := h
    rfl
  · obtain ⟨l, g, ls, gs, rfl, hl, hg, hL, hl1, hl2, hg11, q⟩ := h
    have nd := sc__law_all_links.nd
    have hline : 1000000 < sizeLine := by decide
    have top0 := hL.pos2
    have top80 := hL.top hl2
    refine ⟨_, (pss_cons (ps_set (i := 2) nd rfl (.inl rfl) (pe_callB (cr_sum rfl) (by rfl) hsum (by decide +kernel) (pa_cons (pv 0) pa_nil)))
      (pss_cons (ps_set (i := 3) nd rfl (.inl rfl) (pe_lst pa_nil))
      (pss_cons (ps_for PassesOwn.never rfl (pi_range1 rfl hrange (pa_cons (pe_op op_add (pe_callB call_len (by rfl) hlen (by decide +kernel) (pa_cons (pv 1) pa_nil)) pe_int) pa_nil)) (pg_name (i := 4) nd rfl (.inl rfl)) (pss_one (ps_for PassesOwn.never rfl (pi_range1 rfl hrange (pa_cons (pv 2) pa_nil)) (pg_name (i := 5) nd rfl (.inl rfl)) (pss_one (ps_expr (pe_bm PySem.F.plainAttrs_list PySem.F.slot_list_append PySem.F.type_list_append mt_append (pv 3) (pa_cons (pe_tup (pa_cons (pe_tup (pa_cons pe_str (pa_cons (pv 4) (pa_cons (pv 5) pa_nil)))) (pa_cons (pe_tup (pa_cons (pv 4) (pa_cons (pv 5) pa_nil))) (pa_cons (pe_tup (pa_cons (pv 4) (pa_cons (pe_op op_add (pv 5) pe_int) pa_nil))) (pa_cons pe_int pa_nil))))) pa_nil)))))))
      (pss_cons (ps_for PassesOwn.never rfl (pi_range1 rfl hrange (pa_cons (pe_callB call_len (by rfl) hlen (by decide +kernel) (pa_cons (pv 1) pa_nil)) pa_nil)) (pg_name (i := 4) nd rfl (.inl rfl)) (pss_one (ps_for PassesOwn.never rfl (pi_list (pe_callB (cr_sortedSet rfl) (by rfl) hsorted (by decide +kernel) (pa_cons (pe_callTy (cr_setI rfl) (by rfl) hset (by decide +kernel) (pa_cons (pe_lst (pa_cons pe_int (pa_cons (pe_ix ix_list (pv 0) pe_int (fun _ _ => rfl)) (pa_cons (pv 2) pa_nil)))) pa_nil)) pa_nil))) (pg_name (i := 5) nd rfl (.inl rfl)) (pss_one (ps_expr (pe_bm PySem.F.plainAttrs_list PySem.F.slot_list_append PySem.F.type_list_append mt_append (pv 3) (pa_cons (pe_tup (pa_cons (pe_tup (pa_cons pe_str (pa_cons (pv 4) (pa_cons (pv 5) pa_nil)))) (pa_cons (pe_tup (pa_cons (pv 4) (pa_cons (pv 5) pa_nil))) (pa_cons (pe_tup (pa_cons (pe_op op_add (pv 4) pe_int) (pa_cons (pv 5) pa_nil))) (pa_cons (pe_ix ix_list (pv 1) (pv 4) (fun _ _ => rfl)) pa_nil))))) pa_nil)))))))
      (pss_one (ps_ret (pv 3))))))), ?_⟩
    refine ⟨_, rfl, l, ls, rfl, hl, Nat.zero_le _, fun r nr => ?_⟩
    have k1 : Same H (upd H r (.lst [])) := same_upd nr
    refine ⟨_, rfl, _, _, rfl, .inl ⟨_, k1.seq hg, rfl⟩, _, _, rfl, rfl, _, rfl, (by rw [List.length_map]; omega), (by rw [List.length_map]; omega), ?_⟩
    rw [List.length_map, show ((gs.length : Int) + 1).toNat = gs.length + 1 by omega]
    refine for_range (lo := 0) (n := gs.length + 1) (fun i σ H' => ∃ (v4 v5 : Option V) (xs : List V), σ = [some (.ref l), some (.ref g), some (.int ls.sum), some (.ref r), v4, v5] ∧ Same H H' ∧ H' r = some (.lst xs) ∧ Ens H' xs (upsE i ls.sum.toNat)) ?_ ?_ ?_
    · exact ⟨none, none, [], rfl, k1, upd_same, .nil⟩
    · rintro i σ H' hi ⟨v4, v5, xs, rfl, k, hr', hx⟩
      refine ⟨_, rfl, _, rfl, by omega, by omega, ?_⟩
      refine for_range (lo := 0) (n := ls.sum.toNat) (fun j σ H' => ∃ (v5 : Option V) (xs : List V), σ = [some (.ref l), some (.ref g), some (.int ls.sum), some (.ref r), some (.int (0 + (i : Int))), v5] ∧ Same H H' ∧ H' r = some (.lst xs) ∧ Ens H' xs (upsE i ls.sum.toNat ++ (List.range j).map fun (h : Nat) => upE i h)) ?_ ?_ ?_
      · exact ⟨v5, xs, rfl, k, hr', by simpa using hx⟩
      · rintro j σ H' hj ⟨v5, xs, rfl, k, hr', hx⟩
        have hxl := hx.len
        rw [List.length_append, upsE_len, List.length_map, List.length_range] at hxl
        have hm : i * ls.sum.toNat ≤ 11 * 80 := Nat.mul_le_mul (by omega) (by omega)
        refine ⟨_, rfl, .inl ⟨rfl, _, SqL.of hr'⟩, _, rfl, _, rfl, (by show 3 ≤ sizeLine; decide), fun t1 nt1 => ?_⟩
        obtain ⟨H2, e2, k2, g2⟩ := made (o := .tup [V.str "up", .int (0 + (i : Int)), .int (0 + (j : Int))]) nt1
        rw [e2]
        refine ⟨_, rfl, _, rfl, (by show 2 ≤ sizeLine; decide), fun t2 nt2 => ?_⟩
        obtain ⟨H3, e3, k3, g3⟩ := made (o := .tup [V.int (0 + (i : Int)), .int (0 + (j : Int))]) nt2
        rw [e3]
        refine ⟨_, rfl, _, rfl, _, _, rfl, rfl, (by show 2 ≤ sizeLine; decide), fun t3 nt3 => ?_⟩
        obtain ⟨H4, e4, k4, g4⟩ := made (o := .tup [V.int (0 + (i : Int)), .int (0 + (j : Int) + 1)]) nt3
        rw [e4]
        refine ⟨(by show 4 ≤ sizeLine; decide), fun t4 nt4 => ?_⟩
        obtain ⟨H5, e5, k5, g5⟩ := made (o := .tup [V.ref t1, .ref t2, .ref t3, .int 1]) nt4
        rw [e5]
        have k25 := ((k2.trans k3).trans k4).trans k5
        have hr5 := k25 _ _ hr'
        refine ⟨r, xs, _, rfl, rfl, hr5, by omega, ?_⟩
        have z := ens_new (t1 := t1) (t2 := t2) (t3 := t3) (e := upE i j) (k := .ref t1) (a := .ref t2) (b := .ref t3) nr k hr' hx k25 ⟨t1, rfl, by rw [Int.zero_add, Int.zero_add] at g2; exact ((k3.trans k4).trans k5) _ _ g2⟩ ⟨t2, rfl, by rw [Int.zero_add, Int.zero_add] at g3; exact (k4.trans k5) _ _ g3⟩ ⟨t3, rfl, by rw [Int.zero_add, Int.zero_add] at g4; exact k5 _ _ g4⟩ g5
        refine ⟨_, xs ++ [.ref t4], rfl, z.1, z.2.1, ?_⟩
        rw [List.range_succ, List.map_append, ← List.append_assoc]
        exact z.2.2
      · rintro σ H' ⟨v5, xs, rfl, k, hr', hx⟩
        refine ⟨_, _, xs, rfl, k, hr', ?_⟩
        rw [upsE_succ]
        exact hx
    · rintro σ H' ⟨v4, v5, xs, rfl, k, hr', hx⟩
      refine ⟨_, rfl, _, _, rfl, .inl ⟨_, k.seq hg, rfl⟩, _, rfl, (by rw [List.length_map]; omega), (by rw [List.length_map]; omega), ?_⟩
      rw [List.length_map, show ((gs.length : Int)).toNat = gs.length by omega]
      refine for_range (lo := 0) (n := gs.length) (fun i σ H' => ∃ (v4 v5 : Option V) (xs : List V), σ = [some (.ref l), some (.ref g), some (.int ls.sum), some (.ref r), v4, v5] ∧ Same H H' ∧ H' r = some (.lst xs) ∧ Ens H' xs (upsE (gs.length + 1) ls.sum.toNat ++ ovsE ls gs i)) ?_ ?_ ?_
      · exact ⟨_, _, xs, rfl, k, hr', by simpa [ovsE] using hx⟩
      · rintro i σ H' hi ⟨v4, v5, xs, rfl, k, hr', hx⟩
        refine ⟨_, rfl, l, _, _, _, rfl, rfl, k.seq hl, atI_nth (by decide) (by omega), _, rfl, (by show 3 ≤ sizeLine; decide), fun m nm => ?_⟩
        obtain ⟨H1, e1, k1, g1⟩ := made (o := .lst ([0, nth ls 0, ls.sum].map V.int)) nm
        have e1' : upd H' m (.lst [V.int 0, .int (nth ls 0), .int ls.sum]) = H1 := e1
        rw [e1']
        refine ⟨m, [0, nth ls 0, ls.sum], rfl, SqL.of g1, (by show 3 ≤ 60; decide), fun sa c nsa hc => ?_⟩
        have ks : Same H1 (upd H1 sa (SetO w sa (fun j => decide (j ∈ [0, nth ls 0, ls.sum])) c)) := same_upd nsa
        refine ⟨sa, _, c, rfl, upd_same, Nat.lt_of_le_of_lt hc (by show 3 < 64; decide), fun ns p hpw hmem hnl np => ?_⟩
        obtain ⟨H3, e3, k3, g3⟩ := made (o := .lst (ns.map V.int)) np
        rw [e3]
        have k13 := (k1.trans ks).trans k3
        obtain ⟨c1, c2⟩ := cross_rise hL hl1 hl2
        have en : ns = crossN ls := rise_uniq hpw c1 fun k => by
          rw [hmem k, decide_eq_true_iff]
          exact c2 k
        subst en
        have hr3 := k13 _ _ hr'
        have nrp : r ≠ p := ne_of_none (ks _ _ (k1 _ _ hr')) np
        refine ⟨p, rfl, ⟨_, SqL.of g3⟩, ?_⟩
        refine for_list (K := K) (a := p) (xs := (crossN ls).map V.int) (fun j σ H' => ∃ (v5 : Option V) (xs : List V), σ = [some (.ref l), some (.ref g), some (.int ls.sum), some (.ref r), some (.int (0 + (i : Int))), v5] ∧ Same H H' ∧ H' r = some (.lst xs) ∧ H' p = some (.lst ((crossN ls).map V.int)) ∧ Ens H' xs (upsE (gs.length + 1) ls.sum.toNat ++ ovsE ls gs i ++ ((crossN ls).take j).map fun h => ovE gs i h)) ?_ ?_ ?_ ?_
        · exact ⟨v5, xs, rfl, k.trans k13, hr3, g3, by simpa using hx.tu (tuS k13)⟩
        · rintro j σ H' _ ⟨_, _, _, _, _, h, _⟩
          exact SqL.of h
        · rintro j x σ H' hxj ⟨v5, xs, rfl, k, hr', hp', hx⟩
          rw [List.getElem?_map] at hxj
          cases hn : (crossN ls)[j]? with
          | none => rw [hn] at hxj; cases hxj
          | some h =>
            rw [hn] at hxj
            cases hxj
            have hxl := hx.len
            rw [List.length_append, List.length_append, upsE_len, ovsE_len, List.length_map, List.length_take, crossN_len] at hxl
            have hm : (gs.length + 1) * ls.sum.toNat ≤ 12 * 80 := Nat.mul_le_mul (by omega) (by omega)
            have hm2 : i * (ls.length + 1) ≤ 11 * 3 := Nat.mul_le_mul (by omega) (by omega)
            refine ⟨_, rfl, .inl ⟨rfl, _, SqL.of hr'⟩, _, rfl, _, rfl, (by show 3 ≤ sizeLine; decide), fun t1 nt1 => ?_⟩
            obtain ⟨H2, e2, k2, g2⟩ := made (o := .tup [V.str "over", .int (0 + (i : Int)), .int h]) nt1
            rw [e2]
            refine ⟨_, rfl, _, rfl, (by show 2 ≤ sizeLine; decide), fun t2 nt2 => ?_⟩
            obtain ⟨H3, e3, k3, g3⟩ := made (o := .tup [V.int (0 + (i : Int)), .int h]) nt2
            rw [e3]
            refine ⟨_, rfl, _, _, rfl, rfl, _, rfl, (by show 2 ≤ sizeLine; decide), fun t3 nt3 => ?_⟩
            obtain ⟨H4, e4, k4, g4⟩ := made (o := .tup [V.int (0 + (i : Int) + 1), .int h]) nt3
            rw [e4]
            have k24 := (k2.trans k3).trans k4
            refine ⟨_, rfl, _, rfl, g, _, _, _, rfl, rfl, (k.trans k24).seq hg, atI_nth (by omega) (by omega), (by show 4 ≤ sizeLine; decide), fun t4 nt4 => ?_⟩
            obtain ⟨H5, e5, k5, g5⟩ := made (o := .tup [V.ref t1, .ref t2, .ref t3, .int (nth gs (0 + (i : Int)))]) nt4
            rw [e5]
            have k25 := k24.trans k5
            have hr5 := k25 _ _ hr'
            refine ⟨r, xs, _, rfl, rfl, hr5, by omega, ?_⟩
            rw [Int.zero_add] at g2 g3 g4 g5
            have z := ens_new (t1 := t1) (t2 := t2) (t3 := t3) (e := ovE gs i h) (k := .ref t1) (a := .ref t2) (b := .ref t3) nr k hr' hx k25 ⟨t1, rfl, ((k3.trans k4).trans k5) _ _ g2⟩ ⟨t2, rfl, (k4.trans k5) _ _ g3⟩ ⟨t3, rfl, k5 _ _ g4⟩ g5
            refine ⟨_, xs ++ [.ref t4], rfl, z.1, z.2.1, ?_, ?_⟩
            · have nrp' : p ≠ r := nrp.symm
              rw [upd_ne nrp']
              exact k25 _ _ hp'
            · rw [List.take_add_one, hn, List.map_append, ← List.append_assoc]
              exact z.2.2
        · rintro σ H' ⟨v5, xs, rfl, k, hr', hp', hx⟩
          refine ⟨_, _, xs, rfl, k, hr', ?_⟩
          rw [List.length_map, List.take_length] at hx
          rw [ovsE_succ, ← List.append_assoc]
          exact hx
      · rintro σ H' ⟨v4, v5, xs, rfl, k, hr', hx⟩
        exact ⟨_, rfl, q H' r xs k nr hr' hx⟩
end

/-! ### the law's parts of a house -/
section
open GxR NdefX PySem.Spec PyProof.Rows
variable {P : Program} {w : World} {K : PySem.W.Frag} {mg : Str → Option Value} {base : Heap}
theorem mem_upsE {n s : Nat} {e : Ed} : e ∈ upsE n s ↔ ∃ a h : Nat, a < n ∧ h < s ∧ e = upE a h := by
  unfold upsE
  simp only [List.mem_flatMap, List.mem_range, List.mem_map]
  constructor
  · rintro ⟨a, ha, h, hh, rfl⟩
    exact ⟨a, h, ha, hh, rfl⟩
  · rintro ⟨a, h, ha, hh, rfl⟩
    exact ⟨a, ha, h, hh, rfl⟩
theorem mem_ovsE {ls gs : List Int} {n : Nat} {e : Ed} : e ∈ ovsE ls gs n ↔ ∃ a : Nat, a < n ∧ ∃ h ∈ crossN ls, e = ovE gs a h := by
  unfold ovsE
  simp only [List.mem_flatMap, List.mem_range, List.mem_map]
  constructor
  · rintro ⟨a, ha, h, hh, rfl⟩
    exact ⟨a, ha, h, hh, rfl⟩
  · rintro ⟨a, ha, h, hh, rfl⟩
    exact ⟨a, ha, h, hh, rfl⟩
/-- a link as an entry -/
def edC (gs : List Int) (c : Str × Int × Int) : Ed := (c, (c.2.1, c.2.2), farP c.1 c.2.1 c.2.2, lenLk gs c.1 c.2.1)
theorem upE_ed (gs : List Int) (a h : Int) : upE a h = edC gs ("up", a, h) := by
  show _ = ((("up" : Str), a, h), (a, h), (if ("up" : Str) = "up" then (a, h + 1) else (a + 1, h)), (if ("up" : Str) = "up" then (1 : Int) else nth gs a))
  rw [if_pos rfl, if_pos rfl]
  rfl
theorem ovE_ed (gs : List Int) (a h : Int) : ovE gs a h = edC gs ("over", a, h) := by
  show _ = ((("over" : Str), a, h), (a, h), (if ("over" : Str) = "up" then (a, h + 1) else (a + 1, h)), (if ("over" : Str) = "up" then (1 : Int) else nth gs a))
  rw [if_neg over_up, if_neg over_up]
  rfl
theorem mem_allE {ls gs : List Int} (h0 : 0 ≤ ls.sum) {e : Ed} : e ∈ allE ls gs ↔ e = edC gs e.1 ∧ isLk ls gs e.1.1 e.1.2.1 e.1.2.2 = true := by
  unfold allE
  rw [List.mem_append, mem_upsE, mem_ovsE]
  constructor
  · rintro (⟨a, h, ha, hh, rfl⟩ | ⟨a, ha, h, hh, rfl⟩)
    · refine ⟨upE_ed gs a h, ?_⟩
      show (if ("up" : Str) = "up" then (decide ((0 : Int) ≤ (a : Int)) && decide ((a : Int) ≤ gs.length)) && (decide ((0 : Int) ≤ (h : Int)) && decide ((h : Int) < ls.sum)) else _) = true
      rw [if_pos rfl, decide_eq_true (show (0 : Int) ≤ a by omega), decide_eq_true (show (a : Int) ≤ gs.length by omega), decide_eq_true (show (0 : Int) ≤ h by omega), decide_eq_true (show (h : Int) < ls.sum by omega)]
      rfl
    · refine ⟨ovE_ed gs a h, ?_⟩
      show (if ("over" : Str) = "up" then _ else decide (("over" : Str) = "over") && ((decide ((0 : Int) ≤ (a : Int)) && decide ((a : Int) < gs.length)) && decide (h ∈ crossN ls))) = true
      rw [if_neg over_up, decide_eq_true (show (("over" : Str) = "over") from rfl), decide_eq_true (show (0 : Int) ≤ a by omega), decide_eq_true (show (a : Int) < gs.length by omega), decide_eq_true hh]
      rfl
  · rintro ⟨e1, e2⟩
    have z := (mem_links h0 e.1).mpr e2
    unfold linksL at z
    rcases List.mem_append.mp z with z | z
    · right
      unfold oversL overA at z
      simp only [List.mem_flatMap, List.mem_range, List.mem_map] at z
      obtain ⟨a, ha, h, hh, z⟩ := z
      exact ⟨a, ha, h, hh, by rw [e1, ← z, ovE_ed]⟩
    · left
      unfold upsL at z
      obtain ⟨p, hp, z⟩ := List.mem_map.mp z
      obtain ⟨p1, p2⟩ := p
      obtain ⟨b0, b1, b2, b3⟩ := mem_grid.mp hp
      refine ⟨p1.toNat, p2.toNat, by omega, by omega, ?_⟩
      rw [e1, ← z, upE_ed gs, show ((p1.toNat : Nat) : Int) = p1 by omega, show ((p2.toNat : Nat) : Int) = p2 by omega]
theorem isLk_word {ls gs : List Int} {x : Str} {a h : Int} (e : isLk ls gs x a h = true) : x = "up" ∨ x = "over" := by
  by_cases h1 : x = "up"
  · exact .inl h1
  · by_cases h2 : x = "over"
    · exact .inr h2
    · unfold isLk at e
      rw [if_neg h1, decide_eq_false h2] at e
      cases e
theorem okk_lk {ls gs : List Int} {c : Str × Int × Int} (e : isLk ls gs c.1 c.2.1 c.2.2 = true) : okk (lkC c) = true := by
  rcases isLk_word e with z | z
  · exact ok_lk (by rw [z]; decide +kernel) _ _
  · exact ok_lk (by rw [z]; decide +kernel) _ _
theorem kOf_snoc (cs : List (Str × Int × Int)) (c : Str × Int × Int) : kOf (cs ++ [c]) = kOf cs ++ [lkC c] := by
  rw [kOf_app]
  rfl
theorem pick6 {z : Int} (h0 : 0 ≤ z) (h6 : z < 6) (a b c d e f : Int) (hb : ∀ x ∈ [a, b, c, d, e, f], 0 ≤ x ∧ x ≤ 8) : ∃ mo : Int, atI [V.int a, .int b, .int c, .int d, .int e, .int f] z = some (.int mo) ∧ 0 ≤ mo ∧ mo ≤ 8 ∧ mo ∈ [a, b, c, d, e, f] := by
  have e6 : z = 0 ∨ z = 1 ∨ z = 2 ∨ z = 3 ∨ z = 4 ∨ z = 5 := by omega
  rcases e6 with e' | e' | e' | e' | e' | e' <;> rw [e']
  · exact ⟨a, rfl, (hb a (by simp)).1, (hb a (by simp)).2, by simp⟩
  · exact ⟨b, rfl, (hb b (by simp)).1, (hb b (by simp)).2, by simp⟩
  · exact ⟨c, rfl, (hb c (by simp)).1, (hb c (by simp)).2, by simp⟩
  · exact ⟨d, rfl, (hb d (by simp)).1, (hb d (by simp)).2, by simp⟩
  · exact ⟨e, rfl, (hb e (by simp)).1, (hb e (by simp)).2, by simp⟩
  · exact ⟨f, rfl, (hb f (by simp)).1, (hb f (by simp)).2, by simp⟩
/-- the three lists of parts stand at a tuple -/
def PartsAt (H : Hp) (p : Addr) (ls gs : List Int) (cs : List (Str × Int × Int)) : Prop := ∃ (l g c : Addr) (xs : List V), H p = some (.tup [.ref l, .ref g, .ref c]) ∧ H l = some (.lst (ls.map V.int)) ∧ H g = some (.lst (gs.map V.int)) ∧ H c = some (.lst xs) ∧ Krs H xs (kOf cs)
theorem PartsAt.kp {H H' : Hp} {p : Addr} {ls gs : List Int} {cs : List (Str × Int × Int)} (h : PartsAt H p ls gs cs) (k : Kp H H') : PartsAt H' p ls gs cs := by
  obtain ⟨l, g, c, xs, h1, h2, h3, h4, h5⟩ := h
  exact ⟨l, g, c, xs, k.tup h1, k.lst h2, k.lst h3, k.lst h4, h5.kp k⟩
theorem PartsAt.same {H H' : Hp} {p : Addr} {ls gs : List Int} {cs : List (Str × Int × Int)} (h : PartsAt H p ls gs cs) (k : Same H H') : PartsAt H' p ls gs cs := h.kp (kpS k)
def spParts (K : PySem.W.Frag) : Sp := fun vs H Q _ => ∃ (n : Addr) (ns : List Int) (a : Nat), vs = [.ref n, .int (a : Int)] ∧ SqL K H n (ns.map V.int) ∧ Small ns ∧ a + 16 ≤ ns.length ∧
  ∀ (H' : Hp) (p : Addr) (ls gs : List Int) (cs : List (Str × Int × Int)), Same H H' → H p = none → PartsAt H' p ls gs cs → Valid ls gs cs → ls.sum ≤ 9 → cs.length ≤ 8 → Q (.ref p) H'
abbrev NP : List Str := ["numbers", "at", "lengths", "gaps", "links", "closed", "k", "link"]
theorem ok_parts {f fA : Addr} {fd fdA : FuncData} (F : Fun K "_law_parts" "_law_parts" s__law_parts f fd) (Z : LawTop mg) (FAk : PySem.W.keepIn K (.ref fA) = true) (GA : FnOk P w K mg base CX0 1 fA fdA ["lengths", "gaps"] (spAllE K)) (bA : Binds K fdA ["lengths", "gaps"] []) (gA : mg "_law_all_links" = some (.ref fA)) : FnOk P w K mg base CX0 2 f fd ["numbers", "at"] (spParts K) := by
  refine F.ok sc__law_parts (fun vs H Q E h => ?_) (fun cdv A outer s H vs Q E hr h => ?_)
  · obtain ⟨n, ns, a, rfl, _⟩ := h
    rfl
  · obtain ⟨n, ns, a, rfl, hn, hs, ha, q⟩ := h
    have nd : NP.Nodup := sc__law_parts.nd
    have hline : 1000000 < sizeLine := by decide
    refine ⟨_, (pss_cons (ps_set (i := 2) nd rfl (.inl rfl) (pe_lst (pa_cons (pe_op op_add pe_int (pe_op op_mod (pe_callTy call_int1 (by rfl) Z.int (by decide +kernel) (pa_cons (pe_ix ix_list (pv 0) (pv 1) (fun _ _ => rfl)) pa_nil)) pe_int)) pa_nil)))
      (C8.pss_cut (ps_if (pt_cmpR op_eq (pe_op op_mod (pe_callTy call_int1 (by rfl) Z.int (by decide +kernel) (pa_cons (pe_op op_fdiv (pe_ix ix_list (pv 0) (pv 1) (fun _ _ => rfl)) pe_int) pa_nil)) pe_int) pe_int (nomark _)) (pss_one (ps_expr (pe_bm PySem.F.plainAttrs_list PySem.F.slot_list_append PySem.F.type_list_append mt_append (pv 2) (pa_cons (pe_op op_add pe_int (pe_op op_mod (pe_callTy call_int1 (by rfl) Z.int (by decide +kernel) (pa_cons (pe_op op_fdiv (pe_ix ix_list (pv 0) (pv 1) (fun _ _ => rfl)) pe_int) pa_nil)) pe_int)) pa_nil)))) pss_nil)
      (pss_cons (ps_setLc (i := 3) (own := [("k", 6)]) (g := gName 6) (tt := tYes) rfl nd rfl rfl rfl (pi_range1 rfl Z.range (pa_cons (pe_ix ix_list (pe_lst (pa_cons pe_int (pa_cons pe_int (pa_cons pe_int (pa_cons pe_int (pa_cons pe_int (pa_cons pe_int pa_nil))))))) (pe_op op_mod (pe_callTy call_int1 (by rfl) Z.int (by decide +kernel) (pa_cons (pe_ix ix_list (pv 0) (pe_op op_add (pv 1) pe_int) (fun _ _ => rfl)) pa_nil)) pe_int) (fun _ _ => rfl)) pa_nil)) (blkOk_by (N := NP) (sc := defScope s__law_parts) (by decide +kernel)) (fun _ _ _ _ _ => pg_name (i := 6) nd rfl (Or.inl rfl)) (fun _ _ _ _ _ => pts_nil) (fun _ _ _ _ _ => (pe_op op_add pe_int (pe_op op_mod (pe_callTy call_int1 (by rfl) Z.int (by decide +kernel) (pa_cons (pe_ix (r := rIxL K) ix_list (pv 0) (pe_op op_add (pe_op op_add (pv 1) pe_int) (pv 6)) (fun _ _ => rfl)) pa_nil)) pe_int))))
      (C8.pss_cut (ps_if (pt_cmpR op_eq (pe_op op_mod (pe_callTy call_int1 (by rfl) Z.int (by decide +kernel) (pa_cons (pe_ix ix_list (pv 0) (pe_op op_add (pv 1) pe_int) (fun _ _ => rfl)) pa_nil)) pe_int) pe_int (nomark _)) (pss_cons (ps_set (i := 2) nd rfl (.inl rfl) (pe_lst (pa_cons (pe_op op_add pe_int (pe_op op_mod (pe_callTy call_int1 (by rfl) Z.int (by decide +kernel) (pa_cons (pe_ix ix_list (pv 0) (pv 1) (fun _ _ => rfl)) pa_nil)) pe_int)) (pa_cons pe_int pa_nil))))
      (pss_one (ps_setLc (i := 3) (own := [("k", 6)]) (g := gName 6) (tt := tYes) rfl nd rfl rfl rfl (pi_range1 rfl Z.range (pa_cons pe_int pa_nil)) (blkOk_by (N := NP) (sc := defScope s__law_parts) (by decide +kernel)) (fun _ _ _ _ _ => pg_name (i := 6) nd rfl (Or.inl rfl)) (fun _ _ _ _ _ => pts_nil) (fun _ _ _ _ _ => (pe_op op_add pe_int (pe_op op_mod (pe_callTy call_int1 (by rfl) Z.int (by decide +kernel) (pa_cons (pe_op op_add (pe_ix (r := rIxL K) ix_list (pv 0) (pe_op op_add (pv 1) pe_int) (fun _ _ => rfl)) (pe_op op_mul pe_int (pv 6))) pa_nil)) pe_int)))))) pss_nil)
      (pss_cons (ps_set (i := 4) nd rfl (.inl rfl) (pe_call GA (by exact hr.mono (by decide)) (by rfl) gA FAk bA .nil pass0 (pa_cons (pv 2) (pa_cons (pv 3) pa_nil))))
      (pss_cons (ps_set (i := 5) nd rfl (.inl rfl) (pe_lst pa_nil))
      (pss_cons (ps_for PassesOwn.never rfl (pi_range1 rfl Z.range (pa_cons (pe_ix ix_list (pe_lst (pa_cons pe_int (pa_cons pe_int (pa_cons pe_int (pa_cons pe_int (pa_cons pe_int (pa_cons pe_int pa_nil))))))) (pe_op op_mod (pe_callTy call_int1 (by rfl) Z.int (by decide +kernel) (pa_cons (pe_ix ix_list (pv 0) (pe_op op_add (pv 1) pe_int) (fun _ _ => rfl)) pa_nil)) pe_int) (fun _ _ => rfl)) pa_nil)) (pg_name (i := 6) nd rfl (.inl rfl)) (pss_cons (ps_set (i := 7) nd rfl (.inl rfl) (pe_ix ix_tup (pe_ix ix_list (pv 4) (pe_op op_mod (pe_callTy call_int1 (by rfl) Z.int (by decide +kernel) (pa_cons (pe_op op_add (pe_ix ix_list (pv 0) (pe_op op_add (pe_op op_add (pv 1) pe_int) (pv 6)) (fun _ _ => rfl)) (pe_op op_mul pe_int (pv 6))) pa_nil)) (pe_callB call_len (by rfl) Z.len (by decide +kernel) (pa_cons (pv 4) pa_nil))) (fun _ _ => rfl)) pe_int (fun _ _ => rfl)))
      (pss_one (ps_if (pt_cmpR (op_notInD (room65 hr)) (pv 7) (pv 5) (by rfl)) (pss_one (ps_expr (pe_bm PySem.F.plainAttrs_list PySem.F.slot_list_append PySem.F.type_list_append mt_append (pv 5) (pa_cons (pv 7) pa_nil)))) pss_nil))))
      (pss_one (ps_ret (pe_tup (pa_cons (pv 2) (pa_cons (pv 3) (pa_cons (pv 5) pa_nil))))))))))))), ?_⟩
    have a0 : (0 : Int) ≤ (a : Int) := Int.natCast_nonneg a
    have sm := nth_small hs
    have at_ : ∀ {i : Int}, 0 ≤ i → i < ns.length → atI (ns.map V.int) i = some (V.int (nth ns i)) := fun h0 h1 => atI_nth h0 h1
    -- lengths
    refine ⟨_, rfl, _, rfl, n, _, _, _, rfl, rfl, hn, at_ a0 (by omega), .inl ⟨_, rfl, _, _, rfl, rfl, (by show (0 : Int) < 5; decide), _, _, rfl, rfl, (by show 1 ≤ sizeLine; decide), fun l nl => ?_⟩⟩
    obtain ⟨H1, e1, k1, g1⟩ := made (o := .lst ([1 + nth ns a % 5].map V.int)) nl
    have e1' : upd H l (.lst [V.int (1 + nth ns a % 5)]) = H1 := e1
    rw [e1']
    have d0 := sm a
    refine ⟨fun σ H' => ∃ (l : Addr) (ls : List Int), σ = [some (.ref n), some (.int (a : Int)), some (.ref l), none, none, none, none, none] ∧ Same H H' ∧ H l = none ∧ H' l = some (.lst (ls.map V.int)) ∧ Lens ls ∧ 1 ≤ ls.length ∧ ls.length ≤ 2 ∧ ls.sum ≤ 9, ?_, ?_⟩
    · refine ⟨_, rfl, _, rfl, n, _, _, _, rfl, rfl, k1.seq hn, at_ a0 (by omega), _, _, rfl, rfl, ⟨by decide, by decide⟩, .inl ⟨_, rfl, _, _, rfl, rfl, (by show (0 : Int) < 2; decide), rfl, _, rfl, ?_⟩⟩
      have L1 : Lens [1 + nth ns a % 5] := fun x hx => by
        rw [List.mem_singleton.mp hx]
        omega
      refine ite2 (fun hc => ?_) (fun hc => ?_)
      · refine ⟨_, rfl, .inl ⟨rfl, _, SqL.of g1⟩, _, rfl, _, rfl, n, _, _, _, rfl, rfl, k1.seq hn, at_ a0 (by omega), _, _, rfl, rfl, ⟨by decide, by decide⟩, .inl ⟨_, rfl, _, _, rfl, rfl, (by show (0 : Int) < 4; decide), _, _, rfl, rfl, l, _, _, rfl, rfl, g1, (by show 1 < sizeLine; decide), ?_⟩⟩
        refine ⟨l, [1 + nth ns a % 5, 1 + nth ns a / 10 % 4], rfl, Same.over k1 nl, nl, upd_same, L1.snoc (by omega) (by omega), (by show 1 ≤ 2; decide), (by show 2 ≤ 2; decide), ?_⟩
        show (1 + nth ns a % 5) + ((1 + nth ns a / 10 % 4) + 0) ≤ 9
        omega
      · refine ⟨l, [1 + nth ns a % 5], rfl, k1, nl, g1, L1, (by show 1 ≤ 1; decide), (by show 1 ≤ 2; decide), ?_⟩
        show (1 + nth ns a % 5) + 0 ≤ 9
        omega
    clear e1' e1 g1 k1 nl
    rintro σ1 H1 ⟨l, ls, rfl, k1, nl, gl1, hL, hl1, hl2, hl9⟩
    -- gaps
    refine ⟨(by show 6 ≤ sizeLine; decide), fun m nm => ?_⟩
    obtain ⟨H2, e2, k2', g2⟩ := made (o := .lst [V.int 0, .int 1, .int 2, .int 3, .int 4, .int 2]) nm
    rw [e2]
    have k2 := k1.trans k2'
    have gl2 := k2' _ _ gl1
    obtain ⟨mo, hmo, mo0, mo8, _⟩ := pick6 (z := nth ns ((a : Int) + 1) % 6) (Int.emod_nonneg _ (by decide)) (Int.emod_lt_of_pos _ (by decide)) 0 1 2 3 4 2 (by decide)
    refine ⟨_, rfl, _, rfl, _, _, rfl, rfl, n, _, _, _, rfl, rfl, k2.seq hn, at_ (by omega) (by omega), .inl ⟨_, rfl, _, _, rfl, rfl, (by show (0 : Int) < 6; decide), m, _, _, _, rfl, rfl, SqL.of g2, hmo, mo, rfl, by omega, by omega, fun D nD => ?_⟩⟩
    refine lc_range (lo := 0) (n := mo.toNat) (fun i H' => ∃ gs : List Int, H' = upd H2 D (.lst (gs.map V.int)) ∧ gs.length = i ∧ Lens gs) ?_ ?_ ?_
    · exact ⟨[], rfl, rfl, fun x z => nomatch z⟩
    · rintro i H' hi ⟨gs, rfl, hgl, hG⟩
      have z0 := sm ((a : Int) + 2 + (0 + (i : Int)))
      refine ⟨rfl, _, rfl, _, rfl, _, _, rfl, rfl, _, rfl, _, _, rfl, rfl, n, _, _, _, rfl, rfl, (k2.trans (same_upd nD)).seq hn, at_ (by omega) (by omega), .inl ⟨_, rfl, _, _, rfl, rfl, (by show (0 : Int) < 6; decide), _, _, rfl, rfl, _, upd_same, ?_, gs ++ [1 + nth ns ((a : Int) + 2 + (0 + (i : Int))) % 6], ?_, ?_, hG.snoc (by omega) (by omega)⟩⟩
      · rw [List.length_map]
        omega
      · rw [upd_upd, List.map_append]
        rfl
      · rw [List.length_append, hgl]
        rfl
    rintro H' ⟨gs, rfl, hgl, hG⟩
    have hg11 : gs.length ≤ 11 := by omega
    obtain ⟨H3, e3, k3', g3⟩ := made (o := .lst (gs.map V.int)) nD
    rw [e3]
    have nG : H D = none := k2.free nD
    have k3 := k2.trans k3'
    have gl3 := k3' _ _ gl2
    refine ⟨fun σ H' => ∃ (l g : Addr) (ls gs : List Int), σ = [some (.ref n), some (.int (a : Int)), some (.ref l), some (.ref g), none, none, none, none] ∧ Same H H' ∧ H' l = some (.lst (ls.map V.int)) ∧ H' g = some (.lst (gs.map V.int)) ∧ Lens ls ∧ 1 ≤ ls.length ∧ ls.length ≤ 2 ∧ ls.sum ≤ 9 ∧ Lens gs ∧ gs.length ≤ 11, ?_, ?_⟩
    · refine ⟨_, rfl, _, rfl, _, _, rfl, rfl, n, _, _, _, rfl, rfl, k3.seq hn, at_ (by omega) (by omega), .inl ⟨_, rfl, _, _, rfl, rfl, (by show (0 : Int) < 24; decide), rfl, _, rfl, ?_⟩⟩
      refine ite2 (fun hc => ?_) (fun hc => ?_)
      · refine ⟨_, rfl, _, rfl, n, _, _, _, rfl, rfl, k3.seq hn, at_ a0 (by omega), .inl ⟨_, rfl, _, _, rfl, rfl, (by show (0 : Int) < 3; decide), _, _, rfl, rfl, (by show 2 ≤ sizeLine; decide), fun l2 nl2 => ?_⟩⟩
        obtain ⟨H4, e4, k4', g4⟩ := made (o := .lst ([1 + nth ns a % 3, 2].map V.int)) nl2
        have e4' : upd H3 l2 (.lst [V.int (1 + nth ns a % 3), .int 2]) = H4 := e4
        rw [e4']
        have k4 := k3.trans k4'
        refine ⟨11, rfl, by decide, by decide, fun D nD => ?_⟩
        refine lc_range (lo := 0) (n := 11) (fun i H' => ∃ gs : List Int, H' = upd H4 D (.lst (gs.map V.int)) ∧ gs.length = i ∧ Lens gs) ?_ ?_ ?_
        · exact ⟨[], rfl, rfl, fun x z => nomatch z⟩
        · rintro i H' hi ⟨gs, rfl, hgl, hG⟩
          have z0 := sm ((a : Int) + 2)
          refine ⟨rfl, _, rfl, _, rfl, _, _, rfl, rfl, n, _, _, _, rfl, rfl, (k4.trans (same_upd nD)).seq hn, at_ (by omega) (by omega), _, rfl, _, _, rfl, rfl, .inl ⟨by decide, by decide⟩, _, _, rfl, rfl, .inl ⟨_, rfl, _, _, rfl, rfl, (by show (0 : Int) < 40; decide), _, _, rfl, rfl, _, upd_same, ?_, gs ++ [1 + (nth ns ((a : Int) + 2) + 3 * (0 + (i : Int))) % 40], ?_, ?_, hG.snoc (by omega) (by omega)⟩⟩
          · rw [List.length_map]
            omega
          · rw [upd_upd, List.map_append]
            rfl
          · rw [List.length_append, hgl]
            rfl
        rintro H' ⟨gs, rfl, hgl, hG⟩
        have kk := same_upd (o := .lst (gs.map V.int)) nD
        refine ⟨l2, D, [1 + nth ns a % 3, 2], gs, rfl, k4.trans kk, kk _ _ g4, upd_same, fun x hx => ?_, (by show 1 ≤ 2; decide), (by show 2 ≤ 2; decide), ?_, hG, by omega⟩
        · rcases List.mem_cons.mp hx with rfl | hx
          · omega
          · rw [List.mem_singleton.mp hx]
            omega
        · show (1 + nth ns a % 3) + (2 + 0) ≤ 9
          omega
      · exact ⟨l, D, ls, gs, rfl, k3, gl3, g3, hL, hl1, hl2, hl9, hG, hg11⟩
    clear e3 e2 k3 gl3 g3 hL hl1 hl2 hl9 hG hg11 k3' nG hgl nD gl2 k2 g2 k2' nm gl1 k1 nl hmo
    rintro σ4 H4 ⟨l, g, ls, gs, rfl, k4, gl4, gg4, hL, hl1, hl2, hl9, hG, hg11⟩
    -- links
    refine ⟨_, rfl, _, rfl, l, g, ls, gs, rfl, SqL.of gl4, SqL.of gg4, hL, hl1, hl2, hg11, fun H5 r xs k5' nr gr hxs => ?_⟩
    have k5 := k4.trans k5'
    have gl5 := k5' _ _ gl4
    have gg5 := k5' _ _ gg4
    have hxl := hxs.len
    have top0 := hL.pos2
    have top1 := hL.pos1 hl1
    have elen : 1 ≤ (allE ls gs).length := by
      unfold allE
      rw [List.length_append, upsE_len]
      have : 1 * 1 ≤ (gs.length + 1) * ls.sum.toNat := Nat.mul_le_mul (by omega) (by omega)
      omega
    -- closed
    refine ⟨Nat.zero_le _, fun c nc => ?_⟩
    have nc0 : H c = none := k5.free nc
    have kc : Same H5 (upd H5 c (.lst [])) := same_upd nc
    refine ⟨(by show 6 ≤ sizeLine; decide), fun m nm => ?_⟩
    have k7' : Same (upd H5 c (.lst [])) (upd (upd H5 c (.lst [])) m (.lst [V.int 0, .int 0, .int 1, .int 2, .int 4, .int 8])) := same_upd nm
    obtain ⟨mo, hmo, mo0, mo8, _⟩ := pick6 (z := nth ns ((a : Int) + 7) % 6) (Int.emod_nonneg _ (by decide)) (Int.emod_lt_of_pos _ (by decide)) 0 0 1 2 4 8 (by decide)
    have k7 := (k5.trans kc).trans k7'
    refine ⟨_, rfl, _, rfl, _, _, rfl, rfl, n, _, _, _, rfl, rfl, k7.seq hn, at_ (by omega) (by omega), .inl ⟨_, rfl, _, _, rfl, rfl, (by show (0 : Int) < 6; decide), m, _, _, _, rfl, rfl, SqL.of upd_same, hmo, mo, rfl, by omega, by omega, ?_⟩⟩
    refine for_range (lo := 0) (n := mo.toNat) (fun i σ H' => ∃ (v6 v7 : Option V) (ys : List V) (cs : List (Str × Int × Int)), σ = [some (.ref n), some (.int (a : Int)), some (.ref l), some (.ref g), some (.ref r), some (.ref c), v6, v7] ∧ Same H5 H' ∧ H' c = some (.lst ys) ∧ Krs H' ys (kOf cs) ∧ (kOf cs).Nodup ∧
        (∀ d ∈ cs, isLk ls gs d.1 d.2.1 d.2.2 = true) ∧ cs.length ≤ i) ?_ ?_ ?_
    · exact ⟨none, none, [], [], rfl, kc.trans k7', k7' _ _ upd_same, .nil, .nil, (fun d z => nomatch z), Nat.zero_le _⟩
    · rintro i σ H' hi ⟨v6, v7, ys, cs, rfl, k', hc, hx, hnd, hlk, hle⟩
      have z0 := sm ((a : Int) + 8 + (0 + (i : Int)))
      have gr' := k' _ _ gr
      have hxs' := Ens.tu hxs (tuS k')
      have lp : (0 : Int) < (xs.length : Int) := by omega
      have j0 := Int.emod_nonneg (nth ns ((a : Int) + 8 + (0 + (i : Int))) + 5 * (0 + (i : Int))) (show (xs.length : Int) ≠ 0 by omega)
      have j1 := Int.emod_lt_of_pos (nth ns ((a : Int) + 8 + (0 + (i : Int))) + 5 * (0 + (i : Int))) lp
      obtain ⟨j, hj⟩ : ∃ j : Nat, (nth ns ((a : Int) + 8 + (0 + (i : Int))) + 5 * (0 + (i : Int))) % (xs.length : Int) = (j : Int) := ⟨_, (Int.toNat_of_nonneg j0).symm⟩
      obtain ⟨e, he⟩ : ∃ e, (allE ls gs)[j]? = some e := ⟨_, List.getElem?_eq_getElem (by omega)⟩
      obtain ⟨v, hv, t, kk, va, vb, rfl, ht, hk1, hk2, hk3⟩ := Fa.at' hxs' he
      obtain ⟨e1, e2⟩ := (mem_allE top0).mp (List.mem_of_getElem? he)
      have hat : atI xs ((nth ns ((a : Int) + 8 + (0 + (i : Int))) + 5 * (0 + (i : Int))) % (xs.length : Int)) = some (.ref t) := by
        rw [hj]
        exact atI_nat hv
      refine ⟨_, rfl, _, rfl, _, rfl, _, _, rfl, rfl, _, rfl, _, _, rfl, rfl, n, _, _, _, rfl, rfl, (k5.trans k').seq hn, at_ (by omega) (by omega), _, rfl, _, _, rfl, rfl, .inl ⟨by decide, by decide⟩, _, _, rfl, rfl, .inl ⟨_, rfl, _, rfl, _, _, rfl, .inl ⟨_, SqL.of gr', rfl⟩, _, _, rfl, rfl, (by show (0 : Int) < _; omega), r, _, _, _, rfl, rfl, SqL.of gr', hat, ?_⟩⟩
      refine ⟨t, _, _, kk, rfl, rfl, SqT.of ht, rfl, ?_⟩
      refine ⟨_, rfl, _, rfl, dK (lkC e.1), (kOf cs).map dK, hk1.dp, hx.dl (SqL.of hc), sh_dK (okk_lk e2), sh_dKs (fun k hk => ?_), _, rfl, ?_⟩
      · obtain ⟨d, hd, rfl⟩ := List.mem_map.mp hk
        exact okk_lk (hlk d hd)
      rw [any_dK]
      refine ite2 (fun hin => ?_) (fun hin => ?_)
      · have hni : lkC e.1 ∉ kOf cs := fun z => by
          rw [decide_eq_true z] at hin
          cases hin
        have hyl := hx.len
        rw [kOf_len] at hyl
        refine ⟨_, rfl, .inl ⟨rfl, _, SqL.of hc⟩, _, rfl, c, ys, _, rfl, rfl, hc, by omega, ?_⟩
        refine ⟨_, _, ys ++ [kk], cs ++ [e.1], rfl, Same.over k' nc, upd_same, ?_, ?_, ?_, ?_⟩
        · rw [kOf_snoc]
          exact (hx.over hc).snoc (hk1.over hc)
        · rw [kOf_snoc]
          exact List.nodup_append.mpr ⟨hnd, by simp, fun y hy y' hy' e => hni (by rw [List.mem_singleton.mp hy'] at e; rw [← e]; exact hy)⟩
        · intro d hd
          rcases List.mem_append.mp hd with z | z
          · exact hlk d z
          · rw [List.mem_singleton.mp z]
            exact e2
        · rw [List.length_append]
          show cs.length + 1 ≤ i + 1
          omega
      · exact ⟨_, _, ys, cs, rfl, k', hc, hx, hnd, hlk, by omega⟩
    · rintro σ H' ⟨v6, v7, ys, cs, rfl, k', hc, hx, hnd, hlk, hle⟩
      refine ⟨_, rfl, _, rfl, _, rfl, (by show 3 ≤ sizeLine; decide), fun p np => ?_⟩
      obtain ⟨H8, e8, k8, g8⟩ := made (o := .tup [V.ref l, .ref g, .ref c]) np
      rw [e8]
      have kA := (k5.trans k').trans k8
      exact q H8 p ls gs cs kA ((k5.trans k').free np) ⟨l, g, c, ys, g8, k8 _ _ (k' _ _ gl5), k8 _ _ (k' _ _ gg5), k8 _ _ hc, hx.same k8⟩ ⟨⟨⟨hl1, hl2⟩, hL.all⟩, ⟨hg11, hG.all⟩, by omega, hnd, hlk⟩ hl9 (by omega)
end

/-! ### what lies beside a place -/
section
open GxR NdefX PySem.Spec PyProof.Rows
variable {P : Program} {w : World} {K : PySem.W.Frag} {mg : Str → Option Value} {base : Heap}
theorem grid_isPl {ls gs : List Int} (h0 : 0 ≤ ls.sum) (p : Pl) : decide (p ∈ gridP (gs.length + 1) (ls.sum.toNat + 1)) = isPl ls gs p := by
  obtain ⟨a, b⟩ := p
  unfold isPl
  rw [Bool.eq_iff_iff]
  simp only [decide_eq_true_eq, Bool.and_eq_true, mem_grid]
  omega
theorem isPl_of {ls gs : List Int} {p : Pl} (h0 : 0 ≤ p.1) (h1 : p.1 ≤ gs.length) (h2 : 0 ≤ p.2) (h3 : p.2 ≤ ls.sum) : isPl ls gs p = true := by
  unfold isPl
  simp [h0, h1, h2, h3]
theorem ends_pl {ls gs : List Int} (hL : Lens ls) {x : Str} {a h : Int} (e : isLk ls gs x a h = true) : isPl ls gs (a, h) = true ∧ isPl ls gs (farP x a h) = true := by
  unfold isLk at e
  unfold farP
  by_cases hx : x = "up"
  · rw [if_pos hx] at e ⊢
    simp only [Bool.and_eq_true, decide_eq_true_eq] at e
    obtain ⟨⟨e1, e2⟩, e3, e4⟩ := e
    exact ⟨isPl_of e1 e2 e3 (Int.le_of_lt e4), isPl_of e1 e2 (by show 0 ≤ h + 1; omega) (by show h + 1 ≤ ls.sum; omega)⟩
  · rw [if_neg hx] at e ⊢
    simp only [Bool.and_eq_true, decide_eq_true_eq] at e
    obtain ⟨_, ⟨e1, e2⟩, e3⟩ := e
    obtain ⟨c1, c2⟩ := hL.cross e3
    exact ⟨isPl_of e1 (Int.le_of_lt e2) c1 c2, isPl_of (by show 0 ≤ a + 1; omega) (by show a + 1 ≤ (gs.length : Int); omega) c1 c2⟩
theorem lo_comm (p q : Pl) : loP p q = loP q p ∧ hiP p q = hiP q p := by
  obtain ⟨a, b⟩ := p
  obtain ⟨c, d⟩ := q
  unfold loP hiP lsP
  by_cases h1 : a < c ∨ (a = c ∧ b < d)
  · have h2 : ¬ (c < a ∨ (c = a ∧ d < b)) := by omega
    simp [h1, h2]
  · by_cases h2 : c < a ∨ (c = a ∧ d < b)
    · simp [h1, h2]
    · have e1 : a = c := by omega
      have e2 : b = d := by omega
      subst e1 e2
      simp [h1]
theorem lnkB_comm (ls gs : List Int) (cs : List (Str × Int × Int)) (p q : Pl) : lnkB ls gs cs p q = lnkB ls gs cs q p := by
  unfold lnkB joinC
  rw [(lo_comm p q).1, (lo_comm p q).2]
/-! sorted lists of places with numbers -/
def lpB (a b : Pl × Int) : Prop := lsP a.1 b.1 = true ∨ (a.1 = b.1 ∧ a.2 ≤ b.2)
def leB : Pl × Int → Pl × Int → Bool := PySem.W.dataLe false dB
def sortB (rs : List (Pl × Int)) : List (Pl × Int) := rs.mergeSort leB
theorem alike_P (p q : Pl) : PySem.W.alike (dP p) (dP q) = true := by
  simp [dP, PySem.W.alike, PySem.W.alikeAll]
theorem alike_B (a b : Pl × Int) : PySem.W.alike (dB a) (dB b) = true := by
  unfold dB
  rw [PySem.W.alike]
  show (PySem.W.alike (dP a.1) (dP b.1) && _) = true
  rw [alike_P]
  simp [PySem.W.alike, PySem.W.alikeAll]
theorem ls_irrefl (p : Pl) : lsP p p = false := by
  unfold lsP
  simp
theorem ls_iff {p q : Pl} : lsP p q = true ↔ (p.1 < q.1 ∨ (p.1 = q.1 ∧ p.2 < q.2)) := by
  unfold lsP
  simp
theorem lt_dB (a b : Pl × Int) : PySem.W.dataLt (dB a) (dB b) = if a.1 = b.1 then decide (a.2 < b.2) else lsP a.1 b.1 := by
  unfold dB
  rw [PySem.W.dataLt_pair (alike_P _ _) (by simp [PySem.W.alike]), eqv_dP, lt_dP, eqv_int, PySem.W.dataLt_int]
  by_cases h : a.1 = b.1
  · rw [if_pos (decide_eq_true h), if_pos h]
    by_cases h2 : a.2 = b.2
    · rw [if_pos (decide_eq_true h2), h2, decide_eq_false (by omega)]
    · rw [if_neg (by rw [decide_eq_false h2]; decide)]
  · rw [if_neg (by rw [decide_eq_false h]; decide), if_neg h]
theorem leB_iff {a b : Pl × Int} : leB a b = true ↔ lpB a b := by
  show (!PySem.W.dataLt (dB b) (dB a)) = true ↔ _
  rw [lt_dB]
  unfold lpB
  rw [ls_iff]
  obtain ⟨⟨a1, a2⟩, a3⟩ := a
  obtain ⟨⟨b1, b2⟩, b3⟩ := b
  dsimp only
  by_cases h : ((b1, b2) : Pl) = (a1, a2)
  · rw [if_pos h]
    cases h
    simp
  · rw [if_neg h]
    unfold lsP
    have h' : ¬ (b1 = a1 ∧ b2 = a2) := fun z => h (by rw [z.1, z.2])
    have h2 : ¬ ((a1, a2) = ((b1, b2) : Pl)) := fun z => h z.symm
    simp only [Bool.not_eq_true', decide_eq_false_iff_not, h2, false_and, or_false]
    omega
theorem lpB_anti {a b : Pl × Int} (h : lpB a b) (k : lpB b a) : a = b := by
  unfold lpB at *
  rw [ls_iff] at h k
  obtain ⟨⟨a1, a2⟩, a3⟩ := a
  obtain ⟨⟨b1, b2⟩, b3⟩ := b
  simp only [Prod.mk.injEq] at *
  omega
theorem sortB_perm (rs : List (Pl × Int)) : (sortB rs).Perm rs := List.mergeSort_perm _ _
theorem sortB_pw (rs : List (Pl × Int)) : (sortB rs).Pairwise lpB := by
  have h := List.pairwise_mergeSort (le := leB) (fun a b c h1 h2 => by
    rw [leB_iff] at *
    unfold lpB at *
    rw [ls_iff] at *
    obtain ⟨⟨a1, a2⟩, a3⟩ := a
    obtain ⟨⟨b1, b2⟩, b3⟩ := b
    obtain ⟨⟨c1, c2⟩, c3⟩ := c
    simp only [Prod.mk.injEq] at *
    omega) (fun a b => by
    have : lpB a b ∨ lpB b a := by
      unfold lpB
      rw [ls_iff, ls_iff]
      obtain ⟨⟨a1, a2⟩, a3⟩ := a
      obtain ⟨⟨b1, b2⟩, b3⟩ := b
      simp only [Prod.mk.injEq]
      omega
    rcases this with z | z
    · rw [leB_iff.mpr z]
      rfl
    · rw [leB_iff.mpr z, Bool.or_true]) rs
  exact h.imp fun {a b} z => leB_iff.mp z
theorem pwB_uniq : ∀ {a b : List (Pl × Int)}, a.Perm b → a.Pairwise lpB → b.Pairwise lpB → a = b
  | [], b, h, _, _ => h.nil_eq
  | p :: a, [], h, _, _ => absurd h.length_eq (by simp)
  | p :: a, q :: b, h, ha, hb => by
    have e : p = q := by
      rcases List.mem_cons.mp (h.mem_iff.mp List.mem_cons_self) with e | m
      · exact e
      · rcases List.mem_cons.mp (h.mem_iff.mpr List.mem_cons_self) with e | m'
        · exact e.symm
        · exact lpB_anti (List.rel_of_pairwise_cons ha m') (List.rel_of_pairwise_cons hb m)
    subst e
    rw [pwB_uniq ((List.perm_cons p).mp h) ha.of_cons hb.of_cons]
theorem Brs.split {H : Hp} {vs : List V} {rs : List (Pl × Int)} (h : Brs H vs rs) : ∃ L : List (Addr × (Pl × Int)), vs = L.map (fun p => V.ref p.1) ∧ rs = L.map (·.2) ∧ ∀ p ∈ L, Br H (.ref p.1) p.2 := by
  induction h with
  | nil => exact ⟨[], rfl, rfl, fun p hp => nomatch hp⟩
  | cons a _ ih =>
    obtain ⟨L, rfl, rfl, hL⟩ := ih
    obtain ⟨t, u, rfl, h1, h2⟩ := id a
    refine ⟨(t, _) :: L, rfl, rfl, fun p hp => ?_⟩
    rcases List.mem_cons.mp hp with rfl | hp
    · exact a
    · exact hL p hp
theorem brs_of {H : Hp} : ∀ {L : List (Addr × (Pl × Int))}, (∀ p ∈ L, Br H (.ref p.1) p.2) → Brs H (L.map fun p => V.ref p.1) (L.map (·.2))
  | [], _ => .nil
  | p :: L, h => .cons (h p List.mem_cons_self) (brs_of fun q hq => h q (List.mem_cons_of_mem _ hq))
theorem Br.dp1 {H : Hp} {v : V} {r : Pl × Int} (h : Br H v r) : Dp K H v (dB r) := by
  obtain ⟨t, u, rfl, h1, h2⟩ := h
  exact .tup (SqT.of h1) (.cons h2.dp (.cons (.int _) .nil))
theorem refs_valsB (L : List (Addr × (Pl × Int))) : Vals (L.map fun p => V.ref p.1) (L.map fun p => Value.ref p.1) := by
  induction L with
  | nil => exact .nil
  | cons p L ih => exact .cons rfl ih
theorem vals_refsB : ∀ {L : List (Addr × (Pl × Int))} {its : List Value}, Vals (L.map fun p => V.ref p.1) its → its = L.map fun p => Value.ref p.1
  | [], _, .nil => rfl
  | p :: L, _, .cons r t => by
    have r : _ = Value.ref p.1 := r
    rw [r, vals_refsB t]
    rfl
theorem sort_pairsB (L : List (Addr × (Pl × Int))) : (L.mergeSort (PySem.W.dataLe false fun b => dB b.2)).map (·.2) = sortB (L.map (·.2)) := List.map_mergeSort fun a _ b _ => rfl
def rSortB (K : PySem.W.Frag) : List V → Hp → VK → Prop := fun vs H Q => ∃ (a : Addr) (xs : List V) (rs : List (Pl × Int)), vs = [.ref a] ∧ SqL K H a xs ∧ Brs H xs rs ∧ ∀ (p : Addr) (ys : List V), H p = none → Brs H ys (sortB rs) → Q (.ref p) (upd H p (.lst ys))
theorem call_sortB {X : Cx} (hu : X.A.units + 64 < cLine) : CallR X (.builtin "sorted") (rSortB X.K) := by
  intro pins s σ H vs us Q I r h
  obtain ⟨a, xs, rs, rfl, hs, hk, q⟩ := h
  obtain ⟨its, rv, hl, hz⟩ := I.list hs
  rw [Vals.ref1 r]
  obtain ⟨L, rfl, rfl, hL⟩ := hk.split
  have e := vals_refsB rv
  subst e
  refine PySem.W.sorted_data (bs := L) (enc := fun b : Addr × (Pl × Int) => dB b.2) (R := fun v b => v = Value.ref b.1) hl.isList (Pk.each_map _ fun b _ => rfl) (Pk.each_map _ fun b hb => Dp.reads I (dB b.2) (.ref b.1) (.ref b.1) (Br.dp1 (hL b hb)) rfl)
    (PySem.W.AllAlike.of fun b b' => alike_B _ _) (PySem.W.Sortable.tuples fun b => ⟨_, _, rfl⟩) (by rw [List.length_map] at hz; exact hz) (fun b _ => by show X.A.units + 2 + 2 < cLine; omega) fun out ho eo => ?_
  have eo2 := eachIs_back eo
  obtain ⟨ep, he'⟩ := PyProof.Rows.sortedAll_at s.heap (L.map fun p => Value.ref p.1) out.toArray
  have hlen : ((L.mergeSort (PySem.W.dataLe false fun b => dB b.2)).map fun p => V.ref p.1).length ≤ sizeLine := by
    rw [List.length_map, (List.mergeSort_perm _ _).length_eq]
    rw [List.length_map] at hz
    exact hz
  refine ⟨.ref _, upd H (s.heap.objs.size + 1) (.lst ((L.mergeSort (PySem.W.dataLe false fun b => dB b.2)).map fun p => V.ref p.1)), I.laid (t' := s.toks) (fun _ _ => PyProof.Rows.sortedAll_old) (Nat.le_succ _)
    ⟨hlen, out, ep, by rw [eo2]; exact refs_valsB _, he'⟩, rfl, q _ _ (I.hok.fresh (Nat.le_succ _)) ?_⟩
  rw [← sort_pairsB]
  exact brs_of fun p hp => hL p ((List.mergeSort_perm _ _).mem_iff.mp hp)
/-! the entries at a place -/
def nbO (cs : List (Str × Int × Int)) (p : Pl) (e : Ed) : List (Pl × Int) := if lkC e.1 ∈ kOf cs then [] else (if p = e.2.1 then [(e.2.2.1, e.2.2.2)] else []) ++ (if p = e.2.2.1 then [(e.2.1, e.2.2.2)] else [])
def nbE (cs : List (Str × Int × Int)) (es : List Ed) (p : Pl) : List (Pl × Int) := es.flatMap (nbO cs p)
theorem nbE_snoc (cs : List (Str × Int × Int)) (es : List Ed) (e : Ed) (p : Pl) : nbE cs (es ++ [e]) p = nbE cs es p ++ nbO cs p e := by
  unfold nbE
  rw [List.flatMap_append]
  simp
theorem join_ed {c : Str × Int × Int} (hc : c.1 = "up" ∨ c.1 = "over") : joinC (c.2.1, c.2.2) (farP c.1 c.2.1 c.2.2) = some c := by
  obtain ⟨x, a, h⟩ := c
  rcases hc with rfl | rfl
  · have e : farP "up" a h = (a, h + 1) := if_pos rfl
    show joinC (a, h) (farP "up" a h) = _
    rw [e]
    unfold joinC loP hiP
    rw [show lsP (a, h + 1) (a, h) = false from by unfold lsP; simp; omega, show lsP (a, h) (a, h + 1) = true from by unfold lsP; simp; omega]
    simp
  · have e : farP "over" a h = (a + 1, h) := if_neg over_up
    show joinC (a, h) (farP "over" a h) = _
    rw [e]
    unfold joinC loP hiP
    rw [show lsP (a + 1, h) (a, h) = false from by unfold lsP; simp; omega, show lsP (a, h) (a + 1, h) = true from by unfold lsP; simp; omega]
    simp only [Bool.false_eq_true, if_false, if_true]
    rw [if_neg (fun z => by have := congrArg (·.1) z; dsimp only at this; omega)]
theorem joinC_comm (p q : Pl) : joinC p q = joinC q p := by
  unfold joinC
  rw [(lo_comm p q).1, (lo_comm p q).2]
theorem join_inv {p q : Pl} {c : Str × Int × Int} (h : joinC p q = some c) : (c.1 = "up" ∨ c.1 = "over") ∧ ((p = (c.2.1, c.2.2) ∧ q = farP c.1 c.2.1 c.2.2) ∨ (q = (c.2.1, c.2.2) ∧ p = farP c.1 c.2.1 c.2.2)) := by
  have hl : (loP p q = p ∧ hiP p q = q) ∨ (loP p q = q ∧ hiP p q = p) := by
    unfold loP hiP
    cases e1 : lsP q p with
    | true =>
      have e2 : lsP p q = false := by
        rw [Bool.eq_false_iff]
        intro e2
        rw [ls_iff] at e1 e2
        omega
      simp [e2]
    | false =>
      cases e2 : lsP p q with
      | true => simp
      | false =>
        have e : p = q := by
          have n1 : ¬ lsP q p = true := by rw [e1]; decide
          have n2 : ¬ lsP p q = true := by rw [e2]; decide
          rw [ls_iff] at n1 n2
          exact Prod.ext (by omega) (by omega)
        simp [e]
  unfold joinC at h
  by_cases h1 : hiP p q = ((loP p q).1, (loP p q).2 + 1)
  · rw [if_pos h1] at h
    cases h
    refine ⟨.inl rfl, ?_⟩
    have e : farP "up" (loP p q).1 (loP p q).2 = ((loP p q).1, (loP p q).2 + 1) := if_pos rfl
    show (p = ((loP p q).1, (loP p q).2) ∧ q = farP "up" (loP p q).1 (loP p q).2) ∨ (q = ((loP p q).1, (loP p q).2) ∧ p = farP "up" (loP p q).1 (loP p q).2)
    rw [e, ← h1]
    rcases hl with ⟨a, b⟩ | ⟨a, b⟩
    · exact .inl ⟨a.symm, b.symm⟩
    · exact .inr ⟨a.symm, b.symm⟩
  · rw [if_neg h1] at h
    by_cases h2 : hiP p q = ((loP p q).1 + 1, (loP p q).2)
    · rw [if_pos h2] at h
      cases h
      refine ⟨.inr rfl, ?_⟩
      have e : farP "over" (loP p q).1 (loP p q).2 = ((loP p q).1 + 1, (loP p q).2) := if_neg over_up
      show (p = ((loP p q).1, (loP p q).2) ∧ q = farP "over" (loP p q).1 (loP p q).2) ∨ (q = ((loP p q).1, (loP p q).2) ∧ p = farP "over" (loP p q).1 (loP p q).2)
      rw [e, ← h2]
      rcases hl with ⟨a, b⟩ | ⟨a, b⟩
      · exact .inl ⟨a.symm, b.symm⟩
      · exact .inr ⟨a.symm, b.symm⟩
    · rw [if_neg h2] at h
      cases h
theorem far_ne (x : Str) (a h : Int) : farP x a h ≠ (a, h) := fun e => by
  unfold farP at e
  split at e
  · have := congrArg (·.2) e
    dsimp only at this
    omega
  · have := congrArg (·.1) e
    dsimp only at this
    omega
theorem lnkB_iff {ls gs : List Int} {cs : List (Str × Int × Int)} {p q : Pl} {c : Str × Int × Int} : lnkB ls gs cs p q = some c ↔ joinC p q = some c ∧ isLk ls gs c.1 c.2.1 c.2.2 = true ∧ lkC c ∉ kOf cs := by
  unfold lnkB
  cases e : joinC p q with
  | none => simp
  | some d =>
    by_cases h : (isLk ls gs d.1 d.2.1 d.2.2 && !decide (lkC d ∈ kOf cs)) = true
    · show (if (isLk ls gs d.1 d.2.1 d.2.2 && !decide (lkC d ∈ kOf cs)) = true then some d else none) = some c ↔ _
      rw [if_pos h]
      rw [Bool.and_eq_true] at h
      constructor
      · intro z
        cases z
        exact ⟨rfl, h.1, by simpa using h.2⟩
      · intro z
        exact z.1
    · show (if (isLk ls gs d.1 d.2.1 d.2.2 && !decide (lkC d ∈ kOf cs)) = true then some d else none) = some c ↔ _
      rw [if_neg h]
      constructor
      · intro z
        cases z
      · rintro ⟨z, h1, h2⟩
        cases z
        exact absurd (by rw [h1, decide_eq_false h2]; rfl) h
theorem mem_nbO {cs : List (Str × Int × Int)} {p : Pl} {e : Ed} {r : Pl × Int} : r ∈ nbO cs p e ↔ lkC e.1 ∉ kOf cs ∧ ((p = e.2.1 ∧ r = (e.2.2.1, e.2.2.2)) ∨ (p = e.2.2.1 ∧ r = (e.2.1, e.2.2.2))) := by
  unfold nbO
  by_cases h : lkC e.1 ∈ kOf cs
  · rw [if_pos h]
    simp [h]
  · rw [if_neg h, List.mem_append]
    by_cases h1 : p = e.2.1 <;> by_cases h2 : p = e.2.2.1 <;> simp [h, h1, h2]
/-- an entry stands there just if a link joins -/
theorem mem_nbE {ls gs : List Int} {cs : List (Str × Int × Int)} (h0 : 0 ≤ ls.sum) {p : Pl} {r : Pl × Int} : r ∈ nbE cs (allE ls gs) p ↔ ∃ c, lnkB ls gs cs p r.1 = some c ∧ r.2 = lenLk gs c.1 c.2.1 := by
  unfold nbE
  rw [List.mem_flatMap]
  constructor
  · rintro ⟨e, he, hr⟩
    obtain ⟨h1, h2⟩ := mem_nbO.mp hr
    obtain ⟨e1, e2⟩ := (mem_allE h0).mp he
    have f1 : e.2.1 = (e.1.2.1, e.1.2.2) := congrArg (·.2.1) e1
    have f2 : e.2.2.1 = farP e.1.1 e.1.2.1 e.1.2.2 := congrArg (·.2.2.1) e1
    have f3 : e.2.2.2 = lenLk gs e.1.1 e.1.2.1 := congrArg (·.2.2.2) e1
    have hj := join_ed (isLk_word e2)
    refine ⟨e.1, lnkB_iff.mpr ⟨?_, e2, h1⟩, ?_⟩
    · rcases h2 with ⟨a, b⟩ | ⟨a, b⟩
      · rw [a, b]
        show joinC e.2.1 e.2.2.1 = _
        rw [f1, f2]
        exact hj
      · rw [a, b, joinC_comm]
        show joinC e.2.1 e.2.2.1 = _
        rw [f1, f2]
        exact hj
    · rcases h2 with ⟨a, b⟩ | ⟨a, b⟩ <;> rw [b] <;> exact f3
  · rintro ⟨c, hc, hn⟩
    obtain ⟨h1, h2, h3⟩ := lnkB_iff.mp hc
    refine ⟨edC gs c, (mem_allE h0).mpr ⟨rfl, h2⟩, mem_nbO.mpr ⟨h3, ?_⟩⟩
    obtain ⟨_, h4⟩ := join_inv h1
    rcases h4 with ⟨a, b⟩ | ⟨a, b⟩
    · exact .inl ⟨a, Prod.ext b hn⟩
    · exact .inr ⟨b, Prod.ext a hn⟩
theorem mem_besL {ls gs : List Int} {cs : List (Str × Int × Int)} {p : Pl} {r : Pl × Int} : r ∈ besL ls gs cs p ↔ ∃ c, lnkB ls gs cs p r.1 = some c ∧ r.2 = lenLk gs c.1 c.2.1 := by
  unfold besL
  rw [List.mem_filterMap]
  constructor
  · rintro ⟨q, hq, e⟩
    unfold besO at e
    obtain ⟨c, hc, e⟩ := Option.map_eq_some_iff.mp e
    subst e
    exact ⟨c, hc, rfl⟩
  · rintro ⟨c, hc, hn⟩
    refine ⟨r.1, ?_, ?_⟩
    · obtain ⟨h1, _⟩ := lnkB_iff.mp hc
      obtain ⟨_, h4⟩ := join_inv h1
      unfold farP at h4
      unfold aroundP
      simp only [List.mem_cons, List.not_mem_nil, or_false]
      rcases h4 with ⟨a, b⟩ | ⟨a, b⟩
      · rw [a, b]
        by_cases z : c.1 = "up"
        · rw [if_pos z]
          exact .inr (.inr (.inl rfl))
        · rw [if_neg z]
          exact .inr (.inr (.inr rfl))
      · rw [a, b]
        by_cases z : c.1 = "up"
        · rw [if_pos z]
          exact .inr (.inl (Prod.ext rfl (by dsimp only; omega)))
        · rw [if_neg z]
          exact .inl (Prod.ext (by dsimp only; omega) rfl)
    · unfold besO
      rw [hc]
      exact congrArg some (Prod.ext rfl hn.symm)
theorem around_pw (p : Pl) : (aroundP p).Pairwise fun a b => lsP a b = true := by
  unfold aroundP lsP
  simp
  omega
theorem besL_pw (ls gs : List Int) (cs : List (Str × Int × Int)) (p : Pl) : (besL ls gs cs p).Pairwise fun a b => lsP a.1 b.1 = true := by
  unfold besL
  refine List.Pairwise.filterMap _ (fun a b h c hc d hd => ?_) (around_pw p)
  unfold besO at hc hd
  obtain ⟨_, _, hc⟩ := Option.map_eq_some_iff.mp hc
  obtain ⟨_, _, hd⟩ := Option.map_eq_some_iff.mp hd
  rw [← hc, ← hd]
  exact h
theorem allE_nd (ls gs : List Int) (hL : Lens ls) (h1 : 1 ≤ ls.length) (h2 : ls.length ≤ 2) : (allE ls gs).Nodup := by
  have inj1 : ∀ {a h a' h' : Int}, upE a h = upE a' h' → a = a' ∧ h = h' := fun e => by
    have := congrArg (·.2.1) e
    exact ⟨congrArg (·.1) this, congrArg (·.2) this⟩
  have inj2 : ∀ {a h a' h' : Int}, ovE gs a h = ovE gs a' h' → a = a' ∧ h = h' := fun e => by
    have := congrArg (·.2.1) e
    exact ⟨congrArg (·.1) this, congrArg (·.2) this⟩
  have nu : ∀ n, (upsE n ls.sum.toNat).Nodup := fun n => by
    induction n with
    | zero => exact .nil
    | succ n ih =>
      rw [upsE_succ]
      refine List.nodup_append.mpr ⟨ih, ?_, fun x hx y hy e => ?_⟩
      · refine List.pairwise_map.mpr (List.nodup_range.imp fun {a b} ne e => ne ?_)
        have := (inj1 e).2
        omega
      · obtain ⟨a, h, ha, hh, rfl⟩ := mem_upsE.mp hx
        obtain ⟨h', _, rfl⟩ := List.mem_map.mp hy
        have := (inj1 e).1
        omega
  have no : ∀ n, (ovsE ls gs n).Nodup := fun n => by
    induction n with
    | zero => exact .nil
    | succ n ih =>
      rw [ovsE_succ]
      refine List.nodup_append.mpr ⟨ih, ?_, fun x hx y hy e => ?_⟩
      · refine List.pairwise_map.mpr ((cross_rise hL h1 h2).1.imp fun {a b} lt e => ?_)
        have := (inj2 e).2
        omega
      · obtain ⟨a, ha, h, hh, rfl⟩ := mem_ovsE.mp hx
        obtain ⟨h', _, rfl⟩ := List.mem_map.mp hy
        have := (inj2 e).1
        omega
  refine List.nodup_append.mpr ⟨nu _, no _, fun x hx y hy e => ?_⟩
  obtain ⟨a, h, _, _, rfl⟩ := mem_upsE.mp hx
  obtain ⟨a', _, h', _, rfl⟩ := mem_ovsE.mp hy
  exact over_up (congrArg (·.1.1) e).symm
theorem nodup_flat {α β : Type} {f : α → List β} : ∀ {xs : List α}, xs.Nodup → (∀ x ∈ xs, (f x).Nodup) → (∀ x ∈ xs, ∀ y ∈ xs, ∀ b, b ∈ f x → b ∈ f y → x = y) → (xs.flatMap f).Nodup
  | [], _, _, _ => .nil
  | x :: xs, hn, h1, h2 => by
    obtain ⟨hx, hn⟩ := List.nodup_cons.mp hn
    rw [List.flatMap_cons]
    refine List.nodup_append.mpr ⟨h1 x List.mem_cons_self, nodup_flat hn (fun y hy => h1 y (List.mem_cons_of_mem _ hy)) (fun y hy z hz => h2 y (List.mem_cons_of_mem _ hy) z (List.mem_cons_of_mem _ hz)), fun b hb c hc e => ?_⟩
    subst e
    obtain ⟨y, hy, hb'⟩ := List.mem_flatMap.mp hc
    have := h2 x List.mem_cons_self y (List.mem_cons_of_mem _ hy) b hb hb'
    rw [this] at hx
    exact hx hy
theorem nbE_nd {ls gs : List Int} {cs : List (Str × Int × Int)} (hL : Lens ls) (h1 : 1 ≤ ls.length) (h2 : ls.length ≤ 2) (p : Pl) : (nbE cs (allE ls gs) p).Nodup := by
  have h0 := hL.pos2
  refine nodup_flat (allE_nd ls gs hL h1 h2) (fun e he => ?_) (fun e he e' he' b hb hb' => ?_)
  · obtain ⟨e1, _⟩ := (mem_allE h0).mp he
    have f1 : e.2.1 = (e.1.2.1, e.1.2.2) := congrArg (·.2.1) e1
    have f2 : e.2.2.1 = farP e.1.1 e.1.2.1 e.1.2.2 := congrArg (·.2.2.1) e1
    have ne : ¬ e.2.1 = e.2.2.1 := fun z => by
      rw [f1, f2] at z
      exact far_ne _ _ _ z.symm
    unfold nbO
    split
    · exact .nil
    · by_cases a : p = e.2.1
      · have b : ¬ p = e.2.2.1 := fun z => ne (a.symm.trans z)
        rw [if_pos a, if_neg b]
        simp
      · rw [if_neg a]
        split <;> simp
  · have key : ∀ {e : Ed}, e ∈ allE ls gs → b ∈ nbO cs p e → joinC p b.1 = some e.1 := fun {e} he hb => by
      obtain ⟨e1, e2⟩ := (mem_allE h0).mp he
      have f1 : e.2.1 = (e.1.2.1, e.1.2.2) := congrArg (·.2.1) e1
      have f2 : e.2.2.1 = farP e.1.1 e.1.2.1 e.1.2.2 := congrArg (·.2.2.1) e1
      have hj := join_ed (isLk_word e2)
      obtain ⟨_, z⟩ := mem_nbO.mp hb
      rcases z with ⟨x, y⟩ | ⟨x, y⟩
      · rw [x, y]
        show joinC e.2.1 e.2.2.1 = _
        rw [f1, f2]
        exact hj
      · rw [x, y, joinC_comm]
        show joinC e.2.1 e.2.2.1 = _
        rw [f1, f2]
        exact hj
    have k1 := key he hb
    rw [key he' hb'] at k1
    have k2 := Option.some.inj k1
    rw [((mem_allE h0).mp he).1, ((mem_allE h0).mp he').1, k2]
/-- what a place's list holds, sorted -/
theorem sort_nbE {ls gs : List Int} {cs : List (Str × Int × Int)} (hL : Lens ls) (h1 : 1 ≤ ls.length) (h2 : ls.length ≤ 2) (p : Pl) : sortB (nbE cs (allE ls gs) p) = besL ls gs cs p := by
  have pw := besL_pw ls gs cs p
  refine pwB_uniq ((sortB_perm _).trans ?_) (sortB_pw _) (pw.imp fun {a b} z => .inl z)
  refine (List.perm_ext_iff_of_nodup (nbE_nd hL h1 h2 p) (pw.imp fun {a b} z e => ?_)).mpr fun r => (mem_nbE hL.pos2).trans mem_besL.symm
  rw [e, ls_irrefl] at z
  cases z
/-! the grid ascends -/
theorem grid_pw (n m : Nat) : (gridP n m).Pairwise fun p q => lsP p q = true := by
  induction n with
  | zero => exact .nil
  | succ n ih =>
    rw [grid_succ]
    refine List.pairwise_append.mpr ⟨ih, ?_, fun p hp q hq => ?_⟩
    · refine List.pairwise_map.mpr (List.pairwise_lt_range.imp fun {a b} lt => ?_)
      rw [ls_iff]
      right
      exact ⟨rfl, by dsimp only; omega⟩
    · obtain ⟨p1, p2⟩ := p
      obtain ⟨_, b1, _⟩ := mem_grid.mp hp
      obtain ⟨b, _, rfl⟩ := List.mem_map.mp hq
      rw [ls_iff]
      left
      dsimp only
      omega
theorem grid_nd (n m : Nat) : (gridP n m).Nodup := (grid_pw n m).imp fun {a b} z e => by
  rw [e, ls_irrefl] at z
  cases z
end

/-! ### the dict of what lies beside each place -/
section
open GxR NdefX PySem.Spec PyProof.Rows
variable {P : Program} {w : World} {K : PySem.W.Frag} {mg : Str → Option Value} {base : Heap}
def plK (p : Pl) : Tk := [.inl p.1, .inl p.2]
theorem plK_inj {p q : Pl} (h : plK p = plK q) : p = q := by
  unfold plK at h
  injection h with h1 h2
  injection h2 with h2 _
  injection h1 with h1
  injection h2 with h2
  exact Prod.ext h1 h2
def kvL (L : List (Pl × Addr)) : List (Tk × V) := L.map fun x => (plK x.1, V.ref x.2)
theorem kvL_len (L : List (Pl × Addr)) : (kvL L).length = L.length := List.length_map _
theorem kvL_app (L M : List (Pl × Addr)) : kvL (L ++ M) = kvL L ++ kvL M := List.map_append
theorem val_in {L : List (Pl × Addr)} (nd : (L.map (·.1)).Nodup) : ∀ {x : Pl × Addr}, x ∈ L → valV (kvL L) (plK x.1) = some (.ref x.2) := by
  induction L with
  | nil => intro x hx; cases hx
  | cons y L ih =>
    intro x hx
    obtain ⟨h1, h2⟩ := List.nodup_cons.mp nd
    rcases List.mem_cons.mp hx with rfl | hx
    · exact valV_pos (p := (plK x.1, V.ref x.2)) rfl
    · have ne : ¬ plK y.1 = plK x.1 := fun e => h1 (show y.1 ∈ L.map (·.1) by rw [show y.1 = x.1 from plK_inj e]; exact List.mem_map_of_mem (f := (·.1)) hx)
      show valV ((plK y.1, V.ref y.2) :: kvL L) (plK x.1) = _
      rw [valV_neg ne]
      exact ih h2 hx
theorem val_out {L : List (Pl × Addr)} {p : Pl} (h : p ∉ L.map (·.1)) : valV (kvL L) (plK p) = none := by
  induction L with
  | nil => rfl
  | cons y L ih =>
    have ne : ¬ plK y.1 = plK p := fun e => h (by rw [← plK_inj e]; exact List.mem_cons_self)
    show valV ((plK y.1, V.ref y.2) :: kvL L) (plK p) = _
    rw [valV_neg ne]
    exact ih fun m => h (List.mem_cons_of_mem _ m)
theorem put_old {L : List (Pl × Addr)} {p : Pl} {a : Addr} (h : p ∈ L.map (·.1)) : putK (kvL L) (plK p) (.ref a) = kvL (L.map fun x => if x.1 = p then (x.1, a) else x) := by
  have e : ((kvL L).any fun kv => decide (kv.1 = plK p)) = true := by
    obtain ⟨x, hx, e⟩ := List.mem_map.mp h
    rw [List.any_eq_true]
    exact ⟨(plK x.1, .ref x.2), List.mem_map.mpr ⟨x, hx, rfl⟩, decide_eq_true (by rw [e])⟩
  unfold putK
  rw [if_pos e]
  unfold kvL
  rw [List.map_map, List.map_map]
  refine List.map_congr_left fun x _ => ?_
  show (if plK x.1 = plK p then (plK x.1, V.ref a) else (plK x.1, V.ref x.2)) = (plK (if x.1 = p then (x.1, a) else x).1, V.ref (if x.1 = p then (x.1, a) else x).2)
  by_cases c : x.1 = p
  · rw [if_pos (by rw [c]), if_pos c]
  · rw [if_neg fun z => c (plK_inj z), if_neg c]
/-- the lists hold what f tells -/
def Cont (H : Hp) (L : List (Pl × Addr)) (f : Pl → List (Pl × Int)) : Prop := ∀ x ∈ L, ∃ vs, H x.2 = some (.lst vs) ∧ Brs H vs (f x.1)
theorem Cont.same {H H' : Hp} {L : List (Pl × Addr)} {f : Pl → List (Pl × Int)} (h : Cont H L f) (k : Same H H') : Cont H' L f := fun x hx => by
  obtain ⟨vs, e, b⟩ := h x hx
  exact ⟨vs, k _ _ e, b.same k⟩
theorem Cont.kp {H H' : Hp} {L : List (Pl × Addr)} {f : Pl → List (Pl × Int)} (h : Cont H L f) (k : Kp H H') : Cont H' L f := fun x hx => by
  obtain ⟨vs, e, b⟩ := h x hx
  exact ⟨vs, k.lst e, b.tu (tuK k)⟩
/-- the dict is written anew -/
theorem Cont.dict {H : Hp} {L : List (Pl × Addr)} {f : Pl → List (Pl × Int)} {d : Addr} {kvs kvs' : List (Tk × V)} (h : Cont H L f) (hd : H d = some (.dT kvs)) : Cont (upd H d (.dT kvs')) L f := fun x hx => by
  obtain ⟨vs, e, b⟩ := h x hx
  exact ⟨vs, by rw [upd_ne (ne_of e hd fun z => nomatch z)]; exact e, b.tu (tuU fun xs z => by rw [hd] at z; cases z)⟩
def upF (f : Pl → List (Pl × Int)) (p : Pl) (r : Pl × Int) : Pl → List (Pl × Int) := fun q => if q = p then f q ++ [r] else f q
theorem mem_uniq {L : List (Pl × Addr)} (n1 : (L.map (·.1)).Nodup) {x y : Pl × Addr} (hx : x ∈ L) (hy : y ∈ L) (e : x.1 = y.1) : x = y := by
  have a := val_in n1 hx
  have b := val_in n1 hy
  rw [e, b] at a
  exact Prod.ext e (V.ref.inj (Option.some.inj a)).symm
theorem mem_uniq2 : ∀ {L : List (Pl × Addr)}, (L.map (·.2)).Nodup → ∀ {x y : Pl × Addr}, x ∈ L → y ∈ L → x.2 = y.2 → x = y
  | [], _, _, _, hx, _, _ => nomatch hx
  | z :: L, n, x, y, hx, hy, e => by
    obtain ⟨h1, h2⟩ := List.nodup_cons.mp n
    rcases List.mem_cons.mp hx with e1 | hx1 <;> rcases List.mem_cons.mp hy with e2 | hy1
    · rw [e1, e2]
    · exact absurd (show z.2 ∈ L.map (·.2) by rw [← e1, e]; exact List.mem_map_of_mem (f := (·.2)) hy1) h1
    · exact absurd (show z.2 ∈ L.map (·.2) by rw [← e2, ← e]; exact List.mem_map_of_mem (f := (·.2)) hx1) h1
    · exact mem_uniq2 h2 hx1 hy1 e
theorem Cont.put {H : Hp} {L : List (Pl × Addr)} {f : Pl → List (Pl × Int)} {x : Pl × Addr} {vs : List V} {v : V} {r : Pl × Int} (h : Cont H L f) (n1 : (L.map (·.1)).Nodup) (n2 : (L.map (·.2)).Nodup) (hx : x ∈ L) (hv : H x.2 = some (.lst vs)) (hb : Brs H vs (f x.1)) (hr : Br H v r) : Cont (upd H x.2 (.lst (vs ++ [v]))) L (upF f x.1 r) := fun y hy => by
  have tu := tuL (ws := vs ++ [v]) hv
  obtain ⟨us, e, b⟩ := h y hy
  unfold upF
  by_cases c : y.1 = x.1
  · have z := mem_uniq n1 hy hx c
    subst z
    rw [if_pos rfl]
    exact ⟨_, upd_same, (hb.tu tu).snoc (hr.tu tu)⟩
  · rw [if_neg c]
    exact ⟨us, by rw [upd_ne fun z => c (by rw [mem_uniq2 n2 hy hx z])]; exact e, b.tu tu⟩
/-- for each place of the house the list of what lies beside -/
def BesAt (H : Hp) (d : Addr) (ls gs : List Int) (cs : List (Str × Int × Int)) : Prop := ∃ L : List (Pl × Addr), H d = some (.dT (kvL L)) ∧ L.map (·.1) = gridP (gs.length + 1) (ls.sum.toNat + 1) ∧ Cont H L (besL ls gs cs)
theorem BesAt.kp {H H' : Hp} {d : Addr} {ls gs : List Int} {cs : List (Str × Int × Int)} (h : BesAt H d ls gs cs) (k : Kp H H') : BesAt H' d ls gs cs := by
  obtain ⟨L, a, b, c⟩ := h
  exact ⟨L, k.dT a, b, c.kp k⟩
theorem BesAt.same {H H' : Hp} {d : Addr} {ls gs : List Int} {cs : List (Str × Int × Int)} (h : BesAt H d ls gs cs) (k : Same H H') : BesAt H' d ls gs cs := h.kp (kpS k)
theorem pl_key {H : Hp} {v : V} {p : Pl} (h : Pr H v p) : ∃ t, v = .ref t ∧ H t = some (.tup ((plK p).map kV)) := h
theorem keys_at {H : Hp} {kvs : List (Tk × V)} {bs : List Addr} (h : IsKeys H kvs bs) : ∀ {i : Nat} {b : Addr}, bs[i]? = some b → ∃ x, kvs[i]? = some x ∧ H b = some (.tup (x.1.map kV)) := by
  unfold IsKeys at h
  induction h with
  | nil => intro i b e; cases e
  | cons a _ ih =>
    intro i b e
    cases i with
    | zero => cases e; exact ⟨_, rfl, a⟩
    | succ i => exact ih e
theorem grid_len2 (n m : Nat) (hn : n ≤ 12) (hm : m ≤ 10) : (gridP n m).length ≤ 120 := by
  rw [grid_len]
  exact Nat.mul_le_mul hn hm
def spBes (K : PySem.W.Frag) : Sp := fun vs H Q _ => ∃ (p : Addr) (ls gs : List Int) (cs : List (Str × Int × Int)), vs = [.ref p] ∧ PartsAt H p ls gs cs ∧ Valid ls gs cs ∧ ls.sum ≤ 9 ∧
  ∀ (H' : Hp) (d : Addr), Same H H' → H d = none → BesAt H' d ls gs cs → Q (.ref d) H'
theorem ok_bes {f fA : Addr} {fd fdA : FuncData} (F : Fun K "_law_beside" "_law_beside" s__law_beside f fd) (hsum : mg "sum" = none) (hlen : mg "len" = none) (hrange : mg "range" = none) (hsorted : mg "sorted" = none) (hlist : mg "list" = none)
    (FAk : PySem.W.keepIn K (.ref fA) = true) (GA : FnOk P w K mg base CX0 1 fA fdA ["lengths", "gaps"] (spAllE K)) (bA : Binds K fdA ["lengths", "gaps"] []) (gA : mg "_law_all_links" = some (.ref fA)) : FnOk P w K mg base CX0 2 f fd ["parts"] (spBes K) := by
  refine F.ok sc__law_beside (fun vs H Q E h => ?_) (fun cdv A outer s H vs Q E hr h => ?_)
  · obtain ⟨p, ls, gs, cs, rfl, _⟩ := h
    rfl
  · obtain ⟨p, ls, gs, cs, rfl, hP, va, h9, q⟩ := h
    obtain ⟨l, g, c, ks, hp, hl, hg, hc, hk⟩ := id hP
    have hL := va.lens
    obtain ⟨⟨⟨hl1, hl2⟩, _⟩, ⟨hg11, _⟩, hcs, hnd, hlk⟩ := id va
    have nd := sc__law_beside.nd
    have hline : 1000000 < sizeLine := by decide
    have top0 := hL.pos2
    refine ⟨_, (pss_cons (ps_set (i := 1) nd rfl (.inl rfl) pe_dnewT)
      (pss_cons (ps_for PassesOwn.never rfl (pi_range1 rfl hrange (pa_cons (pe_op op_add (pe_callB call_len (by rfl) hlen (by decide +kernel) (pa_cons (pe_ix ix_tup (pv 0) pe_int (fun _ _ => rfl)) pa_nil)) pe_int) pa_nil)) (pg_name (i := 2) nd rfl (.inl rfl)) (pss_one (ps_for PassesOwn.never rfl (pi_range1 rfl hrange (pa_cons (pe_op op_add (pe_callB (cr_sum rfl) (by rfl) hsum (by decide +kernel) (pa_cons (pe_ix ix_tup (pv 0) pe_int (fun _ _ => rfl)) pa_nil)) pe_int) pa_nil)) (pg_name (i := 3) nd rfl (.inl rfl)) (pss_one (ps_dput (by exact Pk.Room.units1 hr) (pv 1) (pe_tup (pa_cons (pv 2) (pa_cons (pv 3) pa_nil))) (pe_lst pa_nil) rfl)))))
      (pss_cons (ps_for PassesOwn.never rfl (pi_list (pe_call GA (by exact hr.mono (by decide)) (by rfl) gA FAk bA .nil pass0 (pa_cons (pe_ix ix_tup (pv 0) pe_int (fun _ _ => rfl)) (pa_cons (pe_ix ix_tup (pv 0) pe_int (fun _ _ => rfl)) pa_nil)))) (pg_tup rfl (pgs_cons (pg_name (i := 4) nd rfl (.inl rfl)) (pgs_cons (pg_name (i := 5) nd rfl (.inl rfl)) (pgs_cons (pg_name (i := 6) nd rfl (.inl rfl)) (pgs_cons (pg_name (i := 7) nd rfl (.inl rfl)) pgs_nil))))) (pss_one (ps_if (pt_cmpR (op_notInD (room65 hr)) (pv 4) (pe_ix ix_tup (pv 0) pe_int (fun _ _ => rfl)) (by rfl)) (pss_cons (ps_expr (pe_bm PySem.F.plainAttrs_list PySem.F.slot_list_append PySem.F.type_list_append mt_append (pe_dget (by exact Pk.Room.units1 hr) (pv 1) (pv 5) (fun _ _ => rfl)) (pa_cons (pe_tup (pa_cons (pv 6) (pa_cons (pv 7) pa_nil))) pa_nil)))
      (pss_one (ps_expr (pe_bm PySem.F.plainAttrs_list PySem.F.slot_list_append PySem.F.type_list_append mt_append (pe_dget (by exact Pk.Room.units1 hr) (pv 1) (pv 6) (fun _ _ => rfl)) (pa_cons (pe_tup (pa_cons (pv 5) (pa_cons (pv 7) pa_nil))) pa_nil))))) pss_nil)))
      (pss_cons (ps_for PassesOwn.never rfl (pi_list (pe_callTy (call_list_dT rfl) (by rfl) hlist (by decide +kernel) (pa_cons (pv 1) pa_nil))) (pg_name (i := 8) nd rfl (.inl rfl)) (pss_one (ps_dput (by exact Pk.Room.units1 hr) (pv 1) (pv 8) (pe_callB (call_sortB (by exact hr.units)) (by rfl) hsorted (by decide +kernel) (pa_cons (pe_dget (by exact Pk.Room.units1 hr) (pv 1) (pv 8) (fun _ _ => rfl)) pa_nil)) rfl)))
      (pss_one (ps_ret (pv 1))))))), ?_⟩
    refine fun d nd0 => ?_
    have kd : Same H (upd H d (.dT [])) := same_upd nd0
    -- the places
    refine ⟨_, rfl, p, _, _, _, rfl, rfl, SqT.of (kd _ _ hp), rfl, _, _, rfl, .inl ⟨_, SqL.of (kd _ _ hg), rfl⟩, _, _, rfl, rfl, _, rfl, (by rw [List.length_map]; omega), (by rw [List.length_map]; omega), ?_⟩
    rw [List.length_map, show ((gs.length : Int) + 1).toNat = gs.length + 1 by omega]
    refine for_range (lo := 0) (n := gs.length + 1) (fun i σ H' => ∃ (v2 v3 : Option V) (L : List (Pl × Addr)), σ = [some (.ref p), some (.ref d), v2, v3, none, none, none, none, none] ∧ Same H H' ∧ H' d = some (.dT (kvL L)) ∧ L.map (·.1) = gridP i (ls.sum.toNat + 1) ∧ (L.map (·.2)).Nodup ∧ (Cont H' L fun _ => []) ∧ ∀ x ∈ L, H x.2 = none) ?_ ?_ ?_
    · exact ⟨none, none, [], rfl, kd, upd_same, rfl, .nil, (fun x z => nomatch z), fun x z => nomatch z⟩
    · rintro i σ H' hi ⟨v2, v3, L, rfl, k, hd, hgr, hn2, hct, hfr⟩
      refine ⟨_, rfl, p, _, _, _, rfl, rfl, SqT.of (k _ _ hp), rfl, l, ls, rfl, SqL.of (k _ _ hl), _, _, rfl, rfl, _, rfl, by omega, by omega, ?_⟩
      rw [show (ls.sum + 1).toNat = ls.sum.toNat + 1 by omega]
      refine for_range (lo := 0) (n := ls.sum.toNat + 1) (fun j σ H' => ∃ (v3 : Option V) (L : List (Pl × Addr)), σ = [some (.ref p), some (.ref d), some (.int (0 + (i : Int))), v3, none, none, none, none, none] ∧ Same H H' ∧ H' d = some (.dT (kvL L)) ∧ L.map (·.1) = gridP i (ls.sum.toNat + 1) ++ (List.range j).map (fun (b : Nat) => ((i : Int), (b : Int))) ∧ (L.map (·.2)).Nodup ∧ (Cont H' L fun _ => []) ∧ ∀ x ∈ L, H x.2 = none) ?_ ?_ ?_
      · exact ⟨v3, L, rfl, k, hd, by simpa using hgr, hn2, hct, hfr⟩
      · rintro j σ H' hj ⟨v3, L, rfl, k, hd, hgr, hn2, hct, hfr⟩
        refine ⟨Nat.zero_le _, fun r nr => ?_⟩
        obtain ⟨H2, e2, k2, g2⟩ := made (o := .lst []) nr
        rw [e2]
        refine ⟨_, rfl, _, rfl, _, rfl, (by show 2 ≤ sizeLine; decide), fun t nt => ?_⟩
        obtain ⟨H3, e3, k3, g3⟩ := made (o := .tup [V.int (0 + (i : Int)), .int (0 + (j : Int))]) nt
        rw [e3]
        rw [Int.zero_add, Int.zero_add] at g3
        have hd3 := k3 _ _ (k2 _ _ hd)
        have hlen : L.length ≤ 1000 := by
          have z := congrArg List.length hgr
          rw [List.length_map, List.length_append, grid_len, List.length_map, List.length_range] at z
          have : i * (ls.sum.toNat + 1) ≤ 11 * 10 := Nat.mul_le_mul (by omega) (by omega)
          omega
        have out : (((i : Int), (j : Int)) : Pl) ∉ L.map (·.1) := fun m => by
          rw [hgr] at m
          rcases List.mem_append.mp m with z | z
          · have := (mem_grid.mp z).2.1
            omega
          · obtain ⟨b, hb, e⟩ := List.mem_map.mp z
            have := congrArg (·.2) e
            dsimp only at this
            have := List.mem_range.mp hb
            omega
        refine ⟨d, _, rfl, DPut.t (k := plK ((i : Int), (j : Int))) hd3 g3 (by rw [kvL_len]; omega), ?_⟩
        rw [putK_new _ (val_out out)]
        have el : kvL L ++ [(plK ((i : Int), (j : Int)), V.ref r)] = kvL (L ++ [((((i : Int), (j : Int)) : Pl), r)]) := by
          rw [kvL_app]
          rfl
        rw [el]
        have k23 := k2.trans k3
        refine ⟨_, L ++ [((((i : Int), (j : Int)) : Pl), r)], rfl, Same.over (k.trans k23) nd0, upd_same, ?_, ?_, ?_, fun x hx => ?_⟩
        · rw [List.map_append, hgr, List.range_succ, List.map_append, List.append_assoc]
          rfl
        · rw [List.map_append]
          refine List.nodup_append.mpr ⟨hn2, by simp, fun y hy y' hy' e => ?_⟩
          obtain ⟨x, hx, rfl⟩ := List.mem_map.mp hy
          obtain ⟨us, z, _⟩ := hct x hx
          have : y' = r := by simpa using hy'
          rw [e, this, nr] at z
          cases z
        · refine Cont.dict (kvs := kvL L) (fun x hx => ?_) hd3
          rcases List.mem_append.mp hx with hx | hx
          · exact (hct.same k23) x hx
          · rw [List.mem_singleton.mp hx]
            exact ⟨[], k3 _ _ g2, .nil⟩
        · rcases List.mem_append.mp hx with hx | hx
          · exact hfr x hx
          · rw [List.mem_singleton.mp hx]
            exact k.free nr
      · rintro σ H' ⟨v3, L, rfl, k, hd, hgr, hn2, hct, hfr⟩
        refine ⟨_, _, L, rfl, k, hd, ?_, hn2, hct, hfr⟩
        rw [hgr, grid_succ]
    rintro σ H1 ⟨v2, v3, L, rfl, k1, hd1, hgr, hn2, hct, hfr⟩
    have hn1 : (L.map (·.1)).Nodup := by
      rw [hgr]
      exact grid_nd _ _
    -- the links
    refine ⟨_, rfl, p, _, _, _, rfl, rfl, SqT.of (k1 _ _ hp), rfl, _, rfl, p, _, _, _, rfl, rfl, SqT.of (k1 _ _ hp), rfl, l, g, ls, gs, rfl, SqL.of (k1 _ _ hl), SqL.of (k1 _ _ hg), hL, hl1, hl2, hg11, fun H2 r xs k2 nr gr hxs => ?_⟩
    have hct1 := hct
    have hd2 := k2 _ _ hd1
    have hct2 := hct.same k2
    have k02 := k1.trans k2
    have nrd : r ≠ d := fun e => by
      rw [e, hd1] at nr
      cases nr
    refine ⟨r, rfl, ⟨_, SqL.of gr⟩, ?_⟩
    refine for_list (K := K) (a := r) (xs := xs) (fun i σ H' => ∃ (v4 v5 v6 v7 : Option V), σ = [some (.ref p), some (.ref d), v2, v3, v4, v5, v6, v7, none] ∧ Same H H' ∧ Tu H2 H' ∧ H' r = some (.lst xs) ∧ H' d = some (.dT (kvL L)) ∧ Cont H' L (nbE cs ((allE ls gs).take i))) ?_ ?_ ?_ ?_
    · exact ⟨none, none, none, none, rfl, k02, Tu.refl _, gr, hd2, hct2⟩
    · rintro i σ H' _ ⟨_, _, _, _, _, _, _, h, _⟩
      exact SqL.of h
    · rintro i x σ H' hx ⟨v4, v5, v6, v7, rfl, k, tu, gr', hd, hct⟩
      obtain ⟨e, he, t, kk, wa, wb, rfl, ht, hk1, ⟨ta, rfl, hta⟩, ⟨tb, rfl, htb⟩⟩ := Fa.at (Ens.tu hxs tu) hx
      obtain ⟨e1, e2⟩ := (mem_allE top0).mp (List.mem_of_getElem? he)
      have f1 : e.2.1 = (e.1.2.1, e.1.2.2) := congrArg (·.2.1) e1
      have f2 : e.2.2.1 = farP e.1.1 e.1.2.1 e.1.2.2 := congrArg (·.2.2.1) e1
      have hts : (allE ls gs).take (i + 1) = (allE ls gs).take i ++ [e] := by
        rw [List.take_add_one, he]
        rfl
      refine ⟨t, _, rfl, SqT.of ht, rfl, _, _, rfl, _, _, rfl, _, _, rfl, _, _, rfl, rfl, ?_⟩
      refine ⟨_, rfl, _, rfl, p, _, _, _, rfl, rfl, SqT.of (k _ _ hp), rfl, dK (lkC e.1), (kOf cs).map dK, hk1.dp, (hk.same k).dl (SqL.of (k _ _ hc)), sh_dK (okk_lk e2), sh_dKs (fun x hx => okk_valid va x hx), _, rfl, ?_⟩
      rw [any_dK]
      refine ite2 (fun hin => ?_) (fun hin => ?_)
      · have hni : lkC e.1 ∉ kOf cs := fun z => by
          rw [decide_eq_true z] at hin
          cases hin
        have top9 : ls.sum.toNat ≤ 9 := by omega
        have pl := ends_pl hL e2
        have inG : ∀ {z : Pl}, isPl ls gs z = true → ∃ a, (z, a) ∈ L := fun {z} hz => by
          have m : z ∈ L.map (·.1) := by
            rw [hgr]
            exact of_decide_eq_true ((grid_isPl top0 z).trans hz)
          obtain ⟨y, hy, e⟩ := List.mem_map.mp m
          exact ⟨y.2, by rw [← e]; exact hy⟩
        obtain ⟨a1, m1⟩ := inG (by rw [← f1] at pl; exact pl.1)
        obtain ⟨a2, m2⟩ := inG (by rw [← f2] at pl; exact pl.2)
        have ne : ¬ e.2.1 = e.2.2.1 := fun z => by
          rw [f1, f2] at z
          exact far_ne _ _ _ z.symm
        obtain ⟨vs1, h1, b1⟩ := hct _ m1
        have nbl : ∀ y, (nbE cs ((allE ls gs).take i) y).length ≤ 4000 := fun y => by
          have z : ∀ es : List Ed, (nbE cs es y).length ≤ 2 * es.length := fun es => by
            induction es with
            | nil => exact Nat.le_refl _
            | cons e es ih =>
              have : (nbO cs y e).length ≤ 2 := by
                unfold nbO
                split
                · exact Nat.zero_le _
                · rw [List.length_append]
                  split <;> split <;> simp
              show (nbO cs y e ++ nbE cs es y).length ≤ 2 * (es.length + 1)
              rw [List.length_append]
              omega
          have z1 := z ((allE ls gs).take i)
          have z2 : (allE ls gs).length ≤ 12 * 80 + 11 * 3 := by
            unfold allE
            rw [List.length_append, upsE_len, ovsE_len]
            exact Nat.add_le_add (Nat.mul_le_mul (by omega) (by omega)) (Nat.mul_le_mul (by omega) (by omega))
          rw [List.length_take] at z1
          omega
        have gd1 : DGet H' d (.ref ta) (some (.ref a1)) := by
          rw [← val_in hn1 m1]
          exact DGet.t hd hta
        refine ⟨_, rfl, _, rfl, d, _, rfl, gd1, .inl ⟨rfl, _, SqL.of h1⟩, _, rfl, _, rfl, (by show 2 ≤ sizeLine; decide), fun t5 nt5 => ?_⟩
        obtain ⟨H3, e3, k3, g3⟩ := made (o := .tup [V.ref tb, .int e.2.2.2]) nt5
        rw [e3]
        have h13 := k3 _ _ h1
        have l1 : vs1.length ≤ 4000 := by
          rw [b1.len]
          exact nbl _
        refine ⟨a1, vs1, _, rfl, rfl, h13, by omega, ?_⟩
        have c3 := Cont.put (hct.same k3) hn1 hn2 m1 h13 (b1.same k3) (v := .ref t5) (r := (e.2.2.1, e.2.2.2)) ⟨t5, .ref tb, rfl, g3, tb, rfl, k3 _ _ htb⟩
        have tu3 : Tu H' (upd H3 a1 (.lst (vs1 ++ [.ref t5]))) := (tuS k3).trans (tuL h13)
        have nda1 : d ≠ a1 := ne_of hd h1 fun z => nomatch z
        have hd4 : (upd H3 a1 (.lst (vs1 ++ [.ref t5]))) d = some (.dT (kvL L)) := by
          rw [upd_ne nda1]
          exact k3 _ _ hd
        have k4 : Same H (upd H3 a1 (.lst (vs1 ++ [.ref t5]))) := Same.over (k.trans k3) (hfr _ m1)
        have nr1 : r ≠ a1 := fun z => by
          obtain ⟨us, z1, _⟩ := hct1 _ m1
          rw [z, z1] at nr
          cases nr
        have nr2 : r ≠ a2 := fun z => by
          obtain ⟨us, z1, _⟩ := hct1 _ m2
          rw [z, z1] at nr
          cases nr
        have gr4 : (upd H3 a1 (.lst (vs1 ++ [.ref t5]))) r = some (.lst xs) := by
          rw [upd_ne nr1]
          exact k3 _ _ gr'
        generalize upd H3 a1 (.lst (vs1 ++ [.ref t5])) = H4 at *
        obtain ⟨vs2, h2, b2⟩ := c3 _ m2
        have gd2 : DGet H4 d (.ref tb) (some (.ref a2)) := by
          rw [← val_in hn1 m2]
          exact DGet.t hd4 (tu3 _ _ htb)
        refine ⟨_, rfl, _, rfl, d, _, rfl, gd2, .inl ⟨rfl, _, SqL.of h2⟩, _, rfl, _, rfl, (by show 2 ≤ sizeLine; decide), fun t6 nt6 => ?_⟩
        obtain ⟨H5, e5, k5, g5⟩ := made (o := .tup [V.ref ta, .int e.2.2.2]) nt6
        rw [e5]
        have h25 := k5 _ _ h2
        have l2 : vs2.length ≤ 4001 := by
          rw [b2.len]
          unfold upF
          rw [if_neg (show ¬ e.2.2.1 = e.2.1 from fun z => ne z.symm)]
          show (nbE cs ((allE ls gs).take i) e.2.2.1).length ≤ 4001
          have := nbl e.2.2.1
          omega
        refine ⟨a2, vs2, _, rfl, rfl, h25, by omega, ?_⟩
        have c5 := Cont.put (c3.same k5) hn1 hn2 m2 h25 (b2.same k5) (v := .ref t6) (r := (e.2.1, e.2.2.2)) ⟨t6, .ref ta, rfl, g5, ta, rfl, k5 _ _ (tu3 _ _ hta)⟩
        have nda2 : d ≠ a2 := ne_of hd4 h2 fun z => nomatch z
        refine ⟨_, _, _, _, rfl, Same.over (k4.trans k5) (hfr _ m2), tu.trans (tu3.trans ((tuS k5).trans (tuL h25))), ?_, ?_, fun x hx => ?_⟩
        · rw [upd_ne nr2]
          exact k5 _ _ gr4
        · rw [upd_ne nda2]
          exact k5 _ _ hd4
        · obtain ⟨us, z1, z2⟩ := c5 x hx
          refine ⟨us, z1, ?_⟩
          rw [hts, nbE_snoc]
          have ez : upF (upF (nbE cs ((allE ls gs).take i)) e.2.1 (e.2.2.1, e.2.2.2)) e.2.2.1 (e.2.1, e.2.2.2) x.1 = nbE cs ((allE ls gs).take i) x.1 ++ nbO cs x.1 e := by
            unfold upF nbO
            rw [if_neg hni]
            by_cases c1 : x.1 = e.2.1
            · have c2 : ¬ x.1 = e.2.2.1 := fun z => ne (c1.symm.trans z)
              rw [if_neg c2, if_pos c1, if_pos c1, if_neg c2, List.append_nil]
            · by_cases c2 : x.1 = e.2.2.1
              · rw [if_pos c2, if_neg c1, if_neg c1, if_pos c2, List.nil_append]
              · rw [if_neg c2, if_neg c1, if_neg c1, if_neg c2, List.append_nil, List.append_nil]
          rw [← ez]
          exact z2
      · have hin' : lkC e.1 ∈ kOf cs := Decidable.byContradiction fun z => hin (by rw [decide_eq_false z]; rfl)
        refine ⟨_, _, _, _, rfl, k, tu, gr', hd, fun x hx => ?_⟩
        obtain ⟨us, z1, z2⟩ := hct x hx
        refine ⟨us, z1, ?_⟩
        rw [hts, nbE_snoc]
        unfold nbO
        rw [if_pos hin', List.append_nil]
        exact z2
    rintro σ H3 ⟨v4, v5, v6, v7, rfl, k3, tu3, _, hd3, hct3⟩
    rw [hxs.len, List.take_length] at hct3
    -- sorted
    refine ⟨_, rfl, d, _, rfl, .inl hd3, fun m bs nm hks => ⟨m, rfl, ?_⟩⟩
    obtain ⟨H4, e4, k4, g4⟩ := made (o := .lst (bs.map V.ref)) nm
    rw [e4]
    refine ⟨⟨_, SqL.of g4⟩, ?_⟩
    have hlen : (gridP (gs.length + 1) (ls.sum.toNat + 1)).length ≤ 120 := grid_len2 _ _ (by omega) (by omega)
    have hkl : bs.length = L.length := by
      have z : ∀ {kvs : List (Tk × V)} {bs : List Addr}, IsKeys H3 kvs bs → bs.length = kvs.length := fun h => by
        unfold IsKeys at h
        induction h with
        | nil => rfl
        | cons _ _ ih => exact congrArg (· + 1) ih
      rw [z hks, kvL_len]
    have hLl : L.length = (gridP (gs.length + 1) (ls.sum.toNat + 1)).length := by
      rw [← hgr, List.length_map]
    refine for_list (K := K) (a := m) (xs := bs.map V.ref) (fun i σ H' => ∃ (v8 : Option V) (M : List (Pl × Addr)), σ = [some (.ref p), some (.ref d), v2, v3, v4, v5, v6, v7, v8] ∧ Same H H' ∧ Tu H4 H' ∧ H' m = some (.lst (bs.map V.ref)) ∧ H' d = some (.dT (kvL M)) ∧ M.map (·.1) = gridP (gs.length + 1) (ls.sum.toNat + 1) ∧
      Cont H' M fun y => if y ∈ (gridP (gs.length + 1) (ls.sum.toNat + 1)).take i then besL ls gs cs y else nbE cs (allE ls gs) y) ?_ ?_ ?_ ?_
    · refine ⟨none, L, rfl, k3.trans k4, Tu.refl _, g4, k4 _ _ hd3, hgr, ?_⟩
      simpa using hct3.same k4
    · rintro i σ H' _ ⟨_, _, _, _, _, h, _⟩
      exact SqL.of h
    · rintro i u σ H' hi ⟨v8, M, rfl, k, tu, gm, hd, hM, hct⟩
      rw [List.getElem?_map] at hi
      cases hb : bs[i]? with
      | none => rw [hb] at hi; cases hi
      | some b =>
        rw [hb] at hi
        cases hi
        obtain ⟨kx, hkx, hkb⟩ := keys_at hks hb
        unfold kvL at hkx
        rw [List.getElem?_map] at hkx
        cases hLi : L[i]? with
        | none => rw [hLi] at hkx; cases hkx
        | some y =>
          rw [hLi] at hkx
          cases hkx
          have hgi : (gridP (gs.length + 1) (ls.sum.toNat + 1))[i]? = some y.1 := by
            rw [← hgr, List.getElem?_map, hLi]
            rfl
          have hkb' : H' b = some (.tup ((plK y.1).map kV)) := tu _ _ (k4 _ _ hkb)
          have hM1 : (M.map (·.1)).Nodup := by
            rw [hM]
            exact grid_nd _ _
          have ym : y.1 ∈ M.map (·.1) := by
            rw [hM]
            exact List.mem_of_getElem? hgi
          obtain ⟨x, hx, hxy⟩ := List.mem_map.mp ym
          obtain ⟨us, u1, u2⟩ := hct x hx
          have hxy : x.1 = y.1 := hxy
          rw [hxy] at u2
          have nin : y.1 ∉ (gridP (gs.length + 1) (ls.sum.toNat + 1)).take i := fun z => by
            obtain ⟨j, hj⟩ := List.getElem?_of_mem z
            rw [List.getElem?_take] at hj
            split at hj
            · rename_i lt
              have hn := grid_nd (gs.length + 1) (ls.sum.toNat + 1)
              have ei := (List.getElem?_eq_some_iff.mp hgi)
              have ej := (List.getElem?_eq_some_iff.mp hj)
              obtain ⟨ei1, ei2⟩ := ei
              obtain ⟨ej1, ej2⟩ := ej
              exact (List.pairwise_iff_getElem.mp hn) j i ej1 ei1 lt (ej2.trans ei2.symm)
            · cases hj
          dsimp only at u2
          rw [if_neg nin] at u2
          have gd : DGet H' d (.ref b) (some (.ref x.2)) := by
            rw [← val_in hM1 hx, hxy]
            exact DGet.t hd hkb'
          refine ⟨_, rfl, _, rfl, d, _, rfl, gd, x.2, us, _, rfl, SqL.of u1, u2, fun r' ws nr' hws => ?_⟩
          obtain ⟨H5, e5, k5, g5⟩ := made (o := .lst ws) nr'
          rw [e5]
          rw [sort_nbE hL hl1 hl2] at hws
          have hd5 := k5 _ _ hd
          refine ⟨_, rfl, _, rfl, d, _, rfl, DPut.t (k := plK y.1) hd5 (k5 _ _ hkb') (by rw [kvL_len]; have z := congrArg List.length hM; rw [List.length_map] at z; omega), ?_⟩
          rw [put_old ym]
          have nmd : m ≠ d := ne_of gm hd fun z => nomatch z
          refine ⟨_, _, rfl, Same.over (k.trans k5) nd0, tu.trans ((tuS k5).trans (tuU fun xs z => by rw [hd5] at z; cases z)), ?_, upd_same, ?_, ?_⟩
          · rw [upd_ne nmd]
            exact k5 _ _ gm
          · rw [← hM, List.map_map]
            refine List.map_congr_left fun z _ => ?_
            show (if z.1 = y.1 then (z.1, r') else z).1 = z.1
            split <;> rfl
          · refine Cont.dict (kvs := kvL M) (fun z hz => ?_) hd5
            obtain ⟨z0, hz0, rfl⟩ := List.mem_map.mp hz
            have tk : ∀ q, q ∈ (gridP (gs.length + 1) (ls.sum.toNat + 1)).take (i + 1) ↔ (q ∈ (gridP (gs.length + 1) (ls.sum.toNat + 1)).take i ∨ q = y.1) := fun q => by
              rw [List.take_add_one, hgi, List.mem_append]
              simp
            by_cases c : z0.1 = y.1
            · rw [if_pos c]
              refine ⟨ws, g5, ?_⟩
              show Brs H5 ws (if z0.1 ∈ _ then _ else _)
              rw [if_pos ((tk _).mpr (.inr c)), c]
              exact hws.same k5
            · rw [if_neg c]
              obtain ⟨us2, w1, w2⟩ := hct z0 hz0
              refine ⟨us2, k5 _ _ w1, ?_⟩
              have eif : (if z0.1 ∈ (gridP (gs.length + 1) (ls.sum.toNat + 1)).take (i + 1) then besL ls gs cs z0.1 else nbE cs (allE ls gs) z0.1) = (if z0.1 ∈ (gridP (gs.length + 1) (ls.sum.toNat + 1)).take i then besL ls gs cs z0.1 else nbE cs (allE ls gs) z0.1) := by
                by_cases c2 : z0.1 ∈ (gridP (gs.length + 1) (ls.sum.toNat + 1)).take i
                · rw [if_pos c2, if_pos ((tk _).mpr (.inl c2))]
                · rw [if_neg c2, if_neg fun z => ((tk _).mp z).elim c2 c]
              show Brs H5 us2 (if z0.1 ∈ _ then _ else _)
              rw [eif]
              exact w2.same k5
    · rintro σ H' ⟨v8, M, rfl, k, tu, gm, hd, hM, hct⟩
      refine ⟨_, rfl, q H' d k nd0 ⟨M, hd, hM, fun x hx => ?_⟩⟩
      obtain ⟨us, z1, z2⟩ := hct x hx
      refine ⟨us, z1, ?_⟩
      rw [List.length_map, hkl, hLl, List.take_length] at z2
      have hm : x.1 ∈ gridP (gs.length + 1) (ls.sum.toNat + 1) := by
        rw [← hM]
        exact List.mem_map_of_mem (f := (·.1)) hx
      dsimp only at z2
      rw [if_pos hm] at z2
      exact z2
end

/-! ### walks in a house -/
section
open GxR NdefX PySem.Spec PyProof.Rows
variable {P : Program} {w : World} {K : PySem.W.Frag} {mg : Str → Option Value} {base : Heap}
/-- None, or a number -/
def oV : Option Nat → V
  | none => .non
  | some k => .int k
theorem oV_inj {a b : Option Nat} : oV a = oV b → a = b := by
  cases a <;> cases b <;> intro h
  · rfl
  · cases h
  · cases h
  · have := V.int.inj h
    rw [show (_ : Nat) = _ from Int.ofNat.inj this]
theorem oV_scal (a b : Option Nat) : scal (oV a) (oV b) = true := by
  cases a <;> cases b <;> rfl
abbrev wAt (ws : List Pl) (j : Nat) : Pl := ws.getD j (0, 0)
/-- the places at j and behind it are joined -/
def jn (ls gs : List Int) (cs : List (Str × Int × Int)) (ws : List Pl) (j : Nat) : Prop := lnkB ls gs cs (wAt ws j) (wAt ws (j + 1)) ≠ none
/-- what the fault of a list of places is -/
def FaultIs (ls gs : List Int) (cs : List (Str × Int × Int)) (ws : List Pl) : Option Nat → Prop
  | none => ws ≠ [] ∧ isPl ls gs (wAt ws 0) = true ∧ ∀ j, j + 1 < ws.length → jn ls gs cs ws j
  | some k => (k = 0 ∧ (ws = [] ∨ isPl ls gs (wAt ws 0) = false)) ∨ (1 ≤ k ∧ k < ws.length ∧ isPl ls gs (wAt ws 0) = true ∧ (∀ j, j + 1 < k → jn ls gs cs ws j) ∧ ¬ jn ls gs cs ws (k - 1))
theorem fault_uniq {ls gs : List Int} {cs : List (Str × Int × Int)} {ws : List Pl} {a b : Option Nat} (h : FaultIs ls gs cs ws a) (k : FaultIs ls gs cs ws b) : a = b := by
  have zero : ∀ {x : Nat}, FaultIs ls gs cs ws (some x) → x = 0 → (ws = [] ∨ isPl ls gs (wAt ws 0) = false) := fun {x} h e => by
    rcases h with ⟨_, z⟩ | ⟨z, _⟩
    · exact z
    · omega
  cases a with
  | none =>
    cases b with
    | none => rfl
    | some y =>
      obtain ⟨h1, h2, h3⟩ := h
      rcases k with ⟨_, z | z⟩ | ⟨z1, z2, z3, z4, z5⟩
      · exact absurd z h1
      · rw [h2] at z
        cases z
      · exact absurd (h3 (y - 1) (by omega)) z5
  | some x =>
    cases b with
    | none =>
      obtain ⟨h1, h2, h3⟩ := k
      rcases h with ⟨_, z | z⟩ | ⟨z1, z2, z3, z4, z5⟩
      · exact absurd z h1
      · rw [h2] at z
        cases z
      · exact absurd (h3 (x - 1) (by omega)) z5
    | some y =>
      refine congrArg some ?_
      rcases h with ⟨h0, hz⟩ | ⟨h1, h2, h3, h4, h5⟩ <;> rcases k with ⟨k0, kz⟩ | ⟨k1, k2, k3, k4, k5⟩
      · omega
      · rcases hz with z | z
        · rw [z] at k2
          exact absurd k2 (Nat.not_lt_zero _)
        · rw [k3] at z
          cases z
      · rcases kz with z | z
        · rw [z] at h2
          exact absurd h2 (Nat.not_lt_zero _)
        · rw [h3] at z
          cases z
      · rcases Nat.lt_trichotomy x y with lt | e | lt
        · exact absurd (k4 (x - 1) (by omega)) h5
        · exact e
        · exact absurd (h4 (y - 1) (by omega)) k5
def lnl (ls gs : List Int) (cs : List (Str × Int × Int)) (p q : Pl) : Int := match lnkB ls gs cs p q with
  | none => 0
  | some c => lenLk gs c.1 c.2.1
/-- the lengths of the first links of a walk -/
def lensW (ls gs : List Int) (cs : List (Str × Int × Int)) (ws : List Pl) (n : Nat) : List Int := (List.range n).map fun j => lnl ls gs cs (wAt ws j) (wAt ws (j + 1))
theorem lensW_succ (ls gs : List Int) (cs : List (Str × Int × Int)) (ws : List Pl) (n : Nat) : lensW ls gs cs ws (n + 1) = lensW ls gs cs ws n ++ [lnl ls gs cs (wAt ws n) (wAt ws (n + 1))] := by
  unfold lensW
  rw [List.range_succ, List.map_append]
  rfl
theorem wAt_of {ws : List Pl} {j : Nat} {p : Pl} (h : ws[j]? = some p) : wAt ws j = p := by
  unfold wAt
  rw [List.getD_eq_getElem?_getD, h]
  rfl
theorem prs_at {H : Hp} {xs : List V} {ws : List Pl} (h : Prs H xs ws) {j : Nat} (hj : j < ws.length) : ∃ t, xs[j]? = some (.ref t) ∧ H t = some (.tup [.int (wAt ws j).1, .int (wAt ws j).2]) := by
  have hx : j < xs.length := by rw [h.len]; exact hj
  obtain ⟨p, hp, t, e, ht⟩ := h.at (List.getElem?_eq_getElem hx)
  rw [wAt_of hp]
  exact ⟨t, by rw [List.getElem?_eq_getElem hx, e], ht⟩
theorem wAt_pr {H : Hp} {t : Addr} {p : Pl} (h : H t = some (.tup [.int p.1, .int p.2])) : Pr H (.ref t) p := ⟨t, rfl, h⟩
/-! walk_fault -/
def spFault (C : Addr) : Sp := fun vs H Q _ => ∃ (h l : Addr) (ls gs : List Int) (cs : List (Str × Int × Int)) (xs : List V) (ws : List Pl), vs = [.ref h, .ref l] ∧ HouseAt C H h ls gs cs ∧ H l = some (.lst xs) ∧ Prs H xs ws ∧ ws.length ≤ 1000 ∧
  ∀ (H' : Hp) (o : Option Nat), Same H H' → FaultIs ls gs cs ws o → Q (oV o) H'
theorem ok_fault {f fL fB C : Addr} {fd fdL fdB : FuncData} (F : Fun K "walk_fault" "walk_fault" s_walk_fault f fd) (T : HouseTxt K mg C) (hlen : mg "len" = none) (hrange : mg "range" = none) (GL : FnOk P w K mg base CX0 1 fL fdL ["self", "place"] (spPl C isPl)) (bL : Binds K fdL ["self", "place"] []) (mL : Meth K C "is_place" fL)
    (GB : FnOk P w K mg base CX0 2 fB fdB ["self", "one", "other"] (spBetween C)) (bB : Binds K fdB ["self", "one", "other"] []) (mB : Meth K C "link_between" fB) : FnOk P w K mg base CX0 3 f fd ["house", "walk"] (spFault C) := by
  refine F.ok sc_walk_fault (fun vs H Q E h => ?_) (fun cdv A outer s H vs Q E hr h => ?_)
  · obtain ⟨h, l, ls, gs, cs, xs, ws, rfl, _⟩ := h
    rfl
  · obtain ⟨h, l, ls, gs, cs, xs, ws, rfl, hH, hl, hx, hn, q⟩ := h
    obtain ⟨va, dx, r1, r2, r3, r4, h1, _⟩ := id hH
    have nd := sc_walk_fault.nd
    have hxl := hx.len
    refine ⟨_, (pss_cons (ps_if (PW.pt (pw_or (pt_not (pt_truth (pv 1) (by intro _; rfl))) (pw_or1 (pt_not (pt_val (pe_meth (pv 0) T.cl mL GL (by exact hr.mono (by decide)) bL .nil pass0 (pa_cons (pe_ix ix_list (pv 1) pe_int (fun _ _ => rfl)) pa_nil))))))) (pss_one (ps_ret pe_int)) pss_nil)
      (pss_cons (ps_for PassesOwn.never rfl (pi_range2 rfl hrange (pa_cons pe_int (pa_cons (pe_callB call_len (by rfl) hlen (by decide +kernel) (pa_cons (pv 1) pa_nil)) pa_nil))) (pg_name (i := 2) nd rfl (.inl rfl)) (pss_one (ps_if (pt_cmpR op_isN (pe_meth (pv 0) T.cl mB GB (by exact hr.mono (by decide)) bB .nil pass0 (pa_cons (pe_ix ix_list (pv 1) (pe_op op_sub (pv 2) pe_int) (fun _ _ => rfl)) (pa_cons (pe_ix ix_list (pv 1) (pv 2) (fun _ _ => rfl)) pa_nil))) pe_non (nomark _)) (pss_one (ps_ret (pv 2))) pss_nil)))
      (pss_one (ps_ret pe_non)))), ?_⟩
    refine ⟨_, rfl, _, .inl ⟨xs, SqL.of hl, rfl⟩, ?_⟩
    cases he : xs.isEmpty with
    | true =>
      refine iteT ?_
      have e : ws = [] := by
        have : xs = [] := by simpa using he
        rw [this] at hxl
        exact List.eq_nil_of_length_eq_zero hxl.symm
      exact q H (some 0) (Same.refl _) (.inl ⟨rfl, .inl e⟩)
    | false =>
      refine iteF ?_
      have e : ws ≠ [] := fun z => by
        rw [z] at hxl
        have : xs = [] := List.eq_nil_of_length_eq_zero hxl
        rw [this] at he
        cases he
      have lp : 0 < ws.length := List.length_pos_iff.mpr e
      obtain ⟨t0, ht0, hp0⟩ := prs_at hx lp
      refine ⟨_, rfl, h, dx, _, rfl, h1, hf_no _ _ _ _ _ (by decide +kernel) (by decide +kernel) (by decide +kernel) (by decide +kernel) (by decide +kernel), _, rfl, l, _, _, _, rfl, rfl, SqL.of hl, atI_nat (j := 0) ht0, h, .ref t0, ls, gs, cs, wAt ws 0, rfl, hH, wAt_pr hp0, _, rfl, ?_⟩
      cases hi : isPl ls gs (wAt ws 0) with
      | false =>
        refine iteT ?_
        exact q H (some 0) (Same.refl _) (.inl ⟨rfl, .inr hi⟩)
      | true =>
        refine iteF ?_
        refine ⟨_, rfl, _, _, rfl, .inl ⟨_, SqL.of hl, rfl⟩, 1, _, rfl, ⟨by decide, by decide, by omega, by omega⟩, ?_⟩
        rw [hxl]
        refine for_range (lo := 1) (n := ((ws.length : Int) - 1).toNat) (fun i σ H' => (∃ v2 : Option V, σ = [some (.ref h), some (.ref l), v2]) ∧ Same H H' ∧ ∀ j, j < i → jn ls gs cs ws j) ?_ ?_ ?_
        · exact ⟨⟨_, rfl⟩, Same.refl _, fun j z => absurd z (Nat.not_lt_zero _)⟩
        · rintro i σ H' hi' ⟨⟨v2, rfl⟩, k, hj⟩
          obtain ⟨t1, ht1, hp1⟩ := prs_at (hx.same k) (show i < ws.length by omega)
          obtain ⟨t2, ht2, hp2⟩ := prs_at (hx.same k) (show i + 1 < ws.length by omega)
          have hl' := k _ _ hl
          refine ⟨_, rfl, h, dx, _, rfl, k _ _ h1, hf_no _ _ _ _ _ (by decide +kernel) (by decide +kernel) (by decide +kernel) (by decide +kernel) (by decide +kernel), _, rfl, _, rfl, _, _, rfl, rfl, l, _, _, _, rfl, rfl, SqL.of hl', (by rw [show (1 : Int) + (i : Int) - 1 = ((i : Nat) : Int) by omega]; exact atI_nat ht1), _, rfl, _, rfl, l, _, _, _, rfl, rfl, SqL.of hl', (by rw [show (1 : Int) + (i : Int) = ((i + 1 : Nat) : Int) by omega]; exact atI_nat ht2), h, .ref t1, .ref t2, ls, gs, cs, wAt ws i, wAt ws (i + 1), rfl, hH.kp (kpS k), wAt_pr hp1, wAt_pr hp2, fun hno H2 k2 => ?_, fun c hc H2 t k2 ht => ?_⟩
          · refine ⟨rfl, _, rfl, ?_⟩
            refine iteT ?_
            refine ⟨_, rfl, ?_⟩
            rw [show (1 : Int) + (i : Int) = ((i + 1 : Nat) : Int) by omega]
            exact q H2 (some (i + 1)) (k.trans k2) (.inr ⟨by omega, by omega, hi, fun j z => hj j (by omega), fun z => z hno⟩)
          · refine ⟨rfl, _, rfl, ?_⟩
            refine iteF ?_
            refine ⟨⟨_, rfl⟩, k.trans k2, fun j z => ?_⟩
            by_cases ej : j = i
            · rw [ej]
              exact fun y => by rw [hc] at y; cases y
            · exact hj j (by omega)
        · rintro σ H' ⟨⟨v2, rfl⟩, k, hj⟩
          exact q H' none k ⟨e, hi, fun j z => hj j (by omega)⟩
structure WlkTxt (K : PySem.W.Frag) (mg : Str → Option Value) (CW fW : Addr) : Prop where
  g : mg "InvalidWalk" = some (.ref CW)
  o : OexC K CW
  n : PySem.W.findIn K (.ref CW) "number" = some none
  i : PySem.W.findIn K (.ref CW) "__init__" = some (some (.ref fW))
  y : PySem.W.typeIn K (.ref fW) = some (.type "function")
theorem ok_wlkinit {f C : Addr} {fd : FuncData} (F : Fun K "__init__" "InvalidWalk.__init__" s_InvalidWalk___init__ f fd) : FnOk P w K mg base CX0 1 f fd ["self", "number"] (spXI K C "number") := by
  refine F.ok sc_InvalidWalk___init__ (fun vs H Q E h => ?_) (fun cdv A outer s H vs Q E hr h => ?_)
  · obtain ⟨a, v, rfl, _⟩ := h
    rfl
  · obtain ⟨a, v, rfl, T, hno, ha, q⟩ := h
    exact ⟨_, pss_one (ps_ost (pv 0) (pv 1)), v, rfl, _, rfl, a, C, rfl, T, hno, .inl ⟨ha, q⟩⟩
theorem cut_dr (xs : List V) (m : Nat) : cutV xs (some (m : Int)) none = xs.drop m := by
  unfold cutV
  rw [HT.sIx_none, HT.sIx_nat]
  rcases Nat.le_total m xs.length with h | h
  · rw [Nat.min_eq_left h, List.take_of_length_le (by rw [List.length_drop]; omega)]
  · rw [Nat.min_eq_right h, Nat.sub_self, List.take_zero, List.drop_eq_nil_of_le h]
theorem go_zip {a b : Addr} {xs ys : List V} {H1 : Hp} {Qd : Hp → Prop} {B : V → Hp → (Hp → Prop) → Prop} (le : ys.length ≤ xs.length) (Pv : Nat → Hp → Prop) (h0 : Pv 0 H1) (hl : ∀ i H, Pv i H → SqL K H a xs ∧ SqL K H b ys)
    (hs : ∀ i x y T H, xs[i]? = some x → ys[i]? = some y → Pv i H → H T = none → B (.ref T) (upd H T (.tup [x, y])) (Pv (i + 1))) (hd : ∀ H, Pv ys.length H → Qd H) : Goes (Itz K a b) H1 Qd B := by
  refine ⟨fun i m H => i + m = ys.length ∧ Pv i H, ⟨ys.length, Nat.zero_add _, h0⟩, fun i m H z => ?_⟩
  obtain ⟨e, p⟩ := z
  obtain ⟨qx, qy⟩ := hl i H p
  cases m with
  | zero =>
    have e2 : i = ys.length := by omega
    rw [e2] at p
    exact .inl ⟨⟨xs, ys, qx, qy, .inr (Nat.le_of_eq e2.symm)⟩, hd H p⟩
  | succ m =>
    have lt : i < ys.length := by omega
    have lt2 : i < xs.length := by omega
    refine .inr ⟨⟨xs, ys, xs[i], ys[i], qx, qy, List.getElem?_eq_getElem lt2, List.getElem?_eq_getElem lt⟩, Pv (i + 1), fun H' p' => ⟨m, Nat.lt_succ_self m, by omega, p'⟩, fun x H' y => ?_⟩
    obtain ⟨T, x', y', rfl, hT, rfl, f1, f2⟩ := y
    exact hs i x' y' T H (f1 xs qx) (f2 ys qy) p hT
/-- links of a walk, in its order -/
def LksW (H : Hp) (ls gs : List Int) (cs : List (Str × Int × Int)) (ws : List Pl) : List V → Nat → Prop := fun ys n => ∃ ks : List (Str × Int × Int), Krs H ys (kOf ks) ∧ ks.length = n ∧ ∀ j c, ks[j]? = some c → lnkB ls gs cs (wAt ws j) (wAt ws (j + 1)) = some c
def spLinks (C CW : Addr) : Sp := fun vs H Q E => ∃ (h l : Addr) (ls gs : List Int) (cs : List (Str × Int × Int)) (xs : List V) (ws : List Pl), vs = [.ref h, .ref l] ∧ HouseAt C H h ls gs cs ∧ H l = some (.lst xs) ∧ Prs H xs ws ∧ ws.length ≤ 1000 ∧
  (FaultIs ls gs cs ws none → ∀ (H' : Hp) (r : Addr) (ys : List V), Same H H' → H' r = some (.lst ys) → LksW H' ls gs cs ws ys (ws.length - 1) → Q (.ref r) H') ∧
  (∀ k, FaultIs ls gs cs ws (some k) → ∀ (H' : Hp) (d : Addr), Same H H' → H' d = some (.xd [("number", .int k)]) → E (.ref CW) (some d) H')
theorem ok_links {f fF fB fI C CW : Addr} {fd fdF fdB fdI : FuncData} (F : Fun K "links_of_walk" "links_of_walk" s_links_of_walk f fd) (T : HouseTxt K mg C) (hzip : mg "zip" = none) (U : WlkTxt K mg CW fI) (GI : FnOk P w K mg base CX0 1 fI fdI ["self", "number"] (spXI K CW "number")) (bI : Binds K fdI ["self", "number"] [])
    (FFk : PySem.W.keepIn K (.ref fF) = true) (GF : FnOk P w K mg base CX0 3 fF fdF ["house", "walk"] (spFault C)) (bF : Binds K fdF ["house", "walk"] []) (gF : mg "walk_fault" = some (.ref fF))
    (GB : FnOk P w K mg base CX0 2 fB fdB ["self", "one", "other"] (spBetween C)) (bB : Binds K fdB ["self", "one", "other"] []) (mB : Meth K C "link_between" fB) : FnOk P w K mg base (L2.CX P w) 4 f fd ["house", "walk"] (spLinks C CW) := by
  refine F.okX sc_links_of_walk (fun vs H Q E h => ?_) (fun cdv A outer s H vs Q E hr h => ?_)
  · obtain ⟨h, l, ls, gs, cs, xs, ws, rfl, _⟩ := h
    rfl
  · obtain ⟨h, l, ls, gs, cs, xs, ws, rfl, hH, hl, hx, hn, q1, q2⟩ := h
    obtain ⟨va, dx, r1, r2, r3, r4, h1, _⟩ := id hH
    have nd := sc_links_of_walk.nd
    have hxl := hx.len
    have hline : 1000000 < sizeLine := by decide
    refine ⟨_, (pss_cons (ps_set (i := 2) nd rfl (.inl rfl) (pe_call GF (by exact hr.mono (by decide)) (by rfl) gF FFk bF .nil pass0 (pa_cons (pv 0) (pa_cons (pv 1) pa_nil))))
      (pss_cons (ps_if (pt_cmpR op_notN (pv 2) pe_non (nomark _)) (pss_one (ps_raise rfl (takes_of rfl rfl rfl rfl) (pmk_oex U.o U.i U.y GI (by exact hr.mono (by decide)) bI .nil pass0 (by rfl) U.g (pa_cons (pv 2) pa_nil)))) pss_nil)
      (pss_one (ps_ret (pe_lc (own := [("one", 3), ("other", 4)]) (g := gTup K 2 (gCons (gName 3) (gCons (gName 4) gNil))) (tt := tYes) rfl nd (pi_zip (by rfl) hzip (pa_cons (pv 1) (pa_cons (pe_slice sl_list (pv 1) (po_some pe_int) po_none) pa_nil))) (blkOk_by (N := ["house", "walk", "fault", "one", "other"]) (sc := defScope s_links_of_walk) (by decide +kernel)) (fun _ _ _ _ _ => (show PG _ _ (gTup K 2 (gCons (gName 3) (gCons (gName 4) gNil))) from pg_tup rfl (pgs_cons (pg_name (i := 3) nd rfl (Or.inl rfl)) (pgs_cons (pg_name (i := 4) nd rfl (Or.inl rfl)) pgs_nil)))) (fun _ _ _ _ _ => pts_nil) (fun _ _ _ _ _ => (pe_meth (pv 0) T.cl mB GB (by exact hr.mono (by decide)) bB .nil pass0 (pa_cons (pv 3) (pa_cons (pv 4) pa_nil))))))))), ?_⟩
    refine ⟨_, rfl, _, rfl, h, l, ls, gs, cs, xs, ws, rfl, hH, hl, hx, hn, fun H1 o k1 ho => ?_⟩
    cases o with
    | some k =>
      refine ⟨_, rfl, rfl, _, rfl, ?_⟩
      refine iteT ?_
      refine ⟨_, rfl, by show 1 ≤ 1000; decide, fun y ny => ⟨y, .int k, rfl, U.o, U.n, upd_same, fun dd hd hne => ⟨rfl, dd, [("number", .int k)], ?_⟩⟩⟩
      obtain ⟨g1, g2, g3, g4⟩ := raised (f := "number") (v := .int k) ny hd hne
      exact ⟨g1, g2, g3, q2 k ho _ dd (k1.trans g4) upd_same⟩
    | none =>
      refine ⟨_, rfl, rfl, _, rfl, ?_⟩
      refine iteF ?_
      obtain ⟨f1, f2, f3⟩ := id ho
      have hl1 := k1 _ _ hl
      refine ⟨_, rfl, _, rfl, _, rfl, l, _, rfl, SqL.of hl1, fun m nm => ?_⟩
      rw [show (1 : Int) = ((1 : Nat) : Int) from rfl, cut_dr]
      obtain ⟨H2, e2, k2, g2⟩ := made (o := .lst (xs.drop 1)) nm
      rw [e2]
      have k02 := k1.trans k2
      have hl2 := k2 _ _ hl1
      refine ⟨l, m, xs, xs.drop 1, rfl, SqL.of hl2, SqL.of g2, fun D hD => ?_⟩
      refine go_zip (xs := xs) (ys := xs.drop 1) (by rw [List.length_drop]; omega) (fun i H' => Same H2 H' ∧ ∃ ys, H' D = some (.lst ys) ∧ LksW H' ls gs cs ws ys i) ?_ ?_ ?_ ?_
      · exact ⟨same_upd hD, [], upd_same, [], .nil, rfl, fun j c z => by simp at z⟩
      · rintro i H' ⟨k, _⟩
        exact ⟨SqL.of (k _ _ hl2), SqL.of (k _ _ g2)⟩
      · rintro i x y T' H' hxi hyi ⟨k, ys, hd, ks, hks, hkl, hkj⟩ nT
        rw [List.getElem?_drop] at hyi
        have li := (List.getElem?_eq_some_iff.mp hyi).1
        have hx' := hx.same (k02.trans k)
        obtain ⟨p1, e1, pr1⟩ := hx'.at hxi
        obtain ⟨p2, e2', pr2⟩ := hx'.at hyi
        have w1 := wAt_of e1
        have w2 : wAt ws (i + 1) = p2 := wAt_of (by rw [Nat.add_comm]; exact e2')
        obtain ⟨H3, e3, k3, g3⟩ := made (o := .tup [x, y]) nT
        rw [e3]
        refine ⟨T', _, rfl, SqT.of g3, rfl, _, _, rfl, _, _, rfl, rfl, rfl, ?_⟩
        have k03 := (k02.trans k).trans k3
        refine ⟨_, rfl, h, dx, _, rfl, k03 _ _ h1, hf_no _ _ _ _ _ (by decide +kernel) (by decide +kernel) (by decide +kernel) (by decide +kernel) (by decide +kernel), _, rfl, _, rfl, h, x, y, ls, gs, cs, p1, p2, rfl, hH.kp (kpS k03), pr1.same k3, pr2.same k3, fun hno => ?_, fun c hc H4 t k4 ht => ?_⟩
        · exact absurd hno (by rw [← w1, ← w2]; exact f3 i (by omega))
        · have hd4 := k4 _ _ (k3 _ _ hd)
          have hyl := hks.len
          rw [kOf_len] at hyl
          refine ⟨ys, hd4, by omega, fun b o e => ?_, ys ++ [.ref t], upd_same, ks ++ [c], ?_, by rw [List.length_append, hkl]; rfl, fun j c' hj => ?_⟩
          · rw [upd_ne (ne_of_none e hD)]
            exact k4 _ _ (k3 _ _ (k _ _ e))
          · rw [kOf_snoc]
            exact ((hks.same (k3.trans k4)).snoc ⟨t, rfl, ht⟩).over hd4
          · by_cases lt : j < ks.length
            · rw [List.getElem?_append_left lt] at hj
              exact hkj j c' hj
            · have ej : j = i := by
                have z := (List.getElem?_eq_some_iff.mp hj).1
                rw [List.length_append] at z
                have z2 : j < ks.length + 1 := z
                omega
              subst ej
              rw [List.getElem?_append_right (by omega), hkl, Nat.sub_self] at hj
              cases hj
              rw [w1, w2]
              exact hc
      · rintro H' ⟨k, ys, hd, hk⟩
        rw [List.length_drop, hxl] at hk
        exact q1 ho H' D ys (k02.trans k) hd hk
def spWLen (C CW : Addr) : Sp := fun vs H Q E => ∃ (h l : Addr) (ls gs : List Int) (cs : List (Str × Int × Int)) (xs : List V) (ws : List Pl), vs = [.ref h, .ref l] ∧ HouseAt C H h ls gs cs ∧ H l = some (.lst xs) ∧ Prs H xs ws ∧ ws.length ≤ 1000 ∧
  (FaultIs ls gs cs ws none → ∀ H' : Hp, Same H H' → Q (.int (lensW ls gs cs ws (ws.length - 1)).sum) H') ∧
  (∀ k, FaultIs ls gs cs ws (some k) → ∀ (H' : Hp) (d : Addr), Same H H' → H' d = some (.xd [("number", .int k)]) → E (.ref CW) (some d) H')
theorem ok_wlen {f fK fE C CW CL : Addr} {fd fdK fdE : FuncData} (F : Fun K "walk_length" "walk_length" s_walk_length f fd) (T : HouseTxt K mg C) (hsum : mg "sum" = none)
    (FKk : PySem.W.keepIn K (.ref fK) = true) (GK : FnOk P w K mg base (L2.CX P w) 4 fK fdK ["house", "walk"] (spLinks C CW)) (bK : Binds K fdK ["house", "walk"] []) (gK : mg "links_of_walk" = some (.ref fK))
    (GE : FnOk P w K mg base (L2.CX P w) 2 fE fdE ["self", "link"] (spLenOf C CL)) (bE : Binds K fdE ["self", "link"] []) (mE : Meth K C "length_of" fE) : FnOk P w K mg base (L2.CX P w) 5 f fd ["house", "walk"] (spWLen C CW) := by
  refine F.okX sc_walk_length (fun vs H Q E h => ?_) (fun cdv A outer s H vs Q E hr h => ?_)
  · obtain ⟨h, l, ls, gs, cs, xs, ws, rfl, _⟩ := h
    rfl
  · obtain ⟨h, l, ls, gs, cs, xs, ws, rfl, hH, hl, hx, hn, q1, q2⟩ := h
    obtain ⟨va, dx, r1, r2, r3, r4, h1, _⟩ := id hH
    have nd := sc_walk_length.nd
    have hline : 1000000 < sizeLine := by decide
    refine ⟨_, (pss_one (ps_ret (pe_callB (cr_sum rfl) (by rfl) hsum (by decide +kernel) (pa_cons (pe_lc (own := [("link", 2)]) (g := gName 2) (tt := tYes) rfl nd (pi_list (pe_call GK (by exact hr.mono (by decide)) (by rfl) gK FKk bK .nil (passes_call (takes_of rfl rfl rfl rfl) fun _ _ _ _ h => h) (pa_cons (pv 0) (pa_cons (pv 1) pa_nil)))) (blkOk_by (N := ["house", "walk", "link"]) (sc := defScope s_walk_length) (by decide +kernel)) (fun _ _ _ _ _ => pg_name (i := 2) nd rfl (Or.inl rfl)) (fun _ _ _ _ _ => pts_nil) (fun _ _ _ _ _ => (pe_meth (pv 0) T.cl mE GE (by exact hr.mono (by decide)) bE .nil (passes_call takes0 fun _ _ _ _ h => h) (pa_cons (pv 2) pa_nil)))) pa_nil)))), ?_⟩
    refine ⟨_, rfl, _, rfl, h, l, ls, gs, cs, xs, ws, rfl, hH, hl, hx, hn, fun ho H1 r ys k1 gr hk => ?_, fun k hk H1 d k1 hd => q2 k hk H1 d k1 hd⟩
    obtain ⟨ks, hks, hkl, hkj⟩ := hk
    have hyl := hks.len
    rw [kOf_len] at hyl
    refine ⟨r, rfl, ⟨_, SqL.of gr⟩, fun D hD => ?_⟩
    refine lc_list (K := K) (a := r) (xs := ys) (fun i H' => Same H1 H' ∧ H' D = some (.lst ((lensW ls gs cs ws i).map V.int))) ?_ ?_ ?_ ?_
    · exact ⟨same_upd hD, upd_same⟩
    · rintro i H' _ ⟨k, _⟩
      exact SqL.of (k _ _ gr)
    · rintro i x H' hi ⟨k, hd⟩
      obtain ⟨kk, hkk, hkx⟩ := (hks.same k).at hi
      unfold kOf at hkk
      rw [List.getElem?_map] at hkk
      cases hc : ks[i]? with
      | none => rw [hc] at hkk; cases hkk
      | some c =>
        rw [hc] at hkk
        cases hkk
        have hb := hkj i c hc
        have hlk := lnkB_lk hb
        have li := (List.getElem?_eq_some_iff.mp hc).1
        have k0 := k1.trans k
        have es : lensW ls gs cs ws (i + 1) = lensW ls gs cs ws i ++ [lenLk gs c.1 c.2.1] := by
          rw [lensW_succ]
          unfold lnl
          rw [hb]
        have ll : (lensW ls gs cs ws i).length = i := by
          unfold lensW
          rw [List.length_map, List.length_range]
        refine ⟨rfl, _, rfl, h, dx, _, rfl, k0 _ _ h1, hf_no _ _ _ _ _ (by decide +kernel) (by decide +kernel) (by decide +kernel) (by decide +kernel) (by decide +kernel), _, rfl, h, x, ls, gs, cs, c.1, c.2.1, c.2.2, rfl, hH.kp (kpS k0), hkx, fun _ => ⟨_, hd, by rw [List.length_map]; omega, fun b o e => ?_, ?_⟩, fun z => by rw [hlk] at z; cases z⟩
        · rw [upd_ne (ne_of_none e hD)]
          exact k b o e
        · rw [upd_same, es, List.map_append]
          rfl
    · rintro H' ⟨k, hd⟩
      rw [hyl, hkl] at hd
      exact ⟨D, _, rfl, SqL.of hd, q1 ho H' (k1.trans k)⟩
end

/-! ### the law's houses, walks, faults -/
section
open GxR NdefX PySem.Spec PyProof.Rows
variable {P : Program} {w : World} {K : PySem.W.Frag} {mg : Str → Option Value} {base : Heap}
/-- what the law needs of the class of houses -/
structure HouseM (P : Program) (w : World) (K : PySem.W.Frag) (mg : Str → Option Value) (base : Heap) where
  C : Addr
  CI : Addr
  TL : Addr
  TI : Addr
  fI : Addr
  fdI : FuncData
  M : Mk K C fI
  GI : FnOk P w K mg base (L2.CX P w) 5 fI fdI ["self", "lengths", "gaps", "closed"] (spHouse K C CI TL TI)
  bI : Binds K fdI ["self", "lengths", "gaps", "closed"] []
  mgC : mg "House" = some (.ref C)
  cl : Cls K C
def spMkH (C TL TI : Addr) : Sp := fun vs H Q _ => ∃ (p : Addr) (ls gs : List Int) (cs : List (Str × Int × Int)), vs = [.ref p] ∧ PartsAt H p ls gs cs ∧ Valid ls gs cs ∧ TabG H TL ∧ TabG H TI ∧ ∀ (H' : Hp) (h : Addr), Kp H H' → HouseAt C H' h ls gs cs → Q (.ref h) H'
theorem ok_mkh {f : Addr} {fd : FuncData} (F : Fun K "_law_house" "_law_house" s__law_house f fd) (Z : HouseM P w K mg base) (hlist : mg "list" = none) : FnOk P w K mg base CX0 7 f fd ["parts"] (spMkH Z.C Z.TL Z.TI) := by
  refine F.ok sc__law_house (fun vs H Q E h => ?_) (fun cdv A outer s H vs Q E hr h => ?_)
  · obtain ⟨p, ls, gs, cs, rfl, _⟩ := h
    rfl
  · obtain ⟨p, ls, gs, cs, rfl, ⟨l, g, c, ks, hp, hl, hg, hc, hk⟩, va, tL, tI, q⟩ := h
    have nd := sc__law_house.nd
    obtain ⟨⟨⟨hl1, hl2⟩, _⟩, ⟨hg11, _⟩, hcs, hnd, hlk⟩ := id va
    refine ⟨_, (pss_one (ps_ret (pe_make Z.M Z.GI (by exact hr.mono (by decide)) (by rfl) Z.mgC Z.bI .nil (passes_call takes0 fun _ _ _ _ h => h) (pa_cons (pe_callTy call_list_of (by rfl) hlist (by decide +kernel) (pa_cons (pe_ix ix_tup (pv 0) pe_int (fun _ _ => rfl)) pa_nil)) (pa_cons (pe_callTy call_list_of (by rfl) hlist (by decide +kernel) (pa_cons (pe_ix ix_tup (pv 0) pe_int (fun _ _ => rfl)) pa_nil)) (pa_cons (pe_callTy call_list_of (by rfl) hlist (by decide +kernel) (pa_cons (pe_ix ix_tup (pv 0) pe_int (fun _ _ => rfl)) pa_nil)) pa_nil)))))), ?_⟩
    refine ⟨_, rfl, p, _, _, _, rfl, rfl, SqT.of hp, rfl, l, _, rfl, .inl (SqL.of hl), fun l1 n1 => ?_⟩
    obtain ⟨H1, e1, k1, g1⟩ := made (o := .lst (ls.map V.int)) n1
    rw [e1]
    refine ⟨_, rfl, p, _, _, _, rfl, rfl, SqT.of (k1 _ _ hp), rfl, g, _, rfl, .inl (SqL.of (k1 _ _ hg)), fun l2 n2 => ?_⟩
    obtain ⟨H2, e2, k2, g2⟩ := made (o := .lst (gs.map V.int)) n2
    rw [e2]
    have k02 := k1.trans k2
    refine ⟨_, rfl, p, _, _, _, rfl, rfl, SqT.of (k02 _ _ hp), rfl, c, _, rfl, .inl (SqL.of (k02 _ _ hc)), fun l3 n3 => ?_⟩
    obtain ⟨H3, e3, k3, g3⟩ := made (o := .lst ks) n3
    rw [e3]
    have k03 := k02.trans k3
    intro x dx nx ndx ne
    have kM : Same H3 (upd (upd H3 dx (.own x)) x (.ins Z.C dx [])) := fun b z e => by
      rw [upd_ne (ne_of_none e nx), upd_ne (ne_of_none e ndx)]
      exact e
    refine ⟨x, dx, l1, l2, l3, ls, gs, ks, cs, rfl, upd_same, kM.seq (SqL.of (k3 _ _ (k2 _ _ g1))), kM.seq (SqL.of (k3 _ _ g2)), kM.seq (SqL.of g3), hk.same (k03.trans kM), by omega, by omega, by omega, (kpS (k03.trans kM)).tab _ tL, (kpS (k03.trans kM)).tab _ tI, fun _ H4 hH k0 _ => ⟨rfl, ?_⟩, fun nv => absurd va nv⟩
    exact q H4 x ((kpS k03).trans (mkKp nx ndx k0)) hH
/-! places by a dict -/
theorem fit_plK (ps : List Pl) : Fit (ps.map plK) := ⟨[false, false], by decide, fun k hk => by
  obtain ⟨c, _, rfl⟩ := List.mem_map.mp hk
  rfl⟩
theorem kvL_keys (L : List (Pl × Addr)) : (kvL L).map (·.1) = (L.map (·.1)).map plK := by
  unfold kvL
  rw [List.map_map, List.map_map]
  rfl
theorem sort_plK {ps : List Pl} (h : ps.Pairwise fun p q => lsP p q = true) : sortK (ps.map plK) = ps.map plK := by
  refine List.mergeSort_of_pairwise (List.pairwise_map.mpr (h.imp fun {a b} z => ?_))
  show (!PySem.W.dataLt (dP b) (dP a)) = true
  rw [lt_dP]
  have : lsP b a = false := by
    rw [Bool.eq_false_iff]
    intro y
    rw [ls_iff] at z y
    omega
  rw [this]
  rfl
theorem krs_prs {H : Hp} : ∀ {vs : List V} {ps : List Pl}, Krs H vs (ps.map plK) → Prs H vs ps
  | [], [], _ => .nil
  | v :: vs, p :: ps, h => by
    cases h with
    | cons a r => exact .cons a (krs_prs r)
  | [], _ :: _, h => nomatch h
  | _ :: _, [], h => nomatch h
theorem bes_pl {ls gs : List Int} {cs : List (Str × Int × Int)} (hL : Lens ls) {p : Pl} {r : Pl × Int} (h : r ∈ besL ls gs cs p) : isPl ls gs r.1 = true := by
  obtain ⟨c, hc, _⟩ := mem_besL.mp h
  have hl := lnkB_lk hc
  obtain ⟨h1, _⟩ := lnkB_iff.mp hc
  obtain ⟨_, h2⟩ := join_inv h1
  have e := ends_pl hL hl
  rcases h2 with ⟨_, z⟩ | ⟨z, _⟩ <;> rw [z]
  · exact e.2
  · exact e.1
theorem lnk_pl {ls gs : List Int} {cs : List (Str × Int × Int)} (hL : Lens ls) {p q : Pl} (h : lnkB ls gs cs p q ≠ none) : isPl ls gs p = true ∧ isPl ls gs q = true := by
  cases hc : lnkB ls gs cs p q with
  | none => exact absurd hc h
  | some c =>
    have hl := lnkB_lk hc
    obtain ⟨h1, _⟩ := lnkB_iff.mp hc
    obtain ⟨_, h2⟩ := join_inv h1
    have e := ends_pl hL hl
    rcases h2 with ⟨z1, z2⟩ | ⟨z1, z2⟩ <;> rw [z1, z2]
    · exact e
    · exact ⟨e.2, e.1⟩
theorem filt_bes {ls gs : List Int} {cs : List (Str × Int × Int)} (p q : Pl) : (besL ls gs cs p).filter (fun r => decide (r.1 = q)) = match lnkB ls gs cs p q with
    | none => []
    | some c => [(q, lenLk gs c.1 c.2.1)] := by
  have uniq : ∀ {rs : List (Pl × Int)}, rs.Pairwise (fun a b => lsP a.1 b.1 = true) → ∀ r ∈ rs, r.1 = q → rs.filter (fun r => decide (r.1 = q)) = [r] := fun {rs} h => by
    induction rs with
    | nil => intro r hr; cases hr
    | cons a rs ih =>
      intro r hr e
      have ha := fun {z} (m : z ∈ rs) => List.rel_of_pairwise_cons h m
      rcases List.mem_cons.mp hr with rfl | hr
      · have no : rs.filter (fun r => decide (r.1 = q)) = [] := by
          rw [List.filter_eq_nil_iff]
          intro z hz y
          have y := of_decide_eq_true y
          have := ha hz
          rw [e, y, ls_irrefl] at this
          cases this
        rw [List.filter_cons_of_pos (by rw [e]; exact decide_eq_true rfl), no]
      · have ne : ¬ a.1 = q := fun y => by
          have := ha hr
          rw [y, e, ls_irrefl] at this
          cases this
        rw [List.filter_cons_of_neg (by simpa using ne)]
        exact ih h.of_cons r hr e
  cases hc : lnkB ls gs cs p q with
  | none =>
    rw [List.filter_eq_nil_iff]
    intro z hz y
    have y := of_decide_eq_true y
    obtain ⟨c, h1, _⟩ := mem_besL.mp hz
    rw [y, hc] at h1
    cases h1
  | some c => exact uniq (besL_pw ls gs cs p) (q, lenLk gs c.1 c.2.1) (mem_besL.mpr ⟨c, hc, rfl⟩) rfl
/-- the list of a place -/
theorem bes_at {H : Hp} {d : Addr} {ls gs : List Int} {cs : List (Str × Int × Int)} (h0 : 0 ≤ ls.sum) (h : BesAt H d ls gs cs) {t : Addr} {p : Pl} (ht : H t = some (.tup [.int p.1, .int p.2])) (hp : isPl ls gs p = true) : ∃ (a : Addr) (vs : List V), DGet H d (.ref t) (some (.ref a)) ∧ H a = some (.lst vs) ∧ Brs H vs (besL ls gs cs p) := by
  obtain ⟨L, hd, hg, hc⟩ := h
  have m : p ∈ L.map (·.1) := by
    rw [hg]
    exact of_decide_eq_true ((grid_isPl h0 p).trans hp)
  obtain ⟨x, hx, e⟩ := List.mem_map.mp m
  obtain ⟨vs, h1, h2⟩ := hc x hx
  have n1 : (L.map (·.1)).Nodup := by
    rw [hg]
    exact grid_nd _ _
  have e : x.1 = p := e
  rw [e] at h2
  refine ⟨x.2, vs, ?_, h1, h2⟩
  rw [← val_in n1 hx, e]
  exact DGet.t hd ht
theorem bes_has {H : Hp} {d : Addr} {ls gs : List Int} {cs : List (Str × Int × Int)} (h0 : 0 ≤ ls.sum) (h : BesAt H d ls gs cs) {t : Addr} {p : Pl} (ht : H t = some (.tup [.int p.1, .int p.2])) : ∃ o, DGet H d (.ref t) o ∧ o.isSome = isPl ls gs p := by
  cases hp : isPl ls gs p with
  | true =>
    obtain ⟨a, vs, h1, _⟩ := bes_at h0 h ht hp
    exact ⟨_, h1, rfl⟩
  | false =>
    obtain ⟨L, hd, hg, hc⟩ := h
    have m : p ∉ L.map (·.1) := by
      rw [hg]
      intro z
      rw [← grid_isPl h0 p, decide_eq_true z] at hp
      cases hp
    refine ⟨valV (kvL L) (plK p), DGet.t hd ht, ?_⟩
    rw [val_out m]
    rfl
def spDrawn : Sp := fun vs H Q _ => ∃ (d n : Addr) (ls gs : List Int) (cs : List (Str × Int × Int)) (ns : List Int) (a m : Nat), vs = [.ref d, .ref n, .int (a : Int), .int (m : Int)] ∧ BesAt H d ls gs cs ∧ Valid ls gs cs ∧ H n = some (.lst (ns.map V.int)) ∧ Small ns ∧ a + 1 + m ≤ ns.length ∧ m ≤ 100 ∧
  ∀ (H' : Hp) (r : Addr) (xs : List V) (ws : List Pl), Same H H' → H r = none → H' r = some (.lst xs) → Prs H' xs ws → 1 ≤ ws.length → ws.length ≤ m + 1 → (∀ p ∈ ws, isPl ls gs p = true) → Q (.ref r) H'
theorem ok_drawn {f : Addr} {fd : FuncData} (F : Fun K "_law_drawn_walk" "_law_drawn_walk" s__law_drawn_walk f fd) (hsorted : mg "sorted" = none) (hint : mg "int" = none) (hlen : mg "len" = none) (hrange : mg "range" = none) : FnOk P w K mg base CX0 1 f fd ["beside", "numbers", "at", "many"] spDrawn := by
  refine F.ok sc__law_drawn_walk (fun vs H Q E h => ?_) (fun cdv A outer s H vs Q E hr h => ?_)
  · obtain ⟨d, n, ls, gs, cs, ns, a, m, rfl, _⟩ := h
    rfl
  · obtain ⟨d, n, ls, gs, cs, ns, a, m, rfl, hB, va, hn, hs, ham, hm, q⟩ := h
    have nd := sc__law_drawn_walk.nd
    have hL := va.lens
    have top0 := hL.pos2
    have hline : 1000000 < sizeLine := by decide
    have at_ : ∀ {i : Int}, 0 ≤ i → i < ns.length → atI (ns.map V.int) i = some (V.int (nth ns i)) := fun h0 h1 => atI_nth h0 h1
    obtain ⟨L, hd, hg, hc⟩ := id hB
    refine ⟨_, (pss_cons (ps_set (i := 4) nd rfl (.inl rfl) (pe_callB (call_sortDT rfl (by exact hr.units)) (by rfl) hsorted (by decide +kernel) (pa_cons (pv 0) pa_nil)))
      (pss_cons (ps_set (i := 5) nd rfl (.inl rfl) (pe_lst (pa_cons (pe_ix ix_list (pv 4) (pe_op op_mod (pe_callTy call_int1 (by rfl) hint (by decide +kernel) (pa_cons (pe_ix ix_list (pv 1) (pv 2) (fun _ _ => rfl)) pa_nil)) (pe_callB call_len (by rfl) hlen (by decide +kernel) (pa_cons (pv 4) pa_nil))) (fun _ _ => rfl)) pa_nil)))
      (pss_cons (ps_for PassesOwn.never rfl (pi_range1 rfl hrange (pa_cons (pv 3) pa_nil)) (pg_name (i := 6) nd rfl (.inl rfl)) (pss_cons (ps_set (i := 7) nd rfl (.inl rfl) (pe_dget (by exact Pk.Room.units1 hr) (pv 0) (pe_ix ix_list (pv 5) (pe_un un_neg pe_int) (fun _ _ => rfl)) (fun _ _ => rfl)))
      (pss_one (ps_if (pt_cmpR op_gt (pe_callB call_len (by rfl) hlen (by decide +kernel) (pa_cons (pv 7) pa_nil)) pe_int (nomark _)) (pss_one (ps_expr (pe_bm PySem.F.plainAttrs_list PySem.F.slot_list_append PySem.F.type_list_append mt_append (pv 5) (pa_cons (pe_ix ix_tup (pe_ix ix_list (pv 7) (pe_op op_mod (pe_callTy call_int1 (by rfl) hint (by decide +kernel) (pa_cons (pe_ix ix_list (pv 1) (pe_op op_add (pe_op op_add (pv 2) pe_int) (pv 6)) (fun _ _ => rfl)) pa_nil)) (pe_callB call_len (by rfl) hlen (by decide +kernel) (pa_cons (pv 7) pa_nil))) (fun _ _ => rfl)) pe_int (fun _ _ => rfl)) pa_nil)))) pss_nil))))
      (pss_one (ps_ret (pv 5)))))), ?_⟩
    refine ⟨_, rfl, d, _, rfl, .inl hd, (by rw [kvL_keys]; exact fit_plK _), fun pl ys npl hys => ?_⟩
    obtain ⟨H1, e1, k1, g1⟩ := made (o := .lst ys) npl
    rw [e1]
    rw [kvL_keys, hg, sort_plK (grid_pw _ _)] at hys
    have hps := krs_prs (hys.same k1)
    have hyl := hps.len
    have glen : 1 ≤ (gridP (gs.length + 1) (ls.sum.toNat + 1)).length := by
      rw [grid_len]
      have : 1 * 1 ≤ (gs.length + 1) * (ls.sum.toNat + 1) := Nat.mul_le_mul (by omega) (by omega)
      omega
    have j0 := Int.emod_nonneg (nth ns a) (show (ys.length : Int) ≠ 0 by omega)
    have j1 := Int.emod_lt_of_pos (nth ns a) (show (0 : Int) < (ys.length : Int) by omega)
    obtain ⟨j, hj⟩ : ∃ j : Nat, nth ns a % (ys.length : Int) = (j : Int) := ⟨_, (Int.toNat_of_nonneg j0).symm⟩
    have hjy : j < ys.length := by omega
    obtain ⟨p0, hp0, pr0⟩ := hps.at (List.getElem?_eq_getElem hjy)
    refine ⟨_, rfl, _, rfl, _, rfl, n, _, _, _, rfl, rfl, SqL.of (k1 _ _ hn), at_ (by omega) (by omega), .inl ⟨_, rfl, _, rfl, _, _, rfl, .inl ⟨_, SqL.of g1, rfl⟩, _, _, rfl, rfl, (by show (0 : Int) < _; omega), pl, _, _, _, rfl, rfl, SqL.of g1, (by rw [hj]; exact atI_nat (List.getElem?_eq_getElem hjy)), (by show 1 ≤ sizeLine; decide), fun r nr => ?_⟩⟩
    obtain ⟨H2, e2, k2, g2⟩ := made (o := .lst [ys[j]]) nr
    rw [e2]
    have k02 := k1.trans k2
    have pl0 : isPl ls gs p0 = true := by
      rw [← grid_isPl top0]
      exact decide_eq_true (List.mem_of_getElem? hp0)
    refine ⟨_, rfl, _, rfl, by omega, by omega, ?_⟩
    rw [show ((m : Int)).toNat = m by omega]
    refine for_range (lo := 0) (n := m) (fun i σ H' => ∃ (v6 v7 : Option V) (xs : List V) (x : V) (ws : List Pl) (p : Pl), σ = [some (.ref d), some (.ref n), some (.int (a : Int)), some (.int (m : Int)), some (.ref pl), some (.ref r), v6, v7] ∧ Same H H' ∧ H' r = some (.lst (xs ++ [x])) ∧ Prs H' xs ws ∧ Pr H' x p ∧ ws.length ≤ i ∧ ∀ z ∈ ws ++ [p], isPl ls gs z = true) ?_ ?_ ?_
    · exact ⟨none, none, [], ys[j], [], p0, rfl, k02, g2, .nil, pr0.same k2, Nat.le_refl _, fun z hz => by rw [List.mem_singleton.mp hz]; exact pl0⟩
    · rintro i σ H' hi ⟨v6, v7, xs, x, ws, p, rfl, k, hr', hx, ⟨t, rfl, ht⟩, hwl, hpl⟩
      have hp := hpl p (by simp)
      obtain ⟨al, us, hget, hal, hbr⟩ := bes_at top0 (hB.same k) ht hp
      have hxl := hx.len
      have hul := hbr.len
      refine ⟨_, rfl, _, rfl, _, rfl, r, _, -1, _, rfl, rfl, SqL.of hr', atI_last _ _, d, _, rfl, hget, ?_⟩
      refine ⟨_, rfl, _, _, rfl, .inl ⟨_, SqL.of hal, rfl⟩, _, _, rfl, rfl, _, rfl, ?_⟩
      refine ite2 (fun hc2 => ?_) (fun hc2 => ?_)
      · have up : 0 < us.length := by
          have := of_decide_eq_true hc2
          omega
        have i0 := Int.emod_nonneg (nth ns ((a : Int) + 1 + (0 + (i : Int)))) (show (us.length : Int) ≠ 0 by omega)
        have i1 := Int.emod_lt_of_pos (nth ns ((a : Int) + 1 + (0 + (i : Int)))) (show (0 : Int) < (us.length : Int) by omega)
        obtain ⟨j2, hj2⟩ : ∃ j : Nat, nth ns ((a : Int) + 1 + (0 + (i : Int))) % (us.length : Int) = (j : Int) := ⟨_, (Int.toNat_of_nonneg i0).symm⟩
        have hju : j2 < us.length := by omega
        have getb : ∀ {vs : List V} {rs : List (Pl × Int)}, Brs H' vs rs → ∀ {j : Nat} {v : V}, vs[j]? = some v → ∃ r ∈ rs, Br H' v r := fun h => by
          induction h with
          | nil => intro j v e; cases e
          | cons a _ ih =>
            intro j v e
            cases j with
            | zero => cases e; exact ⟨_, List.mem_cons_self, a⟩
            | succ j =>
              obtain ⟨r, hr, hb⟩ := ih e
              exact ⟨r, List.mem_cons_of_mem _ hr, hb⟩
        obtain ⟨rr, hrr, tb, ub, eb, htb, hub⟩ := getb hbr (List.getElem?_eq_getElem hju)
        refine ⟨_, rfl, .inl ⟨rfl, _, SqL.of hr'⟩, _, rfl, _, rfl, _, rfl, _, _, rfl, rfl, _, rfl, _, _, rfl, rfl, n, _, _, _, rfl, rfl, SqL.of (k _ _ hn), at_ (by omega) (by omega), .inl ⟨_, rfl, _, rfl, _, _, rfl, .inl ⟨_, SqL.of hal, rfl⟩, _, _, rfl, rfl, (by show (0 : Int) < _; omega), al, _, _, _, rfl, rfl, SqL.of hal, (by rw [hj2]; exact atI_nat (List.getElem?_eq_getElem hju)), ?_⟩⟩
        rw [eb]
        refine ⟨tb, _, _, ub, rfl, rfl, SqT.of htb, rfl, r, _, _, rfl, rfl, hr', by rw [List.length_append]; show xs.length + 1 < sizeLine; omega, ?_⟩
        refine ⟨_, _, xs ++ [.ref t], ub, ws ++ [p], rr.1, rfl, Same.over k (k1.free nr), upd_same, (hx.snoc ⟨t, rfl, ht⟩).over hr', hub.over hr', by rw [List.length_append]; show ws.length + 1 ≤ i + 1; omega, fun z hz => ?_⟩
        rcases List.mem_append.mp hz with z1 | z1
        · exact hpl z z1
        · rw [List.mem_singleton.mp z1]
          exact bes_pl hL hrr
      · exact ⟨_, _, xs, .ref t, ws, p, rfl, k, hr', hx, ⟨t, rfl, ht⟩, by omega, hpl⟩
    · rintro σ H' ⟨v6, v7, xs, x, ws, p, rfl, k, hr', hx, hp, hwl, hpl⟩
      exact ⟨_, rfl, q H' r (xs ++ [x]) (ws ++ [p]) k (k1.free nr) hr' (hx.snoc hp) (by rw [List.length_append]; show 1 ≤ ws.length + 1; omega) (by rw [List.length_append]; show ws.length + 1 ≤ m + 1; omega) hpl⟩
abbrev ND : List Str := ["beside", "walk", "total", "k", "lengths", "other", "length"]
/-- a fault, and the length where there is none -/
def resV (ls gs : List Int) (cs : List (Str × Int × Int)) (ws : List Pl) (o : Option Nat) : V := match o with
  | none => .int (lensW ls gs cs ws (ws.length - 1)).sum
  | some _ => .non
def spDue : Sp := fun vs H Q _ => ∃ (d l : Addr) (ls gs : List Int) (cs : List (Str × Int × Int)) (xs : List V) (ws : List Pl), vs = [.ref d, .ref l] ∧ BesAt H d ls gs cs ∧ Valid ls gs cs ∧ H l = some (.lst xs) ∧ Prs H xs ws ∧ ws.length ≤ 1000 ∧
  ∀ (H' : Hp) (t : Addr) (o : Option Nat), Same H H' → FaultIs ls gs cs ws o → H' t = some (.tup [oV o, resV ls gs cs ws o]) → Q (.ref t) H'
theorem ok_due {f : Addr} {fd : FuncData} (F : Fun K "_law_due" "_law_due" s__law_due f fd) (hlen : mg "len" = none) (hrange : mg "range" = none) : FnOk P w K mg base CX0 1 f fd ["beside", "walk"] spDue := by
  refine F.ok sc__law_due (fun vs H Q E h => ?_) (fun cdv A outer s H vs Q E hr h => ?_)
  · obtain ⟨d, l, ls, gs, cs, xs, ws, rfl, _⟩ := h
    rfl
  · obtain ⟨d, l, ls, gs, cs, xs, ws, rfl, hB, va, hl, hx, hn, q⟩ := h
    have nd : ND.Nodup := sc__law_due.nd
    have hL := va.lens
    have top0 := hL.pos2
    have hxl := hx.len
    have hline : 1000000 < sizeLine := by decide
    refine ⟨_, (pss_cons (ps_set (i := 2) nd rfl (.inl rfl) pe_int)
      (pss_cons (ps_if (pt_cmpR op_eq (pe_callB call_len (by rfl) hlen (by decide +kernel) (pa_cons (pv 1) pa_nil)) pe_int (nomark _)) (pss_one (ps_ret (pe_tup (pa_cons pe_int (pa_cons pe_non pa_nil))))) pss_nil)
      (pss_cons (ps_for PassesOwn.never rfl (pi_range1 rfl hrange (pa_cons (pe_callB call_len (by rfl) hlen (by decide +kernel) (pa_cons (pv 1) pa_nil)) pa_nil)) (pg_name (i := 3) nd rfl (.inr rfl)) (pss_cons (ps_if (pt_cmp (pc_dnotin (by exact Pk.Room.units1 hr) (pe_ix ix_list (pv 1) (pv 3) (fun _ _ => rfl)) (pv 0))) (pss_one (ps_ret (pe_tup (pa_cons (pv 3) (pa_cons pe_non pa_nil))))) pss_nil)
      (pss_one (ps_if (pt_cmpR op_gt (pv 3) pe_int (nomark _)) (pss_cons (ps_setLc (i := 4) (own := [("other", 5), ("length", 6)]) (g := gTup K 2 (gCons (gName 5) (gCons (gName 6) gNil))) rfl nd rfl rfl rfl (pi_list (pe_dget (by exact Pk.Room.units1 hr) (pv 0) (pe_ix ix_list (pv 1) (pe_op op_sub (pv 3) pe_int) (fun _ _ => rfl)) (fun _ _ => rfl))) (blkOk_by (N := ND) (sc := defScope s__law_due) (by decide +kernel)) (fun _ _ _ _ _ => (show PG _ _ (gTup K 2 (gCons (gName 5) (gCons (gName 6) gNil))) from pg_tup rfl (pgs_cons (pg_name (i := 5) nd rfl (Or.inl rfl)) (pgs_cons (pg_name (i := 6) nd rfl (Or.inl rfl)) pgs_nil)))) (fun _ _ _ _ _ => pts_one (pt_cmpR (r := rEqD K) (op_eqD (by exact hr.units)) (pv 5) (pe_ix (r := rIxL K) ix_list (pv 1) (pv 3) (fun _ _ => rfl)) (nomark _))) (fun _ _ _ _ _ => (pv 6)))
      (pss_cons (ps_if (pt_cmpR op_eq (pe_callB call_len (by rfl) hlen (by decide +kernel) (pa_cons (pv 4) pa_nil)) pe_int (nomark _)) (pss_one (ps_ret (pe_tup (pa_cons (pv 3) (pa_cons pe_non pa_nil))))) pss_nil)
      (pss_one (ps_set (i := 2) nd rfl (.inl rfl) (pe_op op_add (pv 2) (pe_ix ix_list (pv 4) pe_int (fun _ _ => rfl))))))) pss_nil))))
      (pss_one (ps_ret (pe_tup (pa_cons pe_non (pa_cons (pv 2) pa_nil)))))))), ?_⟩
    refine ⟨_, rfl, _, _, rfl, .inl ⟨_, SqL.of hl, rfl⟩, rfl, _, rfl, ?_⟩
    by_cases he : ws = []
    · have e0 : xs.length = 0 := by rw [hxl, he]; rfl
      rw [e0]
      refine iteT ?_
      refine ⟨(by show 2 ≤ sizeLine; decide), fun t nt => ?_⟩
      obtain ⟨H1, e1, k1, g1⟩ := made (o := .tup [V.int 0, .non]) nt
      rw [e1]
      exact q H1 t (some 0) k1 (.inl ⟨rfl, .inl he⟩) g1
    have lp : 0 < ws.length := List.length_pos_iff.mpr he
    rw [show decide (V.int (xs.length : Int) = V.int 0) = false from decide_eq_false fun z => by have := V.int.inj z; omega]
    refine iteF ?_
    refine ⟨_, rfl, _, _, rfl, .inl ⟨_, SqL.of hl, rfl⟩, _, rfl, by omega, by omega, ?_⟩
    rw [hxl, show ((ws.length : Int)).toNat = ws.length by omega]
    refine for_range (lo := 0) (n := ws.length) (fun i σ H' => ∃ (v3 v4 v5 v6 : Option V), σ = [some (.ref d), some (.ref l), some (.int (lensW ls gs cs ws (i - 1)).sum), v3, v4, v5, v6] ∧ Same H H' ∧ (1 ≤ i → isPl ls gs (wAt ws 0) = true) ∧ ∀ j, j + 1 < i → jn ls gs cs ws j) ?_ ?_ ?_
    · exact ⟨none, none, none, none, rfl, Same.refl _, fun z => absurd z (by decide), fun j z => absurd z (Nat.not_lt_zero _)⟩
    · rintro i σ H' hi ⟨v3, v4, v5, v6, rfl, k, h0, hj⟩
      obtain ⟨t, ht, hp⟩ := prs_at (hx.same k) hi
      have hl' := k _ _ hl
      obtain ⟨o, hget, ho⟩ := bes_has top0 (hB.same k) hp
      have hat : atI xs (0 + (i : Int)) = some (.ref t) := by
        rw [Int.zero_add]
        exact atI_nat ht
      refine ⟨_, rfl, _, rfl, l, _, _, _, rfl, rfl, SqL.of hl', hat, _, rfl, d, o, rfl, hget, _, rfl, ?_⟩
      rw [ho]
      cases hpl : isPl ls gs (wAt ws i) with
      | false =>
        refine iteT ?_
        refine ⟨_, rfl, (by show 2 ≤ sizeLine; decide), fun t' nt => ?_⟩
        obtain ⟨H1, e1, k1, g1⟩ := made (o := .tup [V.int (0 + (i : Int)), .non]) nt
        rw [e1]
        rw [Int.zero_add] at g1
        refine q H1 t' (some i) (k.trans k1) ?_ g1
        by_cases ei : i = 0
        · subst ei
          exact .inl ⟨rfl, .inr hpl⟩
        · refine .inr ⟨by omega, hi, h0 (by omega), hj, fun z => ?_⟩
          have z2 := (lnk_pl hL z).2
          rw [show i - 1 + 1 = i by omega, hpl] at z2
          cases z2
      | true =>
        refine iteF ?_
        refine ⟨_, rfl, _, _, rfl, rfl, _, rfl, ?_⟩
        by_cases ei : i = 0
        · subst ei
          refine iteF ?_
          exact ⟨_, _, _, _, rfl, k, fun _ => hpl, fun j z => absurd z (by omega)⟩
        · rw [show decide ((0 : Int) + (i : Int) > 0) = true from decide_eq_true (by omega)]
          refine iteT ?_
          obtain ⟨t1, ht1, hp1⟩ := prs_at (hx.same k) (show i - 1 < ws.length by omega)
          have pl1 : isPl ls gs (wAt ws (i - 1)) = true := by
            by_cases e1 : i = 1
            · subst e1
              exact h0 (by omega)
            · have := (lnk_pl hL (hj (i - 2) (by omega))).2
              rw [show i - 2 + 1 = i - 1 by omega] at this
              exact this
          obtain ⟨al, us, hget1, hal, hbr⟩ := bes_at top0 (hB.same k) hp1 pl1
          have hat1 : atI xs (0 + (i : Int) - 1) = some (.ref t1) := by
            rw [show (0 : Int) + (i : Int) - 1 = ((i - 1 : Nat) : Int) by omega]
            exact atI_nat ht1
          refine ⟨_, rfl, _, rfl, _, rfl, _, _, rfl, rfl, l, _, _, _, rfl, rfl, SqL.of hl', hat1, d, _, rfl, hget1, al, rfl, ⟨_, SqL.of hal⟩, fun D hD => ?_⟩
          refine lc_list (K := K) (a := al) (xs := us) (fun j H2 => Same H' H2 ∧ H2 D = some (.lst (((((besL ls gs cs (wAt ws (i - 1))).take j).filter fun r => decide (r.1 = wAt ws i)).map (·.2)).map V.int))) ?_ ?_ ?_ ?_
          · exact ⟨same_upd hD, upd_same⟩
          · rintro j H2 _ ⟨k2, _⟩
            exact SqL.of (k2 _ _ hal)
          · rintro j u H2 hu ⟨k2, hd2⟩
            have getb : ∀ {vs : List V} {rs : List (Pl × Int)}, Brs H2 vs rs → ∀ {j : Nat} {v : V}, vs[j]? = some v → ∃ r, rs[j]? = some r ∧ Br H2 v r := fun h => by
              induction h with
              | nil => intro j v e; cases e
              | cons a _ ih =>
                intro j v e
                cases j with
                | zero => cases e; exact ⟨_, rfl, a⟩
                | succ j => exact ih e
            obtain ⟨rr, hrr, tb, ub, rfl, htb, hub⟩ := getb (hbr.same k2) hu
            have hat2 := hat
            have k02 := k.trans k2
            have tk : (besL ls gs cs (wAt ws (i - 1))).take (j + 1) = (besL ls gs cs (wAt ws (i - 1))).take j ++ [rr] := by
              rw [List.take_add_one, hrr]
              rfl
            have bl : (besL ls gs cs (wAt ws (i - 1))).length ≤ 4 := by
              unfold besL
              exact Nat.le_trans (List.length_filterMap_le _ _) (Nat.le_refl 4)
            refine ⟨tb, _, rfl, SqT.of htb, rfl, _, _, rfl, _, _, rfl, rfl, rfl, _, rfl, _, rfl, _, rfl, l, _, _, _, rfl, rfl, SqL.of (k2 _ _ hl'), hat2, dP rr.1, dP (wAt ws i), hub.dp, (wAt_pr (k2 _ _ hp)).dp, sh_dP _, sh_dP _, _, rfl, ?_⟩
            rw [eqv_dP]
            refine ite2 (fun hc => ?_) (fun hc => ?_)
            · have hc' := of_decide_eq_true hc
              refine ⟨_, rfl, _, hd2, ?_, fun b o' e => ?_, ?_⟩
              · rw [List.length_map, List.length_map]
                have z := List.length_filter_le (fun r : Pl × Int => decide (r.1 = wAt ws i)) ((besL ls gs cs (wAt ws (i - 1))).take j)
                rw [List.length_take] at z
                omega
              · rw [upd_ne (ne_of_none e hD)]
                exact k2 b o' e
              · rw [upd_same, tk, List.filter_append, show ([rr].filter fun r => decide (r.1 = wAt ws i)) = [rr] from List.filter_cons_of_pos (p := fun r : Pl × Int => decide (r.1 = wAt ws i)) (l := []) (decide_eq_true hc'), List.map_append, List.map_append]
                rfl
            · have hc' : ¬ rr.1 = wAt ws i := fun z => hc (decide_eq_true z)
              refine ⟨k2, ?_⟩
              rw [tk, List.filter_append, show ([rr].filter fun r => decide (r.1 = wAt ws i)) = [] from List.filter_cons_of_neg (p := fun r : Pl × Int => decide (r.1 = wAt ws i)) (l := []) (fun z => hc' (of_decide_eq_true z)), List.append_nil]
              exact hd2
          · rintro H2 ⟨k2, hd2⟩
            rw [hbr.len, List.take_length, filt_bes] at hd2
            have k02 := k.trans k2
            cases hc : lnkB ls gs cs (wAt ws (i - 1)) (wAt ws i) with
            | none =>
              rw [hc] at hd2
              refine ⟨_, rfl, _, _, rfl, .inl ⟨_, SqL.of hd2, rfl⟩, rfl, _, rfl, ?_⟩
              refine iteT ?_
              refine ⟨_, rfl, (by show 2 ≤ sizeLine; decide), fun t' nt => ?_⟩
              obtain ⟨H3, e3, k3, g3⟩ := made (o := .tup [V.int (0 + (i : Int)), .non]) nt
              rw [e3]
              rw [Int.zero_add] at g3
              exact q H3 t' (some i) (k02.trans k3) (.inr ⟨by omega, hi, h0 (by omega), hj, fun z => z (by rw [show i - 1 + 1 = i by omega]; exact hc)⟩) g3
            | some c =>
              rw [hc] at hd2
              refine ⟨_, rfl, _, _, rfl, .inl ⟨_, SqL.of hd2, rfl⟩, rfl, _, rfl, ?_⟩
              refine iteF ?_
              refine ⟨_, rfl, _, rfl, D, _, _, .int (lenLk gs c.1 c.2.1), rfl, rfl, SqL.of hd2, rfl, _, _, rfl, rfl, ?_⟩
              have es : lensW ls gs cs ws (i + 1 - 1) = lensW ls gs cs ws (i - 1) ++ [lenLk gs c.1 c.2.1] := by
                rw [show i + 1 - 1 = i - 1 + 1 by omega, lensW_succ]
                unfold lnl
                rw [show i - 1 + 1 = i by omega, hc]
              refine ⟨some (V.int (0 + (i : Int))), some (V.ref D), v5, v6, ?_, k02, fun _ => h0 (by omega), fun j z => ?_⟩
              · rw [es, List.sum_append, show [lenLk gs c.1 c.2.1].sum = lenLk gs c.1 c.2.1 from Int.add_zero _]
                rfl
              · by_cases ej : j + 1 = i
                · rw [show j = i - 1 by omega]
                  intro y
                  rw [show i - 1 + 1 = i by omega, hc] at y
                  cases y
                · exact hj j (by omega)
    · rintro σ H' ⟨v3, v4, v5, v6, rfl, k, h0, hj⟩
      refine ⟨_, rfl, (by show 2 ≤ sizeLine; decide), fun t nt => ?_⟩
      obtain ⟨H1, e1, k1, g1⟩ := made (o := .tup [V.non, .int (lensW ls gs cs ws (ws.length - 1)).sum]) nt
      rw [e1]
      exact q H1 t none (k.trans k1) ⟨he, h0 lp, hj⟩ g1
structure WLenM (P : Program) (w : World) (K : PySem.W.Frag) (mg : Str → Option Value) (base : Heap) (C : Addr) where
  CW : Addr
  CP : Addr
  gW : mg "InvalidWalk" = some (.ref CW)
  gP : mg "PickError" = some (.ref CP)
  eW : PySem.W.exmOne K (.ref CW) (.ref CW) = some true
  xW : XfC K CW
  nW : PySem.W.findIn K (.ref CW) "number" = some none
  f : Addr
  fd : FuncData
  G : FnOk P w K mg base (L2.CX P w) 5 f fd ["house", "walk"] (spWLen C CW)
  b : Binds K fd ["house", "walk"] []
  g : mg "walk_length" = some (.ref f)
  kp : PySem.W.keepIn K (.ref f) = true
/-- ('fault', number) or ('length', number) -/
def lenT (ls gs : List Int) (cs : List (Str × Int × Int)) (ws : List Pl) (o : Option Nat) : List V := match o with
  | none => [.str "length", .int (lensW ls gs cs ws (ws.length - 1)).sum]
  | some k => [.str "fault", .int k]
def spLLen (C : Addr) : Sp := fun vs H Q _ => ∃ (h l : Addr) (ls gs : List Int) (cs : List (Str × Int × Int)) (xs : List V) (ws : List Pl) (o : Option Nat), vs = [.ref h, .ref l] ∧ HouseAt C H h ls gs cs ∧ H l = some (.lst xs) ∧ Prs H xs ws ∧ ws.length ≤ 1000 ∧ FaultIs ls gs cs ws o ∧
  ∀ (H' : Hp) (t : Addr), Same H H' → H' t = some (.tup (lenT ls gs cs ws o)) → Q (.ref t) H'
theorem ok_llen {f C : Addr} {fd : FuncData} (F : Fun K "_law_length" "_law_length" s__law_length f fd) (Z : WLenM P w K mg base C) : FnOk P w K mg base CX0 6 f fd ["house", "walk"] (spLLen C) := by
  refine F.ok sc__law_length (fun vs H Q E h => ?_) (fun cdv A outer s H vs Q E hr h => ?_)
  · obtain ⟨h, l, ls, gs, cs, xs, ws, o, rfl, _⟩ := h
    rfl
  · obtain ⟨h, l, ls, gs, cs, xs, ws, o, rfl, hH, hl, hx, hn, ho, q⟩ := h
    have nd := sc__law_length.nd
    refine ⟨_, (pss_one (ps_try_next (l := [(.ref Z.CW, some 2, _), (.ref Z.CP, none, _)]) rfl rfl takes0 (fun W pn xe tk _ => (pss_one (ps_ret (pe_tup (pa_cons pe_str (pa_cons (pe_callS Z.G (by exact hr.mono (by decide)) (by rfl) Z.g Z.kp Z.b (fun τ => passAt tk τ) (pa_cons (pv 0) (pa_cons (pv 1) pa_nil))) pa_nil)))))) (Clauses.named nd rfl rfl ⟨rfl, by decide, .inl Z.gW⟩ (fun a oe cls d pn hz hf => (pss_one (ps_ret (pe_tup (pa_cons pe_str (pa_cons (pe_xf Z.xW Z.nW hz hf (pv 2)) pa_nil)))))) (Clauses.plain ⟨rfl, by decide, .inl Z.gP⟩ (fun a oe cls d pn _ _ => (pss_one (ps_ret (pe_tup (pa_cons pe_str (pa_cons pe_int pa_nil)))))) .nil)))), ?_⟩
    refine ⟨_, rfl, _, rfl, h, l, ls, gs, cs, xs, ws, rfl, hH, hl, hx, hn, fun hf H1 k1 => ⟨(by show 2 ≤ sizeLine; decide), fun t nt => ?_⟩, fun k hf H1 dd k1 hd => ?_⟩
    · have e := fault_uniq ho hf
      subst e
      obtain ⟨H2, e2, k2, g2⟩ := made (o := .tup [V.str "length", .int (lensW ls gs cs ws (ws.length - 1)).sum]) nt
      rw [e2]
      exact q H2 t (k1.trans k2) g2
    · have e := fault_uniq ho hf
      subst e
      refine ⟨true, Z.eW, fun _ y ny => ?_, fun z => nomatch z⟩
      refine ⟨_, rfl, rfl, rfl, dd, _, .int k, rfl, hd, rfl, (by show 2 ≤ sizeLine; decide), fun t nt => ?_⟩
      obtain ⟨H2, e2, k2, g2⟩ := made (o := .tup [V.str "fault", .int k]) nt
      rw [e2]
      exact q H2 t (k1.trans k2) g2
end

/-! ### the law -/
section
open GxR NdefX PySem.Spec PyProof.Rows
variable {P : Program} {w : World} {K : PySem.W.Frag} {mg : Str → Option Value} {base : Heap}
/-- what the law calls -/
structure WalkZ (P : Program) (w : World) (K : PySem.W.Frag) (mg : Str → Option Value) (base : Heap) where
  C : Addr
  TL : Addr
  TI : Addr
  Nu : TopD P w K mg base 2 "_law_numbers" ["script", "many"] (spNumbers K)
  Pa : TopD P w K mg base 2 "_law_parts" ["numbers", "at"] (spParts K)
  Ho : TopD P w K mg base 7 "_law_house" ["parts"] (spMkH C TL TI)
  Be : TopD P w K mg base 2 "_law_beside" ["parts"] (spBes K)
  Dr : TopD P w K mg base 1 "_law_drawn_walk" ["beside", "numbers", "at", "many"] spDrawn
  Al : TopD P w K mg base 1 "_law_all_links" ["lengths", "gaps"] (spAllE K)
  Du : TopD P w K mg base 1 "_law_due" ["beside", "walk"] spDue
  Le : TopD P w K mg base 6 "_law_length" ["house", "walk"] (spLLen C)
  Fa : TopD P w K mg base 3 "walk_fault" ["house", "walk"] (spFault C)
  int : mg "int" = none
  len : mg "len" = none
  sum : mg "sum" = none
  range : mg "range" = none
  sorted : mg "sorted" = none
  list : mg "list" = none
  isi : mg "isinstance" = none
  bool : mg "bool" = none
/-! lists that are built of lists -/
def IsP (H : Hp) (v : V) : Prop := ∃ p, Pr H v p
/-- a list of at most n, each as R says -/
def LsOf (R : Hp → V → Prop) (n : Nat) (H : Hp) (v : V) : Prop := ∃ (a : Addr) (xs : List V), v = .ref a ∧ H a = some (.lst xs) ∧ xs.length ≤ n ∧ ∀ x ∈ xs, R H x
def Stays (R : Hp → V → Prop) : Prop := ∀ H H' v, R H v → Same H H' → R H' v
theorem st_p : Stays IsP := fun H H' v ⟨p, h⟩ k => ⟨p, h.same k⟩
theorem st_ls {R : Hp → V → Prop} (s : Stays R) (n : Nat) : Stays (LsOf R n) := fun H H' v ⟨a, xs, e, h, hl, hx⟩ k => ⟨a, xs, e, k _ _ h, hl, fun x m => s _ _ _ (hx x m) k⟩
theorem LsOf.le {R : Hp → V → Prop} {n m : Nat} {H : Hp} {v : V} (h : LsOf R n H v) (e : n ≤ m) : LsOf R m H v := by
  obtain ⟨a, xs, e1, h1, hl, hx⟩ := h
  exact ⟨a, xs, e1, h1, Nat.le_trans hl e, hx⟩
theorem prs_mk {H : Hp} : ∀ {xs : List V}, (∀ x ∈ xs, IsP H x) → ∃ ws, Prs H xs ws
  | [], _ => ⟨[], .nil⟩
  | x :: xs, h => by
    obtain ⟨p, hp⟩ := h x List.mem_cons_self
    obtain ⟨ws, hw⟩ := prs_mk fun y m => h y (List.mem_cons_of_mem _ m)
    exact ⟨p :: ws, .cons hp hw⟩
theorem Prs.isp {H : Hp} {xs : List V} {ws : List Pl} (h : Prs H xs ws) : ∀ x ∈ xs, IsP H x := by
  induction h with
  | nil => exact fun _ z => nomatch z
  | cons a _ ih => exact fun x m => (List.mem_cons.mp m).elim (fun e => by rw [e]; exact ⟨_, a⟩) (ih x)
def Gv (te : TE) (σ : L2.St) (H0 : Hp) (R : Hp → V → Prop) : Prop := ∀ (H : Hp) (Q : VK), Same H0 H → (∀ H' v, Same H H' → R H' v → Q v H') → te σ H Q
def GvA (ta : TA) (σ : L2.St) (H0 : Hp) (R : Hp → V → Prop) (n : Nat) : Prop := ∀ (H : Hp) (Q : List V → Hp → Prop), Same H0 H → (∀ H' vs, Same H H' → vs.length = n → (∀ v ∈ vs, R H' v) → Q vs H') → ta σ H Q
def GvO (to : TO) (σ : L2.St) (H0 : Hp) : Prop := ∀ (H : Hp) (Q : Option Int → Hp → Prop), Same H0 H → (∀ H' o, Same H H' → Q o H') → to σ H Q
section
variable {te t1 t2 : TE} {ta : TA} {tl th : TO} {σ : L2.St} {H0 : Hp} {R : Hp → V → Prop} {n m : Nat}
theorem gv_use {H : Hp} {Q : VK} (g : Gv te σ H0 R) (k : Same H0 H) (q : ∀ H' v, Same H H' → R H' v → Q v H') : te σ H Q := g H Q k q
theorem gv_var {i : Nat} {v : V} (e : σ[i]? = some (some v)) (s : Stays R) (h : R H0 v) : Gv (tVar i) σ H0 R := fun H Q k q => ⟨v, e, q H v (Same.refl H) (s _ _ _ h k)⟩
theorem gv_le (g : Gv te σ H0 (LsOf R n)) (e : n ≤ m) : Gv te σ H0 (LsOf R m) := fun H Q k q => g H Q k fun H' v k' h => q H' v k' (h.le e)
theorem gv_cat (s : Stays R) (a : Gv t1 σ H0 (LsOf R n)) (b : Gv t2 σ H0 (LsOf R m)) (le : n + m ≤ 1000000) : Gv (tOp rCat t1 t2) σ H0 (LsOf R (n + m)) := fun H Q k q => by
  refine a H _ k fun H1 x k1 hx => b H1 _ (k.trans k1) fun H2 y k2 hy => ?_
  obtain ⟨a1, xs, rfl, h1, l1, m1⟩ := hx
  obtain ⟨a2, ys, rfl, h2, l2, m2⟩ := hy
  have hline : 1000000 < sizeLine := by decide
  refine ⟨a1, a2, xs, ys, rfl, rfl, k2 _ _ h1, h2, by omega, fun p np => q _ _ ((k1.trans k2).trans (same_upd np)) ⟨p, _, rfl, upd_same, by rw [List.length_append]; omega, fun x hx => ?_⟩⟩
  rcases List.mem_append.mp hx with z | z
  · exact s _ _ _ (m1 x z) (k2.trans (same_upd np))
  · exact s _ _ _ (m2 x z) (same_upd np)
theorem gv_sl (s : Stays R) (a : Gv te σ H0 (LsOf R n)) (lo : GvO tl σ H0) (hi : GvO th σ H0) : Gv (tSl (rSlL K) te tl th) σ H0 (LsOf R n) := fun H Q k q => by
  refine a H _ k fun H1 x k1 hx => lo H1 _ (k.trans k1) fun H2 l k2 => hi H2 _ ((k.trans k1).trans k2) fun H3 u k3 => ?_
  obtain ⟨a1, xs, rfl, h1, l1, m1⟩ := hx
  have k13 := k2.trans k3
  refine ⟨a1, xs, rfl, SqL.of (k13 _ _ h1), fun p np => q _ _ ((k1.trans k13).trans (same_upd np)) ⟨p, _, rfl, upd_same, ?_, fun x hx => ?_⟩⟩
  · unfold cutV
    rw [List.length_take, List.length_drop]
    omega
  · exact s _ _ _ (m1 x (List.mem_of_mem_drop (List.mem_of_mem_take hx))) (k13.trans (same_upd np))
theorem gv_rev (s : Stays R) (a : Gv te σ H0 (LsOf R n)) : Gv (tRevL K te) σ H0 (LsOf R n) := fun H Q k q => by
  refine a H _ k fun H1 x k1 hx => ?_
  obtain ⟨a1, xs, rfl, h1, l1, m1⟩ := hx
  exact ⟨a1, xs, rfl, SqL.of h1, fun p np => q _ _ (k1.trans (same_upd np)) ⟨p, _, rfl, upd_same, by rw [List.length_reverse]; exact l1, fun x hx => s _ _ _ (m1 x (List.mem_reverse.mp hx)) (same_upd np)⟩⟩
theorem gvo_none : GvO tNoPart σ H0 := fun H Q _ q => q H none (Same.refl H)
theorem gvo_i {i : Nat} {z : Int} (e : σ[i]? = some (some (.int z))) : GvO (tPart (tVar i)) σ H0 := fun H Q _ q => ⟨_, e, _, rfl, q H _ (Same.refl H)⟩
theorem gvo_c {z : Int} : GvO (tPart (tC (.int z))) σ H0 := fun H Q _ q => ⟨_, rfl, q H _ (Same.refl H)⟩
theorem gvo_a {i : Nat} {z y : Int} (e : σ[i]? = some (some (.int z))) : GvO (tPart (tOp (rI0 fun i j => .int (i + j)) (tVar i) (tC (.int y)))) σ H0 := fun H Q _ q => ⟨_, e, _, _, rfl, rfl, _, rfl, q H _ (Same.refl H)⟩
theorem gva_nil : GvA tNil σ H0 R 0 := fun H Q _ q => q H [] (Same.refl H) rfl fun _ z => nomatch z
theorem gva_cons (s : Stays R) (a : Gv te σ H0 R) (r : GvA ta σ H0 R n) : GvA (tCons te ta) σ H0 R (n + 1) := fun H Q k q => by
  refine a H _ k fun H1 x k1 hx => r H1 _ (k.trans k1) fun H2 vs k2 hl hv => q _ _ (k1.trans k2) (congrArg (· + 1) hl) fun v hv' => ?_
  rcases List.mem_cons.mp hv' with rfl | z
  · exact s _ _ _ hx k2
  · exact hv v z
theorem gv_lst (s : Stays R) (a : GvA ta σ H0 R n) (le : n ≤ 1000000) : Gv (tLst ta) σ H0 (LsOf R n) := fun H Q k q => by
  have hline : 1000000 < sizeLine := by decide
  refine a H _ k fun H1 vs k1 hl hv => ⟨by omega, fun p np => q _ _ (k1.trans (same_upd np)) ⟨p, vs, rfl, upd_same, by omega, fun x hx => s _ _ _ (hv x hx) (same_upd np)⟩⟩
/-- a place of a list by its constant number -/
theorem gv_ix {i : Nat} {z : Int} {a : Addr} {xs : List V} {x : V} (e : σ[i]? = some (some (.ref a))) (s : Stays R) (h0 : H0 a = some (.lst xs)) (hx : atI xs z = some x) (hr : R H0 x) : Gv (tOp (rIxL K) (tVar i) (tC (.int z))) σ H0 R := fun H Q k q =>
  ⟨_, e, a, xs, z, x, rfl, rfl, SqL.of (k _ _ h0), hx, q H x (Same.refl H) (s _ _ _ hr k)⟩
end
theorem at_mem {xs : List V} {z : Int} (h0 : 0 ≤ z) (h1 : z < xs.length) : ∃ x ∈ xs, atI xs z = some x := by
  obtain ⟨j, rfl⟩ : ∃ j : Nat, z = (j : Int) := ⟨z.toNat, by omega⟩
  have hj : j < xs.length := by omega
  exact ⟨xs[j], List.getElem_mem hj, atI_nat (List.getElem?_eq_getElem hj)⟩
def spLaw (K : PySem.W.Frag) (TL TI : Addr) : Sp := fun vs H Q _ => ∃ (a : Addr) (ns : List Int), vs = [.ref a] ∧ SqL K H a (ns.map V.int) ∧ ns.length ≤ 63 ∧ TabG H TL ∧ TabG H TI ∧ ∀ H', Q (.bl true) H'
abbrev NLaw : List Str := ["script", "numbers", "parts", "house", "beside", "places", "walk", "at", "drawn", "bad", "walks", "k", "one", "other", "links", "link", "length", "row", "fault", "handed", "told", "due"]
theorem eqv_lenT (a : Str) (b : Int) : PyData.eqv (.tuple [.str a, .int b]) (.tuple [.str a, .int b]) = true := by simp [PyData.eqv, PyData.eqvAll]
theorem sh_lenT {a : Str} (h : PyData.canLay0 (.str a) = true) (b : Int) : SeqAt.shaped (.tuple [.str a, .int b]) = true := by
  unfold SeqAt.shaped
  rw [show PyData.canLay0 (.tuple [.str a, .int b]) = (PyData.canLay0 (.str a) && (PyData.canLay0 (.int b) && true)) from rfl, h]
  rfl
theorem gv_asg {te : TE} {i : Nat} {D : Ends} {σ : L2.St} {H0 H : Hp} {R : Hp → V → Prop} (g : Gv te σ H0 R) (k : Same H0 H) (q : ∀ H' v, Same H H' → R H' v → gName i v σ H' D.nx) : tAsg te (gName i) D σ H := g H _ k q
theorem ok_law {f : Addr} {fd : FuncData} (F : Fun K "law" "law" s_law f fd) (Z : WalkZ P w K mg base) : FnOk P w K mg base CX0 8 f fd ["script"] (spLaw K Z.TL Z.TI) := by
  refine F.ok sc_law (fun vs H Q E h => ?_) (fun cdv A outer s H vs Q E hr h => ?_)
  · obtain ⟨a, xs, rfl, _⟩ := h
    rfl
  · obtain ⟨a0, sc, rfl, hS, hlen, tL, tI, q⟩ := h
    have nd : NLaw.Nodup := sc_law.nd
    have hline : 1000000 < sizeLine := by decide
    refine ⟨_, (pss_cons (ps_set (i := 1) nd rfl (.inl rfl) (pe_call Z.Nu.G (by exact hr.mono (by decide)) (by rfl) Z.Nu.g Z.Nu.kp Z.Nu.b .nil pass0 (pa_cons (pv 0) (pa_cons pe_int pa_nil))))
      (pss_cons (ps_set (i := 2) nd rfl (.inl rfl) (pe_call Z.Pa.G (by exact hr.mono (by decide)) (by rfl) Z.Pa.g Z.Pa.kp Z.Pa.b .nil pass0 (pa_cons (pv 1) (pa_cons pe_int pa_nil))))
      (pss_cons (ps_set (i := 3) nd rfl (.inl rfl) (pe_call Z.Ho.G (by exact hr.mono (by decide)) (by rfl) Z.Ho.g Z.Ho.kp Z.Ho.b .nil pass0 (pa_cons (pv 2) pa_nil)))
      (pss_cons (ps_set (i := 4) nd rfl (.inl rfl) (pe_call Z.Be.G (by exact hr.mono (by decide)) (by rfl) Z.Be.g Z.Be.kp Z.Be.b .nil pass0 (pa_cons (pv 2) pa_nil)))
      (pss_cons (ps_set (i := 5) nd rfl (.inl rfl) (pe_callB (call_sortDT rfl (by exact hr.units)) (by rfl) Z.sorted (by decide +kernel) (pa_cons (pv 4) pa_nil)))
      (pss_cons (ps_set (i := 6) nd rfl (.inl rfl) (pe_call Z.Dr.G (by exact hr.mono (by decide)) (by rfl) Z.Dr.g Z.Dr.kp Z.Dr.b .nil pass0 (pa_cons (pv 4) (pa_cons (pv 1) (pa_cons pe_int (pa_cons (pe_op op_mod (pe_callTy call_int1 (by rfl) Z.int (by decide +kernel) (pa_cons (pe_ix ix_list (pv 1) pe_int (fun _ _ => rfl)) pa_nil)) pe_int) pa_nil))))))
      (pss_cons (ps_set (i := 7) nd rfl (.inl rfl) (pe_op op_mod (pe_callTy call_int1 (by rfl) Z.int (by decide +kernel) (pa_cons (pe_ix ix_list (pv 1) pe_int (fun _ _ => rfl)) pa_nil)) (pe_callB call_len (by rfl) Z.len (by decide +kernel) (pa_cons (pv 6) pa_nil))))
      (pss_cons (ps_set (i := 8) nd rfl (.inl rfl) (pe_ix ix_list (pv 5) (pe_op op_mod (pe_callTy call_int1 (by rfl) Z.int (by decide +kernel) (pa_cons (pe_ix ix_list (pv 1) pe_int (fun _ _ => rfl)) pa_nil)) (pe_callB call_len (by rfl) Z.len (by decide +kernel) (pa_cons (pv 5) pa_nil))) (fun _ _ => rfl)))
      (pss_cons (ps_set (i := 9) nd rfl (.inl rfl) (pe_ix ix_list (pe_lst (pa_cons (pe_tup (pa_cons (pe_un un_neg pe_int) (pa_cons pe_int pa_nil))) (pa_cons (pe_tup (pa_cons pe_int (pa_cons (pe_un un_neg pe_int) pa_nil))) (pa_cons (pe_tup (pa_cons (pe_op op_add (pe_callB call_len (by rfl) Z.len (by decide +kernel) (pa_cons (pe_ix ix_tup (pv 2) pe_int (fun _ _ => rfl)) pa_nil)) pe_int) (pa_cons pe_int pa_nil))) (pa_cons (pe_tup (pa_cons pe_int (pa_cons (pe_op op_add (pe_callB (cr_sum rfl) (by rfl) Z.sum (by decide +kernel) (pa_cons (pe_ix ix_tup (pv 2) pe_int (fun _ _ => rfl)) pa_nil)) pe_int) pa_nil))) pa_nil))))) (pe_op op_mod (pe_callTy call_int1 (by rfl) Z.int (by decide +kernel) (pa_cons (pe_ix ix_list (pv 1) pe_int (fun _ _ => rfl)) pa_nil)) pe_int) (fun _ _ => rfl)))
      (pss_cons (ps_set (i := 10) nd rfl (.inl rfl) (pe_lst (pa_cons (pv 6) (pa_cons (pe_revL (pv 6)) (pa_cons (pe_op op_cat (pe_slice sl_list (pv 6) po_none (po_some (pv 7))) (pe_slice sl_list (pv 6) (po_some (pe_op op_add (pv 7) pe_int)) po_none)) (pa_cons (pe_op op_cat (pe_slice sl_list (pv 6) po_none (po_some (pe_op op_add (pv 7) pe_int))) (pe_slice sl_list (pv 6) (po_some (pv 7)) po_none)) (pa_cons (pe_op op_cat (pe_op op_cat (pe_slice sl_list (pv 6) po_none (po_some (pv 7))) (pe_lst (pa_cons (pv 8) pa_nil))) (pe_slice sl_list (pv 6) (po_some (pe_op op_add (pv 7) pe_int)) po_none)) pa_nil)))))))
      (pss_cons (ps_set (i := 10) nd rfl (.inl rfl) (pe_op op_cat (pv 10) (pe_lst (pa_cons (pe_op op_cat (pe_op op_cat (pe_slice sl_list (pv 6) po_none (po_some (pv 7))) (pe_lst (pa_cons (pv 9) pa_nil))) (pe_slice sl_list (pv 6) (po_some (pv 7)) po_none)) (pa_cons (pe_lst (pa_cons (pv 9) pa_nil)) (pa_cons (pe_lst pa_nil) (pa_cons (pe_lst (pa_cons (pv 8) pa_nil)) (pa_cons (pe_lst (pa_cons (pv 9) (pa_cons (pv 8) pa_nil))) (pa_cons (pe_op op_cat (pv 6) (pe_lst (pa_cons (pe_ix ix_list (pv 6) pe_int (fun _ _ => rfl)) pa_nil))) (pa_cons (pe_op op_cat (pv 6) (pe_slice sl_list (pe_revL (pv 6)) (po_some pe_int) po_none)) pa_nil))))))))))
      (pss_cons (ps_for PassesOwn.never rfl (pi_range1 rfl Z.range (pa_cons pe_int pa_nil)) (pg_name (i := 11) nd rfl (.inl rfl)) (pss_cons (ps_par (i := 12) (j := 13) rfl nd rfl rfl (by decide) rfl rfl (pa_cons (pe_ix ix_list (pv 5) (pe_op op_mod (pe_callTy call_int1 (by rfl) Z.int (by decide +kernel) (pa_cons (pe_ix ix_list (pv 1) (pe_op op_add pe_int (pe_op op_mul pe_int (pv 11))) (fun _ _ => rfl)) pa_nil)) (pe_callB call_len (by rfl) Z.len (by decide +kernel) (pa_cons (pv 5) pa_nil))) (fun _ _ => rfl)) (pa_cons (pe_ix ix_list (pv 5) (pe_op op_mod (pe_callTy call_int1 (by rfl) Z.int (by decide +kernel) (pa_cons (pe_ix ix_list (pv 1) (pe_op op_add pe_int (pe_op op_mul pe_int (pv 11))) (fun _ _ => rfl)) pa_nil)) (pe_callB call_len (by rfl) Z.len (by decide +kernel) (pa_cons (pv 5) pa_nil))) (fun _ _ => rfl)) pa_nil)) (by rfl))
      (pss_one (ps_expr (pe_bm PySem.F.plainAttrs_list PySem.F.slot_list_append PySem.F.type_list_append mt_append (pv 10) (pa_cons (pe_lst (pa_cons (pv 12) (pa_cons (pv 13) pa_nil))) pa_nil))))))
      (pss_cons (ps_set (i := 14) nd rfl (.inl rfl) (pe_call Z.Al.G (by exact hr.mono (by decide)) (by rfl) Z.Al.g Z.Al.kp Z.Al.b .nil pass0 (pa_cons (pe_ix ix_tup (pv 2) pe_int (fun _ _ => rfl)) (pa_cons (pe_ix ix_tup (pv 2) pe_int (fun _ _ => rfl)) pa_nil))))
      (pss_cons (ps_asg (pe_ix ix_list (pv 14) (pe_op op_mod (pe_callTy call_int1 (by rfl) Z.int (by decide +kernel) (pa_cons (pe_ix ix_list (pv 1) pe_int (fun _ _ => rfl)) pa_nil)) (pe_callB call_len (by rfl) Z.len (by decide +kernel) (pa_cons (pv 14) pa_nil))) (fun _ _ => rfl)) (pg_tup rfl (pgs_cons (pg_name (i := 15) nd rfl (.inl rfl)) (pgs_cons (pg_name (i := 12) nd rfl (.inl rfl)) (pgs_cons (pg_name (i := 13) nd rfl (.inl rfl)) (pgs_cons (pg_name (i := 16) nd rfl (.inl rfl)) pgs_nil))))))
      (pss_cons (ps_set (i := 10) nd rfl (.inl rfl) (pe_op op_cat (pv 10) (pe_lst (pa_cons (pe_lst (pa_cons (pv 12) (pa_cons (pv 13) pa_nil))) (pa_cons (pe_lst (pa_cons (pv 13) (pa_cons (pv 12) pa_nil))) pa_nil)))))
      (pss_cons (ps_for PassesOwn.never rfl (pi_list (pv 10)) (pg_name (i := 17) nd rfl (.inl rfl)) (pss_cons (ps_asg (pe_call Z.Du.G (by exact hr.mono (by decide)) (by rfl) Z.Du.g Z.Du.kp Z.Du.b .nil pass0 (pa_cons (pv 4) (pa_cons (pv 17) pa_nil))) (pg_tup rfl (pgs_cons (pg_name (i := 18) nd rfl (.inl rfl)) (pgs_cons (pg_name (i := 16) nd rfl (.inl rfl)) pgs_nil))))
      (pss_cons (ps_set (i := 19) nd rfl (.inl rfl) (pe_callTy call_list_of (by rfl) Z.list (by decide +kernel) (pa_cons (pv 17) pa_nil)))
      (pss_cons (ps_set (i := 20) nd rfl (.inl rfl) (pe_call Z.Fa.G (by exact hr.mono (by decide)) (by rfl) Z.Fa.g Z.Fa.kp Z.Fa.b .nil pass0 (pa_cons (pv 3) (pa_cons (pv 19) pa_nil))))
      (pss_cons (ps_if (PW.pt (pw_or (pt_cmpR op_ne (pv 20) (pv 18) (nomark _)) (pw_or (pt_val (pe_callB call_isi (by rfl) Z.isi (by decide +kernel) (pa_cons (pv 20) (pa_cons (pe_bltn (v := .ty "bool") (by rfl) Z.bool (by decide +kernel) rfl) pa_nil)))) (pw_or1 (pt_cmpR (op_neD (by exact hr.units)) (pv 19) (pv 17) (nomark _)))))) (pss_one (ps_ret pe_bl)) pss_nil)
      (pss_cons (ps_set (i := 21) nd rfl (.inl rfl) (pe_tup (pa_cons pe_str (pa_cons (pv 18) pa_nil))))
      (pss_cons (ps_if (pt_cmpR op_isN (pv 18) pe_non (nomark _)) (pss_one (ps_set (i := 21) nd rfl (.inl rfl) (pe_tup (pa_cons pe_str (pa_cons (pv 16) pa_nil))))) pss_nil)
      (pss_one (ps_if (PW.pt (pw_or (pt_cmpR (op_neD (by exact hr.units)) (pe_call Z.Le.G (by exact hr.mono (by decide)) (by rfl) Z.Le.g Z.Le.kp Z.Le.b .nil pass0 (pa_cons (pv 3) (pa_cons (pv 19) pa_nil))) (pv 21) (nomark _)) (pw_or1 (pt_cmpR (op_neD (by exact hr.units)) (pv 19) (pv 17) (nomark _))))) (pss_one (ps_ret pe_bl)) pss_nil)))))))))
      (pss_one (ps_ret pe_bl)))))))))))))))))), ?_⟩
    refine ⟨_, rfl, a0, sc, 60, rfl, hS, hlen, by decide, fun H1 p ns k1 np hp0 hln hs => ?_⟩
    have at_ : ∀ {z : Int}, 0 ≤ z → z < 60 → atI (ns.map V.int) z = some (V.int (nth ns z)) := fun h0 h1 => atI_nth h0 (by omega)
    refine ⟨_, rfl, p, ns, 0, rfl, SqL.of hp0, hs, by omega, fun H2 pa ls gs cs k2 npa hpa va h9 _ => ?_⟩
    have k02 := k1.trans k2
    refine ⟨_, rfl, pa, ls, gs, cs, rfl, hpa, va, (kpS k02).tab _ tL, (kpS k02).tab _ tI, fun H3 h k3 hH0 => ?_⟩
    have hp3 := k3.lst (k2 _ _ hp0)
    have hpa3 := hpa.kp k3
    refine ⟨_, rfl, pa, ls, gs, cs, rfl, hpa3, va, h9, fun H4 d k4 nd4 hB4 => ?_⟩
    obtain ⟨L, hd, hg, hc⟩ := id hB4
    refine ⟨_, rfl, d, _, rfl, .inl hd, (by rw [kvL_keys]; exact fit_plK _), fun pl ys npl hys0 => ?_⟩
    obtain ⟨H5, e5, k5, g5⟩ := made (o := .lst ys) npl
    rw [e5]
    rw [kvL_keys, hg, sort_plK (grid_pw _ _)] at hys0
    have hys5 := krs_prs (hys0.same k5)
    have k35 := k4.trans k5
    have m0 : 0 ≤ nth ns 16 % 10 := Int.emod_nonneg _ (by decide)
    have m1 : nth ns 16 % 10 < 10 := Int.emod_lt_of_pos _ (by decide)
    obtain ⟨mm, hmm⟩ : ∃ m : Nat, nth ns 16 % 10 = (m : Int) := ⟨_, (Int.toNat_of_nonneg m0).symm⟩
    refine ⟨_, rfl, _, rfl, _, rfl, p, _, _, _, rfl, rfl, SqL.of (k35 _ _ hp3), at_ (z := 16) (by decide) (by decide), .inl ⟨_, rfl, _, _, rfl, rfl, (by show (0 : Int) < 10; decide), ?_⟩⟩
    refine ⟨d, p, ls, gs, cs, ns, 20, mm, (by show [V.ref d, V.ref p, V.int 20, V.int (nth ns 16 % 10)] = _; rw [hmm]; rfl), hB4.same k5, va, k35 _ _ hp3, hs, by omega, by omega, fun B wr ws0 wps k6 nwr hw hwp hw1 hw2 _ => ?_⟩
    have k3B := k35.trans k6
    have hn := k3B _ _ hp3
    have hH := hH0.kp (kpS k3B)
    have hB := (hB4.same k5).same k6
    obtain ⟨lA, gA, cA, ks, hP0, hl0, hg0, _, _⟩ := id (hpa3.same k3B)
    have gpl := k6 _ _ g5
    have hys := hys5.same k6
    have hyl := hys.len
    have hL := va.lens
    obtain ⟨⟨⟨hl1, hl2⟩, _⟩, ⟨hg11, _⟩, _⟩ := id va
    have glen : 1 ≤ (gridP (gs.length + 1) (ls.sum.toNat + 1)).length := by
      rw [grid_len]
      have : 1 * 1 ≤ (gs.length + 1) * (ls.sum.toNat + 1) := Nat.mul_le_mul (by omega) (by omega)
      omega
    have hwl := hwp.len
    clear hB4 hys5 hys0 hpa3 hH0 g5 hp3 hp0 hd hg hc
    -- at
    refine ⟨_, rfl, p, _, _, _, rfl, rfl, SqL.of hn, at_ (z := 40) (by decide) (by decide), .inl ⟨_, rfl, _, rfl, _, _, rfl, .inl ⟨_, SqL.of hw, rfl⟩, _, _, rfl, rfl, (by show (0 : Int) < _; omega), ?_⟩⟩
    -- drawn
    have i0 : ∀ z, 0 ≤ nth ns z % (ys.length : Int) := fun z => Int.emod_nonneg _ (by omega)
    have i1 : ∀ z, nth ns z % (ys.length : Int) < (ys.length : Int) := fun z => Int.emod_lt_of_pos _ (by omega)
    have ypos : (0 : Int) < (ys.length : Int) := by omega
    obtain ⟨xd, xdm, xde⟩ := at_mem (i0 41) (i1 41)
    have pd := hys.isp xd xdm
    refine ⟨_, rfl, _, rfl, p, _, _, _, rfl, rfl, SqL.of hn, at_ (z := 41) (by decide) (by decide), .inl ⟨_, rfl, _, rfl, _, _, rfl, .inl ⟨_, SqL.of gpl, rfl⟩, _, _, rfl, rfl, ypos, pl, _, _, _, rfl, rfl, SqL.of gpl, xde, ?_⟩⟩
    -- bad
    refine ⟨_, rfl, (by show 2 ≤ sizeLine; decide), fun t1 nt1 => ?_⟩
    obtain ⟨B1, e1, b1, g1⟩ := made (o := .tup [V.int (-1), .int 0]) nt1
    rw [e1]
    refine ⟨_, rfl, (by show 2 ≤ sizeLine; decide), fun t2 nt2 => ?_⟩
    obtain ⟨B2, e2, b2, g2⟩ := made (o := .tup [V.int 0, .int (-1)]) nt2
    rw [e2]
    have b02 := b1.trans b2
    refine ⟨_, rfl, pa, _, _, _, rfl, rfl, SqT.of (b02 _ _ hP0), rfl, _, _, rfl, .inl ⟨_, SqL.of (b02 _ _ hg0), rfl⟩, _, _, rfl, rfl, (by show 2 ≤ sizeLine; decide), fun t3 nt3 => ?_⟩
    rw [List.length_map]
    obtain ⟨B3, e3, b3, g3⟩ := made (o := .tup [V.int ((gs.length : Int) + 1), .int 0]) nt3
    rw [e3]
    have b03 := b02.trans b3
    refine ⟨_, rfl, pa, _, _, _, rfl, rfl, SqT.of (b03 _ _ hP0), rfl, lA, ls, rfl, SqL.of (b03 _ _ hl0), _, _, rfl, rfl, (by show 2 ≤ sizeLine; decide), fun t4 nt4 => ?_⟩
    obtain ⟨B4, e4, b4, g4⟩ := made (o := .tup [V.int 0, .int (ls.sum + 1)]) nt4
    rw [e4]
    have b04 := b03.trans b4
    refine ⟨(by show 4 ≤ sizeLine; decide), fun t5 nt5 => ?_⟩
    obtain ⟨B5, e5', b5, g5⟩ := made (o := .lst [V.ref t1, .ref t2, .ref t3, .ref t4]) nt5
    rw [e5']
    have b05 := b04.trans b5
    have isb : ∀ x ∈ [V.ref t1, .ref t2, .ref t3, .ref t4], IsP B5 x := fun x hx => by
      simp only [List.mem_cons, List.mem_nil_iff, or_false] at hx
      rcases hx with rfl | rfl | rfl | rfl
      · exact ⟨(-1, 0), t1, rfl, (((b2.trans b3).trans b4).trans b5) _ _ g1⟩
      · exact ⟨(0, -1), t2, rfl, ((b3.trans b4).trans b5) _ _ g2⟩
      · exact ⟨((gs.length : Int) + 1, 0), t3, rfl, (b4.trans b5) _ _ g3⟩
      · exact ⟨(0, ls.sum + 1), t4, rfl, b5 _ _ g4⟩
    obtain ⟨xb, xbm, xbe⟩ := at_mem (xs := [V.ref t1, .ref t2, .ref t3, .ref t4]) (z := nth ns 42 % 4) (Int.emod_nonneg _ (by decide)) (Int.emod_lt_of_pos _ (by decide))
    have pb := isb xb xbm
    refine ⟨_, rfl, p, _, _, _, rfl, rfl, SqL.of (b05 _ _ hn), at_ (z := 42) (by decide) (by decide), .inl ⟨_, rfl, _, _, rfl, rfl, (by show (0 : Int) < 4; decide), t5, _, _, _, rfl, rfl, SqL.of g5, xbe, ?_⟩⟩
    have pd5 := st_p _ _ _ pd b05
    have pw : LsOf IsP 10 B5 (.ref wr) := ⟨wr, ws0, rfl, b05 _ _ hw, by omega, (hwp.same b05).isp⟩
    have sp := st_p
    have sl := st_ls st_p 200
    clear isb g1 g2 g3 g4 g5
    -- the first five
    refine gv_asg (H0 := B5) (R := LsOf (LsOf IsP 200) 5) (gv_lst sl (gva_cons sl (gv_le (gv_var (i := 6) rfl (st_ls sp 10) pw) (by decide)) (gva_cons sl (gv_le (gv_rev sp (gv_var (i := 6) rfl (st_ls sp 10) pw)) (by decide)) (gva_cons sl (gv_le (gv_cat sp (gv_sl sp (gv_var (i := 6) rfl (st_ls sp 10) pw) gvo_none (gvo_i (i := 7) rfl)) (gv_sl sp (gv_var (i := 6) rfl (st_ls sp 10) pw) (gvo_a (i := 7) rfl) gvo_none) (by decide)) (by decide)) (gva_cons sl (gv_le (gv_cat sp (gv_sl sp (gv_var (i := 6) rfl (st_ls sp 10) pw) gvo_none (gvo_a (i := 7) rfl)) (gv_sl sp (gv_var (i := 6) rfl (st_ls sp 10) pw) (gvo_i (i := 7) rfl) gvo_none) (by decide)) (by decide)) (gva_cons sl (gv_le (gv_cat sp (gv_cat sp (gv_sl sp (gv_var (i := 6) rfl (st_ls sp 10) pw) gvo_none (gvo_i (i := 7) rfl)) (gv_lst sp (gva_cons sp (gv_var (i := 8) rfl sp pd5) gva_nil) (by decide)) (by decide)) (gv_sl sp (gv_var (i := 6) rfl (st_ls sp 10) pw) (gvo_a (i := 7) rfl) gvo_none) (by decide)) (by decide)) gva_nil))))) (by decide)) (Same.refl _) fun C1 wl c1 hwl1 => ?_
    -- seven more
    obtain ⟨la, rows1, rfl, hla, hl5, hr5⟩ := hwl1
    refine ⟨_, rfl, ?_⟩
    have pw1 := st_ls sp _ _ _ _ pw c1
    have pd1 := sp _ _ _ pd5 c1
    have pb1 := sp _ _ _ pb c1
    obtain ⟨x0, x0m, x0e⟩ := at_mem (xs := ws0) (z := 0) (by decide) (by omega)
    have p01 : IsP C1 x0 := sp _ _ _ (hwp.isp x0 x0m) (b05.trans c1)
    refine gv_use (H0 := C1) (R := LsOf (LsOf IsP 200) 7) (gv_lst sl (gva_cons sl (gv_le (gv_cat sp (gv_cat sp (gv_sl sp (gv_var (i := 6) rfl (st_ls sp 10) pw1) gvo_none (gvo_i (i := 7) rfl)) (gv_lst sp (gva_cons sp (gv_var (i := 9) rfl sp pb1) gva_nil) (by decide)) (by decide)) (gv_sl sp (gv_var (i := 6) rfl (st_ls sp 10) pw1) (gvo_i (i := 7) rfl) gvo_none) (by decide)) (by decide)) (gva_cons sl (gv_le (gv_lst sp (gva_cons sp (gv_var (i := 9) rfl sp pb1) gva_nil) (by decide)) (by decide)) (gva_cons sl (gv_le (gv_lst sp gva_nil (by decide)) (by decide)) (gva_cons sl (gv_le (gv_lst sp (gva_cons sp (gv_var (i := 8) rfl sp pd1) gva_nil) (by decide)) (by decide)) (gva_cons sl (gv_le (gv_lst sp (gva_cons sp (gv_var (i := 9) rfl sp pb1) (gva_cons sp (gv_var (i := 8) rfl sp pd1) gva_nil)) (by decide)) (by decide)) (gva_cons sl (gv_le (gv_cat sp (gv_var (i := 6) rfl (st_ls sp 10) pw1) (gv_lst sp (gva_cons sp (gv_ix (i := 6) rfl sp (c1 _ _ (b05 _ _ hw)) x0e p01) gva_nil) (by decide)) (by decide)) (by decide)) (gva_cons sl (gv_le (gv_cat sp (gv_var (i := 6) rfl (st_ls sp 10) pw1) (gv_sl sp (gv_rev sp (gv_var (i := 6) rfl (st_ls sp 10) pw1)) gvo_c gvo_none) (by decide)) (by decide)) gva_nil))))))) (by decide)) (Same.refl _) fun C2 v2 c2 hv2 => ?_
    obtain ⟨lb, rows2, rfl, hlb, hl7, hr7⟩ := hv2
    refine ⟨la, lb, rows1, rows2, rfl, rfl, c2 _ _ hla, hlb, by omega, fun wl nwl => ?_⟩
    have b0C := (b05.trans c1).trans c2
    have cw : Same C2 (upd C2 wl (.lst (rows1 ++ rows2))) := same_upd nwl
    have rw0 : ∀ r ∈ rows1 ++ rows2, LsOf IsP 200 C2 r := fun r hr => by
      rcases List.mem_append.mp hr with z | z
      · exact sl _ _ _ (hr5 r z) c2
      · exact hr7 r z
    have notw : ∀ {H' : Hp} {r : V} {a : Addr}, H' a = none → LsOf IsP 200 H' r → r ≠ .ref a := fun {H' r a} na h e => by
      obtain ⟨b, xs, rfl, hb, _⟩ := h
      cases e
      rw [na] at hb
      cases hb
    have overw : ∀ {H' : Hp} {zs us : List V} {r : V}, H' wl = some (.lst zs) → r ≠ .ref wl → LsOf IsP 200 H' r → LsOf IsP 200 (upd H' wl (.lst us)) r := fun {H' zs us r} hz ne h => by
      obtain ⟨b, xs, rfl, hb, hl, hx⟩ := h
      refine ⟨b, xs, rfl, ?_, hl, fun x hx' => ?_⟩
      · rw [upd_ne fun z => ne (by rw [z])]
        exact hb
      · obtain ⟨p, hp⟩ := hx x hx'
        exact ⟨p, hp.over hz⟩
    -- four pairs
    refine ⟨_, rfl, by decide, by decide, ?_⟩
    refine for_range (lo := 0) (n := 4) (fun i σ H' => ∃ (v11 v12 v13 : Option V) (rows : List V), σ = [some (.ref a0), some (.ref p), some (.ref pa), some (.ref h), some (.ref d), some (.ref pl), some (.ref wr), some (.int (nth ns 40 % (ws0.length : Int))), some xd, some xb, some (.ref wl), v11, v12, v13, none, none, none, none, none, none, none, none] ∧
      Same C2 H' ∧ H' wl = some (.lst rows) ∧ rows.length ≤ 12 + i ∧ ∀ r ∈ rows, LsOf IsP 200 H' r ∧ r ≠ .ref wl) ?_ ?_ ?_
    · exact ⟨none, none, none, _, rfl, cw, upd_same, by rw [List.length_append]; omega, fun r hr => ⟨sl _ _ _ (rw0 r hr) cw, notw nwl (rw0 r hr)⟩⟩
    · rintro i σ H' hi ⟨v11, v12, v13, rows, rfl, k, hw', hrl, hrr⟩
      have kB := b0C.trans k
      have gp' := kB _ _ gpl
      have hn' := kB _ _ hn
      have hys' := hys.same kB
      obtain ⟨x1, x1m, x1e⟩ := at_mem (i0 (43 + 2 * (0 + (i : Int)))) (i1 (43 + 2 * (0 + (i : Int))))
      obtain ⟨x2, x2m, x2e⟩ := at_mem (i0 (44 + 2 * (0 + (i : Int)))) (i1 (44 + 2 * (0 + (i : Int))))
      refine ⟨_, rfl, _, rfl, _, rfl, _, _, rfl, rfl, .inl ⟨by decide, by decide⟩, _, _, rfl, rfl, p, _, _, _, rfl, rfl, SqL.of hn', at_ (by omega) (by omega), .inl ⟨_, rfl, _, rfl, _, _, rfl, .inl ⟨_, SqL.of gp', rfl⟩, _, _, rfl, rfl, ypos, pl, _, _, _, rfl, rfl, SqL.of gp', x1e, ?_⟩⟩
      refine ⟨_, rfl, _, rfl, _, rfl, _, _, rfl, rfl, .inl ⟨by decide, by decide⟩, _, _, rfl, rfl, p, _, _, _, rfl, rfl, SqL.of hn', at_ (by omega) (by omega), .inl ⟨_, rfl, _, rfl, _, _, rfl, .inl ⟨_, SqL.of gp', rfl⟩, _, _, rfl, rfl, ypos, pl, _, _, _, rfl, rfl, SqL.of gp', x2e, ?_⟩⟩
      refine ⟨_, _, rfl, ?_⟩
      refine ⟨_, rfl, .inl ⟨rfl, _, SqL.of hw'⟩, _, rfl, _, rfl, (by show 2 ≤ sizeLine; decide), fun m nm => ?_⟩
      obtain ⟨H2', e2', k2', g2'⟩ := made (o := .lst [x1, x2]) nm
      rw [e2']
      have hw2 := k2' _ _ hw'
      refine ⟨wl, rows, _, rfl, rfl, hw2, by omega, ?_⟩
      refine ⟨_, _, _, rows ++ [.ref m], rfl, Same.over (k.trans k2') nwl, upd_same, by rw [List.length_append]; show rows.length + 1 ≤ 12 + (i + 1); omega, fun r hr => ?_⟩
      have mw : (V.ref m) ≠ .ref wl := fun z => by
        cases z
        rw [nm] at hw'
        cases hw'
      rcases List.mem_append.mp hr with z | z
      · exact ⟨overw hw2 (hrr r z).2 (sl _ _ _ (hrr r z).1 k2'), (hrr r z).2⟩
      · rw [List.mem_singleton.mp z]
        exact ⟨overw hw2 mw ⟨m, _, rfl, g2', by show 2 ≤ 200; decide, fun x hx => by
          simp only [List.mem_cons, List.mem_nil_iff, or_false] at hx
          rcases hx with rfl | rfl
          · exact sp _ _ _ (hys'.isp _ x1m) k2'
          · exact sp _ _ _ (hys'.isp _ x2m) k2'⟩, mw⟩
    rintro σ H' ⟨v11, v12, v13, rows, rfl, k, hw', hrl, hrr⟩
    have kB := b0C.trans k
    -- all links
    refine ⟨_, rfl, pa, _, _, _, rfl, rfl, SqT.of (kB _ _ hP0), rfl, _, rfl, pa, _, _, _, rfl, rfl, SqT.of (kB _ _ hP0), rfl, lA, gA, ls, gs, rfl, SqL.of (kB _ _ hl0), SqL.of (kB _ _ hg0), hL, hl1, hl2, hg11, fun D1 al es k7 nal gal hes => ?_⟩
    have kB1 := kB.trans k7
    have esl := hes.len
    have ael : 1 ≤ (allE ls gs).length := by
      have top1 : 1 ≤ ls.sum := by
        match ls, hL, hl1 with
        | a :: as, hL, _ =>
          have z1 := (hL a List.mem_cons_self).1
          have z2 : 0 ≤ as.sum := Lens.pos2 fun x hx => hL x (List.mem_cons_of_mem _ hx)
          rw [List.sum_cons]
          omega
      unfold allE
      rw [List.length_append, upsE_len]
      have : 1 * 1 ≤ (gs.length + 1) * ls.sum.toNat := Nat.mul_le_mul (by omega) (by omega)
      omega
    have epos : (0 : Int) < (es.length : Int) := by omega
    obtain ⟨j, hj⟩ : ∃ j : Nat, nth ns 52 % (es.length : Int) = (j : Int) := ⟨_, (Int.toNat_of_nonneg (Int.emod_nonneg _ (by omega))).symm⟩
    have hje : j < es.length := by
      have := Int.emod_lt_of_pos (nth ns 52) epos
      omega
    obtain ⟨ed, hed, t, kk, wa, wb, ew, ht, hk1, ha1, hb1⟩ := Fa.at hes (List.getElem?_eq_getElem hje)
    refine ⟨_, rfl, _, rfl, p, _, _, _, rfl, rfl, SqL.of (kB1 _ _ hn), at_ (z := 52) (by decide) (by decide), .inl ⟨_, rfl, _, rfl, _, _, rfl, .inl ⟨_, SqL.of gal, rfl⟩, _, _, rfl, rfl, epos, al, _, _, _, rfl, rfl, SqL.of gal, (by rw [hj]; exact atI_nat (List.getElem?_eq_getElem hje)), ?_⟩⟩
    rw [ew]
    refine ⟨t, _, rfl, SqT.of ht, rfl, _, _, rfl, _, _, rfl, _, _, rfl, _, _, rfl, rfl, ?_⟩
    -- two more
    refine ⟨_, rfl, ?_⟩
    have pa1 : IsP D1 wa := ⟨_, ha1⟩
    have pb1' : IsP D1 wb := ⟨_, hb1⟩
    refine gv_use (H0 := D1) (R := LsOf (LsOf IsP 200) 2) (gv_lst sl (gva_cons sl (gv_le (gv_lst sp (gva_cons sp (gv_var (i := 12) rfl sp pa1) (gva_cons sp (gv_var (i := 13) rfl sp pb1') gva_nil)) (by decide)) (by decide)) (gva_cons sl (gv_le (gv_lst sp (gva_cons sp (gv_var (i := 13) rfl sp pb1') (gva_cons sp (gv_var (i := 12) rfl sp pa1) gva_nil)) (by decide)) (by decide)) gva_nil)) (by decide)) (Same.refl _) fun D2 v2 d2 hv2 => ?_
    obtain ⟨lc, rows3, rfl, hlc, hl3, hr3⟩ := hv2
    have k72 := k7.trans d2
    refine ⟨wl, lc, rows, rows3, rfl, rfl, k72 _ _ hw', hlc, by omega, fun W nW => ?_⟩
    have rw2 : ∀ r ∈ rows ++ rows3, LsOf IsP 200 D2 r := fun r hr => by
      rcases List.mem_append.mp hr with z | z
      · exact sl _ _ _ (hrr r z).1 k72
      · exact hr3 r z
    obtain ⟨D3, ed3, d3, gW⟩ := made (o := .lst (rows ++ rows3)) nW
    rw [ed3]
    have kBD := (kB1.trans d2).trans d3
    have rw3 : ∀ r ∈ rows ++ rows3, LsOf IsP 200 D3 r := fun r hr => sl _ _ _ (rw2 r hr) d3
    have hH3 := hH.kp (kpS kBD)
    have hB3 := hB.same kBD
    generalize rows ++ rows3 = R3 at *
    clear hrr hr3 hr7 hr5 rw0 hw' hes hed ht hk1 ha1 hb1
    -- every list
    refine ⟨_, rfl, W, rfl, ⟨_, SqL.of gW⟩, ?_⟩
    refine for_list (K := K) (a := W) (xs := R3) (fun i σ H' => ∃ (v16 v17 v18 v19 v20 v21 : Option V), σ = [some (.ref a0), some (.ref p), some (.ref pa), some (.ref h), some (.ref d), some (.ref pl), some (.ref wr), some (.int (nth ns 40 % (ws0.length : Int))), some xd, some xb, some (.ref W), v11, some wa, some wb, some (.ref al), some kk, v16, v17, v18, v19, v20, v21] ∧ Same D3 H') ?_ ?_ ?_ ?_
    · exact ⟨_, _, _, _, _, _, rfl, Same.refl _⟩
    · rintro i σ H' _ ⟨_, _, _, _, _, _, _, k⟩
      exact SqL.of (k _ _ gW)
    · rintro i x σ H' hx ⟨v16, v17, v18, v19, v20, v21, rfl, k⟩
      obtain ⟨row, xs, rfl, hrow0, hl200, hxs0⟩ := rw3 x (List.mem_of_getElem? hx)
      obtain ⟨ws, hws0⟩ := prs_mk hxs0
      have hwsl := hws0.len
      have hrow := k _ _ hrow0
      have hws := hws0.same k
      refine ⟨_, rfl, _, rfl, d, row, ls, gs, cs, xs, ws, rfl, hB3.same k, va, hrow, hws, by omega, fun F1 t o f1 ho ht => ?_⟩
      refine ⟨t, _, rfl, SqT.of ht, rfl, _, _, rfl, _, _, rfl, rfl, ?_⟩
      refine ⟨_, rfl, row, _, rfl, .inl (SqL.of (f1 _ _ hrow)), fun m nm => ?_⟩
      obtain ⟨F2, e2', f2, gm⟩ := made (o := .lst xs) nm
      rw [e2']
      have f02 := f1.trans f2
      have kf2 := k.trans f02
      have hws2 := hws.same f02
      refine ⟨_, rfl, _, rfl, h, m, ls, gs, cs, xs, ws, rfl, hH3.kp (kpS kf2), gm, hws2, by omega, fun F3 o2 f3 ho2 => ?_⟩
      obtain rfl := fault_uniq ho2 ho
      have f03 := f02.trans f3
      have kf3 := k.trans f03
      have gm3 := f3 _ _ gm
      have hws3 := hws.same f03
      have hrow3 := f03 _ _ hrow
      refine ⟨_, rfl, _, rfl, oV_scal _ _, _, rfl, ?_⟩
      rw [decide_eq_true rfl]
      refine iteF ?_
      obtain ⟨ty, hty, hkit⟩ : ∃ ty, TyX K F3 (oV o2) ty ∧ PySem.W.kitOne K ty (.type "bool") = some false := by
        cases o2 with
        | none => exact ⟨_, .base .non, kit_ty (by decide +kernel)⟩
        | some n => exact ⟨_, .base (.int _), kit_ty (by decide +kernel)⟩
      refine ⟨_, rfl, oV o2, .ty "bool", ty, _, false, rfl, .ty "bool", hty, hkit, _, rfl, ?_⟩
      refine iteF ?_
      refine ⟨_, rfl, _, rfl, _, _, hws3.dl (SqL.of gm3), hws3.dl (SqL.of hrow3), sh_dL _, sh_dL _, _, rfl, ?_⟩
      rw [eqv_dL, decide_eq_true rfl]
      refine iteF ?_
      refine ⟨_, rfl, (by show 2 ≤ sizeLine; decide), fun t2 nt2 => ?_⟩
      obtain ⟨F4, e4', f4, g4⟩ := made (o := .tup [V.str "fault", oV o2]) nt2
      rw [e4']
      refine ⟨_, rfl, rfl, _, rfl, ?_⟩
      cases o2 with
      | none =>
        refine iteT ?_
        refine ⟨_, rfl, (by show 2 ≤ sizeLine; decide), fun t3 nt3 => ?_⟩
        obtain ⟨F5, e5'', f5, g5⟩ := made (o := .tup [V.str "length", .int (lensW ls gs cs ws (ws.length - 1)).sum]) nt3
        have e5c : upd F4 t3 (.tup [V.str "length", resV ls gs cs ws none]) = F5 := e5''
        rw [e5c]
        have f05 := (f03.trans f4).trans f5
        refine ⟨_, rfl, _, rfl, h, m, ls, gs, cs, xs, ws, none, rfl, hH3.kp (kpS (k.trans f05)), (f4.trans f5) _ _ gm3, hws.same f05, by omega, ho, fun F6 t6 f6 ht6 => ?_⟩
        have f06 := f05.trans f6
        refine ⟨_, rfl, _, _, .tup (SqT.of ht6) (.cons (.str _) (.cons (.int _) .nil)), .tup (SqT.of (f6 _ _ g5)) (.cons (.str _) (.cons (.int _) .nil)), sh_lenT (by decide +kernel) _, sh_lenT (by decide +kernel) _, _, rfl, ?_⟩
        rw [eqv_lenT]
        refine iteF ?_
        have hws6 := hws.same f06
        refine ⟨_, rfl, _, rfl, _, _, hws6.dl (SqL.of (((f4.trans f5).trans f6) _ _ gm3)), hws6.dl (SqL.of (f06 _ _ hrow)), sh_dL _, sh_dL _, _, rfl, ?_⟩
        rw [eqv_dL, decide_eq_true rfl]
        refine iteF ?_
        exact ⟨_, _, _, _, _, _, rfl, k.trans f06⟩
      | some n =>
        refine iteF ?_
        have f05 := f03.trans f4
        refine ⟨_, rfl, _, rfl, h, m, ls, gs, cs, xs, ws, some n, rfl, hH3.kp (kpS (k.trans f05)), f4 _ _ gm3, hws.same f05, by omega, ho, fun F6 t6 f6 ht6 => ?_⟩
        have f06 := f05.trans f6
        refine ⟨_, rfl, _, _, .tup (SqT.of ht6) (.cons (.str _) (.cons (.int _) .nil)), .tup (SqT.of (f6 _ _ g4)) (.cons (.str _) (.cons (.int _) .nil)), sh_lenT (by decide +kernel) _, sh_lenT (by decide +kernel) _, _, rfl, ?_⟩
        rw [eqv_lenT]
        refine iteF ?_
        have hws6 := hws.same f06
        refine ⟨_, rfl, _, rfl, _, _, hws6.dl (SqL.of ((f4.trans f6) _ _ gm3)), hws6.dl (SqL.of (f06 _ _ hrow)), sh_dL _, sh_dL _, _, rfl, ?_⟩
        rw [eqv_dL, decide_eq_true rfl]
        refine iteF ?_
        exact ⟨_, _, _, _, _, _, rfl, k.trans f06⟩
    · rintro σ H' ⟨_, _, _, _, _, _, rfl, _⟩
      exact q H'
end

/-! ### the end -/
section
open GxR NdefX PySem.Spec PyProof.Rows
/-! ### what the top has left -/
theorem all_mk {l : PySem.W.OpenLaw} {w : World} {K : PySem.W.Frag} {h : Heap} {mg : Str → Option Value} {fa : Addr} {TI TL : Addr} (X : K.In h) (G : h.Ns mainGlobals mg) (hfa : mg "law" = some (.ref fa))
    {C : Addr}
    {CI : Addr}
    {CL : Addr}
    {CP : Addr}
    {Pe : Addr}
    {nm0 qn0 : Str} {N0 : Addr} {bs0 : List Value} {sn0 : List Str} {sb0 : List Value} {ab0 : Bool} {co0 : Option Bool} {dd0 : Option Addr} {ma0 mb0 mc0 md0 me0 : Option Value}
    {f_iCP : Addr}
    {od_iCP an_iCP : Option Addr} {sl_iCP : Array (Option Value)} {oc_iCP kV_iCP dc_iCP pm_iCP cd_iCP ct_iCP : Value}
    {tk1 tk2 tk3 tk4 : Tok}
    {f_ini : Addr}
    {c8_ini : Addr}
    {od_ini an_ini : Option Addr} {sl_ini : Array (Option Value)} {oc_ini kV_ini dc_ini pm_ini ct_ini : Value}
    {f_al : Addr}
    {c8_al : Addr}
    {od_al an_al : Option Addr} {sl_al : Array (Option Value)} {oc_al kV_al dc_al pm_al ct_al : Value}
    {f_ipl : Addr}
    {od_ipl an_ipl : Option Addr} {sl_ipl : Array (Option Value)} {oc_ipl kV_ipl dc_ipl pm_ipl cd_ipl ct_ipl : Value}
    {f_ilk : Addr}
    {od_ilk an_ilk : Option Addr} {sl_ilk : Array (Option Value)} {oc_ilk kV_ilk dc_ilk pm_ilk cd_ilk ct_ilk : Value}
    {f_icl : Addr}
    {od_icl an_icl : Option Addr} {sl_icl : Array (Option Value)} {oc_icl kV_icl dc_icl pm_icl cd_icl ct_icl : Value}
    {f_lno : Addr}
    {od_lno an_lno : Option Addr} {sl_lno : Array (Option Value)} {oc_lno kV_lno dc_lno pm_lno cd_lno ct_lno : Value}
    {f_btw : Addr}
    {od_btw an_btw : Option Addr} {sl_btw : Array (Option Value)} {oc_btw kV_btw dc_btw pm_btw cd_btw ct_btw : Value}
    {f_cross : Addr}
    {od_cross an_cross : Option Addr} {sl_cross : Array (Option Value)} {oc_cross kV_cross dc_cross pm_cross cd_cross ct_cross : Value}
    {f_wf : Addr}
    {od_wf an_wf : Option Addr} {sl_wf : Array (Option Value)} {oc_wf kV_wf dc_wf pm_wf cd_wf ct_wf : Value}
    {f_lw : Addr}
    {od_lw an_lw : Option Addr} {sl_lw : Array (Option Value)} {oc_lw kV_lw dc_lw pm_lw cd_lw ct_lw : Value}
    {f_wl : Addr}
    {od_wl an_wl : Option Addr} {sl_wl : Array (Option Value)} {oc_wl kV_wl dc_wl pm_wl cd_wl ct_wl : Value}
    {f_row : Addr}
    {od_row an_row : Option Addr} {sl_row : Array (Option Value)} {oc_row kV_row dc_row pm_row cd_row ct_row : Value}
    {f_num : Addr}
    {od_num an_num : Option Addr} {sl_num : Array (Option Value)} {oc_num kV_num dc_num pm_num cd_num ct_num : Value}
    {f_ale : Addr}
    {od_ale an_ale : Option Addr} {sl_ale : Array (Option Value)} {oc_ale kV_ale dc_ale pm_ale cd_ale ct_ale : Value}
    {f_pa : Addr}
    {od_pa an_pa : Option Addr} {sl_pa : Array (Option Value)} {oc_pa kV_pa dc_pa pm_pa cd_pa ct_pa : Value}
    {f_lho : Addr}
    {od_lho an_lho : Option Addr} {sl_lho : Array (Option Value)} {oc_lho kV_lho dc_lho pm_lho cd_lho ct_lho : Value}
    {f_lbe : Addr}
    {od_lbe an_lbe : Option Addr} {sl_lbe : Array (Option Value)} {oc_lbe kV_lbe dc_lbe pm_lbe cd_lbe ct_lbe : Value}
    {f_ldr : Addr}
    {od_ldr an_ldr : Option Addr} {sl_ldr : Array (Option Value)} {oc_ldr kV_ldr dc_ldr pm_ldr cd_ldr ct_ldr : Value}
    {f_ldu : Addr}
    {od_ldu an_ldu : Option Addr} {sl_ldu : Array (Option Value)} {oc_ldu kV_ldu dc_ldu pm_ldu cd_ldu ct_ldu : Value}
    {f_lle : Addr}
    {od_lle an_lle : Option Addr} {sl_lle : Array (Option Value)} {oc_lle kV_lle dc_lle pm_lle cd_lle ct_lle : Value}
    {f_law : Addr}
    {od_law an_law : Option Addr} {sl_law : Array (Option Value)} {oc_law kV_law dc_law pm_law cd_law ct_law : Value}
    (a_C : PySem.W.nsIn K mainGlobals "House" = some (some (.ref C)))
    (pg_C : PySem.W.plainGet K C Str.empty = true)
    (hd_C : PySem.W.hasDictIn K C = true)
    (po_C : PySem.W.plainOver K C = true)
    (sa_C : PySem.W.findIn K (.ref C) "__setattr__" = some (some (.builtin "object.__setattr__")))
    (mk_C : PySem.W.makesIn K C = true)
    (kc_C : PySem.W.keepIn K (.ref C) = true)
    (nplengths : PySem.W.findIn K (.ref C) "_lengths" = some none)
    (npgaps : PySem.W.findIn K (.ref C) "_gaps" = some none)
    (npcrosses : PySem.W.findIn K (.ref C) "_crosses" = some none)
    (nptop : PySem.W.findIn K (.ref C) "_top" = some none)
    (npclosed : PySem.W.findIn K (.ref C) "_closed" = some none)
    (a_CI : PySem.W.nsIn K mainGlobals "InvalidHouse" = some (some (.ref CI)))
    (kpCI : PySem.W.keepIn K (.ref CI) = true)
    (exCI : PySem.W.excIn K CI [.type "ValueError", .type "Exception", .type "BaseException", .type "object"] "ValueError.__new__" = true)
    (sbCI : PySem.W.subIn K (.ref CI) (.type "BaseException") = some true)
    (tyCI : PySem.W.typeIn K (.ref CI) = some (.type "type"))
    (dcCI : PySem.W.hasDictIn K CI = true)
    (ssCI : PySem.W.subIn K (.ref CI) (.ref CI) = some true)
    (a_CL : PySem.W.nsIn K mainGlobals "InvalidLink" = some (some (.ref CL)))
    (kpCL : PySem.W.keepIn K (.ref CL) = true)
    (exCL : PySem.W.excIn K CL [.type "ValueError", .type "Exception", .type "BaseException", .type "object"] "ValueError.__new__" = true)
    (sbCL : PySem.W.subIn K (.ref CL) (.type "BaseException") = some true)
    (tyCL : PySem.W.typeIn K (.ref CL) = some (.type "type"))
    (dcCL : PySem.W.hasDictIn K CL = true)
    (ssCL : PySem.W.subIn K (.ref CL) (.ref CL) = some true)
    (a_CP : PySem.W.nsIn K mainGlobals "InvalidWalk" = some (some (.ref CP)))
    (a_Pe : PySem.W.nsIn K mainGlobals "PickError" = some (some (.ref Pe)))
    (kpCP : PySem.W.keepIn K (.ref CP) = true)
    (sbCP : PySem.W.subIn K (.ref CP) (.type "BaseException") = some true)
    (tyCP : PySem.W.typeIn K (.ref CP) = some (.type "type"))
    (dcCP : PySem.W.hasDictIn K CP = true)
    (ssCP : PySem.W.subIn K (.ref CP) (.ref CP) = some true)
    (xlCP : K.lookup CP = some (excClassObj nm0 qn0 CP N0 bs0 [.ref Pe, .type "ValueError", .type "Exception", .type "BaseException", .type "object"] true sn0 sb0 ab0 co0 dd0 ma0 mb0 mc0 md0 me0 "ValueError.__new__"))
    (saCP : PySem.W.findIn K (.ref CP) "__setattr__" = some (some (.builtin "object.__setattr__")))
    (noCP : PySem.W.findIn K (.ref CP) "number" = some none)
    (gaCP : PySem.W.findIn K (.ref CP) "__getattribute__" = some (some (.builtin "BaseException.__getattribute__")))
    (ggCP : PySem.W.findIn K (.ref CP) "__getattr__" = some none)
    (a_iCP : PySem.W.findIn K (.ref CP) "__init__" = some (some (.ref f_iCP)))
    (tiCP : PySem.W.typeIn K (.ref f_iCP) = some (.type "function"))
    (l_iCP : K.lookup f_iCP = some ⟨oc_iCP, od_iCP, .func (PySem.W.fnOf "__init__" "InvalidWalk.__init__" (defArgs s_InvalidWalk___init__) (defBody s_InvalidWalk___init__) (defScope s_InvalidWalk___init__) .none kV_iCP dc_iCP pm_iCP an_iCP cd_iCP ct_iCP), sl_iCP⟩)
    (c_iCP : PySem.W.codeIn K cd_iCP "InvalidWalk.__init__" = true)
    (k_iCP : PySem.W.keepIn K (.ref f_iCP) = true)
    (cL : PySem.W.nsIn K mainGlobals "LONGEST" = some (some (.int 40 tk1)))
    (cS : PySem.W.nsIn K mainGlobals "MOST_STRETCHES" = some (some (.int 2 tk2)))
    (cG : PySem.W.nsIn K mainGlobals "MOST_GAPS" = some (some (.int 11 tk3)))
    (cC : PySem.W.nsIn K mainGlobals "MOST_CLOSED" = some (some (.int 200 tk4)))
    (a_ini : PySem.W.findIn K (.ref C) "__init__" = some (some (.ref f_ini)))
    (i_ini : PySem.W.isFn K (.ref f_ini) = true)
    (l_ini : K.lookup f_ini = some ⟨oc_ini, od_ini, .func (PySem.W.fnOf "__init__" "House.__init__" (defArgs s_House___init__) (defBody s_House___init__) (defScope s_House___init__) .none kV_ini dc_ini pm_ini an_ini (.ref c8_ini) ct_ini), sl_ini⟩)
    (c_ini : PySem.W.codeIn K (.ref c8_ini) "House.__init__" = true)
    (k_ini : PySem.W.keepIn K (.ref f_ini) = true)
    (a_al : PySem.W.nsIn K mainGlobals "_are_long" = some (some (.ref f_al)))
    (l_al : K.lookup f_al = some ⟨oc_al, od_al, .func (PySem.W.fnOf "_are_long" "_are_long" (defArgs s__are_long) (defBody s__are_long) (defScope s__are_long) .none kV_al dc_al pm_al an_al (.ref c8_al) ct_al), sl_al⟩)
    (c_al : PySem.W.codeIn K (.ref c8_al) "_are_long" = true)
    (k_al : PySem.W.keepIn K (.ref f_al) = true)
    (a_ipl : PySem.W.findIn K (.ref C) "is_place" = some (some (.ref f_ipl)))
    (i_ipl : PySem.W.isFn K (.ref f_ipl) = true)
    (l_ipl : K.lookup f_ipl = some ⟨oc_ipl, od_ipl, .func (PySem.W.fnOf "is_place" "House.is_place" (defArgs s_House_is_place) (defBody s_House_is_place) (defScope s_House_is_place) .none kV_ipl dc_ipl pm_ipl an_ipl cd_ipl ct_ipl), sl_ipl⟩)
    (c_ipl : PySem.W.codeIn K cd_ipl "House.is_place" = true)
    (k_ipl : PySem.W.keepIn K (.ref f_ipl) = true)
    (a_ilk : PySem.W.findIn K (.ref C) "is_link" = some (some (.ref f_ilk)))
    (i_ilk : PySem.W.isFn K (.ref f_ilk) = true)
    (l_ilk : K.lookup f_ilk = some ⟨oc_ilk, od_ilk, .func (PySem.W.fnOf "is_link" "House.is_link" (defArgs s_House_is_link) (defBody s_House_is_link) (defScope s_House_is_link) .none kV_ilk dc_ilk pm_ilk an_ilk cd_ilk ct_ilk), sl_ilk⟩)
    (c_ilk : PySem.W.codeIn K cd_ilk "House.is_link" = true)
    (k_ilk : PySem.W.keepIn K (.ref f_ilk) = true)
    (a_icl : PySem.W.findIn K (.ref C) "is_closed" = some (some (.ref f_icl)))
    (i_icl : PySem.W.isFn K (.ref f_icl) = true)
    (l_icl : K.lookup f_icl = some ⟨oc_icl, od_icl, .func (PySem.W.fnOf "is_closed" "House.is_closed" (defArgs s_House_is_closed) (defBody s_House_is_closed) (defScope s_House_is_closed) .none kV_icl dc_icl pm_icl an_icl cd_icl ct_icl), sl_icl⟩)
    (c_icl : PySem.W.codeIn K cd_icl "House.is_closed" = true)
    (k_icl : PySem.W.keepIn K (.ref f_icl) = true)
    (a_lno : PySem.W.findIn K (.ref C) "length_of" = some (some (.ref f_lno)))
    (i_lno : PySem.W.isFn K (.ref f_lno) = true)
    (l_lno : K.lookup f_lno = some ⟨oc_lno, od_lno, .func (PySem.W.fnOf "length_of" "House.length_of" (defArgs s_House_length_of) (defBody s_House_length_of) (defScope s_House_length_of) .none kV_lno dc_lno pm_lno an_lno cd_lno ct_lno), sl_lno⟩)
    (c_lno : PySem.W.codeIn K cd_lno "House.length_of" = true)
    (k_lno : PySem.W.keepIn K (.ref f_lno) = true)
    (a_btw : PySem.W.findIn K (.ref C) "link_between" = some (some (.ref f_btw)))
    (i_btw : PySem.W.isFn K (.ref f_btw) = true)
    (l_btw : K.lookup f_btw = some ⟨oc_btw, od_btw, .func (PySem.W.fnOf "link_between" "House.link_between" (defArgs s_House_link_between) (defBody s_House_link_between) (defScope s_House_link_between) .none kV_btw dc_btw pm_btw an_btw cd_btw ct_btw), sl_btw⟩)
    (c_btw : PySem.W.codeIn K cd_btw "House.link_between" = true)
    (k_btw : PySem.W.keepIn K (.ref f_btw) = true)
    (a_cross : PySem.W.nsIn K mainGlobals "_cross_heights" = some (some (.ref f_cross)))
    (l_cross : K.lookup f_cross = some ⟨oc_cross, od_cross, .func (PySem.W.fnOf "_cross_heights" "_cross_heights" (defArgs s__cross_heights) (defBody s__cross_heights) (defScope s__cross_heights) .none kV_cross dc_cross pm_cross an_cross cd_cross ct_cross), sl_cross⟩)
    (c_cross : PySem.W.codeIn K cd_cross "_cross_heights" = true)
    (k_cross : PySem.W.keepIn K (.ref f_cross) = true)
    (a_wf : PySem.W.nsIn K mainGlobals "walk_fault" = some (some (.ref f_wf)))
    (l_wf : K.lookup f_wf = some ⟨oc_wf, od_wf, .func (PySem.W.fnOf "walk_fault" "walk_fault" (defArgs s_walk_fault) (defBody s_walk_fault) (defScope s_walk_fault) .none kV_wf dc_wf pm_wf an_wf cd_wf ct_wf), sl_wf⟩)
    (c_wf : PySem.W.codeIn K cd_wf "walk_fault" = true)
    (k_wf : PySem.W.keepIn K (.ref f_wf) = true)
    (a_lw : PySem.W.nsIn K mainGlobals "links_of_walk" = some (some (.ref f_lw)))
    (l_lw : K.lookup f_lw = some ⟨oc_lw, od_lw, .func (PySem.W.fnOf "links_of_walk" "links_of_walk" (defArgs s_links_of_walk) (defBody s_links_of_walk) (defScope s_links_of_walk) .none kV_lw dc_lw pm_lw an_lw cd_lw ct_lw), sl_lw⟩)
    (c_lw : PySem.W.codeIn K cd_lw "links_of_walk" = true)
    (k_lw : PySem.W.keepIn K (.ref f_lw) = true)
    (a_wl : PySem.W.nsIn K mainGlobals "walk_length" = some (some (.ref f_wl)))
    (l_wl : K.lookup f_wl = some ⟨oc_wl, od_wl, .func (PySem.W.fnOf "walk_length" "walk_length" (defArgs s_walk_length) (defBody s_walk_length) (defScope s_walk_length) .none kV_wl dc_wl pm_wl an_wl cd_wl ct_wl), sl_wl⟩)
    (c_wl : PySem.W.codeIn K cd_wl "walk_length" = true)
    (k_wl : PySem.W.keepIn K (.ref f_wl) = true)
    (a_row : PySem.W.nsIn K mainGlobals "_law_row" = some (some (.ref f_row)))
    (l_row : K.lookup f_row = some ⟨oc_row, od_row, .func (PySem.W.fnOf "_law_row" "_law_row" (defArgs s__law_row) (defBody s__law_row) (defScope s__law_row) .none kV_row dc_row pm_row an_row cd_row ct_row), sl_row⟩)
    (c_row : PySem.W.codeIn K cd_row "_law_row" = true)
    (k_row : PySem.W.keepIn K (.ref f_row) = true)
    (a_num : PySem.W.nsIn K mainGlobals "_law_numbers" = some (some (.ref f_num)))
    (l_num : K.lookup f_num = some ⟨oc_num, od_num, .func (PySem.W.fnOf "_law_numbers" "_law_numbers" (defArgs s__law_numbers) (defBody s__law_numbers) (defScope s__law_numbers) .none kV_num dc_num pm_num an_num cd_num ct_num), sl_num⟩)
    (c_num : PySem.W.codeIn K cd_num "_law_numbers" = true)
    (k_num : PySem.W.keepIn K (.ref f_num) = true)
    (a_ale : PySem.W.nsIn K mainGlobals "_law_all_links" = some (some (.ref f_ale)))
    (l_ale : K.lookup f_ale = some ⟨oc_ale, od_ale, .func (PySem.W.fnOf "_law_all_links" "_law_all_links" (defArgs s__law_all_links) (defBody s__law_all_links) (defScope s__law_all_links) .none kV_ale dc_ale pm_ale an_ale cd_ale ct_ale), sl_ale⟩)
    (c_ale : PySem.W.codeIn K cd_ale "_law_all_links" = true)
    (k_ale : PySem.W.keepIn K (.ref f_ale) = true)
    (a_pa : PySem.W.nsIn K mainGlobals "_law_parts" = some (some (.ref f_pa)))
    (l_pa : K.lookup f_pa = some ⟨oc_pa, od_pa, .func (PySem.W.fnOf "_law_parts" "_law_parts" (defArgs s__law_parts) (defBody s__law_parts) (defScope s__law_parts) .none kV_pa dc_pa pm_pa an_pa cd_pa ct_pa), sl_pa⟩)
    (c_pa : PySem.W.codeIn K cd_pa "_law_parts" = true)
    (k_pa : PySem.W.keepIn K (.ref f_pa) = true)
    (a_lho : PySem.W.nsIn K mainGlobals "_law_house" = some (some (.ref f_lho)))
    (l_lho : K.lookup f_lho = some ⟨oc_lho, od_lho, .func (PySem.W.fnOf "_law_house" "_law_house" (defArgs s__law_house) (defBody s__law_house) (defScope s__law_house) .none kV_lho dc_lho pm_lho an_lho cd_lho ct_lho), sl_lho⟩)
    (c_lho : PySem.W.codeIn K cd_lho "_law_house" = true)
    (k_lho : PySem.W.keepIn K (.ref f_lho) = true)
    (a_lbe : PySem.W.nsIn K mainGlobals "_law_beside" = some (some (.ref f_lbe)))
    (l_lbe : K.lookup f_lbe = some ⟨oc_lbe, od_lbe, .func (PySem.W.fnOf "_law_beside" "_law_beside" (defArgs s__law_beside) (defBody s__law_beside) (defScope s__law_beside) .none kV_lbe dc_lbe pm_lbe an_lbe cd_lbe ct_lbe), sl_lbe⟩)
    (c_lbe : PySem.W.codeIn K cd_lbe "_law_beside" = true)
    (k_lbe : PySem.W.keepIn K (.ref f_lbe) = true)
    (a_ldr : PySem.W.nsIn K mainGlobals "_law_drawn_walk" = some (some (.ref f_ldr)))
    (l_ldr : K.lookup f_ldr = some ⟨oc_ldr, od_ldr, .func (PySem.W.fnOf "_law_drawn_walk" "_law_drawn_walk" (defArgs s__law_drawn_walk) (defBody s__law_drawn_walk) (defScope s__law_drawn_walk) .none kV_ldr dc_ldr pm_ldr an_ldr cd_ldr ct_ldr), sl_ldr⟩)
    (c_ldr : PySem.W.codeIn K cd_ldr "_law_drawn_walk" = true)
    (k_ldr : PySem.W.keepIn K (.ref f_ldr) = true)
    (a_ldu : PySem.W.nsIn K mainGlobals "_law_due" = some (some (.ref f_ldu)))
    (l_ldu : K.lookup f_ldu = some ⟨oc_ldu, od_ldu, .func (PySem.W.fnOf "_law_due" "_law_due" (defArgs s__law_due) (defBody s__law_due) (defScope s__law_due) .none kV_ldu dc_ldu pm_ldu an_ldu cd_ldu ct_ldu), sl_ldu⟩)
    (c_ldu : PySem.W.codeIn K cd_ldu "_law_due" = true)
    (k_ldu : PySem.W.keepIn K (.ref f_ldu) = true)
    (a_lle : PySem.W.nsIn K mainGlobals "_law_length" = some (some (.ref f_lle)))
    (l_lle : K.lookup f_lle = some ⟨oc_lle, od_lle, .func (PySem.W.fnOf "_law_length" "_law_length" (defArgs s__law_length) (defBody s__law_length) (defScope s__law_length) .none kV_lle dc_lle pm_lle an_lle cd_lle ct_lle), sl_lle⟩)
    (c_lle : PySem.W.codeIn K cd_lle "_law_length" = true)
    (k_lle : PySem.W.keepIn K (.ref f_lle) = true)
    (a_law : PySem.W.nsIn K mainGlobals "law" = some (some (.ref f_law)))
    (l_law : K.lookup f_law = some ⟨oc_law, od_law, .func (PySem.W.fnOf "law" "law" (defArgs s_law) (defBody s_law) (defScope s_law) .none kV_law dc_law pm_law an_law cd_law ct_law), sl_law⟩)
    (c_law : PySem.W.codeIn K cd_law "law" = true)
    (k_law : PySem.W.keepIn K (.ref f_law) = true)
    (z_abs : PySem.W.nsIn K mainGlobals "abs" = some none)
    (z_all : PySem.W.nsIn K mainGlobals "all" = some none)
    (z_bool : PySem.W.nsIn K mainGlobals "bool" = some none)
    (z_int : PySem.W.nsIn K mainGlobals "int" = some none)
    (z_isinstance : PySem.W.nsIn K mainGlobals "isinstance" = some none)
    (z_len : PySem.W.nsIn K mainGlobals "len" = some none)
    (z_list : PySem.W.nsIn K mainGlobals "list" = some none)
    (z_max : PySem.W.nsIn K mainGlobals "max" = some none)
    (z_min : PySem.W.nsIn K mainGlobals "min" = some none)
    (z_range : PySem.W.nsIn K mainGlobals "range" = some none)
    (z_set : PySem.W.nsIn K mainGlobals "set" = some none)
    (z_sorted : PySem.W.nsIn K mainGlobals "sorted" = some none)
    (z_sum : PySem.W.nsIn K mainGlobals "sum" = some none)
    (z_zip : PySem.W.nsIn K mainGlobals "zip" = some none)
    : ∃ fd : FuncData, (∀ (s : Shared) (v : Value), BindsTo s fd ⟨[v], []⟩ [("script", v)]) ∧
      ∀ base : Heap, K.In base → base.Ns mainGlobals mg → TabB base mg c8_ini TI → TabB base mg c8_al TL → FnOk l.prog w K mg base CX0 8 fa fd ["script"] (spLaw K TL TI) := by
  have e := hfa.symm.trans (PySem.W.mg_of X G a_law)
  cases e
  have F_ini : FunC K "__init__" "House.__init__" s_House___init__ f_ini c8_ini _ := ⟨⟨_, _, _, _, _, _, _, _, rfl, l_ini, c_ini⟩, k_ini⟩
  have F_al : FunC K "_are_long" "_are_long" s__are_long f_al c8_al _ := ⟨⟨_, _, _, _, _, _, _, _, rfl, l_al, c_al⟩, k_al⟩
  have F_ipl := fun_mk (st := s_House_is_place) l_ipl c_ipl k_ipl
  have F_ilk := fun_mk (st := s_House_is_link) l_ilk c_ilk k_ilk
  have F_icl := fun_mk (st := s_House_is_closed) l_icl c_icl k_icl
  have F_lno := fun_mk (st := s_House_length_of) l_lno c_lno k_lno
  have F_btw := fun_mk (st := s_House_link_between) l_btw c_btw k_btw
  have F_cross := fun_mk (st := s__cross_heights) l_cross c_cross k_cross
  have F_wf := fun_mk (st := s_walk_fault) l_wf c_wf k_wf
  have F_lw := fun_mk (st := s_links_of_walk) l_lw c_lw k_lw
  have F_wl := fun_mk (st := s_walk_length) l_wl c_wl k_wl
  have F_row := fun_mk (st := s__law_row) l_row c_row k_row
  have F_num := fun_mk (st := s__law_numbers) l_num c_num k_num
  have F_ale := fun_mk (st := s__law_all_links) l_ale c_ale k_ale
  have F_pa := fun_mk (st := s__law_parts) l_pa c_pa k_pa
  have F_lho := fun_mk (st := s__law_house) l_lho c_lho k_lho
  have F_lbe := fun_mk (st := s__law_beside) l_lbe c_lbe k_lbe
  have F_ldr := fun_mk (st := s__law_drawn_walk) l_ldr c_ldr k_ldr
  have F_ldu := fun_mk (st := s__law_due) l_ldu c_ldu k_ldu
  have F_lle := fun_mk (st := s__law_length) l_lle c_lle k_lle
  have F_law := fun_mk (st := s_law) l_law c_law k_law
  have b_ipl := F_ipl.binds (ps := ["self", "place"]) fun _ _ _ _ _ _ us hl => match us, hl with | [_, _], _ => rfl
  have b_ilk := F_ilk.binds (ps := ["self", "link"]) fun _ _ _ _ _ _ us hl => match us, hl with | [_, _], _ => rfl
  have b_icl := F_icl.binds (ps := ["self", "link"]) fun _ _ _ _ _ _ us hl => match us, hl with | [_, _], _ => rfl
  have b_lno := F_lno.binds (ps := ["self", "link"]) fun _ _ _ _ _ _ us hl => match us, hl with | [_, _], _ => rfl
  have b_btw := F_btw.binds (ps := ["self", "one", "other"]) fun _ _ _ _ _ _ us hl => match us, hl with | [_, _, _], _ => rfl
  have b_cross := F_cross.binds (ps := ["lengths"]) fun _ _ _ _ _ _ us hl => match us, hl with | [_], _ => rfl
  have b_wf := F_wf.binds (ps := ["house", "walk"]) fun _ _ _ _ _ _ us hl => match us, hl with | [_, _], _ => rfl
  have b_lw := F_lw.binds (ps := ["house", "walk"]) fun _ _ _ _ _ _ us hl => match us, hl with | [_, _], _ => rfl
  have b_wl := F_wl.binds (ps := ["house", "walk"]) fun _ _ _ _ _ _ us hl => match us, hl with | [_, _], _ => rfl
  have b_row := F_row.binds (ps := ["cell", "many"]) fun _ _ _ _ _ _ us hl => match us, hl with | [_, _], _ => rfl
  have b_num := F_num.binds (ps := ["script", "many"]) fun _ _ _ _ _ _ us hl => match us, hl with | [_, _], _ => rfl
  have b_ale := F_ale.binds (ps := ["lengths", "gaps"]) fun _ _ _ _ _ _ us hl => match us, hl with | [_, _], _ => rfl
  have b_pa := F_pa.binds (ps := ["numbers", "at"]) fun _ _ _ _ _ _ us hl => match us, hl with | [_, _], _ => rfl
  have b_lho := F_lho.binds (ps := ["parts"]) fun _ _ _ _ _ _ us hl => match us, hl with | [_], _ => rfl
  have b_lbe := F_lbe.binds (ps := ["parts"]) fun _ _ _ _ _ _ us hl => match us, hl with | [_], _ => rfl
  have b_ldr := F_ldr.binds (ps := ["beside", "numbers", "at", "many"]) fun _ _ _ _ _ _ us hl => match us, hl with | [_, _, _, _], _ => rfl
  have b_ldu := F_ldu.binds (ps := ["beside", "walk"]) fun _ _ _ _ _ _ us hl => match us, hl with | [_, _], _ => rfl
  have b_lle := F_lle.binds (ps := ["house", "walk"]) fun _ _ _ _ _ _ us hl => match us, hl with | [_, _], _ => rfl
  have b_law := F_law.binds (ps := ["script"]) fun _ _ _ _ _ _ us hl => match us, hl with | [_], _ => rfl
  have D : DrawTxt mg f_row := ⟨PySem.W.mg_none_of X G z_abs, PySem.W.mg_none_of X G z_int, PySem.W.mg_none_of X G z_range, PySem.W.mg_none_of X G z_len, PySem.W.mg_none_of X G z_max, PySem.W.mg_of X G a_row⟩
  have Y : HouseTop mg := { all := PySem.W.mg_none_of X G z_all, len := PySem.W.mg_none_of X G z_len, sum := PySem.W.mg_none_of X G z_sum, list := PySem.W.mg_none_of X G z_list, sorted := PySem.W.mg_none_of X G z_sorted, range := PySem.W.mg_none_of X G z_range, longest := ⟨tk1, PySem.W.mg_of X G cL⟩, stretches := ⟨tk2, PySem.W.mg_of X G cS⟩, mostGaps := ⟨tk3, PySem.W.mg_of X G cG⟩, mostClosed := ⟨tk4, PySem.W.mg_of X G cC⟩ }
  have T : HouseTxt K mg C := { cl := ⟨pg_C, hd_C, po_C, sa_C⟩, nL := nplengths, nG := npgaps, nX := npcrosses, nT := nptop, nC := npclosed }
  have UCI : ErrTxt K mg CI "InvalidHouse" := { gI := PySem.W.mg_of X G a_CI, kI := kpCI, xI := exCI, bI := sbCI, tI := tyCI }
  have UCL : ErrTxt K mg CL "InvalidLink" := { gI := PySem.W.mg_of X G a_CL, kI := kpCL, xI := exCL, bI := sbCL, tI := tyCL }
  have F_iCP := fun_mk (st := s_InvalidWalk___init__) l_iCP c_iCP k_iCP
  have b_iCP := F_iCP.binds (ps := ["self", "number"]) fun _ _ _ _ _ _ us hl => match us, hl with | [_, _], _ => rfl
  have UP : WlkTxt K mg CP f_iCP := { g := PySem.W.mg_of X G a_CP, o := ⟨⟨nm0, qn0, N0, bs0, _, sn0, sb0, ab0, co0, dd0, ma0, mb0, mc0, md0, me0, xlCP, rfl⟩, saCP, sbCP, tyCP, kpCP⟩, n := noCP, i := a_iCP, y := tiCP }
  have LT : LawTop mg := { int := PySem.W.mg_none_of X G z_int, len := PySem.W.mg_none_of X G z_len, sum := PySem.W.mg_none_of X G z_sum, max := PySem.W.mg_none_of X G z_max, range := PySem.W.mg_none_of X G z_range }
  have m_ipl : Meth K C "is_place" f_ipl := ⟨a_ipl, i_ipl, k_ipl⟩
  have m_ilk : Meth K C "is_link" f_ilk := ⟨a_ilk, i_ilk, k_ilk⟩
  have m_icl : Meth K C "is_closed" f_icl := ⟨a_icl, i_icl, k_icl⟩
  have m_lno : Meth K C "length_of" f_lno := ⟨a_lno, i_lno, k_lno⟩
  have m_btw : Meth K C "link_between" f_btw := ⟨a_btw, i_btw, k_btw⟩
  have bI : Binds K _ ["self", "lengths", "gaps", "closed"] [] := (fun_mk (st := s_House___init__) l_ini c_ini k_ini).binds (ps := ["self", "lengths", "gaps", "closed"]) fun _ _ _ _ _ _ us hl => match us, hl with | [_, _, _, _], _ => rfl
  have bA : Binds K _ ["numbers"] [] := (fun_mk (st := s__are_long) l_al c_al k_al).binds (ps := ["numbers"]) fun _ _ _ _ _ _ us hl => match us, hl with | [_], _ => rfl
  refine ⟨PySem.W.fnOf "law" "law" (defArgs s_law) (defBody s_law) (defScope s_law) .none kV_law dc_law pm_law an_law cd_law ct_law, fun s v => .of_eq rfl, fun base _ _ TBI TBA => ?_⟩
  have gLk := ok_link (P := l.prog) (w := w) (mg := mg) (base := base) F_ilk Y T
  have gPl := ok_is_place (P := l.prog) (w := w) (mg := mg) (base := base) F_ipl Y T
  have gCl := ok_is_closed (P := l.prog) (w := w) (mg := mg) (base := base) F_icl T
  have gLn := ok_length_of (P := l.prog) (w := w) (mg := mg) (base := base) F_lno Y T UCL gLk b_ilk m_ilk
  have gBt := ok_between (P := l.prog) (w := w) (mg := mg) (base := base) F_btw (PySem.W.mg_none_of X G z_min) (PySem.W.mg_none_of X G z_max) T gLk b_ilk m_ilk gCl b_icl m_icl
  have gFa := ok_fault (P := l.prog) (w := w) (mg := mg) (base := base) F_wf T (PySem.W.mg_none_of X G z_len) (PySem.W.mg_none_of X G z_range) gPl b_ipl m_ipl gBt b_btw m_btw
  have gLi := ok_links (P := l.prog) (w := w) (mg := mg) (base := base) F_lw T (PySem.W.mg_none_of X G z_zip) UP (ok_wlkinit F_iCP) b_iCP k_wf gFa b_wf (PySem.W.mg_of X G a_wf) gBt b_btw m_btw
  have gWl := ok_wlen (P := l.prog) (w := w) (mg := mg) (base := base) F_wl T (PySem.W.mg_none_of X G z_sum) k_lw gLi b_lw (PySem.W.mg_of X G a_lw) gLn b_lno m_lno
  have gAl := ok_alle (P := l.prog) (w := w) (mg := mg) (base := base) F_ale (PySem.W.mg_none_of X G z_sum) (PySem.W.mg_none_of X G z_len) (PySem.W.mg_none_of X G z_range) (PySem.W.mg_none_of X G z_sorted) (PySem.W.mg_none_of X G z_set)
  let ZM : HouseM l.prog w K mg base := { C := C, CI := CI, TL := TL, TI := TI, fI := f_ini, fdI := _, M := ⟨mk_C, a_ini, i_ini, kc_C⟩, GI := ok_house F_ini TBI Y T UCI F_ilk b_ilk m_ilk F_al TBA bA (PySem.W.mg_of X G a_al) F_cross b_cross (PySem.W.mg_of X G a_cross), bI := bI, mgC := PySem.W.mg_of X G a_C, cl := T.cl }
  let ZL : WLenM l.prog w K mg base C := { CW := CP, CP := Pe, gW := PySem.W.mg_of X G a_CP, gP := PySem.W.mg_of X G a_Pe, eW := PySem.W.exm_ref sbCP dcCP tyCP ssCP, xW := ⟨gaCP, ggCP, sbCP, dcCP⟩, nW := noCP, f := f_wl, fd := _, G := gWl, b := b_wl, g := PySem.W.mg_of X G a_wl, kp := k_wl }
  let Z : WalkZ l.prog w K mg base := { C := C, TL := TL, TI := TI, int := LT.int, len := LT.len, sum := LT.sum, range := LT.range, sorted := PySem.W.mg_none_of X G z_sorted, list := PySem.W.mg_none_of X G z_list, isi := PySem.W.mg_none_of X G z_isinstance, bool := PySem.W.mg_none_of X G z_bool, Nu := ⟨f_num, _, ok_numbers F_num D F_row b_row, b_num, PySem.W.mg_of X G a_num, k_num⟩, Pa := ⟨f_pa, _, ok_parts F_pa LT k_ale gAl b_ale (PySem.W.mg_of X G a_ale), b_pa, PySem.W.mg_of X G a_pa, k_pa⟩, Ho := ⟨f_lho, _, ok_mkh F_lho ZM (PySem.W.mg_none_of X G z_list), b_lho, PySem.W.mg_of X G a_lho, k_lho⟩, Be := ⟨f_lbe, _, ok_bes F_lbe (PySem.W.mg_none_of X G z_sum) (PySem.W.mg_none_of X G z_len) (PySem.W.mg_none_of X G z_range) (PySem.W.mg_none_of X G z_sorted) (PySem.W.mg_none_of X G z_list) k_ale gAl b_ale (PySem.W.mg_of X G a_ale), b_lbe, PySem.W.mg_of X G a_lbe, k_lbe⟩, Dr := ⟨f_ldr, _, ok_drawn F_ldr (PySem.W.mg_none_of X G z_sorted) (PySem.W.mg_none_of X G z_int) (PySem.W.mg_none_of X G z_len) (PySem.W.mg_none_of X G z_range), b_ldr, PySem.W.mg_of X G a_ldr, k_ldr⟩, Al := ⟨f_ale, _, gAl, b_ale, PySem.W.mg_of X G a_ale, k_ale⟩, Du := ⟨f_ldu, _, ok_due F_ldu (PySem.W.mg_none_of X G z_len) (PySem.W.mg_none_of X G z_range), b_ldu, PySem.W.mg_of X G a_ldu, k_ldu⟩, Le := ⟨f_lle, _, ok_llen F_lle ZL, b_lle, PySem.W.mg_of X G a_lle, k_lle⟩, Fa := ⟨f_wf, _, gFa, b_wf, PySem.W.mg_of X G a_wf, k_wf⟩ }
  exact ok_law F_law Z
theorem tabB0 {base : Heap} {mg : Str → Option Value} {c P : Addr} (h : LamX.TabB base mg c P) : TabB base mg c P := ⟨h.code, h.bm, h.gP⟩
theorem tabG0 {H : Hp} {P : Addr} (h : H P = some (.tbl #[])) : TabG H P := ⟨#[], h, trivial⟩
theorem walk {l : PySem.W.OpenLaw} {q : Program} {loose : List Str} {XP : (Str → Option Value) → Heap → Prop} {YP : World → Heap → Prop} {d : DefRec} {K : Params → PySem.W.Frag} {cI cA TI TL : Addr}
    (hn : l.most = some 63) (hdf : d.params.defaults = []) (hY : ∀ (w : World) (h : Heap), YP w h → (K w.params).In h) (hT : ∀ (w : World) (h : Heap), YP w h → ∀ P ∈ [TI, TL], h.get? P = some (PySem.W.tabObj #[]))
    (nI : ∀ w : World, (K w.params).lookup TI = none) (nL : ∀ w : World, (K w.params).lookup TL = none) (eI : ∀ w : World, PySem.W.codeHdIn (K w.params) cI TI = true) (eA : ∀ w : World, PySem.W.codeHdIn (K w.params) cA TL = true)
    (F : ∀ (w : World) (mg : Str → Option Value) (fa : Addr) (h : Heap), (K w.params).In h → h.Ns mainGlobals mg → mg d.name = some (.ref fa) →
      ∃ fd : FuncData, (∀ (s : Shared) (u : Value), BindsTo s fd ⟨[u], []⟩ [("script", u)]) ∧
        ∀ base : Heap, (K w.params).In base → base.Ns mainGlobals mg → TabB base mg cI TI → TabB base mg cA TL → FnOk l.prog w (K w.params) mg base CX0 8 fa fd ["script"] (spLaw (K w.params) TL TI)) :
    PySem.W.WalkO q loose XP YP l.row.toRowW d [] (fun f vs => PySem.call f vs) := by
  refine LamX.walk_ofTs (n := 63) (k := 8) (x := "script") (CX := fun _ => CX0) hn (by decide) hdf ⟨rfl, by decide, by decide⟩ hY (fun w mg fa h Y KX G hmg => ?_) (fun _ _ _ _ _ z => z)
  obtain ⟨fd, hb, hF⟩ := F w mg fa h KX G hmg
  refine ⟨fd, [(cI, TI), (cA, TL)], spLaw (K w.params) TL TI, fun p hp => ?_, fun p hp => ?_, fun p hp => ?_, hb, fun H a ns hl _ hS hq => ⟨a, ns, rfl, hq, hl, tabG0 (hS (cA, TL) (by simp)), tabG0 (hS (cI, TI) (by simp)), fun _ => rfl⟩, fun base b1 b2 T => hF base b1 b2 (tabB0 (T (cI, TI) (by simp))) (tabB0 (T (cA, TL) (by simp)))⟩
  · rcases List.mem_cons.mp hp with rfl | hp
    · exact hT w h Y _ (by simp)
    · rw [List.mem_singleton.mp hp]
      exact hT w h Y _ (by simp)
  · rcases List.mem_cons.mp hp with rfl | hp
    · exact nI w
    · rw [List.mem_singleton.mp hp]
      exact nL w
  · rcases List.mem_cons.mp hp with rfl | hp
    · exact PySem.W.codeHd_of_K KX (eI w)
    · rw [List.mem_singleton.mp hp]
      exact PySem.W.codeHd_of_K KX (eA w)
end


end Pk
open PySem PySem.W PyProof.Rows
set_option maxRecDepth 100000 in
set_option maxHeartbeats 0 in
theorem PySem.Challenge.cw_pickaisle_k15_walks_holds : PySem.Challenge.rw_pickaisle_k15_walks.Holds := by
  w_on; o_law; o_head (kmHook hd.heap_39 [2, 3, 15, 17, 18, 20, 21, 22, 29, 30, 31, 32, 35, 42, 43, 44, 47, 54, 55, 56, 59, 66, 68, 69, 71, 72, 73, 74, 75, 78, 85, 87, 88, 90, 91, 92, 93, 94, 97, 99, 100, 102, 103, 104, 107, 108, 109, 112, 113, 121, 124, 125, 126, 128, 129, 131, 132, 133, 134, 136, 137, 139, 140, 141, 142, 144, 145, 147, 148, 149, 150, 152, 153, 155, 156, 157, 158, 160, 161, 163, 164, 165, 166, 168, 169, 171, 172, 173, 175, 176, 178, 179, 180, 182, 183, 185, 186, 187, 189, 190, 192, 193, 194, 196, 197, 199, 200, 201, 204, 205, 206, 208, 209, 211, 212, 213, 215, 216, 218, 219, 220, 222, 223, 225, 226, 227, 229, 230, 232, 233, 234, 236, 237, 239, 240, 241, 243, 244, 246, 247, 248, 250, 251, 253, 254, 255, 257, 258, 260, 261, 262, 263, 264, 265, 266, 269, 271, 272, 274, 275, 276, 278, 279, 281, 282, 283, 285, 286, 288, 289, 290, 292, 293, 295, 296, 297, 299, 300, 302, 303, 304, 307, 308, 309, 311, 312, 314, 315, 316, 318, 319, 321, 322, 323, 325, 326, 328, 329, 330, 333, 334, 335, 337, 338, 340, 341, 342, 344, 345, 347, 348] (fun _ => by kernel_rfl) [122, 270]); (case hw => w_witness2)
  k_fill
  refine Pk.walk (l := PySem.Challenge.rw_pickaisle_k15_walks) (cI := 124) (cA := 274) (TI := 122) (TL := 270) rfl rfl (fun w h Y => km_in_of Y) (fun w h Y => km_tabs_of Y) (fun w => by kernel_rfl) (fun w => by kernel_rfl) (fun w => by kernel_rfl) (fun w => by kernel_rfl) ?F
  case F =>
    intro w mg fa h KX G hmg
    refine' Pk.all_mk KX G hmg ?a_C ?pg_C ?hd_C ?po_C ?sa_C ?mk_C ?kc_C ?nplengths ?npgaps ?npcrosses ?nptop ?npclosed ?a_CI ?kpCI ?exCI ?sbCI ?tyCI ?dcCI ?ssCI ?a_CL ?kpCL ?exCL ?sbCL ?tyCL ?dcCL ?ssCL ?a_CP ?a_Pe ?kpCP ?sbCP ?tyCP ?dcCP ?ssCP ?xlCP ?saCP ?noCP ?gaCP ?ggCP ?a_iCP ?tiCP ?l_iCP ?c_iCP ?k_iCP ?cL ?cS ?cG ?cC ?a_ini ?i_ini ?l_ini ?c_ini ?k_ini ?a_al ?l_al ?c_al ?k_al ?a_ipl ?i_ipl ?l_ipl ?c_ipl ?k_ipl ?a_ilk ?i_ilk ?l_ilk ?c_ilk ?k_ilk ?a_icl ?i_icl ?l_icl ?c_icl ?k_icl ?a_lno ?i_lno ?l_lno ?c_lno ?k_lno ?a_btw ?i_btw ?l_btw ?c_btw ?k_btw ?a_cross ?l_cross ?c_cross ?k_cross ?a_wf ?l_wf ?c_wf ?k_wf ?a_lw ?l_lw ?c_lw ?k_lw ?a_wl ?l_wl ?c_wl ?k_wl ?a_row ?l_row ?c_row ?k_row ?a_num ?l_num ?c_num ?k_num ?a_ale ?l_ale ?c_ale ?k_ale ?a_pa ?l_pa ?c_pa ?k_pa ?a_lho ?l_lho ?c_lho ?k_lho ?a_lbe ?l_lbe ?c_lbe ?k_lbe ?a_ldr ?l_ldr ?c_ldr ?k_ldr ?a_ldu ?l_ldu ?c_ldu ?k_ldu ?a_lle ?l_lle ?c_lle ?k_lle ?a_law ?l_law ?c_law ?k_law ?z_abs ?z_all ?z_bool ?z_int ?z_isinstance ?z_len ?z_list ?z_max ?z_min ?z_range ?z_set ?z_sorted ?z_sum ?z_zip
    (case a_C => k_is)
    (case pg_C => k_is)
    (case hd_C => k_is)
    (case po_C => k_is)
    (case sa_C => k_is)
    (case mk_C => k_is)
    (case kc_C => k_is)
    (case nplengths => k_is)
    (case npgaps => k_is)
    (case npcrosses => k_is)
    (case nptop => k_is)
    (case npclosed => k_is)
    (case a_CI => k_is)
    (case kpCI => k_is)
    (case exCI => k_exc)
    (case sbCI => k_is)
    (case tyCI => k_is)
    (case dcCI => k_is)
    (case ssCI => first | k_is | rfl)
    (case a_CL => k_is)
    (case kpCL => k_is)
    (case exCL => k_exc)
    (case sbCL => k_is)
    (case tyCL => k_is)
    (case dcCL => k_is)
    (case ssCL => first | k_is | rfl)
    (case a_CP => k_is)
    (case a_Pe => k_is)
    (case kpCP => k_is)
    (case sbCP => k_is)
    (case tyCP => k_is)
    (case dcCP => k_is)
    (case ssCP => first | k_is | rfl)
    (case xlCP => k_is)
    (case saCP => k_is)
    (case noCP => k_is)
    (case gaCP => k_is)
    (case ggCP => k_is)
    (case a_iCP => k_is)
    (case tiCP => k_is)
    (case l_iCP => k_is)
    (case c_iCP => k_is)
    (case k_iCP => k_is)
    (case cL => k_is)
    (case cS => k_is)
    (case cG => k_is)
    (case cC => k_is)
    (case a_ini => k_is)
    (case i_ini => k_is)
    (case l_ini => k_is)
    (case c_ini => k_is)
    (case k_ini => k_is)
    (case a_al => k_is)
    (case l_al => k_is)
    (case c_al => k_is)
    (case k_al => k_is)
    (case a_ipl => k_is)
    (case i_ipl => k_is)
    (case l_ipl => k_is)
    (case c_ipl => k_is)
    (case k_ipl => k_is)
    (case a_ilk => k_is)
    (case i_ilk => k_is)
    (case l_ilk => k_is)
    (case c_ilk => k_is)
    (case k_ilk => k_is)
    (case a_icl => k_is)
    (case i_icl => k_is)
    (case l_icl => k_is)
    (case c_icl => k_is)
    (case k_icl => k_is)
    (case a_lno => k_is)
    (case i_lno => k_is)
    (case l_lno => k_is)
    (case c_lno => k_is)
    (case k_lno => k_is)
    (case a_btw => k_is)
    (case i_btw => k_is)
    (case l_btw => k_is)
    (case c_btw => k_is)
    (case k_btw => k_is)
    (case a_cross => k_is)
    (case l_cross => k_is)
    (case c_cross => k_is)
    (case k_cross => k_is)
    (case a_wf => k_is)
    (case l_wf => k_is)
    (case c_wf => k_is)
    (case k_wf => k_is)
    (case a_lw => k_is)
    (case l_lw => k_is)
    (case c_lw => k_is)
    (case k_lw => k_is)
    (case a_wl => k_is)
    (case l_wl => k_is)
    (case c_wl => k_is)
    (case k_wl => k_is)
    (case a_row => k_is)
    (case l_row => k_is)
    (case c_row => k_is)
    (case k_row => k_is)
    (case a_num => k_is)
    (case l_num => k_is)
    (case c_num => k_is)
    (case k_num => k_is)
    (case a_ale => k_is)
    (case l_ale => k_is)
    (case c_ale => k_is)
    (case k_ale => k_is)
    (case a_pa => k_is)
    (case l_pa => k_is)
    (case c_pa => k_is)
    (case k_pa => k_is)
    (case a_lho => k_is)
    (case l_lho => k_is)
    (case c_lho => k_is)
    (case k_lho => k_is)
    (case a_lbe => k_is)
    (case l_lbe => k_is)
    (case c_lbe => k_is)
    (case k_lbe => k_is)
    (case a_ldr => k_is)
    (case l_ldr => k_is)
    (case c_ldr => k_is)
    (case k_ldr => k_is)
    (case a_ldu => k_is)
    (case l_ldu => k_is)
    (case c_ldu => k_is)
    (case k_ldu => k_is)
    (case a_lle => k_is)
    (case l_lle => k_is)
    (case c_lle => k_is)
    (case k_lle => k_is)
    (case a_law => k_is)
    (case l_law => k_is)
    (case c_law => k_is)
    (case k_law => k_is)
    (case z_abs => k_is)
    (case z_all => k_is)
    (case z_bool => k_is)
    (case z_int => k_is)
    (case z_isinstance => k_is)
    (case z_len => k_is)
    (case z_list => k_is)
    (case z_max => k_is)
    (case z_min => k_is)
    (case z_range => k_is)
    (case z_set => k_is)
    (case z_sorted => k_is)
    (case z_sum => k_is)
    (case z_zip => k_is)


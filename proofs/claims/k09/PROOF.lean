import PyProof.Rows.All
import Wide.All
import OpenK.AllK
import Wide.FinOn
import KE.KExcIs
import KE.SortData
import KE.KNestM
import PyProof.StrBlock2
import HandS.ForMost
import HandS.Deep
import HandS.TupSets
import HandS.SortRule
import HandS.ForExc
import HandS.ExcInit
import HandS.ExcIs
import HandS.ExcField
import HandS.ExcValue
import HandS.ExcOwn
import HandS.Property
import HandS.CallSlots
import HandS.Style
import HandS.IsInst
import HandS.Codes
import HandS.TupLen
import HandS.Small
import HandS.EndTab
import HandS.GenList
import HandS.Nested
import HandS.AnyAll
import HandS.DictComp
import HandS.Dict
import HandS.Comp
import HandS.Conv
import HandS.Words
import HandS.WordsExc
import HandS.Text
import HandS.FStr
import KE.DataMinMax
import PySem.Challenge.RW_pickaisle_k09_written_tasks_and_walks
set_option Elab.async false
set_option linter.all false
set_option maxRecDepth 100000
set_option maxHeartbeats 8000000
open PySem PySem.W PyProof.Rows in
open_top hd for PySem.Challenge.rw_pickaisle_k09_written_tasks_and_walks
namespace Pk
open PySem L2
/-! ### errors that are held as values -/
/-- at a: an error of the class at D that is held; fs: its own attributes -/
def XvAt (H : Hp) (a D : Addr) (fs : List (Str × V)) : Prop :=
  (H a = some (ExO (.ref D) a) ∧ fs = []) ∨ ∃ d, H a = some (exo a D (some d)) ∧ H d = some (exd d fs)
theorem XvAt.same {H H' : Hp} {a D : Addr} {fs : List (Str × V)} (h : XvAt H a D fs) (k : Same H H') : XvAt H' a D fs := by
  rcases h with ⟨h, e⟩ | ⟨d, h, e⟩
  · exact .inl ⟨k _ _ h, e⟩
  · exact .inr ⟨d, k _ _ h, k _ _ e⟩
section
variable {X : Cx} {pins : List (Addr × Obj)} {σ : St} {H : Hp} {s : Shared}
theorem xv_inst {a D : Addr} {fs : List (Str × V)} (I : Inv X pins σ H s) (h : XvAt H a D fs) :
    ∃ oe od, PySem.W.InstAt s.heap a oe D od ∧ ∀ (f : Str) (v : V), fs.lookup f = some v → ∃ o u, od = some o ∧ PySem.W.lookIn f o = some (some u) ∧ RelV v u := by
  rcases h with ⟨h, rfl⟩ | ⟨d, h, e⟩
  · obtain ⟨⟨oe, vs, ho, hz, hd, h1, _⟩, _, _⟩ := I.hok a _ h
    refine ⟨oe, none, ⟨ho, hz.1, by unfold PySem.W.notCls; rw [hd], by rw [hz.2]; trivial⟩, fun f v l => ?_⟩
    cases l
  · obtain ⟨t1, ho⟩ := exo_at I.hok h
    obtain ⟨mA, hn, hr⟩ := exd_at I.hok e
    obtain ⟨od, hod, hl⟩ := lookIn_ns hn
    refine ⟨_, some od, ⟨ho, rfl, rfl, hod⟩, fun f v l => ?_⟩
    have q := hr f
    rw [l] at q
    obtain ⟨u, hu, ru⟩ := RelO.some_of q
    exact ⟨od, u, rfl, by rw [hl, hu], ru⟩
end
/-- isinstance(e, c), e an error that is held -/
def rIsV (K : PySem.W.Frag) : List V → Hp → VK → Prop := fun xs H Q => ∃ (a D : Addr) (fs : List (Str × V)) (c : V) (cv : Value) (b : Bool),
  xs = [.ref a, c] ∧ XvAt H a D fs ∧ ExcC K D ∧ (∀ u, RelV c u → u = cv) ∧ PySem.W.kitOne K (.ref D) cv = some b ∧ Q (.bl b) H
theorem call_isV {X : Cx} : CallR X (.builtin "isinstance") (rIsV X.K) := by
  intro pins s σ H xs us Q I r h
  obtain ⟨a, D, fs, c, cv, b, rfl, hx, C, hcv, e, q⟩ := h
  cases r with
  | cons rx rr =>
    cases rr with
    | cons rt rr =>
      cases rr
      cases rx
      obtain rfl := hcv _ rt
      obtain ⟨oe, od, J, _⟩ := xv_inst I hx
      have hcl : (PySem.W.clsIn X.K D).isSome = true := by
        obtain ⟨cd, hc, _⟩ := PySem.W.any_some C.hd
        rw [hc]
        rfl
      exact PySem.W.kia_one (PySem.W.kitx_exc hcl C.hg C.hk C.hs C.ha C.hn C.ht C.hm) I.kIn J e (fun z => nomatch z)
        fun tk => ⟨.bl b, H, I.kept (t' := tk) (fun _ _ z => z), rfl, q⟩
/-- e.f, e an error that is held -/
def tXvF (K : PySem.W.Frag) (n : Str) (te : TE) : TE := fun σ H Q => te σ H fun x H1 => ∃ (a C : Addr) (fs : List (Str × V)) (v : V),
  x = .ref a ∧ XvAt H1 a C fs ∧ XfC K C ∧ PySem.W.findIn K (.ref C) n = some none ∧ fs.lookup n = some v ∧ Q v H1
theorem pe_xvF {X : Cx} {e : Expr} {te : TE} {pos : Pos} {n : Str} (he : PE X e te) (hb : attributeBase e n X.env (eval e X.env) = eval e X.env := by rfl) :
    PE X (.Attribute e n pos) (tXvF X.K n te) := by
  refine ⟨fun pins s σ H Q I h => attr_of hb (thn (he.run pins s σ H _ I h) fun u s1 hh => ?_)⟩
  obtain ⟨x, H1, I1, rx, a, C, fs, v, rfl, hx, T, hno, l, q⟩ := hh
  obtain rfl : u = Value.ref a := rx
  obtain ⟨oe, od, J, hf⟩ := xv_inst I1 hx
  obtain ⟨o, u, rfl, hl, ru⟩ := hf n v l
  exact HandSPX.exc_get I1.kIn J T.ga T.gg T.exC (PySem.W.findObj_own T.hdC hno rfl hl) (handed_of ru) ⟨v, H1, I1.tok _, ru, q⟩
/-- C(e, ..) as a value, C an own class of errors whose __init__ keeps sp -/
def tMkV (C : Addr) (sp : Sp) (dvs : List V) (ta : TA) : TE := fun σ H Q => ta σ H fun vs H1 => vs.length ≤ 1000 ∧ ∀ a, H1 a = none →
  sp (.ref a :: (vs ++ dvs)) (upd H1 a (exo a C none)) (fun v H2 => v = .non ∧ Q (.ref a) H2) (fun _ _ _ => False)
section
variable {X : Cx} {e : Expr} {es : List Expr} {te : TE} {ta : TA} {p pos : Pos}
theorem pe_oexV {CX : CXT} {x : Str} {C fI : Addr} {k : Nat} {fd : FuncData} {ps : List Str} {sp : Sp} {ds : List Value} {dvs : List V} (T : OexC X.K C)
    (iC : PySem.W.findIn X.K (.ref C) "__init__" = some (some (.ref fI))) (tI : PySem.W.typeIn X.K (.ref fI) = some (.type "function"))
    (F1 : FnOk X.prog X.w X.K X.mg X.base CX k fI fd ps sp) (hr : Room (k + 1) X.A) (hb : Binds X.K fd ps ds) (hd : Vals dvs ds) (hx : Passes CX X (fun _ _ _ => False)) (hg : Gl X x) (hm : X.mg x = some (.ref C)) (ha : PA X (e :: es) ta)
    (hdb : (x == ("__debug__" : Str)) = false := by decide) (he : starEach (e :: es) X.env = (false, eval e X.env) :: starEach es X.env := by rfl) (hpl : (backTo pos (starEach es X.env)).any (·.1) = false := by rfl) :
    PE X (.Call (.Name x p) (e :: es) [] pos) (tMkV C sp dvs ta) := by
  refine ⟨fun pins s σ H Q I h => ?_⟩
  obtain ⟨nm, qn, N, bs, bm, sn, sb, ab, co, dd, k0, k1, k2, k3, k5, hC, hbm⟩ := T.cls
  refine wpAny_Call_Name_kw (ld_glob I hg hm ?_ hdb)
  refine PySem.W.callWith_K (h₀ := X.base) I.ok.mod.kin T.kC (thn (ha.run pos pins s σ H _ I h) fun us s1 hh => ?_) he hpl
  obtain ⟨vs, H1, I1, r1, hz, q1⟩ := hh
  refine ⟨I1.kIn, ?_⟩
  show wpAny _ _ (call (.ref C) us) _ _ _
  obtain ⟨hp, g, dr, tk, os⟩ := s1
  have hsz : hp.objs.size ≤ hp.objs.size + 1 := Nat.le_add_right _ 1
  have hn : H1 (hp.objs.size + 1) = none := I1.hok.fresh hsz
  have kk : ∀ b o, hp.get? b = some o → ((hp.push (PySem.W.kdv_tup us)).push (PySem.HandSPX.excO C hp.objs.size)).get? b = some o :=
    fun b o z => Heap.get?_push_of_some _ (Heap.get?_push_of_some _ z)
  have hget : ((hp.push (PySem.W.kdv_tup us)).push (PySem.HandSPX.excO C hp.objs.size)).get? (hp.objs.size + 1) = some (PySem.HandSPX.excO C hp.objs.size) := by
    heap_get
  have I2 : Inv X pins σ (upd H1 (hp.objs.size + 1) (exo (hp.objs.size + 1) C none))
      ⟨(hp.push (PySem.W.kdv_tup us)).push (PySem.HandSPX.excO C hp.objs.size), g, dr, tk, os⟩ := I1.laid (t' := tk) kk hsz (exo_ok hget)
  have r2 : Vals (V.ref (hp.objs.size + 1) :: (vs ++ dvs)) (Value.ref (hp.objs.size + 1) :: (us ++ ds)) := .cons rfl (r1.append hd)
  have hq := q1 (hp.objs.size + 1) hn
  have hl : (Value.ref (hp.objs.size + 1) :: us ++ ds).length = ps.length := by
    have z := r2.length
    rw [F1.len _ _ _ _ hq] at z
    exact z.symm
  have hus : us.length ≤ sizeLine := by
    have z := Paired.length r1
    rw [sizeLine_eq]
    omega
  refine wpAny_call (PySem.HandSPX.call_own F.excBase_ValueError (fun Y => PySem.HandSPX.refsVE_contains Y bm hbm) (I1.kIn _ _ hC)
    (PySem.W.looks_findIn I1.kIn iC) (fun self => PySem.W.bind_fn I1.kIn self tI) hus ?_)
  refine codeAny_mono (F1.run _ X.stack _ _ ⟨Value.ref (hp.objs.size + 1) :: us, []⟩ (Value.ref (hp.objs.size + 1) :: (us ++ ds)) _ _
    (fun _ _ _ => False) (hr.make C us []) (I2.env0.make C us []) (hb _ (Value.ref (hp.objs.size + 1) :: us) I2.kIn hl) r2 hq) fun r s' hq' => ?_
  cases r with
  | error er => exact hx pins σ _ _ er s' I2 hq'
  | ok fl =>
    cases fl with
    | ret u =>
      obtain ⟨v, H3, I3, rv, ev, q3⟩ := I2.after hq'
      subst ev
      exact ⟨rv, V.ref (hp.objs.size + 1), H3, I3, rfl, q3⟩
    | next => exact hq'.elim
    | brk => exact hq'.elim
    | cont => exact hq'.elim
end
/-- __init__(self, v): self.f = v, of an own class of errors -/
def spXI (K : PySem.W.Frag) (C : Addr) (f : Str) : Sp := fun vs H Q _ => ∃ (a : Addr) (v : V), vs = [.ref a, v] ∧ OexC K C ∧ PySem.W.findIn K (.ref C) f = some none ∧ H a = some (exo a C none) ∧
  ∀ dx, H dx = none → dx ≠ a → Q .non (upd (upd H dx (exd dx [(f, v)])) a (exo a C (some dx)))
/-- text * n -/
theorem op_rep_str {X : Cx} : OpR X (binaryOp .Mult) (fun x y H Q => ∃ z i, x = .str z ∧ y = .int i ∧ MulOk z i ∧ Q (.str (Txt.mul z i)) H) := by
  intro pins s σ H x y v u Q I rx ry h
  obtain ⟨z, i, rfl, rfl, hc, q⟩ := h
  obtain ⟨t, rfl⟩ := rx
  obtain ⟨t', rfl⟩ := ry
  exact SB.mul hc fun t' k => ⟨.str (Txt.mul z i), H, I.tok _, ⟨_, rfl⟩, q⟩

/-! ### places: tuples of two numbers, lists of them -/
abbrev Pl := Int × Int
/-- v is a tuple that holds the place p -/
def Pr (H : Hp) (v : V) (p : Pl) : Prop := ∃ t, v = .ref t ∧ H t = some (.tup [.int p.1, .int p.2])
theorem Pr.same {H H' : Hp} {v : V} {p : Pl} (h : Pr H v p) (k : Same H H') : Pr H' v p := by
  obtain ⟨t, rfl, h⟩ := h
  exact ⟨t, rfl, k _ _ h⟩
inductive Prs (H : Hp) : List V → List Pl → Prop
  | nil : Prs H [] []
  | cons {v : V} {p : Pl} {vs : List V} {ps : List Pl} : Pr H v p → Prs H vs ps → Prs H (v :: vs) (p :: ps)
theorem Prs.same {H H' : Hp} {vs : List V} {ps : List Pl} (h : Prs H vs ps) (k : Same H H') : Prs H' vs ps := by
  induction h with
  | nil => exact .nil
  | cons a _ ih => exact .cons (a.same k) ih
theorem Prs.len {H : Hp} {vs : List V} {ps : List Pl} (h : Prs H vs ps) : vs.length = ps.length := by
  induction h with
  | nil => rfl
  | cons a _ ih => exact congrArg (· + 1) ih
theorem Prs.app {H : Hp} {vs us : List V} {ps qs : List Pl} (h : Prs H vs ps) (k : Prs H us qs) : Prs H (vs ++ us) (ps ++ qs) := by
  induction h with
  | nil => exact k
  | cons a _ ih => exact .cons a ih
theorem Prs.snoc {H : Hp} {vs : List V} {v : V} {ps : List Pl} {p : Pl} (h : Prs H vs ps) (k : Pr H v p) : Prs H (vs ++ [v]) (ps ++ [p]) := h.app (.cons k .nil)
theorem Prs.at {H : Hp} {vs : List V} {ps : List Pl} (h : Prs H vs ps) : ∀ {i : Nat} {v : V}, vs[i]? = some v → ∃ p, ps[i]? = some p ∧ Pr H v p := by
  induction h with
  | nil => intro i v e; cases e
  | cons a _ ih =>
    intro i v e
    cases i with
    | zero => cases e; exact ⟨_, rfl, a⟩
    | succ i => exact ih e
theorem Prs.take {H : Hp} {vs : List V} {ps : List Pl} (h : Prs H vs ps) : ∀ n, Prs H (vs.take n) (ps.take n) := by
  induction h with
  | nil => intro n; cases n <;> exact .nil
  | cons a _ ih => intro n; cases n with
    | zero => exact .nil
    | succ n => exact .cons a (ih n)
theorem Prs.drop {H : Hp} {vs : List V} {ps : List Pl} (h : Prs H vs ps) : ∀ n, Prs H (vs.drop n) (ps.drop n) := by
  induction h with
  | nil => intro n; cases n <;> exact .nil
  | cons a r ih => intro n; cases n with
    | zero => exact .cons a r
    | succ n => exact ih n
theorem Prs.mem {H : Hp} {vs : List V} {ps : List Pl} (h : Prs H vs ps) {v : V} (m : v ∈ vs) : ∃ p ∈ ps, Pr H v p := by
  induction h with
  | nil => cases m
  | cons a _ ih =>
    rcases List.mem_cons.mp m with e | m
    · subst e; exact ⟨_, List.mem_cons_self, a⟩
    · obtain ⟨p, hp, k⟩ := ih m
      exact ⟨p, List.mem_cons_of_mem _ hp, k⟩
theorem Prs.rev {H : Hp} {vs : List V} {ps : List Pl} (h : Prs H vs ps) : Prs H vs.reverse ps.reverse := by
  induction h with
  | nil => exact .nil
  | cons a _ ih => rw [List.reverse_cons, List.reverse_cons]; exact ih.snoc a
/-! ### their data -/
def dP (p : Pl) : PyData := .tuple [.int p.1, .int p.2]
def dL (ps : List Pl) : PyData := .list (ps.map dP)
theorem Pr.dp {K : PySem.W.Frag} {H : Hp} {v : V} {p : Pl} (h : Pr H v p) : Dp K H v (dP p) := by
  obtain ⟨t, rfl, h⟩ := h
  exact .tup (SqT.of h) (.cons (.int _) (.cons (.int _) .nil))
theorem Prs.dps {K : PySem.W.Frag} {H : Hp} {vs : List V} {ps : List Pl} (h : Prs H vs ps) : DpAll K H vs (ps.map dP) := by
  induction h with
  | nil => exact .nil
  | cons a _ ih => exact .cons a.dp ih
theorem Prs.dl {K : PySem.W.Frag} {H : Hp} {l : Addr} {vs : List V} {ps : List Pl} (h : Prs H vs ps) (e : SqL K H l vs) : Dp K H (.ref l) (dL ps) := .lst e h.dps
theorem eqv_int (a b : Int) : PyData.eqv (.int a) (.int b) = decide (a = b) := by
  rw [PyData.eqv]
  rfl
theorem eqv_dP (p q : Pl) : PyData.eqv (dP p) (dP q) = decide (p = q) := by
  obtain ⟨a, b⟩ := p
  obtain ⟨c, d⟩ := q
  show PyData.eqvAll [.int a, .int b] [.int c, .int d] = _
  simp only [PyData.eqvAll, eqv_int, Prod.ext_iff, Bool.and_true, Bool.decide_and]
theorem eqvAll_dP : ∀ ps qs : List Pl, PyData.eqvAll (ps.map dP) (qs.map dP) = decide (ps = qs)
  | [], [] => by simp [PyData.eqvAll]
  | [], _ :: _ => by simp [PyData.eqvAll]
  | _ :: _, [] => by simp [PyData.eqvAll]
  | p :: ps, q :: qs => by
    simp only [List.map_cons, PyData.eqvAll, eqv_dP, eqvAll_dP ps qs, List.cons.injEq]
    by_cases h1 : p = q <;> by_cases h2 : ps = qs <;> simp [h1, h2]
theorem eqv_dL (ps qs : List Pl) : PyData.eqv (dL ps) (dL qs) = decide (ps = qs) := by
  unfold dL
  rw [PyData.eqv, eqvAll_dP]
theorem lay_dPs : ∀ ps : List Pl, PyData.canLayAll0 (ps.map dP) = true
  | [] => rfl
  | _ :: ps => by
    show (true && PyData.canLayAll0 (ps.map dP)) = true
    rw [lay_dPs ps]
    rfl
theorem depth_dPs : ∀ ps : List Pl, PyData.depthAll (ps.map dP) ≤ 1
  | [] => by show 0 ≤ 1; omega
  | _ :: ps => by
    have ih := depth_dPs ps
    show max 1 (PyData.depthAll (ps.map dP)) ≤ 1
    omega
theorem sh_dP (p : Pl) : SeqAt.shaped (dP p) = true := rfl
theorem sh_dL (ps : List Pl) : SeqAt.shaped (dL ps) = true := by
  have h := depth_dPs ps
  unfold SeqAt.shaped dL
  rw [show PyData.canLay0 (.list (ps.map dP)) = PyData.canLayAll0 (ps.map dP) from rfl, lay_dPs]
  refine decide_eq_true ?_
  show PyData.depthAll (ps.map dP) + 1 ≤ 64
  omega
theorem any_dP (ps : List Pl) (p : Pl) : ((ps.map dP).any fun z => PyData.eqv z (dP p)) = decide (p ∈ ps) := by
  induction ps with
  | nil => simp
  | cons q ps ih =>
    rw [List.map_cons, List.any_cons, ih, eqv_dP]
    by_cases h1 : q = p
    · subst h1; simp
    · have h2 : ¬ p = q := fun z => h1 z.symm
      simp [h1, h2]

/-! ### the order of places, lists in order, each place once -/
def lp (p q : Pl) : Prop := p.1 < q.1 ∨ (p.1 = q.1 ∧ p.2 ≤ q.2)
instance : DecidableRel lp := fun p q => inferInstanceAs (Decidable (p.1 < q.1 ∨ (p.1 = q.1 ∧ p.2 ≤ q.2)))
theorem lp_trans {p q r : Pl} (h : lp p q) (k : lp q r) : lp p r := by unfold lp at *; omega
theorem lp_total (p q : Pl) : lp p q ∨ lp q p := by unfold lp; omega
theorem lp_anti {p q : Pl} (h : lp p q) (k : lp q p) : p = q := by
  unfold lp at *
  exact Prod.ext (by omega) (by omega)
def insP (p : Pl) : List Pl → List Pl
  | [] => [p]
  | q :: r => if lp p q then p :: q :: r else q :: insP p r
def sortP : List Pl → List Pl
  | [] => []
  | p :: r => insP p (sortP r)
theorem insP_perm (p : Pl) : ∀ r, (insP p r).Perm (p :: r)
  | [] => .refl _
  | q :: r => by
    unfold insP
    split
    · exact .refl _
    · exact ((insP_perm p r).cons q).trans (.swap p q r)
theorem sortP_perm : ∀ r, (sortP r).Perm r
  | [] => .nil
  | p :: r => (insP_perm p (sortP r)).trans ((sortP_perm r).cons p)
theorem insP_pw (p : Pl) : ∀ {r}, List.Pairwise lp r → (insP p r).Pairwise lp
  | [], _ => List.pairwise_singleton _ _
  | q :: r, h => by
    unfold insP
    have hq : ∀ {x}, x ∈ r → lp q x := fun m => List.rel_of_pairwise_cons h m
    split
    · rename_i c
      refine List.pairwise_cons.mpr ⟨fun x hx => ?_, h⟩
      rcases List.mem_cons.mp hx with e | hx
      · rw [e]; exact c
      · exact lp_trans c (hq hx)
    · rename_i c
      refine List.pairwise_cons.mpr ⟨fun x hx => ?_, insP_pw p (List.Pairwise.of_cons h)⟩
      rcases List.mem_cons.mp ((insP_perm p r).mem_iff.mp hx) with e | hx
      · rw [e]; exact (lp_total p q).resolve_left c
      · exact hq hx
theorem sortP_pw : ∀ r, (sortP r).Pairwise lp
  | [] => .nil
  | p :: r => insP_pw p (sortP_pw r)
theorem pw_uniq : ∀ {a b : List Pl}, a.Perm b → a.Pairwise lp → b.Pairwise lp → a = b
  | [], b, h, _, _ => h.nil_eq
  | p :: a, [], h, _, _ => absurd h.length_eq (by simp)
  | p :: a, q :: b, h, ha, hb => by
    have e : p = q := by
      rcases List.mem_cons.mp (h.mem_iff.mp List.mem_cons_self) with e | m
      · exact e
      · rcases List.mem_cons.mp (h.mem_iff.mpr List.mem_cons_self) with e | m'
        · exact e.symm
        · exact lp_anti (List.rel_of_pairwise_cons ha m') (List.rel_of_pairwise_cons hb m)
    subst e
    rw [pw_uniq ((List.perm_cons p).mp h) ha.of_cons hb.of_cons]
theorem sortP_of {a b : List Pl} (h : a.Perm b) (ha : a.Pairwise lp) : a = sortP b := pw_uniq (h.trans (sortP_perm b).symm) ha (sortP_pw b)
theorem sortP_congr {a b : List Pl} (h : a.Perm b) : sortP a = sortP b := sortP_of ((sortP_perm a).trans h) (sortP_pw a)
theorem sortP_mem {p : Pl} {r : List Pl} : p ∈ sortP r ↔ p ∈ r := (sortP_perm r).mem_iff
theorem sortP_len (r : List Pl) : (sortP r).length = r.length := (sortP_perm r).length_eq
theorem sortP_nd {r : List Pl} : (sortP r).Nodup ↔ r.Nodup := (sortP_perm r).nodup_iff
theorem sortP_id {r : List Pl} (h : r.Pairwise lp) : sortP r = r := (sortP_of (.refl _) h).symm
theorem sortP_idem (r : List Pl) : sortP (sortP r) = sortP r := sortP_id (sortP_pw r)
/-- each place once -/
def nub : List Pl → List Pl
  | [] => []
  | p :: r => if p ∈ r then nub r else p :: nub r
theorem nub_mem {p : Pl} : ∀ {r : List Pl}, p ∈ nub r ↔ p ∈ r
  | [] => Iff.rfl
  | q :: r => by
    unfold nub
    split
    · rename_i h
      rw [nub_mem (r := r), List.mem_cons]
      exact ⟨.inr, fun k => k.elim (fun e => by rw [e]; exact h) id⟩
    · rw [List.mem_cons, List.mem_cons, nub_mem (r := r)]
theorem nub_nd : ∀ r : List Pl, (nub r).Nodup
  | [] => .nil
  | p :: r => by
    unfold nub
    split
    · exact nub_nd r
    · rename_i h
      exact List.nodup_cons.mpr ⟨fun m => h (nub_mem.mp m), nub_nd r⟩
theorem nub_le : ∀ r : List Pl, (nub r).length ≤ r.length
  | [] => Nat.le_refl _
  | p :: r => by
    unfold nub
    have := nub_le r
    split
    · rw [List.length_cons]; omega
    · rw [List.length_cons, List.length_cons]; omega
theorem nub_lt : ∀ r : List Pl, (nub r).length < r.length ↔ ¬ r.Nodup
  | [] => by simp [nub]
  | p :: r => by
    have ih := nub_lt r
    have hl := nub_le r
    unfold nub
    rw [List.nodup_cons]
    split
    · rename_i h
      rw [List.length_cons]
      exact ⟨fun _ k => k.1 h, fun _ => by omega⟩
    · rename_i h
      rw [List.length_cons, List.length_cons, Nat.add_lt_add_iff_right, ih]
      exact ⟨fun k z => k z.2, fun k z => k ⟨h, z⟩⟩
theorem nub_id : ∀ {r : List Pl}, r.Nodup → nub r = r
  | [], _ => rfl
  | p :: r, h => by
    unfold nub
    rw [if_neg (List.nodup_cons.mp h).1, nub_id (List.nodup_cons.mp h).2]
/-- in order, each once -/
def marksP (r : List Pl) : List Pl := sortP (nub r)
theorem marksP_of {a r : List Pl} (hn : a.Nodup) (hm : ∀ p, p ∈ a ↔ p ∈ r) (ho : a.Pairwise lp) : a = marksP r :=
  sortP_of ((List.perm_ext_iff_of_nodup hn (nub_nd r)).mpr fun p => (hm p).trans nub_mem.symm) ho
theorem marksP_congr {a r : List Pl} (h : ∀ p, p ∈ a ↔ p ∈ r) : marksP a = marksP r :=
  sortP_congr ((List.perm_ext_iff_of_nodup (nub_nd a) (nub_nd r)).mpr fun p => nub_mem.trans ((h p).trans nub_mem.symm))
/-! ### the rules -/
theorem perm_lift {α β : Type} {f : α → β} {us vs : List β} (h : us.Perm vs) : ∀ L : List α, us = L.map f → ∃ L1 : List α, vs = L1.map f ∧ L1.Perm L := by
  induction h with
  | nil =>
    intro L e
    cases L with
    | nil => exact ⟨[], rfl, .nil⟩
    | cons b L => cases e
  | cons x _ ih =>
    intro L e
    cases L with
    | nil => cases e
    | cons b L =>
      injection e with e1 e2
      obtain ⟨L1, e3, p⟩ := ih L e2
      exact ⟨b :: L1, by rw [List.map_cons, e1, e3], p.cons b⟩
  | swap x y l =>
    intro L e
    match L, e with
    | b :: c :: L, e =>
      injection e with e1 e
      injection e with e2 e3
      exact ⟨c :: b :: L, by rw [List.map_cons, List.map_cons, e1, e2, e3], .swap b c L⟩
  | trans _ _ ih1 ih2 =>
    intro L e
    obtain ⟨L1, e1, p1⟩ := ih1 L e
    obtain ⟨L2, e2, p2⟩ := ih2 L1 e1
    exact ⟨L2, e2, p2.trans p1⟩
/-- a set of places stands at a -/
def SetOf (P : Program) (w : World) (H : Hp) (a : Addr) (ps : List Pl) : Prop := ∃ L : List (Addr × List Int), H a = some (SetTO P w a L) ∧
  (∀ x ∈ L, ∃ p ∈ ps, x.2 = [p.1, p.2] ∧ H x.1 = some (.tup [.int p.1, .int p.2])) ∧ ∀ p ∈ ps, [p.1, p.2] ∈ L.map (·.2)
section
variable {X : Cx} {pins : List (Addr × Obj)} {σ : St} {H : Hp} {s : Shared}
def toP (x : Addr × List Int) : Pl := (x.2.getD 0 0, x.2.getD 1 0)
theorem setOf_list {P : Program} {w : World} {a : Addr} {ps : List Pl} {L : List (Addr × List Int)}
    (h1 : ∀ x ∈ L, ∃ p ∈ ps, x.2 = [p.1, p.2] ∧ H x.1 = some (.tup [.int p.1, .int p.2])) (h2 : ∀ p ∈ ps, [p.1, p.2] ∈ L.map (·.2)) (nd : (L.map (·.2)).Nodup) :
    (L.map toP).Nodup ∧ ∀ p, p ∈ L.map toP ↔ p ∈ ps := by
  constructor
  · refine List.pairwise_map.mpr (List.Pairwise.imp_of_mem (fun {x y} hx hy ne e => ?_) (List.pairwise_map.mp nd))
    obtain ⟨p, _, ep, _⟩ := h1 x hx
    obtain ⟨q, _, eq, _⟩ := h1 y hy
    unfold toP at e
    rw [ep, eq] at e
    apply ne
    rw [ep, eq]
    have e1 : p.1 = q.1 := (Prod.mk.inj e).1
    have e2 : p.2 = q.2 := (Prod.mk.inj e).2
    rw [e1, e2]
  · intro p
    constructor
    · intro m
      obtain ⟨x, hx, rfl⟩ := List.mem_map.mp m
      obtain ⟨p, hp, ep, _⟩ := h1 x hx
      unfold toP
      rw [ep]
      exact hp
    · intro m
      obtain ⟨x, hx, e⟩ := List.mem_map.mp (h2 p m)
      refine List.mem_map.mpr ⟨x, hx, ?_⟩
      unfold toP
      rw [e]
      rfl
/-- set(xs), xs a list of places -/
def rSetP (K : PySem.W.Frag) (P : Program) (w : World) : List V → Hp → VK → Prop := fun xs H Q => ∃ (l : Addr) (vs : List V) (ps : List Pl), xs = [.ref l] ∧ SqL K H l vs ∧ Prs H vs ps ∧ ps.length < 64 ∧
  ∀ (H' : Hp) (a : Addr), H a = none → Same H H' → SetOf P w H' a ps → Q (.ref a) H'
theorem prs_ks {K : PySem.W.Frag} {vs : List V} {ps : List Pl} (h : Prs H vs ps) : ∃ ks : List (Addr × List Int), vs = ks.map (fun p => V.ref p.1) ∧ (∀ x ∈ ks, ∃ p ∈ ps, x.2 = [p.1, p.2] ∧ H x.1 = some (.tup [.int p.1, .int p.2])) ∧ ks.map (·.2) = ps.map (fun p => [p.1, p.2]) := by
  induction h with
  | nil => exact ⟨[], rfl, fun x hx => (nomatch hx), rfl⟩
  | @cons v p vs ps a _ ih =>
    obtain ⟨t, rfl, ht⟩ := a
    obtain ⟨ks, e, k, m⟩ := ih
    refine ⟨(t, [p.1, p.2]) :: ks, by rw [e]; rfl, fun x hx => ?_, by rw [List.map_cons, m]; rfl⟩
    rcases List.mem_cons.mp hx with z | z
    · subst z
      exact ⟨p, List.mem_cons_self, rfl, ht⟩
    · obtain ⟨q, hq, r⟩ := k x z
      exact ⟨q, List.mem_cons_of_mem _ hq, r⟩
theorem cr_setP (hc : X.calm = true) (hu : X.A.units + 64 < cLine) : CallR X (.type "set") (rSetP X.K X.prog X.w) := by
  intro pins s σ H xs us Q I r h
  obtain ⟨l, vs, ps, rfl, hl, hp, hn, q⟩ := h
  obtain ⟨ks, rfl, hk, hm⟩ := prs_ks (K := X.K) hp
  refine cr_setOfT hc hu pins s σ H [.ref l] us Q I r ⟨l, ks, rfl, hl, fun x hx => ?_, ?_, fun a L ha h1 h2 => ?_⟩
  · obtain ⟨p, _, e, k⟩ := hk x hx
    rw [e]
    exact SqT.of k
  · have e := congrArg List.length hm
    rw [List.length_map, List.length_map] at e
    omega
  · have sm : Same H (upd H a (SetTO X.prog X.w a L)) := fun b o e => by
      rw [upd_ne (ne_of_none e ha)]
      exact e
    refine q _ a ha sm ⟨L, upd_same, fun x hx => ?_, fun p hp => ?_⟩
    · obtain ⟨p, hp, e, k⟩ := hk x (h1 x hx)
      exact ⟨p, hp, e, sm _ _ k⟩
    · have m : [p.1, p.2] ∈ ks.map (·.2) := by
        rw [hm]
        exact List.mem_map.mpr ⟨p, hp, rfl⟩
      obtain ⟨x, hx, e⟩ := List.mem_map.mp m
      rw [← e]
      exact h2 x hx
/-- len(s), s a set of places -/
theorem call_lenP : CallR X (.builtin "len") (fun xs H Q => ∃ (a : Addr) (ps : List Pl), xs = [.ref a] ∧ SetOf X.prog X.w H a ps ∧ Q (.int (nub ps).length) H) := by
  intro pins s σ H xs us Q I r h
  obtain ⟨a, ps, rfl, ⟨L, ha, h1, h2⟩, q⟩ := h
  rw [Vals.ref1 r]
  have R0 : SetT0 X.prog X.w s.heap a L := (I.hok a _ ha).1
  obtain ⟨es, ep, t, R⟩ := R0.full fun x hx => by
    obtain ⟨p, _, e, k⟩ := h1 x hx
    have z : SqT X.K H x.1 (x.2.map V.int) := by rw [e]; exact SqT.of k
    exact I.isT z
  obtain ⟨o, ho, hex, hd⟩ := R.ob
  obtain ⟨n1, n2⟩ := setOf_list (P := X.prog) (w := X.w) (a := a) h1 h2 R0.ex.choose_spec.choose_spec.choose_spec.2.2.2.1
  have hl : L.length = (nub ps).length := by
    have z : (L.map toP).Perm (nub ps) := (List.perm_ext_iff_of_nodup n1 (nub_nd ps)).mpr fun p => (n2 p).trans nub_mem.symm
    have z2 := z.length_eq
    rw [List.length_map] at z2
    exact z2
  have hsz := R.size
  have hfew := R.few
  refine call_len_set ho hex hd R.fits (by omega) ⟨.int (nub ps).length, H, I.tok _, ⟨_, by rw [hsz, hl]⟩, q⟩
end

section
open PyProof.Rows
/-! ### sorted(xs), xs a list of places; sorted(s), s a set of places -/
/-- what place a value stands for -/
def plAt (H : Hp) (v : V) : Pl := match v with
  | .ref t => (match H t with
    | some (.tup [.int a, .int b]) => (a, b)
    | _ => (0, 0))
  | _ => (0, 0)
theorem plAt_of {H : Hp} {v : V} {p : Pl} (h : Pr H v p) : plAt H v = p := by
  obtain ⟨t, rfl, h⟩ := h
  show (match H t with
    | some (.tup [.int a, .int b]) => (a, b)
    | _ => (0, 0)) = p
  rw [h]
theorem prs_plAt {H : Hp} {vs : List V} {ps : List Pl} (h : Prs H vs ps) : vs.map (plAt H) = ps := by
  induction h with
  | nil => rfl
  | cons a _ ih => rw [List.map_cons, ih, plAt_of a]
theorem prs_of_mem {H : Hp} : ∀ {ys : List V}, (∀ y ∈ ys, ∃ p, Pr H y p) → Prs H ys (ys.map (plAt H))
  | [], _ => .nil
  | y :: ys, h => by
    obtain ⟨p, hp⟩ := h y List.mem_cons_self
    refine .cons ?_ (prs_of_mem fun z hz => h z (List.mem_cons_of_mem _ hz))
    rw [plAt_of hp]
    exact hp
theorem prs_perm {H : Hp} {xs ys : List V} {ps : List Pl} (h : Prs H xs ps) (m : ys.Perm xs) : Prs H ys (ys.map (plAt H)) ∧ (ys.map (plAt H)).Perm ps := by
  refine ⟨prs_of_mem fun y hy => ?_, ?_⟩
  · obtain ⟨p, _, k⟩ := h.mem (m.mem_iff.mp hy)
    exact ⟨p, k⟩
  · have e := m.map (plAt H)
    rw [prs_plAt h] at e
    exact e
def rSortP (K : PySem.W.Frag) : List V → Hp → VK → Prop := fun vs H Q => ∃ (a : Addr) (xs : List V) (ps : List Pl), vs = [.ref a] ∧ SqL K H a xs ∧ Prs H xs ps ∧
  ∀ (p : Addr) (ys : List V), H p = none → Prs H ys (sortP ps) → Q (.ref p) (upd H p (.lst ys))
section
variable {X : Cx}
theorem call_sortP : CallR X (.builtin "sorted") (rSortP X.K) := by
  intro pins s σ H vs us Q I r h
  obtain ⟨a, xs, ps, rfl, hs, hp, q⟩ := h
  refine cr_sortedPO pins s σ H [.ref a] us Q I r ⟨a, xs, plAt H, rfl, hs, fun x hx => ?_, fun ys p h1 h2 hn => ?_⟩
  · obtain ⟨p, _, t, e, k⟩ := hp.mem hx
    refine ⟨t, e, ?_⟩
    have z : plAt H x = p := plAt_of ⟨t, e, k⟩
    rw [z]
    exact k
  · obtain ⟨k1, k2⟩ := prs_perm hp h2.perm
    have e : ys.map (plAt H) = sortP ps := sortP_of k2 (List.pairwise_map.mpr (List.Pairwise.imp (fun {x y} z => by
      have z1 : SrtO.lexB (plAt H y) (plAt H x) = false := z
      have z2 := SrtO.lexB_no.mp z1
      unfold lp
      omega) h1))
    rw [e] at k1
    exact q p ys hn k1
def rSortS (P : Program) (w : World) : List V → Hp → VK → Prop := fun vs H Q => ∃ (a : Addr) (ps : List Pl), vs = [.ref a] ∧ SetOf P w H a ps ∧
  ∀ (p : Addr) (ys : List V), H p = none → Prs H ys (marksP ps) → Q (.ref p) (upd H p (.lst ys))
theorem eachIs_map {α β : Type} {R : α → β → Prop} (f : β → α) : ∀ {bs : List β}, (∀ b ∈ bs, R (f b) b) → PySem.W.EachIs R (bs.map f) bs
  | [], _ => .nil
  | b :: bs, h => .cons (h b List.mem_cons_self) (eachIs_map f fun c hc => h c (List.mem_cons_of_mem _ hc))
theorem eachIs_back {α β : Type} {f : β → α} : ∀ {out : List α} {bs : List β}, PySem.W.EachIs (fun v b => v = f b) out bs → out = bs.map f
  | _, _, .nil => rfl
  | _, _, .cons e r => by rw [e, eachIs_back r]; rfl
theorem reads_two {h : Heap} {t : Addr} {a b : Int} (k : TS.TupInts h (.ref t) [a, b]) : ∃ as, Reads h (.ref t) (.tuple [.int a, .int b]) as ∧ as = [] := by
  obtain ⟨t', its, e, ⟨o, ho, hc, n, hd⟩, hi⟩ := k
  cases e
  generalize he : its.toList = l at hi
  cases hi with
  | cons _ t1 hi =>
    cases hi with
    | cons _ t2 hi =>
      cases hi
      exact ⟨[], .tuple ho hc hd (by rw [he]; exact .cons (.int _ _) (.cons (.int _ _) .nil)), rfl⟩
section
variable {P : Program} {w : World} {A : Around} {E : Value → Shared → Prop} {s : Shared}
theorem sorted_setP {a : Addr} {L : List (Addr × List Int)} {es : Array (Int × Value)} {ep : Nat} {t : SetTable} {Q : Value → Shared → Prop} (R : SetTR P w s.heap a L es ep t) (hh : A.handled = none) (hu : A.units + 64 < cLine)
    (hxy : ∀ b ∈ L, b.2 = [(toP b).1, (toP b).2])
    (hQ : ∀ (s' : Shared) (p : Addr) (out : Array Value) (c : Nat) (L' : List (Addr × List Int)), (∀ b o, s.heap.get? b = some o → s'.heap.get? b = some o) → s'.gens = s.gens → s'.os = s.os → s.heap.objs.size ≤ p →
      s'.heap.get? p = some (seqObj "list" out c) → out.toList = L'.map (fun q => Value.ref q.1) → L'.Perm L → L'.Pairwise (fun q r => lp (toP q) (toP r)) → Q (.ref p) s') :
    wpAny (model P w) A (call (.builtin "sorted") [.ref a]) Q E s := by
  obtain ⟨so, sho, shex, shd⟩ := R.ob
  have ssz := R.size
  have sfew := R.few
  have hcl : cLine = 10000 ∨ True := .inr trivial
  refine Calls.call_function_entry kind_sorted plain_sorted entry_sorted (args_sorted1 _) ?_
  unfold Builtin.«sorted»
  refine wpAny_bind (m := checkCount "sorted" 1 1 _) (wpAny_pure ?_)
  refine wpAny_bind (collect_set (A := A.in1) hh ⟨so, sho, shex.1, shd⟩ R.fits (by unfold scanBound; omega) R.tab.ris R.led fun s1 vs k1 z1 g1 o1 pm => ?_)
  have hes : es.toList.map (·.2) = L.map fun q => Value.ref q.1 := by
    rw [R.rows]
    unfold rowsOf
    rw [List.map_map]
    rfl
  rw [hes] at pm
  obtain ⟨L1, rfl, p1⟩ := perm_lift pm.symm L rfl
  have hvl : (L1.map fun q : Addr × List Int => Value.ref q.1).length < 64 := by
    rw [List.length_map, p1.length_eq]
    exact sfew
  refine wpAny_bind (wpAny_newList ?_ (by rw [sizeLine_eq]; omega))
  generalize hvs : (L1.map fun q : Addr × List Int => Value.ref q.1) = vs at *
  have hoL : (s1.heap.push (seqObj "list" vs.toArray 0)).get? s1.heap.objs.size = some (seqObj "list" vs.toArray 0) := Heap.get?_push_size _ rfl
  have tk : ∀ q ∈ L1, TS.TupInts (s1.heap.push (seqObj "list" vs.toArray 0)) (.ref q.1) [(toP q).1, (toP q).2] := fun q hq => by
    have hq' := p1.mem_iff.mp hq
    have z : TS.TupInts (s1.heap.push (seqObj "list" vs.toArray 0)) (.ref q.1) q.2 := tupInts_of (P := P) (w := w) (isT_keep (R.tup q hq') fun b u e => Heap.get?_push_of_some _ (k1 b u e))
    rw [hxy q hq'] at z
    exact z
  have er : PySem.W.EachIs (fun v (b : Addr × List Int) => ∃ as, Reads (s1.heap.push (seqObj "list" vs.toArray 0)) v (.tuple [.int (toP b).1, .int (toP b).2]) as ∧ s1.heap.objs.size ∉ as) vs L1 := by
    subst hvs
    refine eachIs_map _ fun b hb => ?_
    obtain ⟨as, k, e⟩ := reads_two (tk b hb)
    exact ⟨as, k, by rw [e]; simp⟩
  have ev : PySem.W.EachIs (fun v (b : Addr × List Int) => v = Value.ref b.1) vs L1 := by
    rw [← hvs]
    exact eachIs_map _ fun b _ => rfl
  refine wpAny_bind (wpAny_holding (PySem.W.list_sort_data (s := { s1 with heap := s1.heap.push (seqObj "list" vs.toArray 0) }) (enc := fun b : Addr × List Int => .tuple [.int (toP b).1, .int (toP b).2]) hoL ev er
    (PySem.W.AllAlike.of fun b b' => by rfl) (PySem.W.Sortable.tuples fun b => ⟨_, _, rfl⟩) ?_ (fun b _ => ?_) fun out ho he => ?_))
  · rw [← hvs, List.length_map] at hvl
    rw [sizeLine_eq]
    omega
  · have z : A.in1.units ≤ A.units + 3 := by
      unfold Around.in1
      simp
    show A.in1.units + 1 + 1 < cLine
    omega
  obtain ⟨c, hc⟩ := sortedHeap_at (vs := vs) (out := out.toArray) hoL
  have eo := eachIs_back he
  refine wpAny_pure ⟨_, rfl, hQ _ s1.heap.objs.size out.toArray c _ (fun b u e => ?_) g1 o1 z1 hc (by rw [List.toList_toArray]; exact eo) ((List.mergeSort_perm _ _).trans p1) ?_⟩
  · have q := k1 b u e
    have hlt := Heap.lt_size q
    show (sortedHeap _ s1.heap.objs.size vs out.toArray).get? b = some u
    rw [sortedHeap_old (Nat.ne_of_lt hlt) (by rw [size_push']; exact Nat.lt_succ_of_lt hlt)]
    exact Heap.get?_push_of_some _ q
  · rw [PySem.W.dataLe_ii]
    have z := List.pairwise_mergeSort (le := fun p q : Addr × List Int => decide ((toP p).1 < (toP q).1 ∨ ((toP p).1 = (toP q).1 ∧ (toP p).2 ≤ (toP q).2)))
      (fun a b c h1 h2 => decide_eq_true (by have k1 := of_decide_eq_true h1; have k2 := of_decide_eq_true h2; omega))
      (fun a b => by
        rw [Bool.or_eq_true, decide_eq_true_eq, decide_eq_true_eq]
        omega) L1
    exact List.Pairwise.imp (fun h => of_decide_eq_true h) z
end
theorem call_sortS (hc : X.calm = true) (hu : X.A.units + 64 < cLine) : CallR X (.builtin "sorted") (rSortS X.prog X.w) := by
  intro pins s σ H vs us Q I r h
  obtain ⟨a, ps, rfl, ⟨L, ha, h1, h2⟩, q⟩ := h
  rw [Vals.ref1 r]
  have R0 : SetT0 X.prog X.w s.heap a L := (I.hok a _ ha).1
  obtain ⟨es, ep, t, R⟩ := R0.full fun x hx => by
    obtain ⟨p, _, e, k⟩ := h1 x hx
    have z : SqT X.K H x.1 (x.2.map V.int) := by rw [e]; exact SqT.of k
    exact I.isT z
  obtain ⟨n1, n2⟩ := setOf_list (P := X.prog) (w := X.w) (a := a) h1 h2 R.nd
  have hxy : ∀ b ∈ L, b.2 = [(toP b).1, (toP b).2] := fun b hb => by
    obtain ⟨p, _, e, _⟩ := h1 b hb
    unfold toP
    rw [e]
    rfl
  refine sorted_setP R (I.ok.hd hc) hu hxy fun s' p out c L' kp kg ko hp hg hout pm pw => ?_
  have few := R.few
  have hl' : L'.length < 64 := by rw [pm.length_eq]; exact few
  have fresh : H p = none := I.hok.fresh hp
  have hz : (L'.map fun q => V.ref q.1).length ≤ sizeLine := by
    rw [List.length_map, sizeLine_eq]
    omega
  have hv : Vals (L'.map fun q => V.ref q.1) out.toList := by
    rw [hout]
    exact vals_of_refs L'
  have J : Inv X pins σ (upd H p (.lst (L'.map fun q => V.ref q.1))) { s with heap := s'.heap, gens := s'.gens, drawn := s'.drawn, toks := s'.toks } :=
    I.call (ch := []) (Un.laid kp hp fresh) (I.hok.laid kp hp ⟨hz, out.toList, c, hv, hg⟩) (by rw [kg]; exact I.bare) (fun _ z => nomatch z)
  have es' : s' = { s with heap := s'.heap, gens := s'.gens, drawn := s'.drawn, toks := s'.toks } := by
    obtain ⟨a1, a2, a3, a4, a5⟩ := s'
    obtain ⟨b1, b2, b3, b4, b5⟩ := s
    cases ko
    rfl
  rw [es']
  refine ⟨.ref p, _, J, rfl, q p _ fresh ?_⟩
  have e : L'.map toP = marksP ps := by
    refine marksP_of ((pm.map toP).nodup_iff.mpr n1) (fun p => ((pm.map toP).mem_iff).trans (n2 p)) (List.pairwise_map.mpr pw)
  rw [← e]
  have all : ∀ M : List (Addr × List Int), (∀ x ∈ M, x ∈ L) → Prs H (M.map fun q => V.ref q.1) (M.map toP) := by
    intro M
    induction M with
    | nil => intro _; exact .nil
    | cons x M ih =>
      intro hm
      obtain ⟨p, _, ep, k⟩ := h1 x (hm x List.mem_cons_self)
      refine .cons ⟨x.1, rfl, ?_⟩ (ih fun y hy => hm y (List.mem_cons_of_mem _ hy))
      rw [k]
      unfold toP
      rw [ep]
      rfl
  exact all L' fun x hx => pm.mem_iff.mp hx
end

end

section
open PySem.Spec PyProof.Rows
/-! ### try with several clauses, with and without names -/
/-- the ends of a clause whose name stands in slot i: behind it the slot is empty -/
def asEnds (i : Nat) (D : Ends) : Ends := { nx := fun τ G => D.nx (τ.set i none) G, rt := D.rt, bk := fun τ G => D.bk (τ.set i none) G, ct := fun τ G => D.ct (τ.set i none) G }
abbrev Sui := Addr → Value → Option Addr → TS
/-- what the clauses wish of an error of the body -/
def wNext (K : PySem.W.Frag) (Wo : WX) (D : Ends) : List (Value × Option Nat × Sui) → WX
  | [] => Wo
  | (c, none, ts) :: more => fun cls d τ G => ∃ b, PySem.W.exmOne K cls c = some b ∧ (b = true → ∀ x, G x = none → ts x cls d D τ G) ∧ (b = false → wNext K Wo D more cls d τ G)
  | (c, some i, ts) :: more => fun cls d τ G => ∃ b, PySem.W.exmOne K cls c = some b ∧ (b = true → ∀ x, G x = none → ts x cls d (asEnds i D) (τ.set i (some (.ref x))) G) ∧ (b = false → wNext K Wo D more cls d τ G)
/-- try: the body's reading, its errors wished for as the clauses take them -/
def tTry (K : PySem.W.Frag) (Wo : WX) (l : List (Value × Option Nat × Sui)) (tb : WX → TS) : TS := fun D τ G => tb (wNext K Wo D l) D τ G
inductive Clauses (X : Cx) : List ExceptHandler → List (Value × Option Nat × Sui) → Prop
  | nil : Clauses X [] []
  | plain {x : Str} {c : Value} {ts : Sui} {s0 : Stmt} {su : List Stmt} {p1 p2 : Pos} {hs : List ExceptHandler} {l : List (Value × Option Nat × Sui)} (hc : Names X x c)
      (hsu : ∀ (a : Addr) (oe : Obj) (cls : Value) (d : Option Addr) (pn : List (Addr × Obj)), Zc cls d oe → (∃ vs, oe.data = .fields vs) → PSs (X.suite a ((a, oe) :: pn)) (s0 :: su) (ts a cls d)) (more : Clauses X hs l) :
      Clauses X (.ExceptHandler (some (.Name x p1)) none (s0 :: su) p2 :: hs) ((c, none, ts) :: l)
  | named {x n : Str} {i : Nat} {c : Value} {ts : Sui} {s0 : Stmt} {su : List Stmt} {p1 p2 : Pos} {hs : List ExceptHandler} {l : List (Value × Option Nat × Sui)} (hN : X.N.Nodup) (hi : X.N[i]? = some n) (hn : X.env.kindOf n = some .local) (hc : Names X x c)
      (hsu : ∀ (a : Addr) (oe : Obj) (cls : Value) (d : Option Addr) (pn : List (Addr × Obj)), Zc cls d oe → (∃ vs, oe.data = .fields vs) → PSs (X.suite a ((a, oe) :: pn)) (s0 :: su) (ts a cls d)) (more : Clauses X hs l) :
      Clauses X (.ExceptHandler (some (.Name x p1)) (some n) (s0 :: su) p2 :: hs) ((c, some i, ts) :: l)
section
variable {X : Cx} {body : List Stmt} {c0 : ExceptHandler} {cs : List ExceptHandler} {l : List (Value × Option Nat × Sui)} {pos : Pos} {tb : WX → TS} {Wo : WX}
theorem ps_try_next (hst : X.stack = X.env :: X.outer) (hfm : X.env.frame = some X.env.locals) (tk : Takes X Wo)
    (hbody : ∀ (W : WX) (pn : List (Addr × Obj)) (xe : Value → Shared → Prop), Takes (X.tr pn xe) W → PassesOwn (model X.prog X.w) X.A X.env xe → PSs (X.tr pn xe) body (tb W))
    (hcs : Clauses X (c0 :: cs) l) : PS X (.Try body (c0 :: cs) [] [] pos) (tTry X.K Wo l tb) := by
  refine ⟨fun pins s τ G D I hw => ?_⟩
  have kk := I.ok
  have hfrs : X.A.frames = some (X.env :: X.outer) := by rw [kk.frames, hst]
  let M := model X.prog X.w
  refine wpAny_Try_except ?_
  refine wpAny_mono ((hbody (wNext X.K Wo D l) (X.pn ++ pins) (fun e s₁ => wpAny M X.A (noteFrame e X.env) (fun _ s₂ => wpAny M X.A (setFlight e none) (fun _ s₃ => wpAny M X.A (handleBy e X.env (c0 :: cs)) (SP X pins D) X.xe s₃) X.xe s₂) X.xe s₁)
    (fun u s' xx => ?_) PassesOwn.looking).run [] s τ G D (I.toTry _) hw) (fun fl s1 hsp => ?_) (fun e s1 he => he)
  · obtain ⟨a, B, sI, pins', τ', G', cls, d, rfl, J0, nb, up, sky, na, hos, hag, wish⟩ := xx
    have J : Inv X pins τ' G' sI := J0.ofTry kk
    have sk : Sky B (X.env :: X.outer) a (Zc cls d) X.env.locals s'.heap := hst ▸ sky
    show wpAny M X.A (noteFrame (.ref a) X.env) _ _ _
    refine Sky.land Zc.steady hfrs hfm sk fun h3 fl3 up3 => ?_
    have J3 : Inv X pins τ' G' { s' with heap := h3 } := J.landed nb fl3.1 (up.trans up3) hos hag
    obtain ⟨oe3, vs3, he3, hz3, hd3⟩ := fl3.there
    have nfr : a ∉ frs (X.env :: X.outer) := fun hm => by
      obtain ⟨_, o', e', hnf⟩ := fl3.2.2.1.mem hm
      rw [he3] at e'
      cases e'
      exact hnf _ hd3
    have nL : a ≠ X.env.locals := fun z => nfr (List.mem_filterMap.mpr ⟨X.env, List.mem_cons_self, by rw [hfm, z]⟩)
    have nF : a ∉ X.fs := fun hm => by
      obtain ⟨e, he, q⟩ := List.mem_filterMap.mp hm
      exact nfr (List.mem_filterMap.mpr ⟨e, List.mem_cons_of_mem _ he, q⟩)
    have S3 := J3.suite he3 hd3 na nL nF
    have LT : PySem.W.Looks M h3 (typeOf (.ref a)) cls := fun A Q E s k q => wpAny_typeOf_ref (k _ _ he3) (by rw [hz3.1]; exact q)
    have test : ∀ {x : Str} {c : Value} {p1 : Pos} {Q : Value → Shared → Prop} {E : Value → Shared → Prop}, Names X x c → Q c { s' with heap := h3 } → wpAny M (X.A.mark (some (.ref a))) (eval (.Name x p1) X.env) Q E { s' with heap := h3 } :=
      fun {x c p1 Q E} hc q => by
        obtain ⟨hg, hdbg, hm | ⟨hm, hv, hnn⟩⟩ := hc
        · exact ld_glob (X := X.suite a ((a, oe3) :: (X.pn ++ pins))) S3 hg hm q hdbg
        · exact ld_blt (X := X.suite a ((a, oe3) :: (X.pn ++ pins))) S3 hg hm hv q hnn hdbg
    have each : ∀ {hs : List ExceptHandler} {l' : List (Value × Option Nat × Sui)}, Clauses X hs l' → wNext X.K Wo D l' cls d τ' G' → wpAny M X.A (handleBy (.ref a) X.env hs) (SP X pins D) X.xe { s' with heap := h3 } := by
      intro hs l' hk
      induction hk with
      | nil =>
        intro wish
        refine wpAny_handleBy_nil ?_
        obtain ⟨k1, k2, k3, oe, vs, T, oT, ts', he, hz, hd, hf1, hr⟩ := id fl3
        unfold PySem.passOn
        refine wpAny_bind (wpAny_field he hd hf1 ?_)
        rw [if_neg (show ¬ ((Value.ref T == Value.none) = true) from by simp)]
        have out : wpAny M X.A (setFlight (.ref a) X.env.frame) (fun _ s4 => wpAny M X.A (throw (.ref a) : Sem Flow) (SP X pins D) X.xe s4) X.xe { s' with heap := h3 } := by
          rw [hfm]
          refine HandSPX.setFlight_upZ fl3 fun h4 hh4 up4 => wpAny_throw (tk _ _ ?_)
          exact ⟨a, B, sI, pins, τ', G', cls, d, rfl, J, nb, (up.trans up3).trans up4, .inr (.inr (hst ▸ hh4)), na, hos, hag, wish⟩
        first
          | exact wpAny_bind (wpAny_pure (wpAny_bind out))
          | exact wpAny_bind out
      | plain hc hsu more ih =>
        intro wish
        obtain ⟨b, hb1, yes, no⟩ := wish
        refine wpAny_handleBy_cons (codeAny_handlers_test ?_) (by intro q; cases q)
        refine test hc ((PySem.W.exm_one (M := M) J3.kIn LT hb1).here ?_)
        cases b with
        | false => exact ih (no rfl)
        | true =>
          refine codeAny_handlers_suite (HandSPX.lands_againZ fl3 fun h4 fl4 up4 => ?_)
          have J4 : Inv X pins τ' G' { s' with heap := h4 } := J.landed nb fl4.1 ((up.trans up3).trans up4) hos hag
          obtain ⟨oe4, vs4, he4, hz4, hd4⟩ := fl4.there
          refine wpAny_mono ((hsu a oe4 cls d (X.pn ++ pins) hz4 ⟨_, hd4⟩).run [] _ _ G' _ (J4.suite he4 hd4 na nL nF) (yes rfl a na)) (fun f s6 hsp => ?_) (fun _ _ z => z.elim)
          cases f with
          | ret u =>
            obtain ⟨v6, τ6, G6, S6, r6, q6⟩ := hsp
            exact ⟨v6, τ6, G6, S6.unsuite kk, r6, q6⟩
          | next =>
            obtain ⟨τ6, G6, S6, q6⟩ := hsp
            exact ⟨τ6, G6, S6.unsuite kk, q6⟩
          | brk =>
            obtain ⟨τ6, G6, S6, q6⟩ := hsp
            exact ⟨τ6, G6, S6.unsuite kk, q6⟩
          | cont =>
            obtain ⟨τ6, G6, S6, q6⟩ := hsp
            exact ⟨τ6, G6, S6.unsuite kk, q6⟩
      | named hN hi hn hc hsu more ih =>
        intro wish
        obtain ⟨b, hb1, yes, no⟩ := wish
        refine wpAny_handleBy_cons (codeAny_handlers_test ?_) (by intro q; cases q)
        refine test hc ((PySem.W.exm_one (M := M) J3.kIn LT hb1).here ?_)
        cases b with
        | false => exact ih (no rfl)
        | true =>
          refine codeAny_handlers_suite_as (HandSPX.lands_againZ fl3 fun h4 fl4 up4 => ?_)
          have J4 : Inv X pins τ' G' { s' with heap := h4 } := J.landed nb fl4.1 ((up.trans up3).trans up4) hos hag
          obtain ⟨oe4, vs4, he4, hz4, hd4⟩ := fl4.there
          refine store_ok (X := X.suite a ((a, oe4) :: (X.pn ++ pins))) (v := .ref a) (J4.suite he4 hd4 na nL nF) hN hi (.inl hn) rfl (fun s5 S5 => ?_) (.inr hn)
          refine wpAny_mono ((hsu a oe4 cls d (X.pn ++ pins) hz4 ⟨_, hd4⟩).run [] s5 _ G' _ S5 (yes rfl a na)) (fun f s6 hsp => ?_) (fun _ _ z => z.elim)
          cases f with
          | ret u =>
            obtain ⟨v6, τ6, G6, S6, r6, q6⟩ := hsp
            exact gone_ok (S6.unsuite kk) hN hi hn fun s7 J7 => ⟨v6, _, G6, J7, r6, q6⟩
          | next =>
            obtain ⟨τ6, G6, S6, q6⟩ := hsp
            exact gone_ok (S6.unsuite kk) hN hi hn fun s7 J7 => ⟨_, G6, J7, q6⟩
          | brk =>
            obtain ⟨τ6, G6, S6, q6⟩ := hsp
            exact gone_ok (S6.unsuite kk) hN hi hn fun s7 J7 => ⟨_, G6, J7, q6⟩
          | cont =>
            obtain ⟨τ6, G6, S6, q6⟩ := hsp
            exact gone_ok (S6.unsuite kk) hN hi hn fun s7 J7 => ⟨_, G6, J7, q6⟩
    exact each hcs wish
  · cases fl with
    | ret u =>
      obtain ⟨v, τ', G', J', r, q⟩ := hsp
      exact ⟨v, τ', G', J'.ofTry kk, r, q⟩
    | next =>
      obtain ⟨τ', G', J', q⟩ := hsp
      exact wpAny_execs_nil ⟨τ', G', J'.ofTry kk, q⟩
    | brk =>
      obtain ⟨τ', G', J', q⟩ := hsp
      exact ⟨τ', G', J'.ofTry kk, q⟩
    | cont =>
      obtain ⟨τ', G', J', q⟩ := hsp
      exact ⟨τ', G', J'.ofTry kk, q⟩
end

end

section
open PySem.Spec PyProof.Rows
/-! ### calls of methods and of classes whose errors are wished for at the caller's slots -/
section
variable {X : Cx} {CX : CXT} {k : Nat} {C f : Addr} {fd : FuncData} {ps : List Str} {sp : Sp} {E : L2.St → XK} {x m : Str} {p pos apos : Pos} {o e : Expr} {es : List Expr} {ta : TE} {t : TA}
def tMethS (C : Addr) (m : Str) (sp : Sp) (E : L2.St → XK) (ta : TE) (t : TA) : TE := fun τ G Q => ta τ G fun x G1 => ∃ a dx fs, x = .ref a ∧ G1 a = some (.ins C dx fs) ∧ fs.lookup m = none ∧ t τ G1 fun vs G2 => sp (x :: vs) G2 Q (E τ)
theorem pe_methS {pl : Sem Bool} (ho : PE X o ta) (c : Cls X.K C) (hm : Meth X.K C m f) (F : FnOk X.prog X.w X.K X.mg X.base CX k f fd ps sp) (hr : Room k X.A) (hb : Binds X.K fd ps []) (hx : ∀ τ, PassesAt CX X τ (E τ)) (ha : PA X (e :: es) t)
    (h1 : starEach (e :: es) X.env = (false, eval e X.env) :: starEach es X.env := by rfl) (h2 : (backTo pos (starEach es X.env)).any (·.1) = false := by rfl)
    (h3 : eval (.Call (.Attribute o m apos) (e :: es) [] pos) X.env = (do
      let recv ← eval o X.env
      standAt apos.atName
      let (g, first) ← holding [recv] (getMethod recv m pl)
      callWith pos g first (backTo pos (starEach (e :: es) X.env)) (backToKw pos (keywordEach [] X.env))) := by rfl) :
    PE X (.Call (.Attribute o m apos) (e :: es) [] pos) (tMethS C m sp E ta t) := by
  refine ⟨fun pins s τ G Q I h => PySem.W.methodCall_KW (pl := pl) (thn (ho.run pins s τ G _ I h) fun u s1 hh => ?_) h3⟩
  obtain ⟨y, G1, I1, ry, a, dx, fs, rfl, ea, l, q⟩ := hh
  obtain rfl : u = Value.ref a := ry
  refine getmeth_ok I1 ea c hm l (PySem.W.callWith_K (first := [.ref a]) (h₀ := X.base) I.ok.mod.kin hm.kp (thn (ha.run pos pins s1 τ G1 _ I1 q) fun us s2 hh => ?_) h1 h2)
  obtain ⟨vs, G2, I2, r, q2⟩ := hh
  refine ⟨I2.kIn, run_fnSD (dvs := []) (ds := []) (E := E) (us := .ref a :: us) (vs := .ref a :: vs) F hr hb .nil (hx τ) I2 (.cons rfl r) ?_⟩
  rw [List.append_nil]
  exact q2
def tMakeS (C : Addr) (sp : Sp) (E : L2.St → XK) (t : TA) : TE := fun τ G Q => t τ G fun vs G1 => ∀ x dx, G1 x = none → G1 dx = none → dx ≠ x →
  sp (.ref x :: vs) (upd (upd G1 dx (.own x)) x (.ins C dx [])) (fun v G2 => v = .non ∧ Q (.ref x) G2) (E τ)
theorem pe_makeS (M : Mk X.K C f) (F : FnOk X.prog X.w X.K X.mg X.base CX k f fd ps sp) (hr : Room (k + 1) X.A) (hg : Gl X x) (hm : X.mg x = some (.ref C)) (hb : Binds X.K fd ps []) (hx : ∀ τ, PassesAt CX X τ (E τ)) (ha : PA X (e :: es) t)
    (hdb : (x == ("__debug__" : Str)) = false := by decide) (h1 : starEach (e :: es) X.env = (false, eval e X.env) :: starEach es X.env := by rfl) (h2 : (backTo pos (starEach es X.env)).any (·.1) = false := by rfl) :
    PE X (.Call (.Name x p) (e :: es) [] pos) (tMakeS C sp E t) := by
  refine ⟨fun pins s τ G Q I h => wpAny_Call_Name_kw (ld_glob I hg hm ?_ hdb)⟩
  refine PySem.W.callWith_K (h₀ := X.base) I.ok.mod.kin M.kp (thn (ha.run pos pins s τ G _ I h) fun us s1 hh => ?_) h1 h2
  obtain ⟨vs, G1, I1, r, q⟩ := hh
  refine ⟨I1.kIn, ?_⟩
  show wpAny _ _ (call (.ref C) us) _ _ _
  let n := s1.heap.objs.size
  have hq := q (n + 1) n (I1.hok.fresh (Nat.le_succ _)) (I1.hok.fresh (Nat.le_refl _)) (Nat.ne_of_lt (Nat.lt_succ_self _))
  have I2 := Inv.made (C := C) I1
  have r2 : Vals (V.ref (n + 1) :: vs) (Value.ref (n + 1) :: us) := .cons rfl r
  have hl : (Value.ref (n + 1) :: us).length = ps.length := by
    have z := r2.length
    rw [F.len _ _ _ _ hq] at z
    exact z.symm
  have hbb := hb _ (Value.ref (n + 1) :: us) I2.kIn (by rw [List.append_nil]; exact hl)
  rw [List.append_nil] at hbb
  refine wpAny_call (make_map (f := f) I1.kIn M.makes M.init (beq_iff_eq.mp M.fn) (codeAny_mono (F.run _ X.stack _ _ ⟨Value.ref (n + 1) :: us, []⟩ (Value.ref (n + 1) :: us) _ _ (E τ) (hr.make C us []) (I2.env0.make C us []) hbb r2 hq) fun r s' hq' => ?_))
  cases r with
  | error z => exact hx τ pins _ _ z s' I2 hq'
  | ok fl =>
    cases fl with
    | ret u =>
      obtain ⟨v, G', I3, rv, ev, q3⟩ := I2.after hq'
      subst ev
      exact ⟨rv, V.ref (n + 1), G', I3, rfl, q3⟩
    | next => exact hq'.elim
    | brk => exact hq'.elim
    | cont => exact hq'.elim
end
/-! ### what was said of places stays when a list is written anew -/
theorem Pr.over {H : Hp} {m : Addr} {zs ws : List V} {v : V} {p : Pl} (h : Pr H v p) (hm : H m = some (.lst zs)) : Pr (upd H m (.lst ws)) v p := by
  obtain ⟨t, rfl, h⟩ := h
  exact ⟨t, rfl, by rw [upd_ne (ne_of h hm (by intro z; cases z))]; exact h⟩
theorem Prs.over {H : Hp} {m : Addr} {zs ws vs : List V} {ps : List Pl} (h : Prs H vs ps) (hm : H m = some (.lst zs)) : Prs (upd H m (.lst ws)) vs ps := by
  induction h with
  | nil => exact .nil
  | cons a _ ih => exact .cons (a.over hm) ih
theorem Same.over {H0 H : Hp} {m : Addr} {o : HO} (k : Same H0 H) (n : H0 m = none) : Same H0 (upd H m o) := fun b u e => by
  rw [upd_ne (ne_of_none e n)]
  exact k b u e
/-! ### lists of two lists of places -/
def dLL (a b : List Pl) : PyData := .list [dL a, dL b]
theorem eqv_dLL (a b a' b' : List Pl) : PyData.eqv (dLL a b) (dLL a' b') = decide (a = a' ∧ b = b') := by
  show PyData.eqvAll [dL a, dL b] [dL a', dL b'] = _
  simp only [PyData.eqvAll, eqv_dL, Bool.and_true, Bool.decide_and]
theorem sh_dLL (a b : List Pl) : SeqAt.shaped (dLL a b) = true := by
  have h1 := depth_dPs a
  have h2 := depth_dPs b
  have e : PyData.canLay0 (dLL a b) = (PyData.canLayAll0 (a.map dP) && (PyData.canLayAll0 (b.map dP) && true)) := rfl
  unfold SeqAt.shaped
  rw [e, lay_dPs, lay_dPs]
  refine decide_eq_true ?_
  show max (PyData.depthAll (a.map dP) + 1) (max (PyData.depthAll (b.map dP) + 1) 0) + 1 ≤ 64
  omega
def dPP (a b : Pl) : PyData := .tuple [dP a, dP b]
theorem eqv_dPP (a b a' b' : Pl) : PyData.eqv (dPP a b) (dPP a' b') = decide (a = a' ∧ b = b') := by
  show PyData.eqvAll [dP a, dP b] [dP a', dP b'] = _
  simp only [PyData.eqvAll, eqv_dP, Bool.and_true, Bool.decide_and]
theorem sh_dPP (a b : Pl) : SeqAt.shaped (dPP a b) = true := rfl

end

section
open PySem.Spec PyProof.Rows GenW GxR NdefX
/-! ### all and any over a generator expression whose element may call -/
/-- the generator's own frame -/
abbrev envG (X : Cx) (sc : Scope) (C : Addr) (cd : Value) : Env := genEnv sc (cloFrom X.env.cells sc.names []) C cd builtinsNs X.env
/-- and its surroundings; s0, H0: ahead of its frame; fp: the iterator's objects -/
abbrev cxG (X : Cx) (N : List Str) (sc : Scope) (B : Around) (s0 : Shared) (H0 : Hp) (cd : Value) (fp : List Addr) : Cx :=
  { X with
    A := B
    N := N
    s_0 := s0
    H_0 := H0
    env := envG X sc s0.heap.objs.size cd
    outer := X.stack
    stack := envG X sc s0.heap.objs.size cd :: X.stack
    ex := fp
    fn := fun _ => false
    calm := true
    pn := []
    xe := fun _ _ => False }
/-- what its scope must keep -/
structure GSc (env : Env) (sc : Scope) : Prop where
  kind : sc.kind = .function
  co : sc.isCoroutine = false
  cell : ∀ y ∈ sc.names, y.2 ≠ .cell
  dot : sc.names.lookup (".0" : Str) = some NameKind.local
  free : ∀ y ∈ sc.names, y.2 = .free → ∃ c, env.cells.lookup y.1 = some c
/-- the free names' slots: fr tells for each name its slot outside, none for an own one -/
def slotsG (fr : List (Option Nat)) (σ : L2.St) : L2.St := fr.map fun o => match o with
  | none => none
  | some j => (σ[j]?).join
structure GFr (X : Cx) (sc : Scope) (N : List Str) (fr : List (Option Nat)) : Prop where
  len : fr.length = N.length
  at_ : ∀ (i : Nat) (y : Str) (j : Nat), N[i]? = some y → fr[i]? = some (some j) → sc.names.lookup y = some .free ∧ X.N[j]? = some y ∧ (X.env.scope.names.lookup y = some .cell ∨ X.env.scope.names.lookup y = some .free)
theorem slotsG_some {fr : List (Option Nat)} {σ : L2.St} {i : Nat} {v : V} (h : (slotsG fr σ)[i]? = some (some v)) : ∃ j, fr[i]? = some (some j) ∧ σ[j]? = some (some v) := by
  unfold slotsG at h
  rw [List.getElem?_map] at h
  cases e : fr[i]? with
  | none => rw [e] at h; cases h
  | some o =>
    rw [e] at h
    cases o with
    | none => simp at h
    | some j =>
      refine ⟨j, rfl, ?_⟩
      have h2 : (σ[j]?).join = some v := by simpa using h
      cases q : σ[j]? with
      | none => rw [q] at h2; cases h2
      | some w => rw [q] at h2; cases w with
        | none => cases h2
        | some v' => cases h2; rfl
section
variable {X : Cx} {pins : List (Addr × Obj)} {σ : L2.St} {H : Hp} {s0 s5 : Shared}
/-- all stands that stood -/
theorem Inv.stood (I : Inv X pins σ H s0) (os : s5.os = s0.os) (k : ∀ b o, s0.heap.get? b = some o → s5.heap.get? b = some o) (hb : AllBare s5.gens) : Inv X pins σ H s5 :=
  I.call' (ch := []) os (Un.kept k) (I.hok.kept k) hb fun b z => absurd z (by simp)
theorem start_gen {N : List Str} {sc : Scope} {B : Around} {cd : Value} {fp : List Addr} {a : Addr} {o : Obj} {m : Str → Option Value}
    {fr : List (Option Nat)} (I : Inv X pins σ H s0) (S : GSc X.env sc) (FR : GFr X sc N fr) (hf : ∀ b ∈ fp, FpOk X pins H b ∧ b < s0.heap.objs.size) (hB : B.handled = none)
    (hfr : B.frames = some (envG X sc s0.heap.objs.size cd :: X.stack)) (os : s5.os = s0.os) (hb : AllBare s5.gens)
    (k : ∀ b u, s0.heap.get? b = some u → s5.heap.get? b = some u) (hn : s5.heap.Ns s0.heap.objs.size m)
    (ha : s0.heap.objs.size < a) (hao : s5.heap.get? a = some o) (hod : ∀ v, o.data ≠ .cell v) :
    Inv (cxG X N sc B s0 H cd fp) [(a, o)] (slotsG fr σ) H s5 := by
  have cm : ∀ {y c}, (cloFrom X.env.cells sc.names []).lookup y = some c → X.env.cells.lookup y = some c := fun {y c} e => clo_cm S.free e
  have nofs : ∀ b ∈ frs X.stack, b < s0.heap.objs.size := fun b hb => by
    rcases List.mem_cons.mp (I.stkSub b hb) with z | z
    · rw [z]; exact I.lt
    · obtain ⟨_, u, hu, _⟩ := I.funs.mem z
      exact Heap.lt_size hu
  refine ⟨⟨I.ok.mod, S.kind, I.ok.glob, rfl, Nat.le_refl _, fun y z c e1 e2 => I.ok.inj y z c (cm e1) (cm e2), fun y hy => ?_, fun y c z => ?_, fun _ => hB, hfr, .inr ⟨rfl, rfl⟩,
      fun b hb => ⟨Nat.ne_of_lt (hf b hb).2, fun y c e z => (hf b hb).1.2.2.2.2.1 y c (cm e) z⟩, I.bs, Nat.le_trans I.ok.bsz I.sz, fun b u e hb => ?_, fun b hb z => ?_, I.stack, I.stkFree⟩,
    os, hb, Un.kept k, ⟨m, hn, fun i y v h1 h2 => ?_⟩, fun y c e => ?_, I.hok.fresh (Nat.le_refl _), fun y c e => I.freeC y c (cm e), fun p hp => ?_, I.hok.kept k, ?_⟩
  · have hy : sc.names.lookup y = some .cell ∨ sc.names.lookup y = some .free := hy
    rcases hy with hy | hy
    · exact absurd rfl (S.cell _ (PySem.mem_of_lookup hy))
    · have hm := PySem.mem_of_lookup hy
      obtain ⟨c, hc⟩ := S.free _ hm rfl
      exact ⟨c, clo_has S.free hm hc⟩
  · exact absurd (show (false : Bool) = true from z) (by decide)
  · rcases (hf b hb).1.2.2.2.1 with z | z
    · exact I.ok.noex b u e z
    · exact absurd (Nat.lt_of_lt_of_le (Heap.lt_size e) (Nat.le_trans I.ok.bsz z)) (Nat.lt_irrefl _)
  · rcases List.mem_cons.mp (I.stkSub b z) with z | z
    · exact (hf b hb).1.2.1 z
    · exact (hf b hb).1.2.2.1 z
  · obtain ⟨j, e1, e2⟩ := slotsG_some h2
    obtain ⟨f1, f2, f3⟩ := FR.at_ i y j h1 e1
    obtain ⟨m0, _, hl⟩ := I.loc
    obtain ⟨u, r, lk⟩ := hl j y v f2 e2 (f3.elim (fun z => .inr (.inl z)) fun z => .inr (.inr z))
    refine fun _ => ⟨u, r, .inr ⟨.inr f1, ?_⟩⟩
    rcases lk with ⟨z, _⟩ | ⟨_, c, hc, hv⟩
    · have z : X.env.scope.names.lookup y = some .local := z
      rcases f3 with q | q <;> rw [q] at z <;> cases z
    · exact ⟨c, clo_has S.free (PySem.mem_of_lookup f1) hc, hv.keeps k⟩
  · obtain ⟨v, hv⟩ := I.cell y c (cm e)
    exact ⟨v, hv.keeps k⟩
  · have hp : p ∈ [(a, o)] := hp
    obtain rfl : p = (a, o) := by simpa using hp
    exact ⟨hao, I.hok.fresh (Nat.le_of_lt ha), Nat.ne_of_gt ha, fun z => absurd (Nat.lt_trans ha (nofs _ z)) (Nat.lt_irrefl _), hod⟩
  · show (slotsG fr σ).length = N.length
    unfold slotsG
    rw [List.length_map]
    exact FR.len
end

end

section
open PySem.Spec PyProof.Rows GenW GxR
/-! ### the generator's turns -/
/-- what it hands out; st: the answer at which the asker stops -/
def YG (Y : Cx) (pins : List (Addr × Obj)) (st : Bool) (Q : VK) : Protocol := fun _ _ v s kap =>
  ∃ σ' H' c, v = .bool c ∧ Inv Y pins σ' H' s ∧ (c = st → Q (.bl st) H') ∧
    (c ≠ st → ∀ s2 : Shared, s2.heap = s.heap → s2.os = s.os → AllBare s2.gens → kap (.send .none) s2)
def RG (Y : Cx) (pins : List (Addr × Obj)) (st : Bool) (Q : VK) : GenEnd := fun n s₀ r s₁ =>
  ((r = .ok (.ret .none) ∨ r = .ok .next) ∧ (fun (_ : Nat) (_ t : Shared) => ∃ σ' H', Inv Y pins σ' H' t ∧ Q (.bl (!st)) H') n s₀ s₁) ∨ ∃ e, r = .error e ∧ (fun (_ : Value) (_ : Shared) => False) e s₁
/-- the loop of the promise -/
def Turns (J : It) (g : TG) (te : TE) (st : Bool) (Q : VK) (W : Nat → Nat → L2.St → Hp → Prop) : Prop := ∀ i m σ H, W i m σ H →
  (J.stop i H ∧ Q (.bl (!st)) H) ∨ (J.go i H ∧ ∃ N : L2.St → Hp → Prop, (∀ σ' H', N σ' H' → ∃ m', m' < m ∧ W (i + 1) m' σ' H') ∧
    ∀ x H', J.yld i H x H' → g x σ H' fun σ2 H2 => te σ2 H2 fun y H3 => ∃ c, y = .bl c ∧ if c = st then Q (.bl st) H3 else N σ2 H3)
section
variable {Y : Cx} {A : Around} {tg elt iter : Expr} {sc : Scope} {pos : Pos} {it : Addr} {fp : List Addr} {tn : Nat → Heap → Prop} {J : It} {g : TG} {te : TE} {st : Bool} {Q : VK}
  {W : Nat → Nat → L2.St → Hp → Prop} {pins : List (Addr × Obj)}
theorem seg_turns (hc : Y.calm = true) (hco : Y.env.scope.isCoroutine = false)
    (hA : A.over (.compLoop (.GeneratorExp elt [⟨tg, iter, [], 0⟩] sc pos) 0 (.ref it) .none Y.env) [] = Y.A)
    (T : Turn Y.prog Y.w Y.K tg J fp it tn) (hg : PG Y tg g) (he : PE Y elt te) (hx : ∀ e s, Y.xe e s → False)
    (ff : ∀ b ∈ fp, ∀ H : Hp, H b = none → FpOk Y pins H b) (turn : Turns J g te st Q W) :
    ∀ (m n i : Nat) (σ : L2.St) (H : Hp) (s₀ s : Shared), m < n → Inv Y pins σ H s → tn i s.heap → (∀ b ∈ fp, H b = none) → W i m σ H →
      Seg (model Y.prog Y.w) A (RG Y pins st Q) (YG Y pins st Q) n s₀ (.compLoop (.GeneratorExp elt [⟨tg, iter, [], 0⟩] sc pos) 0 (.ref it) .none Y.env)
        ((model Y.prog Y.w).den (.compLoop (.GeneratorExp elt [⟨tg, iter, [], 0⟩] sc pos) 0 (.ref it) .none Y.env)) [] s := by
  intro m
  induction m using Nat.strongRecOn with
  | _ m ih =>
    intro n i σ H s₀ s hmn I ht hf hw
    have fpo : ∀ {H' : Hp}, (∀ b ∈ fp, H' b = none) → ∀ b ∈ fp, FpOk Y pins H' b := fun q b hb => ff b hb _ (q b hb)
    show Seg _ A _ _ n s₀ _ ((compTurn (.GeneratorExp elt [⟨tg, iter, [], 0⟩] sc pos) 0 (.ref it) .none Y.env).onRaise (leaving Y.env)) [] s
    rw [compTurn_gen, Sem.onRaise_eq_wrap]
    refine seg_bind_wrap (wpAny_standAt ?_)
    rcases turn i m σ H hw with ⟨hstop, q⟩ | ⟨go, N, hN, step⟩
    · refine seg_bind_wrap ?_
      rw [hA]
      refine wpAny_mono (T.done Y rfl rfl rfl hc i pins s σ H (fun _ _ => False) I (fpo hf) ht hstop) (fun r s4 h4 => ?_) fun _ _ e => e.elim
      obtain ⟨rfl, I4⟩ := h4
      exact seg_end (.ok .next) (.inl ⟨.inr rfl, σ, H, I4, q⟩)
    · refine seg_bind_wrap ?_
      rw [hA]
      refine wpAny_mono (T.item Y rfl rfl rfl hc i pins s σ H (fun _ _ => False) I (fpo hf) ht go) (fun r s4 h4 => ?_) fun _ _ e => e.elim
      obtain ⟨u, rfl, h4⟩ := h4
      refine seg_bind_wrap ?_
      rw [hA]
      refine wpAny_mono h4 (fun _ s5 h5 => ?_) fun _ _ e => e.elim
      obtain ⟨x, H5, I5, r5, y5, t5, f5⟩ := h5
      have I5' := I5.pinned (fpo f5) (T.obj _ _ t5)
      refine seg_bind_wrap ?_
      rw [hA]
      refine wpAny_mono (hg.run _ s5 σ H5 x u _ I5' r5 (step x H5 y5)) (fun _ s6 h6 => ?_) fun _ _ e => (hx _ _ e).elim
      obtain ⟨σ6, H6, I6, q6⟩ := h6
      simp only [List.forIn_nil]
      refine seg_bind_wrap (wpAny_pure ?_)
      simp only [if_true]
      have hy : ∀ v, yieldOut Y.env v = yieldValue v := fun v => by simp only [yieldOut, hco, Bool.false_eq_true, if_false]
      simp only [hy]
      rw [Sem.bind_eq_wrap', Sem.bind_eq_wrap', Sem.wrap_wrap, Sem.wrap_wrap]
      refine seg_wrap ?_
      rw [hA]
      refine wpAny_mono (he.run _ s6 σ6 H6 _ I6 q6) (fun y s7 h7 => ?_) fun _ _ e => (hx _ _ e).elim
      obtain ⟨v7, H7, I7, r7, c, rfl, q7⟩ := h7
      obtain rfl : y = .bool c := r7
      have J7 : Inv Y pins σ6 H7 s7 := I7.unpinned
      have t7 : tn (i + 1) s7.heap := T.keep _ _ _ t5 fun b hb o e => (I7.pin (b, o) (List.mem_append_right _ (List.mem_append_right _ (mem_pinsAt hb e)))).1
      have f7 : ∀ b ∈ fp, H7 b = none := fun b hb => by
        obtain ⟨o, e, _⟩ := T.obj _ _ t5 b hb
        exact (I7.pin (b, o) (List.mem_append_right _ (List.mem_append_right _ (mem_pinsAt hb e)))).2.1
      obtain ⟨k, rfl⟩ : ∃ k, n = k + 1 := ⟨n - 1, by omega⟩
      refine seg_at (seg_yield rfl rfl rfl ⟨σ6, H7, c, rfl, J7, fun e => ?_, fun e s2 eh eo eb => ?_⟩)
      · rw [if_pos e] at q7
        exact q7
      · rw [if_neg e] at q7
        obtain ⟨m', hm, w7⟩ := hN σ6 H7 q7
        exact seg_again rfl (ih m' hm k (i + 1) σ6 H7 s2 s2 (by omega) (Inv.stood J7 eo (fun b o z => by rw [eh]; exact z) eb) (by rw [eh]; exact t7) f7 w7)
/-- from its beginning -/
theorem seg_begins (hc : Y.calm = true) (hco : Y.env.scope.isCoroutine = false)
    (hA : A.over (.compLoop (.GeneratorExp elt [⟨tg, iter, [], 0⟩] sc pos) 0 (.ref it) .none Y.env) [] = Y.A)
    (T : Turn Y.prog Y.w Y.K tg J fp it tn) (hg : PG Y tg g) (he : PE Y elt te) (hx : ∀ e s, Y.xe e s → False)
    (ff : ∀ b ∈ fp, ∀ H : Hp, H b = none → FpOk Y pins H b) (turn : Turns J g te st Q W)
    (m n : Nat) (σ : L2.St) (H : Hp) (s₀ s : Shared) (hmn : m < n) (I : Inv Y pins σ H s) (ht : tn 0 s.heap) (hf : ∀ b ∈ fp, H b = none) (hw : W 0 m σ H) :
      Seg (model Y.prog Y.w) A (RG Y pins st Q) (YG Y pins st Q) n s₀ (.compStart (.GeneratorExp elt [⟨tg, iter, [], 0⟩] sc pos) 0 (.ref it) .none Y.env)
        ((model Y.prog Y.w).den (.compStart (.GeneratorExp elt [⟨tg, iter, [], 0⟩] sc pos) 0 (.ref it) .none Y.env)) [] s := by
  have rest := seg_turns hc hco hA T hg he hx ff turn m n 0 σ H s₀ s hmn I ht hf hw
  show Seg _ A _ _ n s₀ _ ((compStart (.GeneratorExp elt [⟨tg, iter, [], 0⟩] sc pos) 0 (.ref it) .none Y.env).onRaise (leaving Y.env)) [] s
  unfold compStart
  rw [Sem.onRaise_eq_wrap]
  show Seg _ A _ _ n s₀ _ ((ask >>= _).wrap _ _ _ _) [] s
  refine seg_bind_wrap (wpAny_askSetting ?_)
  split
  · exact seg_again rfl rest
  · refine seg_bind_wrap (wpAny_rule ?_)
    first
      | exact seg_bind_wrap (wpAny_standAt (seg_bind_wrap (T.self _ 0 s _ _ ht (seg_again rfl rest))))
      | (show Seg _ A _ _ n s₀ _ ((standAt iter.pos >>= _).wrap _ _ _ _) [] s
         exact seg_bind_wrap (wpAny_standAt (seg_bind_wrap (T.self _ 0 s _ _ ht (seg_again rfl rest)))))
end

end

section
open PySem.Spec PyProof.Rows GenW GxR
/-! ### who asks: all, any -/
section
variable {Y : Cx} {A : Around} {st : Bool} {Q : VK} {pins : List (Addr × Obj)} {R : Result → Shared → Prop} {a : Addr} {g : Nat}
theorem all_asks (hh : A.handled = none) (hd : A.depth < recursionLimit) (hp : ∀ σ' H' t, Inv Y pins σ' H' t → t.heap.IsGen a g)
    (hend : ∀ σ' H' b t, Inv Y pins σ' H' t → Q (.bl b) H' → R (.ok (.ret (.bool b))) t) :
    ∀ (n : Nat) (s : Shared), s.heap.IsGen a g → s.heap.NoLimit →
      (∃ gs, s.gens[g]? = some gs ∧ gs.Goes (model Y.prog Y.w) A.in1.in1 (RG Y pins false Q) (YG Y pins false Q) n (.send .none) (s.setGen g .running)) →
      codeAny (model Y.prog Y.w) A (.builtin "all.loop" ⟨[.ref a], []⟩) R s := by
  intro n
  induction n with
  | zero =>
    intro s hg hl ⟨gs, hgs, hgo⟩
    refine codeAny_builtin F.entry_all_loop ?_
    rw [Around.under_plainId F.plain_all_loop _]
    show wpAny _ A.in1 (pyNext (.ref a) >>= _) _ _ s
    refine wpAny_bind (next_genG (A := A.in1) hh hl hd hg hgs hgo (fun v s₁ gs' hbare hv => ?_) (fun s₁ hf h' hk => ?_) fun e s₁ he => he.elim)
    · obtain ⟨σ', H', c, rfl, J, h1, h2⟩ := hv
      refine wpAny_bind (wpAny_holding (wpAny_truthy_bool ?_))
      refine wpAny_bind (wpAny_letGo ?_)
      cases c with
      | true => exact (h2 (by decide) _ rfl rfl J.bare).elim
      | false =>
        simp only [Bool.false_eq_true, if_false]
        refine wpAny_bind (wpAny_rule (wpAny_pure ?_))
        exact hend σ' H' false _ (Inv.stood (s5 := s₁.setGen g gs') J rfl (fun _ _ z => z) (allBare_setGen J.bare hbare)) (h1 rfl)
    · obtain ⟨σ', H', J, q⟩ := hf
      refine wpAny_bind (wpAny_rule (wpAny_pure ?_))
      exact hend σ' H' true _ (Inv.stood (s5 := { s₁.setGen g .finished with heap := h' }) J rfl hk (allBare_setGen J.bare rfl)) q
  | succ n ih =>
    intro s hg hl ⟨gs, hgs, hgo⟩
    have hgl : g < s.gens.size := (Array.getElem?_eq_some_iff.mp hgs).1
    refine codeAny_builtin F.entry_all_loop ?_
    rw [Around.under_plainId F.plain_all_loop _]
    show wpAny _ A.in1 (pyNext (.ref a) >>= _) _ _ s
    refine wpAny_bind (wpAny_gsz (n := g + 1) hgl (next_genG (A := A.in1) hh hl hd hg hgs hgo (fun v s₁ gs' hbare hv => ?_) (fun s₁ hf h' hk => ?_) fun e s₁ he => he.elim))
    · intro hsz
      obtain ⟨σ', H', c, rfl, J, h1, h2⟩ := hv
      have J2 : Inv Y pins σ' H' (s₁.setGen g gs') := Inv.stood J rfl (fun _ _ z => z) (allBare_setGen J.bare hbare)
      have hs1 : g < s₁.gens.size := by
        have q : (s₁.setGen g gs').gens.size = s₁.gens.size := setGen_size _ _ _
        have q2 : g + 1 ≤ (s₁.setGen g gs').gens.size := hsz
        omega
      refine wpAny_bind (wpAny_holding (wpAny_truthy_bool ?_))
      refine wpAny_bind (wpAny_letGo ?_)
      cases c with
      | true =>
        simp only [if_true]
        exact wpAny_pure ⟨plainId_quiet F.plain_all_loop _, ih _ (hp _ _ _ J2) J2.nolimit ⟨gs', setGen_at hs1, h2 (by decide) _ rfl rfl (allBare_setGen J2.bare rfl)⟩⟩
      | false =>
        simp only [Bool.false_eq_true, if_false]
        refine wpAny_bind (wpAny_rule (wpAny_pure ?_))
        exact hend σ' H' false _ J2 (h1 rfl)
    · intro hsz
      obtain ⟨σ', H', J, q⟩ := hf
      refine wpAny_bind (wpAny_rule (wpAny_pure ?_))
      exact hend σ' H' true _ (Inv.stood (s5 := { s₁.setGen g .finished with heap := h' }) J rfl hk (allBare_setGen J.bare rfl)) q
theorem any_asks (hh : A.handled = none) (hd : A.depth < recursionLimit) (hp : ∀ σ' H' t, Inv Y pins σ' H' t → t.heap.IsGen a g)
    (hend : ∀ σ' H' b t, Inv Y pins σ' H' t → Q (.bl b) H' → R (.ok (.ret (.bool b))) t) :
    ∀ (n : Nat) (s : Shared), s.heap.IsGen a g → s.heap.NoLimit →
      (∃ gs, s.gens[g]? = some gs ∧ gs.Goes (model Y.prog Y.w) A.in1.in1 (RG Y pins true Q) (YG Y pins true Q) n (.send .none) (s.setGen g .running)) →
      codeAny (model Y.prog Y.w) A (.builtin "any.loop" ⟨[.ref a], []⟩) R s := by
  intro n
  induction n with
  | zero =>
    intro s hg hl ⟨gs, hgs, hgo⟩
    refine codeAny_builtin F.entry_any_loop ?_
    rw [Around.under_plainId F.plain_any_loop _]
    show wpAny _ A.in1 (pyNext (.ref a) >>= _) _ _ s
    refine wpAny_bind (next_genG (A := A.in1) hh hl hd hg hgs hgo (fun v s₁ gs' hbare hv => ?_) (fun s₁ hf h' hk => ?_) fun e s₁ he => he.elim)
    · obtain ⟨σ', H', c, rfl, J, h1, h2⟩ := hv
      refine wpAny_bind (wpAny_holding (wpAny_truthy_bool ?_))
      refine wpAny_bind (wpAny_letGo ?_)
      cases c with
      | false => exact (h2 (by decide) _ rfl rfl J.bare).elim
      | true =>
        simp only [if_true]
        refine wpAny_bind (wpAny_rule (wpAny_pure ?_))
        exact hend σ' H' true _ (Inv.stood (s5 := s₁.setGen g gs') J rfl (fun _ _ z => z) (allBare_setGen J.bare hbare)) (h1 rfl)
    · obtain ⟨σ', H', J, q⟩ := hf
      refine wpAny_bind (wpAny_rule (wpAny_pure ?_))
      exact hend σ' H' false _ (Inv.stood (s5 := { s₁.setGen g .finished with heap := h' }) J rfl hk (allBare_setGen J.bare rfl)) q
  | succ n ih =>
    intro s hg hl ⟨gs, hgs, hgo⟩
    have hgl : g < s.gens.size := (Array.getElem?_eq_some_iff.mp hgs).1
    refine codeAny_builtin F.entry_any_loop ?_
    rw [Around.under_plainId F.plain_any_loop _]
    show wpAny _ A.in1 (pyNext (.ref a) >>= _) _ _ s
    refine wpAny_bind (wpAny_gsz (n := g + 1) hgl (next_genG (A := A.in1) hh hl hd hg hgs hgo (fun v s₁ gs' hbare hv => ?_) (fun s₁ hf h' hk => ?_) fun e s₁ he => he.elim))
    · intro hsz
      obtain ⟨σ', H', c, rfl, J, h1, h2⟩ := hv
      have J2 : Inv Y pins σ' H' (s₁.setGen g gs') := Inv.stood J rfl (fun _ _ z => z) (allBare_setGen J.bare hbare)
      have hs1 : g < s₁.gens.size := by
        have q : (s₁.setGen g gs').gens.size = s₁.gens.size := setGen_size _ _ _
        have q2 : g + 1 ≤ (s₁.setGen g gs').gens.size := hsz
        omega
      refine wpAny_bind (wpAny_holding (wpAny_truthy_bool ?_))
      refine wpAny_bind (wpAny_letGo ?_)
      cases c with
      | false =>
        simp only [Bool.false_eq_true, if_false]
        exact wpAny_pure ⟨plainId_quiet F.plain_any_loop _, ih _ (hp _ _ _ J2) J2.nolimit ⟨gs', setGen_at hs1, h2 (by decide) _ rfl rfl (allBare_setGen J2.bare rfl)⟩⟩
      | true =>
        simp only [if_true]
        refine wpAny_bind (wpAny_rule (wpAny_pure ?_))
        exact hend σ' H' true _ J2 (h1 rfl)
    · intro hsz
      obtain ⟨σ', H', J, q⟩ := hf
      refine wpAny_bind (wpAny_rule (wpAny_pure ?_))
      exact hend σ' H' false _ (Inv.stood (s5 := { s₁.setGen g .finished with heap := h' }) J rfl hk (allBare_setGen J.bare rfl)) q
end

end

section
open PySem.Spec PyProof.Rows GenW GxR NdefX
/-! ### the expression -/
/-- where the generator's code runs, asked from A -/
abbrev arG (A : Around) (tg elt iter : Expr) (sc : Scope) (pos : Pos) (it : Addr) (env : Env) : Around :=
  A.in1.in1.over (.compLoop (.GeneratorExp elt [⟨tg, iter, [], 0⟩] sc pos) 0 (.ref it) .none env) []
theorem arG_hd {A : Around} {tg elt iter : Expr} {sc : Scope} {pos : Pos} {it : Addr} {env : Env} (h : A.handled = none) : (arG A tg elt iter sc pos it env).handled = none := h
theorem arG_frames {A : Around} {tg elt iter : Expr} {sc : Scope} {pos : Pos} {it : Addr} {env : Env} {l : List Env} (h : A.frames = some l) : (arG A tg elt iter sc pos it env).frames = some (env :: l) := by
  obtain ⟨hd, d, f, gs, u⟩ := A
  obtain rfl : f = some l := h
  rfl
theorem arG_room {k : Nat} {A : Around} {tg elt iter : Expr} {sc : Scope} {pos : Pos} {it : Addr} {env : Env} (r : Room (k + 1) A) : Room k (arG A tg elt iter sc pos it env) :=
  ⟨r.hd, by have := r.dp; show A.depth + 0 + 1 + 3 * k + 5 < _; omega, by have := r.un; show A.units + 1 + 1 + 0 + 3 + 16 * k + 200 < _; omega⟩
/-- a generator stands at a and has handed out nothing -/
def GReady (X : Cx) (pins : List (Addr × Obj)) (σ : L2.St) (N : List Str) (sc : Scope) (st : Bool) (Q : VK) (a : Addr) (s5 : Shared) : Prop :=
  ∃ (g : Nat) (B : Around) (s0 : Shared) (H0 : Hp) (cd : Value) (fp : List Addr) (ps : List (Addr × Obj)) (n : Nat),
    s5.heap.IsGen a g ∧ s5.heap.NoLimit ∧ (∀ σ' H' t, Inv (cxG X N sc B s0 H0 cd fp) ps σ' H' t → t.heap.IsGen a g) ∧
    (∀ σ' H' t, Inv (cxG X N sc B s0 H0 cd fp) ps σ' H' t → Inv X pins σ H' t) ∧
    ∃ gs, s5.gens[g]? = some gs ∧ gs.Goes (model X.prog X.w) X.A.in1.in1 (RG (cxG X N sc B s0 H0 cd fp) ps st Q) (YG (cxG X N sc B s0 H0 cd fp) ps st Q) n (.send .none) (s5.setGen g .running)
/-- the answer: the element's readings, one after another -/
def tAns (st : Bool) (te : TE) : TS := fun D σ H => te σ H fun y H3 => ∃ c, y = .bl c ∧ if c = st then D.rt (.bl st) H3 else D.nx σ H3
def tGen (P : Addr) (fr : List (Option Nat)) (wi : TI) (g : TG) (te : TE) (st : Bool) : TE := fun σ H Q => wi σ H fun J H1 => TabG H1 P ∧ ∀ H2, Tabbed P H1 H2 →
  ∃ W : Nat → Nat → L2.St → Hp → Prop, (∃ m, W 0 m (slotsG fr σ) H2) ∧ ∀ i m σ H, W i m σ H →
    (J.stop i H ∧ (Ends.mk (fun _ H' => Q (.bl (!st)) H') Q (fun _ _ => False) (fun _ _ => False)).nx σ H) ∨ (J.go i H ∧ ∃ N : L2.St → Hp → Prop, (∀ σ' H', N σ' H' → ∃ m', m' < m ∧ W (i + 1) m' σ' H') ∧
      ∀ x H', J.yld i H x H' → g x σ H' fun σ2 H2 => tAns st te { (Ends.mk (fun _ H' => Q (.bl (!st)) H') Q (fun _ _ => False) (fun _ _ => False)) with nx := N, ct := N, bk := fun _ H' => Q (.bl (!st)) H' } σ2 H2)
section
variable {X : Cx} {pins : List (Addr × Obj)} {σ : L2.St} {H : Hp} {s : Shared}
theorem make_gen {c P : Addr} {tg elt iter : Expr} {gpos : Pos} {sc : Scope} {N : List Str} {fr : List (Option Nat)} {wi : TI} {g : TG} {te : TE} {k : Nat} {st : Bool} {Q : VK} {Q' : Value → Shared → Prop}
    (hr : Room (k + 1) X.A) (TB : TabB X.base X.mg c P) (hcode : X.env.code = .ref c) (S : GSc X.env sc) (FR : GFr X sc N fr) (hi : PI X tg iter wi)
    (hb : ∀ (B : Around) (s0 : Shared) (H0 : Hp) (cd : Value) (fp : List Addr), Room k B → PG (cxG X N sc B s0 H0 cd fp) tg g ∧ PE (cxG X N sc B s0 H0 cd fp) elt te)
    (hs : ∀ v, genFold iter X.env v = pure v) (I : Inv X pins σ H s) (h : tGen P fr wi g te st σ H Q)
    (hQ : ∀ a s5, GReady X pins σ N sc st Q a s5 → Q' (.ref a) s5) :
    wpAny (model X.prog X.w) X.A (eval (.GeneratorExp elt [⟨tg, iter, [], 0⟩] sc gpos) X.env) Q' X.xe s := by
  refine wpAny_GeneratorExp_make S.co (closure_ok S.free) S.cell S.dot S.kind (by have := hr.dp; omega) ?_ hs
  refine thn (hi.run pins s σ H _ I h) fun xv s1 h1 => thn h1 fun itv s2 h2 => ?_
  obtain ⟨it, fp, tn, J, H2, rfl, I2, T, t2, f2, ⟨ps, hP, htr⟩, hW⟩ := h2
  have hPs : s2.heap.get? P = some { cls := .none, data := .fields ps } := I2.hok P _ hP
  have cd : PySem.W.CodeHd s2.heap c P := TB.code.keeps fun b u e => I2.bk b u e
  refine ⟨I2.nolimit, ?_⟩
  have cont : ∀ (code : Value) (h3 : Heap) (tk : Nat) (ps' : Array Value), Heap.ExtBut P s2.heap h3 → s2.heap.objs.size ≤ h3.objs.size → h3.get? P = some { cls := .none, data := .fields ps' } → (∃ more, ps' = ps ++ more) → TriplesOk ps'.toList →
      wpAny (model X.prog X.w) X.A (builtinsFor X.env.globals X.env.builtins) (fun bi s₄ => ∀ h', h'.Ns s₄.heap.objs.size (fun y => if y = ".0" then some (Value.ref it) else none) →
        Heap.SameBut s₄.heap.objs.size (s₄.heap.push { cls := .type "frame", data := .dict #[] }) h' →
          Q' (.ref h'.objs.size) { s₄ with
            gens := s₄.gens.push (.fresh (.compStart (.GeneratorExp elt [⟨tg, iter, [], 0⟩] sc gpos) 0 (.ref it) .none (genEnv sc (cloFrom X.env.cells sc.names []) s₄.heap.objs.size code bi X.env))),
            toks := s₄.toks + 1 + 1 + 1,
            heap := h'.push { cls := .type "generator", data := .fields #[.int s₄.gens.size 0, .str "<genexpr>" (s₄.toks + 1), .str (X.env.qual ++ "<genexpr>") (s₄.toks + 1 + 1)] } }) X.xe { s2 with heap := h3, toks := tk } := by
    intro code h3 tk ps' hx3 hsz hP3 hmore ht3
    obtain ⟨more, rfl⟩ := hmore
    obtain ⟨bm, ob, e1, e2, e3, e4, e5, e6, e7, e8⟩ := TB.bm
    have keep3 : ∀ b u, b ≠ P → s2.heap.get? b = some u → h3.get? b = some u := fun b u z e => hx3 b u z e
    have I3 : Inv X pins σ (upd H2 P (.tbl (ps ++ more))) { s2 with heap := h3, toks := tk } := inv_tab (g' := s2.gens) (d' := s2.drawn) I2 hP keep3 hP3 I2.bare
    have TT : Tabbed P H2 (upd H2 P (.tbl (ps ++ more))) := ⟨⟨ps ++ more, upd_same, ht3⟩, fun b z => upd_ne z⟩
    refine wpAny_builtinsFor (m := X.mg) (by rw [I3.ok.glob]; exact I3.mod.glob.keeps I3.bk) e1 e2 (I3.bk _ _ e5) e6 e7 e8 ?_
    intro h' hn' hs'
    -- the new frame at C, the generator behind it
    have sz' : h'.objs.size = h3.objs.size + 1 := by rw [hs'.1, Heap.size_push]
    have keep' : ∀ b u, h3.get? b = some u → h'.get? b = some u := fun b u e => hs'.extBut b u (Nat.ne_of_lt (Heap.lt_size e)) (Heap.get?_push_of_some _ e)
    obtain ⟨W, ⟨m0, w0⟩, turn⟩ := hW _ TT
    have neP : ∀ b ∈ fp, b ≠ P := fun b hb z => by
      have q := (f2 b hb).1
      rw [z, hP] at q
      cases q
    have ltC : ∀ b ∈ fp, b < h3.objs.size := fun b hb => by
      obtain ⟨u, hu, _⟩ := T.obj _ _ t2 b hb
      exact Nat.lt_of_lt_of_le (Heap.lt_size hu) hsz
    have f3 : ∀ b ∈ fp, FpOk X pins (upd H2 P (.tbl (ps ++ more))) b := fun b hb => ⟨by rw [upd_ne (neP b hb)]; exact (f2 b hb).1, (f2 b hb).2⟩
    have aC : h3.objs.size < h'.objs.size := by rw [sz']; exact Nat.lt_succ_self _
    generalize hgo : ({ cls := .type "generator", data := .fields #[.int s2.gens.size 0, .str "<genexpr>" (tk + 1), .str (X.env.qual ++ "<genexpr>") (tk + 1 + 1)] } : Obj) = genO
    have isg : ∀ {h : Heap}, h.get? h'.objs.size = some genO → h.IsGen h'.objs.size s2.gens.size := fun {h} e => by
      subst hgo
      exact ⟨_, _, _, e, rfl, rfl, rfl⟩
    have atA : (h'.push genO).get? h'.objs.size = some genO := Heap.get?_push_size _ (by subst hgo; rfl)
    have keep5 : ∀ b u, h3.get? b = some u → (h'.push genO).get? b = some u := fun b u e => Heap.get?_push_of_some _ (keep' b u e)
    let B : Around := arG X.A tg elt iter sc gpos it (envG X sc h3.objs.size code)
    have rB : Room k B := arG_room hr
    have nofs : ∀ b ∈ fp, b ∉ frs X.stack := fun b hb z => by
      rcases List.mem_cons.mp (I3.stkSub b z) with q | q
      · exact (f2 b hb).2.1 q
      · exact (f2 b hb).2.2.1 q
    refine hQ _ _ ⟨s2.gens.size, B, { s2 with heap := h3, toks := tk }, upd H2 P (.tbl (ps ++ more)), code, fp, [(h'.objs.size, genO)], m0 + 1, isg atA, I3.nolimit.keeps keep5,
      fun σ' H' t J => isg (J.pin (h'.objs.size, genO) (by simp)).1, fun σ' H' t J => ?_, _, Array.getElem?_push_size .., rfl, ?_⟩
    · exact I3.call' (ch := fp) J.os J.base J.hok J.bare fun b hb => ⟨(f2 b hb).2.2.2.1, (f2 b hb).2.1, (f2 b hb).2.2.2.2.1, (f2 b hb).2.2.2.2.2⟩
    · have I5 := start_gen (N := N) (B := B) (cd := code) (fp := fp) (a := h'.objs.size) (o := genO) I3 S FR (fun b hb => ⟨f3 b hb, ltC b hb⟩) rB.hd (arG_frames I3.ok.frames)
        (s5 := { s2 with gens := s2.gens.push (.fresh (.compStart (.GeneratorExp elt [⟨tg, iter, [], 0⟩] sc gpos) 0 (.ref it) .none (envG X sc h3.objs.size code))), toks := tk + 1 + 1 + 1, heap := h'.push genO })
        rfl (I3.bare.push rfl) keep5 (hn'.push _) aC atA (by subst hgo; intro v z; cases z)
      have I6 := Inv.stood (s5 := Shared.setGen { s2 with gens := s2.gens.push (.fresh (.compStart (.GeneratorExp elt [⟨tg, iter, [], 0⟩] sc gpos) 0 (.ref it) .none (envG X sc h3.objs.size code))), toks := tk + 1 + 1 + 1, heap := h'.push genO } s2.gens.size .running) I5 rfl (fun _ _ e => e) (allBare_setGen I5.bare rfl)
      have hb' := hb B { s2 with heap := h3, toks := tk } (upd H2 P (.tbl (ps ++ more))) code fp rB
      refine seg_begins (Y := cxG X N sc B { s2 with heap := h3, toks := tk } (upd H2 P (.tbl (ps ++ more))) code fp) (A := X.A.in1.in1) (tn := tn) (J := J) rfl S.co rfl T hb'.1 hb'.2 (fun _ _ e => e)
        (fun b hb H' hn => ⟨hn, Nat.ne_of_lt (ltC b hb), nofs b hb, .inl hb, fun y e he => (f2 b hb).2.2.2.2.1 y e (clo_cm S.free he), fun p hp => ?_⟩) turn m0 (m0 + 1) _ _ _ _ (Nat.lt_succ_self _) I6
        (T.keep 0 _ _ t2 fun b hb o e => keep5 b o (keep3 b o (neP b hb) e)) (fun b hb => (f3 b hb).1) w0
      have hp : p ∈ [(h'.objs.size, genO)] := hp
      obtain rfl : p = (h'.objs.size, genO) := by simpa using hp
      exact Nat.ne_of_gt (Nat.lt_trans (ltC b hb) aC)
  cases hf : codeAmong gpos ps.toList with
  | none =>
    refine wpAny_genexprCodeX hcode (cd.code hPs htr) (cd.tab hPs) hf fun c' h' tk hx hge hlt hco' _ htab' _ => ?_
    obtain ⟨o1, vs, f1, tf, fl, tg', inF, tx, tt, op, _, _, _, _, _, _, _, _, _, htr', _⟩ := hco'
    exact cont _ h' tk _ hx (Nat.le_trans hge (Nat.le_of_lt hlt)) htab'.2 ⟨_, rfl⟩ htr'
  | some cv =>
    refine wpAny_genexprCode_hit hcode (cd.code hPs htr) hf ?_
    exact cont cv s2.heap s2.toks ps (Heap.ExtBut.refl _ _) (Nat.le_refl _) hPs ⟨#[], by simp⟩ htr
theorem pe_allG {c P : Addr} {tg elt iter : Expr} {p pos gpos : Pos} {sc : Scope} {N : List Str} {fr : List (Option Nat)} {wi : TI} {g : TG} {te : TE} {k : Nat}
    (hr : Room (k + 1) X.A) (hg : Gl X "all") (hm : X.mg "all" = none) (hbt : bootBuiltins "all" = some (.builtin "all")) (TB : TabB X.base X.mg c P) (hcode : X.env.code = .ref c) (S : GSc X.env sc) (FR : GFr X sc N fr) (hi : PI X tg iter wi)
    (hb : ∀ (B : Around) (s0 : Shared) (H0 : Hp) (cd : Value) (fp : List Addr), Room k B → PG (cxG X N sc B s0 H0 cd fp) tg g ∧ PE (cxG X N sc B s0 H0 cd fp) elt te)
    (hs : ∀ v, genFold iter X.env v = pure v)
    (he : starEach [.GeneratorExp elt [⟨tg, iter, [], 0⟩] sc gpos] X.env = (false, eval (.GeneratorExp elt [⟨tg, iter, [], 0⟩] sc gpos) X.env) :: starEach [] X.env := by rfl) :
    PE X (.Call (.Name "all" p) [.GeneratorExp elt [⟨tg, iter, [], 0⟩] sc gpos] [] pos) (tGen P fr wi g te false) := by
  refine ⟨fun pins s σ H Q I h => ?_⟩
  refine wpAny_Call_Name_kw (ld_blt I hg hm hbt ?_)
  refine PyProof.Rows.callWith_builtin1 ?_ he (by rfl)
  rw [he]
  show wpAny _ X.A (spliced ((false, eval (.GeneratorExp elt [⟨tg, iter, [], 0⟩] sc gpos) X.env) :: backTo pos (starEach [] X.env))) _ _ s
  refine Calls.spliced_cons (make_gen hr TB hcode S FR hi hb hs I h fun a s5 hG => ?_)
  refine Calls.spliced_nil ?_
  obtain ⟨n, B, s0, H0, cd, fp, ps, m, q1, q2, q3, q4, q5⟩ := hG
  refine call_function_tree F.kind_all F.plain_all F.entry_all (F.args_all1 _) ?_
  unfold Builtin.«all»
  refine wpAny_bind (m := oneArg "all" _) (wpAny_pure ?_)
  refine wpAny_bind (wpAny_pyIter_gen q1 ?_)
  refine wpAny_pure ⟨plainId_quiet F.plain_all_loop _, ?_⟩
  exact all_asks (Y := cxG X N sc B s0 H0 cd fp) hr.hd (by have := hr.dp; omega) q3 (fun σ' H' b t J q => ⟨.bl b, H', q4 σ' H' t J, rfl, q⟩) m s5 q1 q2 q5
theorem pe_anyG {c P : Addr} {tg elt iter : Expr} {p pos gpos : Pos} {sc : Scope} {N : List Str} {fr : List (Option Nat)} {wi : TI} {g : TG} {te : TE} {k : Nat}
    (hr : Room (k + 1) X.A) (hg : Gl X "any") (hm : X.mg "any" = none) (hbt : bootBuiltins "any" = some (.builtin "any")) (TB : TabB X.base X.mg c P) (hcode : X.env.code = .ref c) (S : GSc X.env sc) (FR : GFr X sc N fr) (hi : PI X tg iter wi)
    (hb : ∀ (B : Around) (s0 : Shared) (H0 : Hp) (cd : Value) (fp : List Addr), Room k B → PG (cxG X N sc B s0 H0 cd fp) tg g ∧ PE (cxG X N sc B s0 H0 cd fp) elt te)
    (hs : ∀ v, genFold iter X.env v = pure v)
    (he : starEach [.GeneratorExp elt [⟨tg, iter, [], 0⟩] sc gpos] X.env = (false, eval (.GeneratorExp elt [⟨tg, iter, [], 0⟩] sc gpos) X.env) :: starEach [] X.env := by rfl) :
    PE X (.Call (.Name "any" p) [.GeneratorExp elt [⟨tg, iter, [], 0⟩] sc gpos] [] pos) (tGen P fr wi g te true) := by
  refine ⟨fun pins s σ H Q I h => ?_⟩
  refine wpAny_Call_Name_kw (ld_blt I hg hm hbt ?_)
  refine PyProof.Rows.callWith_builtin1 ?_ he (by rfl)
  rw [he]
  show wpAny _ X.A (spliced ((false, eval (.GeneratorExp elt [⟨tg, iter, [], 0⟩] sc gpos) X.env) :: backTo pos (starEach [] X.env))) _ _ s
  refine Calls.spliced_cons (make_gen hr TB hcode S FR hi hb hs I h fun a s5 hG => ?_)
  refine Calls.spliced_nil ?_
  obtain ⟨n, B, s0, H0, cd, fp, ps, m, q1, q2, q3, q4, q5⟩ := hG
  refine call_function_tree F.kind_any F.plain_any F.entry_any (F.args_any1 _) ?_
  unfold Builtin.«any»
  refine wpAny_bind (m := oneArg "any" _) (wpAny_pure ?_)
  refine wpAny_bind (wpAny_pyIter_gen q1 ?_)
  refine wpAny_pure ⟨plainId_quiet F.plain_any_loop _, ?_⟩
  exact any_asks (Y := cxG X N sc B s0 H0 cd fp) hr.hd (by have := hr.dp; omega) q3 (fun σ' H' b t J q => ⟨.bl b, H', q4 σ' H' t J, rfl, q⟩) m s5 q1 q2 q5
end

end

section
open PySem.Spec PyProof.Rows
/-! ### a dict comprehension whose keys are tuples -/
section
variable {X : Cx} {pins : List (Addr × Obj)} {σ : L2.St} {H : Hp} {s : Shared}
/-- an entry is laid under a tuple -/
theorem lay_entry {A : Around} {E : Value → Shared → Prop} {D b : Addr} {kvs : List (List Key × V)} {k : List Key} {v : V} {r : Value} {Q : Unit → Shared → Prop}
    (hu : A.units < cLine) (I : Inv X pins σ H s) (hD : H D = some (.dT kvs)) (hb : H b = some (.tup (k.map kV))) (hl : kvs.length < sizeLine) (rv : RelV v r)
    (h : ∀ s', Inv X pins σ (upd H D (.dT (putK kvs k v))) s' → Q () s') : wpAny (model X.prog X.w) A (dictSet D (.ref b) r) Q E s := by
  obtain ⟨le, nd, xs, rel, dd⟩ := dt_of I.hok hD
  have small : xs.length ≤ sizeLine := by rw [← Paired.length rel]; exact le
  have small2 : (putK kvs k v).length ≤ sizeLine := by
    have q := length_putK kvs k v
    omega
  refine wpAny_dictSet_heap (hsz := small) (show (tupleKind (mixKind X.prog X.w)).room A from hu) (key_of I.hok hb) dd fun h2 dd2 same => h _ ?_
  obtain ⟨o, es, ep, ho, p2, p3, p4, _, p5⟩ := dd2
  refine d_write I (by rw [hD]; exact True.intro) same ⟨o, ho⟩ ⟨small2, nd, _, (rel.put k hb rv).keeps fun c ys ec => ?_, o, es, ep, ho, p2, p3, p4, p5⟩
  have cD : c ≠ D := ne_of ec hD fun z => nomatch z
  rw [upd_ne cD]
  exact ec
/-- D: the new dict -/
def tDcT (wi : TI) (g : TG) (tk tv : TE) (vs : List Nat) : TE := fun σ H Q => wi σ H fun J H1 => ∀ D, H1 D = none → ∃ W : Nat → Nat → Hp → Prop, (∃ m, W 0 m (upd H1 D (.dT []))) ∧ ∀ i m H, W i m H →
  (J.stop i H ∧ Q (.ref D) H) ∨ (J.go i H ∧ ∃ Nx : Hp → Prop, (∀ H', Nx H' → ∃ m', m' < m ∧ W (i + 1) m' H') ∧
    ∀ x H', J.yld i H x H' → g x (wipe σ vs) H' fun σ2 H2 => wipe σ2 vs = wipe σ vs ∧ tk σ2 H2 fun y H4 => tv σ2 H4 fun z H5 =>
      ∃ b kvs k, y = .ref b ∧ H5 b = some (.tup (k.map kV)) ∧ H5 D = some (.dT kvs) ∧ kvs.length < sizeLine ∧ Nx (upd H5 D (.dT (putK kvs k z))))
theorem pe_dcT {kx vx tg iter : Expr} {scope : Scope} {own : List (Str × Nat)} {pos : Pos} {wi : TI} {g : TG} {tk tv : TE} (hc : X.calm = true) (hu : X.A.units < cLine) (hN : X.N.Nodup) (hi : PI X tg iter wi) (ok : BlkOk X.N X.env.scope scope own)
    (hb : ∀ (s : Shared) (H : Hp) (C : Addr) (cl : List (Str × Addr)) (fp : List Addr), PG (X.blk s H scope (compEnvC scope cl C X.env) fp) tg g ∧ PE (X.blk s H scope (compEnvC scope cl C X.env) fp) kx tk ∧ PE (X.blk s H scope (compEnvC scope cl C X.env) fp) vx tv)
    (hs : ∀ x, foldedSetIterable iter X.env x = pure x := by intro _; rfl) :
    PE X (.DictComp kx vx [⟨tg, iter, [], 0⟩] scope pos) (tDcT wi g tk tv (own.map (·.2))) := by
  refine ⟨fun pins s σ H Q I h => ?_⟩
  rw [arm_eval_DictComp]
  have caught : ∀ y ∈ scope.names, y.2 = .free → ∃ c, X.env.cells.lookup y.1 = some c := fun y hy e => by
    have q := ok.free y hy e
    exact I.ok.has _ (q.elim .inl .inr)
  refine wpAny_comprehension_free (use := none) rfl hs (closure_ok caught) ok.kind (fun y hy e => by rw [ok.uniq y hy, e]) ?_
  refine thn (hi.run pins s σ H _ I h) fun xv s1 h1 => thn h1 fun itv s2 h2 => ?_
  obtain ⟨it, fp, tn, J, H2, rfl, I2, T, t2, f2, rest⟩ := h2
  refine wpAny_newObj_type (newEnv_comp ?_)
  generalize eD : s2.heap.objs.size = D
  have nD : H2 D = none := I2.hok.fresh (Nat.le_of_eq eD)
  obtain ⟨W, ⟨m0, w0⟩, turn⟩ := rest D nD
  generalize e3 : ({ s2 with heap := s2.heap.push { cls := .type "dict", data := .dict #[] } } : Shared) = s3
  have heap3 : s3.heap = s2.heap.push { cls := .type "dict", data := .dict #[] } := by rw [← e3]
  have I3 : Inv X pins σ (upd H2 D (.dT [])) s3 := by
    rw [← e3]
    refine I2.laid (t' := s2.toks) (fun b o e => Heap.get?_push_of_some _ e) (Nat.le_of_eq eD) ?_
    rw [← eD]
    exact dt_empty s2.heap I2.big
  have old : ∀ b ∈ fp, b < s2.heap.objs.size := fun b hb => by
    obtain ⟨o, e, _⟩ := T.obj _ _ t2 b hb
    exact Heap.lt_size e
  have f3 : ∀ b ∈ fp, FpOk X pins (upd H2 D (.dT [])) b ∧ b < s3.heap.objs.size := fun b hb => by
    have lt := old b hb
    refine ⟨⟨?_, (f2 b hb).2⟩, by rw [heap3, Heap.size_push]; exact Nat.lt_succ_of_lt lt⟩
    rw [upd_ne (by rw [← eD]; exact Nat.ne_of_lt lt)]
    exact (f2 b hb).1
  have t3 : tn 0 s3.heap := T.keep _ _ _ t2 fun b _ o e => by rw [heap3]; exact Heap.get?_push_of_some _ e
  have I4 := block_start I3 ok hN f3
  obtain ⟨pg, pk, pv⟩ := hb s3 (upd H2 D (.dT [])) s3.heap.objs.size (cellsFrom (s3.heap.objs.size + 1) scope.names (cloFrom X.env.cells scope.names [])) fp
  show codeAny _ _ (.compStart (.DictComp kx vx [⟨tg, iter, [], 0⟩] scope pos) 0 (.ref it) (.ref D) (compEnvC scope (cellsFrom (s3.heap.objs.size + 1) scope.names (cloFrom X.env.cells scope.names [])) s3.heap.objs.size X.env))
    (compPost (model X.prog X.w) X.A X.xe none _ (.ref D) s3.heap.objs.size) { s3 with heap := pushCells (s3.heap.push { cls := .type "dict", data := .dict #[] }) scope.names }
  have none3 : ∀ b ∈ fp, (upd H2 D (.dT [])) b = none := fun b hb => (f3 b hb).1.1
  generalize ece : compEnvC scope (cellsFrom (s3.heap.objs.size + 1) scope.names (cloFrom X.env.cells scope.names [])) s3.heap.objs.size X.env = ce at I4 pg pk pv ⊢
  have ceL : ce.locals = s3.heap.objs.size := by subst ece; rfl
  generalize eH3 : upd H2 D (.dT []) = H3 at I3 I4 pg pk pv w0 none3 f3
  generalize e4 : ({ s3 with heap := pushCells (s3.heap.push { cls := .type "dict", data := .dict #[] }) scope.names } : Shared) = s4 at I4 ⊢
  have t4 : tn 0 s4.heap := T.keep _ _ _ t3 fun b _ o e => by rw [← e4]; exact pushCells_keeps _ _ _ _ (Heap.get?_push_of_some _ e)
  have fpo : ∀ {σ' : L2.St} {H' : Hp} {s' : Shared}, Inv (X.blk s3 H3 scope ce fp) [] σ' H' s' → (∀ b ∈ fp, H' b = none) → ∀ b ∈ fp, FpOk (X.blk s3 H3 scope ce fp) [] H' b := fun {σ' H' s'} I' hn b hb =>
    ⟨hn b hb, (I'.ok.exf b hb).1, I'.ok.exfs b hb, .inl hb, fun x c e => (I'.ok.exf b hb).2 x c e, fun p hp => absurd (show p ∈ ([] : List (Addr × Obj)) ++ [] from hp) (by simp)⟩
  have loop : codeAny (model X.prog X.w) X.A (.compLoop (.DictComp kx vx [⟨tg, iter, [], 0⟩] scope pos) 0 (.ref it) (.ref D) ce) (compPost (model X.prog X.w) X.A X.xe none (EP X pins σ Q) (.ref D) s3.heap.objs.size) s4 := by
    refine compLoop_anyD (fun n s' => ∃ i H', Inv (X.blk s3 H3 scope ce fp) [] (wipe σ (own.map (·.2))) H' s' ∧ tn i s'.heap ∧ (∀ b ∈ fp, H' b = none) ∧ W i n H') ?_ m0 ⟨0, H3, I4, t4, none3, w0⟩
    rintro n s5 ⟨i, H5, I5, t5, n5, w5⟩
    rcases turn i n H5 w5 with ⟨hstop, qq⟩ | ⟨go, Nx, hNx, step⟩
    · refine thnF (T.done (X.blk s3 H3 scope ce fp) rfl rfl rfl hc i [] s5 _ H5 (fun _ _ => False) I5 (fpo I5 n5) t5 hstop) fun r s6 h6 => ?_
      obtain ⟨rfl, I6⟩ := h6
      have I7 : Inv X pins σ H5 s6 := I3.call' (ch := fp) I6.os I6.base I6.hok I6.bare fun b hb =>
        have z := (f3 b hb).1.2
        ⟨z.2.2.1, z.1, z.2.2.2.1, z.2.2.2.2⟩
      have nC : H5 s3.heap.objs.size = none := by
        have z : H5 ce.locals = none := I6.free
        rwa [ceL] at z
      obtain ⟨m, hn, _⟩ := I6.loc
      have hn : s6.heap.Ns ce.locals m := hn
      rw [ceL] at hn
      obtain ⟨_, g1, _, g3, g4, g5⟩ := I3.fpOk (Nat.le_refl _) nC
      exact ⟨m, hn, fun h2 sb => ⟨.ref D, H5, I7.turned (t' := s6.toks) (fun b o ne e => (sb.2 b ne).trans e) nC g1 g3 g4 g5, rfl, qq⟩⟩
    · refine thnF (T.item (X.blk s3 H3 scope ce fp) rfl rfl rfl hc i [] s5 _ H5 (fun _ _ => False) I5 (fpo I5 n5) t5 go) fun r s6 h6 => ?_
      obtain ⟨u, rfl, h6⟩ := h6
      refine thnF h6 fun _ s7 ⟨x, H7, I7, r7, y7, t7, n7⟩ => ?_
      have J7 := I7.pinned (fpo I7 n7) (T.obj _ _ t7)
      refine thnF (pg.run _ s7 _ H7 x u _ J7 r7 (step x H7 y7)) fun _ s8 ⟨σ8, H8, I8, ew, q8⟩ => ?_
      simp only [List.forIn_nil]
      refine wpAny_pure ?_
      simp only [if_true]
      refine thnF (pk.run _ s8 σ8 H8 _ I8 q8) fun u1 s10 ⟨yk, H10, I10, r10, q10⟩ => ?_
      refine thnF (pv.run _ s10 σ8 H10 _ I10 q10) fun u2 s11 ⟨yv, H11, I11, r11, b, kvs, k, ek, hb11, hD11, hl11, nx⟩ => ?_
      subst ek
      obtain rfl : u1 = .ref b := r10
      refine lay_entry (X := X.blk s3 H3 scope ce fp) hu I11 hD11 hb11 hl11 r11 fun s12 I12 => ?_
      obtain ⟨m', lt, w'⟩ := hNx _ nx
      have len8 : (wipe σ (own.map (·.2))).length = σ8.length := by rw [← ew, wipe_length]
      have stay : ∀ c ∈ fp, ∀ o, s7.heap.get? c = some o → s12.heap.get? c = some o ∧ (upd H11 D (.dT (putK kvs k yv))) c = none := fun c hc' o e =>
        have z := I12.pin (c, o) (List.mem_append_right _ (List.mem_append_right _ (mem_pinsAt hc' e)))
        ⟨z.1, z.2.1⟩
      refine ⟨m', lt, i + 1, _, (I12.unpinned (pins := [])).weak len8 (fun j v e => ?_), T.keep _ _ _ t7 fun c hc' o e => (stay c hc' o e).1, fun c hc' => ?_, w'⟩
      · rw [← ew] at e
        exact (wipe_some e).1
      · obtain ⟨o, e, _⟩ := T.obj _ _ t7 c hc'
        exact (stay c hc' o e).2
  exact codeAny_compStart_dict loop (T.self X.A 0 _ _ _ t4 loop)
end

end

section
open PySem.Spec PyProof.Rows
/-! ### tuples of numbers and texts (links are such), lists of them -/
abbrev Tk := List L2.Key
/-- v is a tuple that holds k -/
def Kr (H : Hp) (v : V) (k : Tk) : Prop := ∃ t, v = .ref t ∧ H t = some (.tup (k.map kV))
theorem Kr.same {H H' : Hp} {v : V} {k : Tk} (h : Kr H v k) (z : Same H H') : Kr H' v k := by
  obtain ⟨t, rfl, h⟩ := h
  exact ⟨t, rfl, z _ _ h⟩
theorem Kr.over {H : Hp} {m : Addr} {zs ws : List V} {v : V} {k : Tk} (h : Kr H v k) (hm : H m = some (.lst zs)) : Kr (upd H m (.lst ws)) v k := by
  obtain ⟨t, rfl, h⟩ := h
  refine ⟨t, rfl, ?_⟩
  rw [upd_ne (ne_of h hm fun z => nomatch z)]
  exact h
inductive Krs (H : Hp) : List V → List Tk → Prop
  | nil : Krs H [] []
  | cons {v : V} {k : Tk} {vs : List V} {ks : List Tk} : Kr H v k → Krs H vs ks → Krs H (v :: vs) (k :: ks)
section
variable {H H' : Hp} {vs us : List V} {ks ls : List Tk}
theorem Krs.same (h : Krs H vs ks) (z : Same H H') : Krs H' vs ks := by
  induction h with
  | nil => exact .nil
  | cons a _ ih => exact .cons (a.same z) ih
theorem Krs.over {m : Addr} {zs ws : List V} (h : Krs H vs ks) (hm : H m = some (.lst zs)) : Krs (upd H m (.lst ws)) vs ks := by
  induction h with
  | nil => exact .nil
  | cons a _ ih => exact .cons (a.over hm) ih
theorem Krs.len (h : Krs H vs ks) : vs.length = ks.length := by
  induction h with
  | nil => rfl
  | cons a _ ih => exact congrArg (· + 1) ih
theorem Krs.app (h : Krs H vs ks) (g : Krs H us ls) : Krs H (vs ++ us) (ks ++ ls) := by
  induction h with
  | nil => exact g
  | cons a _ ih => exact .cons a ih
theorem Krs.snoc {v : V} {k : Tk} (h : Krs H vs ks) (g : Kr H v k) : Krs H (vs ++ [v]) (ks ++ [k]) := h.app (.cons g .nil)
theorem Krs.at (h : Krs H vs ks) : ∀ {i : Nat} {v : V}, vs[i]? = some v → ∃ k, ks[i]? = some k ∧ Kr H v k := by
  induction h with
  | nil => intro i v e; cases e
  | cons a _ ih =>
    intro i v e
    cases i with
    | zero => cases e; exact ⟨_, rfl, a⟩
    | succ i => exact ih e
theorem Krs.mem (h : Krs H vs ks) {v : V} (m : v ∈ vs) : ∃ k ∈ ks, Kr H v k := by
  induction h with
  | nil => cases m
  | cons a _ ih =>
    rcases List.mem_cons.mp m with e | m
    · subst e; exact ⟨_, List.mem_cons_self, a⟩
    · obtain ⟨k, hk, q⟩ := ih m
      exact ⟨k, List.mem_cons_of_mem _ hk, q⟩
/-- by their addresses -/
theorem Krs.split (h : Krs H vs ks) : ∃ L : List (Addr × Tk), vs = L.map (fun p => V.ref p.1) ∧ ks = L.map (·.2) ∧ ∀ p ∈ L, H p.1 = some (.tup (p.2.map kV)) := by
  induction h with
  | nil => exact ⟨[], rfl, rfl, fun p z => nomatch z⟩
  | cons a _ ih =>
    obtain ⟨t, rfl, e⟩ := a
    obtain ⟨L, rfl, rfl, q⟩ := ih
    refine ⟨(t, _) :: L, rfl, rfl, fun p hp => ?_⟩
    rcases List.mem_cons.mp hp with rfl | hp
    · exact e
    · exact q p hp
theorem krs_of {L : List (Addr × Tk)} (h : ∀ p ∈ L, H p.1 = some (.tup (p.2.map kV))) : Krs H (L.map fun p => V.ref p.1) (L.map (·.2)) := by
  induction L with
  | nil => exact .nil
  | cons p L ih => exact .cons ⟨p.1, rfl, h p List.mem_cons_self⟩ (ih fun q hq => h q (List.mem_cons_of_mem _ hq))
end
/-! ### their data -/
def kd : L2.Key → PyData
  | .inl i => .int i
  | .inr x => .str x
def dK (k : Tk) : PyData := .tuple (k.map kd)
def dKs (ks : List Tk) : PyData := .list (ks.map dK)
theorem eqv_kd (a b : L2.Key) : PyData.eqv (kd a) (kd b) = decide (a = b) := by
  cases a <;> cases b <;> simp only [kd, PyData.eqv, Sum.inl.injEq, Sum.inr.injEq, reduceCtorEq, decide_false] <;> first | rfl | (simp [PyData.eqv]; done) | skip
theorem eqvAll_kd : ∀ a b : Tk, PyData.eqvAll (a.map kd) (b.map kd) = decide (a = b)
  | [], [] => by simp [PyData.eqvAll]
  | [], _ :: _ => by simp [PyData.eqvAll]
  | _ :: _, [] => by simp [PyData.eqvAll]
  | p :: ps, q :: qs => by
    simp only [List.map_cons, PyData.eqvAll, eqv_kd, eqvAll_kd ps qs, List.cons.injEq]
    by_cases h1 : p = q <;> by_cases h2 : ps = qs <;> simp [h1, h2]
theorem eqv_dK (a b : Tk) : PyData.eqv (dK a) (dK b) = decide (a = b) := by
  unfold dK
  rw [PyData.eqv, eqvAll_kd]
theorem eqvAll_dK : ∀ ps qs : List Tk, PyData.eqvAll (ps.map dK) (qs.map dK) = decide (ps = qs)
  | [], [] => by simp [PyData.eqvAll]
  | [], _ :: _ => by simp [PyData.eqvAll]
  | _ :: _, [] => by simp [PyData.eqvAll]
  | p :: ps, q :: qs => by
    simp only [List.map_cons, PyData.eqvAll, eqv_dK, eqvAll_dK ps qs, List.cons.injEq]
    by_cases h1 : p = q <;> by_cases h2 : ps = qs <;> simp [h1, h2]
theorem eqv_dKs (ps qs : List Tk) : PyData.eqv (dKs ps) (dKs qs) = decide (ps = qs) := by
  unfold dKs
  rw [PyData.eqv, eqvAll_dK]
instance (k : Tk) (ks : List Tk) : Decidable (k ∈ ks) := decidable_of_iff (ks.any (fun q => decide (q = k)) = true) (by simp)
theorem any_dK (ks : List Tk) (k : Tk) : ((ks.map dK).any fun z => PyData.eqv z (dK k)) = decide (k ∈ ks) := by
  induction ks with
  | nil => simp
  | cons q ks ih =>
    rw [List.map_cons, List.any_cons, ih, eqv_dK]
    by_cases h1 : q = k
    · subst h1; simp
    · have h2 : ¬ k = q := fun z => h1 z.symm
      simp [h1, h2]
theorem dp_keys {K : PySem.W.Frag} {H : Hp} : ∀ k : Tk, DpAll K H (k.map kV) (k.map kd)
  | [] => .nil
  | .inl i :: k => .cons (.int i) (dp_keys k)
  | .inr x :: k => .cons (.str x) (dp_keys k)
theorem Kr.dp {K : PySem.W.Frag} {H : Hp} {v : V} {k : Tk} (h : Kr H v k) : Dp K H v (dK k) := by
  obtain ⟨t, rfl, h⟩ := h
  exact .tup (SqT.of h) (dp_keys k)
theorem Krs.dps {K : PySem.W.Frag} {H : Hp} {vs : List V} {ks : List Tk} (h : Krs H vs ks) : DpAll K H vs (ks.map dK) := by
  induction h with
  | nil => exact .nil
  | cons a _ ih => exact .cons a.dp ih
theorem Krs.dl {K : PySem.W.Frag} {H : Hp} {l : Addr} {vs : List V} {ks : List Tk} (h : Krs H vs ks) (e : SqL K H l vs) : Dp K H (.ref l) (dKs ks) := .lst e h.dps
theorem depth_kds : ∀ k : Tk, PyData.depthAll (k.map kd) = 0
  | [] => rfl
  | .inl _ :: k => by
    show max 0 (PyData.depthAll (k.map kd)) = 0
    rw [depth_kds k]
    rfl
  | .inr _ :: k => by
    show max 0 (PyData.depthAll (k.map kd)) = 0
    rw [depth_kds k]
    rfl
/-- its texts are texts -/
def okk (k : Tk) : Bool := PyData.canLayAll0 (k.map kd)
theorem lay_dKs : ∀ ks : List Tk, (∀ k ∈ ks, okk k = true) → PyData.canLayAll0 (ks.map dK) = true
  | [], _ => rfl
  | k :: ks, h => by
    show (PyData.canLayAll0 (k.map kd) && PyData.canLayAll0 (ks.map dK)) = true
    rw [lay_dKs ks fun q hq => h q (List.mem_cons_of_mem _ hq), show PyData.canLayAll0 (k.map kd) = true from h k List.mem_cons_self]
    rfl
theorem depth_dKs : ∀ ks : List Tk, PyData.depthAll (ks.map dK) ≤ 1
  | [] => by show 0 ≤ 1; omega
  | k :: ks => by
    have ih := depth_dKs ks
    show max (PyData.depthAll (k.map kd) + 1) (PyData.depthAll (ks.map dK)) ≤ 1
    rw [depth_kds]
    omega
theorem sh_dK {k : Tk} (h : okk k = true) : SeqAt.shaped (dK k) = true := by
  unfold SeqAt.shaped dK
  rw [show PyData.canLay0 (.tuple (k.map kd)) = PyData.canLayAll0 (k.map kd) from rfl, show PyData.canLayAll0 (k.map kd) = true from h]
  refine decide_eq_true ?_
  show PyData.depthAll (k.map kd) + 1 ≤ 64
  rw [depth_kds]
  omega
theorem sh_dKs {ks : List Tk} (hk : ∀ k ∈ ks, okk k = true) : SeqAt.shaped (dKs ks) = true := by
  unfold SeqAt.shaped dKs
  rw [show PyData.canLay0 (.list (ks.map dK)) = PyData.canLayAll0 (ks.map dK) from rfl, lay_dKs ks hk]
  have h := depth_dKs ks
  refine decide_eq_true ?_
  show PyData.depthAll (ks.map dK) + 1 ≤ 64
  omega

end

section
open PySem.Spec PyProof.Rows
/-! ### sorted(xs), xs a list of such tuples; sorted(d), d a dict whose keys they are -/
/-- where the texts stand -/
def shp (k : Tk) : List Bool := k.map fun x => match x with
  | .inl _ => false
  | .inr _ => true
def leK : Tk → Tk → Bool := PySem.W.dataLe false dK
def sortK (ks : List Tk) : List Tk := ks.mergeSort leK
theorem sortK_perm (ks : List Tk) : (sortK ks).Perm ks := List.mergeSort_perm _ _
theorem alike_kd : ∀ a b : Tk, shp a = shp b → PySem.W.alikeAll (a.map kd) (b.map kd) = true
  | [], [], _ => by simp [PySem.W.alikeAll]
  | [], _ :: _, h => by simp [shp] at h
  | _ :: _, [], h => by simp [shp] at h
  | x :: a, y :: b, h => by
    have h2 : shp a = shp b := by
      unfold shp at h ⊢
      simp only [List.map_cons, List.cons.injEq] at h
      exact h.2
    rw [List.map_cons, List.map_cons, PySem.W.alikeAll, alike_kd a b h2]
    unfold shp at h
    simp only [List.map_cons, List.cons.injEq] at h
    cases x <;> cases y <;> simp at h <;> simp [kd, PySem.W.alike]
theorem alike_dK {a b : Tk} (h : shp a = shp b) : PySem.W.alike (dK a) (dK b) = true := by
  unfold dK
  rw [PySem.W.alike]
  exact alike_kd a b h
theorem reads_keys {h : Heap} : ∀ (k : Tk) {its : List Value}, Vals (k.map kV) its → ReadsAll h its (k.map kd) []
  | [], _, .nil => .nil
  | .inl i :: k, _, .cons r t => by
    obtain ⟨u, rfl⟩ := (show ∃ u, _ = Value.int i u from r)
    exact .cons (.int i u) (reads_keys k t)
  | .inr x :: k, _, .cons r t => by
    obtain ⟨u, rfl⟩ := (show ∃ u, _ = Value.str x u from r)
    exact .cons (.str x u) (reads_keys k t)
theorem reads_k {P : Program} {w : World} {H : Hp} {h : Heap} {t : Addr} {k : Tk} (ok : HOk P w H h) (e : H t = some (.tup (k.map kV))) : Reads h (.ref t) (dK k) [] := by
  obtain ⟨_, its, r, o, ho, hc, n, hd⟩ := (show ObjOk P w H h t (.tup (k.map kV)) from ok t _ e)
  exact .tuple ho hc hd (reads_keys k (by simpa using r))
theorem each_map {α β : Type} {R : α → β → Prop} (f : β → α) : ∀ {bs : List β}, (∀ b ∈ bs, R (f b) b) → PySem.W.EachIs R (bs.map f) bs
  | [], _ => .nil
  | b :: bs, h => .cons (h b List.mem_cons_self) (each_map f fun c hc => h c (List.mem_cons_of_mem _ hc))
theorem refs_vals (L : List (Addr × Tk)) : Vals (L.map fun p => V.ref p.1) (L.map fun p => Value.ref p.1) := by
  induction L with
  | nil => exact .nil
  | cons p L ih => exact .cons rfl ih
theorem vals_refs' : ∀ {L : List (Addr × Tk)} {its : List Value}, Vals (L.map fun p => V.ref p.1) its → its = L.map fun p => Value.ref p.1
  | [], _, .nil => rfl
  | p :: L, _, .cons r t => by
    have r : _ = Value.ref p.1 := r
    rw [r, vals_refs' t]
    rfl
theorem sort_pairs (L : List (Addr × Tk)) : (L.mergeSort (PySem.W.dataLe false fun b => dK b.2)).map (·.2) = sortK (L.map (·.2)) := List.map_mergeSort fun a _ b _ => rfl
/-- the order sorts: all alike, none empty -/
def Fit (ks : List Tk) : Prop := ∃ sh : List Bool, sh ≠ [] ∧ ∀ k ∈ ks, shp k = sh
theorem Fit.alike {L : List (Addr × Tk)} (h : Fit (L.map (·.2))) : PySem.W.AllAlike (L.map fun b => dK b.2) := by
  obtain ⟨sh, _, q⟩ := h
  intro d hd d' hd'
  obtain ⟨b, hb, rfl⟩ := List.mem_map.mp hd
  obtain ⟨c, hc, rfl⟩ := List.mem_map.mp hd'
  exact alike_dK ((q _ (List.mem_map_of_mem hb)).trans (q _ (List.mem_map_of_mem hc)).symm)
theorem Fit.sortable {L : List (Addr × Tk)} (h : Fit (L.map (·.2))) : PySem.W.Sortable (L.map fun b => dK b.2) := .inl fun d hd => by
  obtain ⟨sh, q0, q⟩ := h
  obtain ⟨b, hb, rfl⟩ := List.mem_map.mp hd
  have e := q _ (List.mem_map_of_mem hb)
  cases hk : b.2 with
  | nil =>
    have hk2 : (b.2 : Tk) = [] := hk
    rw [show shp ((fun x : Addr × Tk => x.2) b) = shp b.2 from rfl, hk2] at e
    exact absurd e.symm q0
  | cons x r => exact ⟨kd x, r.map kd, rfl⟩
theorem depth_dK (k : Tk) : (dK k).depth = 1 := by
  show PyData.depthAll (k.map kd) + 1 = 1
  rw [depth_kds]
section
variable {X : Cx}
def rSortK (K : PySem.W.Frag) : List V → Hp → VK → Prop := fun vs H Q => ∃ (a : Addr) (xs : List V) (ks : List Tk), vs = [.ref a] ∧ SqL K H a xs ∧ Krs H xs ks ∧ Fit ks ∧
  ∀ (p : Addr) (ys : List V), H p = none → Krs H ys (sortK ks) → Q (.ref p) (upd H p (.lst ys))
theorem call_sortK (hu : X.A.units + 64 < cLine) : CallR X (.builtin "sorted") (rSortK X.K) := by
  intro pins s σ H vs us Q I r h
  obtain ⟨a, xs, ks, rfl, hs, hk, hf, q⟩ := h
  obtain ⟨its, rv, hl, hz⟩ := I.list hs
  rw [Vals.ref1 r]
  obtain ⟨L, rfl, rfl, hL⟩ := hk.split
  have e := vals_refs' rv
  subst e
  refine PySem.W.sorted_data (bs := L) (enc := fun b : Addr × Tk => dK b.2) (R := fun v b => v = Value.ref b.1) hl.isList (each_map _ fun b _ => rfl) (each_map _ fun b hb => ⟨[], reads_k I.hok (hL b hb)⟩) hf.alike hf.sortable
    (by rw [List.length_map] at hz; exact hz) (fun b _ => by show X.A.units + 2 + (dK b.2).depth < cLine; rw [depth_dK]; omega) fun out ho eo => ?_
  have eo2 := eachIs_back eo
  obtain ⟨ep, he'⟩ := PyProof.Rows.sortedAll_at s.heap (L.map fun p => Value.ref p.1) out.toArray
  have hlen : ((L.mergeSort (PySem.W.dataLe false fun b => dK b.2)).map fun p => V.ref p.1).length ≤ sizeLine := by
    rw [List.length_map, (List.mergeSort_perm _ _).length_eq]
    rw [List.length_map] at hz
    exact hz
  refine ⟨.ref _, upd H (s.heap.objs.size + 1) (.lst ((L.mergeSort (PySem.W.dataLe false fun b => dK b.2)).map fun p => V.ref p.1)), I.laid (t' := s.toks) (fun _ _ => PyProof.Rows.sortedAll_old) (Nat.le_succ _)
    ⟨hlen, out, ep, by rw [eo2]; exact refs_vals _, he'⟩, rfl, q _ _ (I.hok.fresh (Nat.le_succ _)) ?_⟩
  rw [← sort_pairs]
  exact krs_of fun p hp => hL p ((List.mergeSort_perm _ _).mem_iff.mp hp)
def rSortDT : List V → Hp → VK → Prop := fun vs H Q => ∃ (a : Addr) (kvs : List (Tk × V)), vs = [.ref a] ∧ Rd H a (.dT kvs) ∧ Fit (kvs.map (·.1)) ∧
  ∀ (p : Addr) (ys : List V), H p = none → Krs H ys (sortK (kvs.map (·.1))) → Q (.ref p) (upd H p (.lst ys))
theorem call_sortDT (hc : X.calm = true) (hu : X.A.units + 64 < cLine) : CallR X (.builtin "sorted") rSortDT := by
  intro pins s σ H vs us Q I r h
  obtain ⟨a, kvs, rfl, hd, hf, q⟩ := h
  rw [Vals.ref1 r]
  obtain ⟨z, lo, es0, pr, o, es, ep, ho, hx, hdt, he, hn⟩ := (show ObjOk X.prog X.w H s.heap a (.dT kvs) from hd.ok I.hok)
  have l1 : es.size = es0.length := size_of_entries he
  have l2 : kvs.length = es0.length := Paired.length pr
  refine Calls.call_function_entry PyProof.Rows.kind_sorted PyProof.Rows.plain_sorted PyProof.Rows.entry_sorted (PyProof.Rows.args_sorted1 _) ?_
  unfold Builtin.«sorted»
  refine wpAny_bind (m := checkCount "sorted" 1 1 _) (wpAny_pure ?_)
  refine wpAny_bind (PySem.W.kdu_collect (A := X.A.in1) (kdl_raw lo hx hdt) (I.ok.hd hc) ho (by omega) fun h' tk acc hk hacc => ?_)
  -- what was collected: the keys' addresses
  have ea : acc.toList = es0.map fun x => Value.ref x.2.1 := by
    have hl : acc.toList.length = es0.length := by rw [Array.length_toList, hacc.1]; exact l1
    refine List.ext_getElem? fun j => ?_
    rw [List.getElem?_map]
    cases hj : acc.toList[j]? with
    | none =>
      have h1 := List.getElem?_eq_none_iff.mp hj
      rw [List.getElem?_eq_none (by omega)]
      rfl
    | some v =>
      obtain ⟨en, hen, hv⟩ := hacc.2 j v (by rw [← Array.getElem?_toList]; exact hj)
      have qe := entry_at he j
      rw [hen] at qe
      cases hb : es0[j]? with
      | none =>
        rw [hb] at qe
        exact nomatch (show some en = none from qe)
      | some b =>
        rw [hb] at qe
        have e2 : en = entryOfKey (tupleKind (mixKind X.prog X.w)) b := Option.some.inj qe
        rw [hv, e2]
        rfl
  obtain ⟨L, eL1, eL2, hL⟩ : ∃ L : List (Addr × Tk), (es0.map fun x => Value.ref x.2.1) = L.map (fun p => Value.ref p.1) ∧ kvs.map (·.1) = L.map (·.2) ∧ ∀ p ∈ L, H p.1 = some (.tup (p.2.map kV)) := by
    clear ea hacc he l1 l2 q hf hd
    induction pr with
    | nil => exact ⟨[], rfl, rfl, fun p z => nomatch z⟩
    | cons h1 _ ih =>
      obtain ⟨L, e1, e2, e3⟩ := ih (by simp at z; omega) (by simp at hn; exact hn.2)
      rename_i p0 q0 _ _ _
      refine ⟨(q0.2.1, p0.1) :: L, by rw [List.map_cons, List.map_cons, e1], by rw [List.map_cons, List.map_cons, e2], fun p hp => ?_⟩
      rcases List.mem_cons.mp hp with rfl | hp
      · exact h1.2.1
      · exact e3 p hp
  rw [eL1] at ea
  rw [eL2] at hf q
  have hlen0 : L.length ≤ sizeLine := by
    have e := congrArg List.length eL2
    rw [List.length_map, List.length_map] at e
    omega
  have I1 : Inv X pins σ H { s with heap := h', toks := tk } := I.kept hk
  rw [ea]
  refine wpAny_bind (wpAny_newList ?_ (by rw [List.length_map]; exact hlen0))
  have hoL : (h'.push (seqObj "list" (L.map fun p => Value.ref p.1).toArray 0)).get? h'.objs.size = some (seqObj "list" (L.map fun p => Value.ref p.1).toArray 0) := Heap.get?_push_size _ rfl
  show wpAny _ _ _ _ _ { s with heap := h'.push (seqObj "list" (L.map fun p => Value.ref p.1).toArray 0), toks := tk }
  have ok2 : HOk X.prog X.w H (h'.push (seqObj "list" (L.map fun p => Value.ref p.1).toArray 0)) := I1.hok.kept fun b u e => Heap.get?_push_of_some _ e
  refine wpAny_bind (wpAny_holding (PySem.W.list_sort_data (s := { s with heap := h'.push (seqObj "list" (L.map fun p => Value.ref p.1).toArray 0), toks := tk }) (bs := L) (enc := fun b : Addr × Tk => dK b.2) (R := fun v b => v = Value.ref b.1)
    hoL (each_map _ fun b _ => rfl) (each_map _ fun b hb => ⟨[], reads_k ok2 (hL b hb), by simp⟩) hf.alike hf.sortable hlen0 (fun b _ => ?_) fun out hout eo => ?_))
  · have z1 : X.A.in1.units ≤ X.A.units + 3 := by
      unfold Around.in1
      simp
    show X.A.in1.units + 1 + (dK b.2).depth < cLine
    rw [depth_dK]
    omega
  have eo2 := eachIs_back eo
  obtain ⟨c, hcc⟩ := PyProof.Rows.sortedHeap_at (vs := L.map fun p => Value.ref p.1) (out := out.toArray) hoL
  have hlen : ((L.mergeSort (PySem.W.dataLe false fun b => dK b.2)).map fun p => V.ref p.1).length ≤ sizeLine := by
    rw [List.length_map, (List.mergeSort_perm _ _).length_eq]
    exact hlen0
  refine wpAny_pure ⟨_, rfl, .ref h'.objs.size, upd H h'.objs.size (.lst ((L.mergeSort (PySem.W.dataLe false fun b => dK b.2)).map fun p => V.ref p.1)), I1.laid (t' := tk) (fun b u e => ?_) (Nat.le_refl _)
    ⟨hlen, out, c, by rw [eo2]; exact refs_vals _, hcc⟩, rfl, q _ _ (I1.hok.fresh (Nat.le_refl _)) ?_⟩
  · have lt : b < h'.objs.size := Heap.lt_size e
    rw [PyProof.Rows.sortedHeap_old (Nat.ne_of_lt lt) (by rw [size_push']; exact Nat.lt_succ_of_lt lt)]
    exact Heap.get?_push_of_some _ e
  · rw [← sort_pairs]
    exact krs_of fun p hp => hL p ((List.mergeSort_perm _ _).mem_iff.mp hp)
end

end

section
open PySem.Spec PyProof.Rows GxR NdefX
/-! ### all stands that stood, but tables of code objects may have grown -/
structure Kp (H H' : Hp) : Prop where
  at_ : ∀ b o, H b = some o → (∀ ps, o ≠ .tbl ps) → H' b = some o
  tab : ∀ P, TabG H P → TabG H' P
theorem kpS {H H' : Hp} (h : Same H H') : Kp H H' := ⟨fun b o e _ => h b o e, fun P ⟨ps, e, t⟩ => ⟨ps, h _ _ e, t⟩⟩
theorem Kp.refl (H : Hp) : Kp H H := kpS (Same.refl H)
theorem Kp.trans {H H1 H2 : Hp} (a : Kp H H1) (b : Kp H1 H2) : Kp H H2 := ⟨fun c o e n => b.at_ c o (a.at_ c o e n) n, fun P h => b.tab P (a.tab P h)⟩
theorem Tabbed.kp {P : Addr} {H H' : Hp} (h : Tabbed P H H') (t : TabG H P) : Kp H H' := by
  obtain ⟨ps, e0, t0⟩ := t
  refine ⟨fun b o e n => ?_, fun P' ⟨qs, e, t'⟩ => ?_⟩
  · rw [h.2 b fun z => by rw [z, e0] at e; exact n ps (Option.some.inj e).symm]
    exact e
  · by_cases z : P' = P
    · rw [z]
      exact h.1
    · exact ⟨qs, by rw [h.2 _ z]; exact e, t'⟩
section
variable {H H' : Hp}
theorem Kp.ins (k : Kp H H') {b C dx : Addr} {fs : List (Str × V)} (e : H b = some (.ins C dx fs)) : H' b = some (.ins C dx fs) := k.at_ _ _ e fun _ z => nomatch z
theorem Kp.lst (k : Kp H H') {b : Addr} {xs : List V} (e : H b = some (.lst xs)) : H' b = some (.lst xs) := k.at_ _ _ e fun _ z => nomatch z
theorem Kp.tup (k : Kp H H') {b : Addr} {xs : List V} (e : H b = some (.tup xs)) : H' b = some (.tup xs) := k.at_ _ _ e fun _ z => nomatch z
theorem Kp.dT (k : Kp H H') {b : Addr} {kvs : List (Tk × V)} (e : H b = some (.dT kvs)) : H' b = some (.dT kvs) := k.at_ _ _ e fun _ z => nomatch z
theorem Kp.frz (k : Kp H H') {b : Addr} {o : Obj} {u : HO} (e : H b = some (.frz o u)) : H' b = some (.frz o u) := k.at_ _ _ e fun _ z => nomatch z
theorem Kp.seq {K : PySem.W.Frag} (k : Kp H H') {a : Addr} {xs : List V} (h : SqL K H a xs) : SqL K H' a xs := by
  rcases h with (h | ⟨o, h⟩) | h
  · exact .inl (.inl (k.lst h))
  · exact .inl (.inr ⟨o, k.frz h⟩)
  · exact .inr h
theorem Kp.free (k : Kp H H') {l : Addr} (h : H' l = none) : H l = none ∨ ∃ ps, H l = some (.tbl ps) := by
  cases q : H l with
  | none => exact .inl rfl
  | some o =>
    by_cases t : ∃ ps, o = .tbl ps
    · obtain ⟨ps, rfl⟩ := t
      exact .inr ⟨ps, rfl⟩
    · rw [k.at_ _ _ q fun ps z => t ⟨ps, z⟩] at h
      cases h
theorem Kr.kp {v : V} {x : Tk} (h : Kr H v x) (k : Kp H H') : Kr H' v x := by
  obtain ⟨t, rfl, h⟩ := h
  exact ⟨t, rfl, k.tup h⟩
theorem Krs.kp {vs : List V} {ks : List Tk} (h : Krs H vs ks) (k : Kp H H') : Krs H' vs ks := by
  induction h with
  | nil => exact .nil
  | cons a _ ih => exact .cons (a.kp k) ih
theorem Pr.kp {v : V} {p : Pl} (h : Pr H v p) (k : Kp H H') : Pr H' v p := by
  obtain ⟨t, rfl, h⟩ := h
  exact ⟨t, rfl, k.tup h⟩
theorem Prs.kp {vs : List V} {ps : List Pl} (h : Prs H vs ps) (k : Kp H H') : Prs H' vs ps := by
  induction h with
  | nil => exact .nil
  | cons a _ ih => exact .cons (a.kp k) ih
end
/-! ### a def whose code object is known -/
structure FunC (K : PySem.W.Frag) (x qual : Str) (st : Stmt) (f c : Addr) (fd : FuncData) : Prop where
  ex : ∃ (oc : Value) (od : Option Addr) (kV doc pm : Value) (an : Option Addr) (ct : Value) (osl : Array (Option Value)),
    fd = PySem.W.fnOf x qual (defArgs st) (defBody st) (defScope st) .none kV doc pm an (.ref c) ct ∧ K.lookup f = some ⟨oc, od, .func fd, osl⟩ ∧ PySem.W.codeIn K (.ref c) qual = true
  kp : PySem.W.keepIn K (.ref f) = true
section
variable {P : Program} {w : World} {K : PySem.W.Frag} {mg : Str → Option Value} {base : Heap}
theorem FunC.ok {x qual : Str} {st : Stmt} {f c : Addr} {fd : FuncData} {N ps : List Str} {k : Nat} {sp : Sp} (F : FunC K x qual st f c fd) (S : FnScope N ps (defScope st)) (len : ∀ vs H Q E, sp vs H Q E → vs.length = ps.length)
    (hbody : ∀ (A : Around) (outer : List Env) (s : Shared) (H : Hp) (vs : List V) (Q : VK) (E : XK), Room k (A.deeper (envOfC qual (defScope st) s.heap.objs.size f (.ref c))) → sp vs H Q E →
      ∃ t, PSs (cxOf CX0 P w K mg base N qual (defScope st) f (.ref c) A outer s H E).nox (defBody st) t ∧ t { nx := fun _ H' => Q .non H', rt := Q } (start N vs) H) : FnOk P w K mg base CX0 (k + 1) f fd ps sp := by
  obtain ⟨oc, od, kV, doc, pm, an, ct, osl, rfl, lk, hcd⟩ := F.ex
  refine fn_of lk hcd S len fun A outer s H vs Q E hr h => ?_
  obtain ⟨t, z, q⟩ := hbody A outer s H vs Q E hr h
  exact ⟨t, z.nox, q⟩
theorem FunC.okX {x qual : Str} {st : Stmt} {f c : Addr} {fd : FuncData} {N ps : List Str} {k : Nat} {sp : Sp} (F : FunC K x qual st f c fd) (S : FnScope N ps (defScope st)) (len : ∀ vs H Q E, sp vs H Q E → vs.length = ps.length)
    (hbody : ∀ (A : Around) (outer : List Env) (s : Shared) (H : Hp) (vs : List V) (Q : VK) (E : XK), Room k (A.deeper (envOfC qual (defScope st) s.heap.objs.size f (.ref c))) → sp vs H Q E →
      ∃ t, PSs (cxOf (L2.CX P w) P w K mg base N qual (defScope st) f (.ref c) A outer s H E) (defBody st) t ∧ t { nx := fun _ H' => Q .non H', rt := Q } (start N vs) H) : FnOk P w K mg base (L2.CX P w) (k + 1) f fd ps sp := by
  obtain ⟨oc, od, kV, doc, pm, an, ct, osl, rfl, lk, hcd⟩ := F.ex
  exact fn_of lk hcd S len fun A outer s H vs Q E hr h => hbody A outer s H vs Q E hr h
end
/-! ### a generator expression's scope, by looking -/
def gscC (outer sc : Scope) : Bool := (match sc.kind with | .function => true | _ => false) && !sc.isCoroutine && (match sc.names.lookup (".0" : Str) with | some .local => true | _ => false) &&
  (sc.names.all fun y => match y.2 with
    | .cell => false
    | .free => (match outer.names.lookup y.1 with | some .cell => true | _ => false)
    | _ => true)
theorem gsc_by {env : Env} {outer sc : Scope} (ho : env.scope = outer) (hc : env.cells = cellsFrom (env.locals + 1) env.scope.names []) (h : gscC outer sc = true) : GSc env sc := by
  subst ho
  unfold gscC at h
  simp only [Bool.and_eq_true, List.all_eq_true] at h
  obtain ⟨⟨⟨h1, h2⟩, h3⟩, h4⟩ := h
  refine ⟨?_, by simpa using h2, fun y hy e => ?_, ?_, fun y hy e => ?_⟩
  · split at h1
    · assumption
    · cases h1
  · have q := h4 y hy
    rw [e] at q
    cases q
  · split at h3
    · assumption
    · cases h3
  · have q := h4 y hy
    rw [e] at q
    have q2 : (match env.scope.names.lookup y.1 with | some .cell => true | _ => false) = true := q
    split at q2
    · rename_i z
      rw [hc]
      exact cell_has z
    · cases q2
def gfrC (XN : List Str) (outer sc : Scope) (N : List Str) (fr : List (Option Nat)) : Bool := decide (fr.length = N.length) && ((N.zip fr).all fun p => match p.2 with
  | none => true
  | some j => (match sc.names.lookup p.1 with | some .free => true | _ => false) && decide (XN[j]? = some p.1) && (match outer.names.lookup p.1 with | some .cell => true | _ => false))
theorem gfr_by {X : Cx} {outer sc : Scope} {XN N : List Str} {fr : List (Option Nat)} (ho : X.env.scope = outer) (hn : X.N = XN) (h : gfrC XN outer sc N fr = true) : GFr X sc N fr := by
  subst ho hn
  unfold gfrC at h
  simp only [Bool.and_eq_true, List.all_eq_true, decide_eq_true_eq] at h
  obtain ⟨h1, h2⟩ := h
  refine ⟨h1, fun i y j e1 e2 => ?_⟩
  have m : (y, some j) ∈ N.zip fr := by
    refine List.mem_of_getElem? (i := i) ?_
    rw [List.getElem?_zip_eq_some]
    exact ⟨e1, e2⟩
  have q := h2 _ m
  simp only [Bool.and_eq_true, decide_eq_true_eq] at q
  obtain ⟨⟨q1, q2⟩, q3⟩ := q
  refine ⟨?_, q2, .inl ?_⟩
  · split at q1
    · assumption
    · cases q1
  · split at q3
    · assumption
    · cases q3

end

section
open PySem.Spec PyProof.Rows
/-! ### the entries that a dict comprehension over a list lays -/
theorem dcT_list {K : PySem.W.Frag} {a : Addr} {xs : List V} {g : TG} {tk tv : TE} {vs : List Nat} {σ : L2.St} {H1 : Hp} {D : Addr} {Qd : Hp → Prop} (Pv : Nat → Hp → Prop) (h0 : Pv 0 (upd H1 D (.dT []))) (hl : ∀ i H, i ≤ xs.length → Pv i H → SqL K H a xs)
    (hs : ∀ i x H, xs[i]? = some x → Pv i H → g x (wipe σ vs) H fun σ2 H2 => wipe σ2 vs = wipe σ vs ∧ tk σ2 H2 fun y H4 => tv σ2 H4 fun z H5 =>
      ∃ b kvs k, y = .ref b ∧ H5 b = some (.tup (k.map kV)) ∧ H5 D = some (.dT kvs) ∧ kvs.length < sizeLine ∧ Pv (i + 1) (upd H5 D (.dT (putK kvs k z)))) (hd : ∀ H, Pv xs.length H → Qd H) :
    ∃ W : Nat → Nat → Hp → Prop, (∃ m, W 0 m (upd H1 D (.dT []))) ∧ ∀ i m H, W i m H →
      ((Itl K a).stop i H ∧ Qd H) ∨ ((Itl K a).go i H ∧ ∃ Nx : Hp → Prop, (∀ H', Nx H' → ∃ m', m' < m ∧ W (i + 1) m' H') ∧
        ∀ x H', (Itl K a).yld i H x H' → g x (wipe σ vs) H' fun σ2 H2 => wipe σ2 vs = wipe σ vs ∧ tk σ2 H2 fun y H4 => tv σ2 H4 fun z H5 =>
          ∃ b kvs k, y = .ref b ∧ H5 b = some (.tup (k.map kV)) ∧ H5 D = some (.dT kvs) ∧ kvs.length < sizeLine ∧ Nx (upd H5 D (.dT (putK kvs k z)))) := by
  refine ⟨fun i m H => m = xs.length - i ∧ i ≤ xs.length ∧ Pv i H, ⟨xs.length, by simp, Nat.zero_le _, h0⟩, fun i m H w => ?_⟩
  obtain ⟨rfl, le, p⟩ := w
  have q := hl i H le p
  by_cases lt : i < xs.length
  · refine .inr ⟨⟨xs, xs[i], q, List.getElem?_eq_getElem lt⟩, Pv (i + 1), fun H' p' => ⟨xs.length - (i + 1), by omega, rfl, lt, p'⟩, fun x H' y => ?_⟩
    obtain ⟨rfl, y⟩ := y
    exact hs i x _ (y xs q) p
  · obtain rfl : i = xs.length := by omega
    exact .inl ⟨⟨xs, q, Nat.le_refl _⟩, hd H p⟩
theorem snoc_ind {α : Type} {P : List α → Prop} (h0 : P []) (h1 : ∀ l x, P l → P (l ++ [x])) (l : List α) : P l := by
  rw [← List.reverse_reverse l]
  induction l.reverse with
  | nil => exact h0
  | cons x r ih =>
    rw [List.reverse_cons]
    exact h1 _ _ ih
/-- laid one after another -/
def ded (ks : List Tk) : List (Tk × V) := ks.foldl (fun kvs k => putK kvs k (.bl true)) []
theorem ded_snoc (ks : List Tk) (k : Tk) : ded (ks ++ [k]) = putK (ded ks) k (.bl true) := by
  unfold ded
  rw [List.foldl_append]
  rfl
theorem ded_mem : ∀ (ks : List Tk) (k : Tk), (valV (ded ks) k).isSome = decide (k ∈ ks) := by
  intro ks
  refine snoc_ind (P := fun ks : List Tk => ∀ k : Tk, (valV (ded ks) k).isSome = decide (k ∈ ks)) (fun k => by simp [ded, valV_nil]) (fun ks x ih k => ?_) ks
  rw [ded_snoc, valV_put]
  by_cases h : k = x
  · subst h
    simp
  · rw [if_neg h, ih k]
    simp [h]
theorem ded_le (ks : List Tk) : (ded ks).length ≤ ks.length := by
  refine snoc_ind (P := fun ks : List Tk => (ded ks).length ≤ ks.length) (Nat.le_refl _) (fun ks x ih => ?_) ks
  rw [ded_snoc, List.length_append]
  have q := length_putK (ded ks) x (.bl true)
  show _ ≤ ks.length + 1
  omega
theorem putK_old {kvs : List (Tk × V)} {k : Tk} (v : V) (h : (valV kvs k).isSome = true) : (putK kvs k v).length = kvs.length := by
  unfold putK
  rw [if_pos (by rw [valV_any]; exact h), List.length_map]
theorem ded_eq (ks : List Tk) : (ks.Nodup → ded ks = ks.map fun k => (k, V.bl true)) ∧ (¬ ks.Nodup → (ded ks).length < ks.length) := by
  refine snoc_ind (P := fun ks : List Tk => (ks.Nodup → ded ks = ks.map fun k => (k, V.bl true)) ∧ (¬ ks.Nodup → (ded ks).length < ks.length)) ⟨fun _ => rfl, fun h => (h .nil).elim⟩ (fun ks x ih => ?_) ks
  obtain ⟨ih1, ih2⟩ := ih
  have le := ded_le ks
  by_cases hx : x ∈ ks
  · have hv : (valV (ded ks) x).isSome = true := by rw [ded_mem]; exact decide_eq_true hx
    refine ⟨fun h => ?_, fun _ => ?_⟩
    · have z := (List.nodup_append.mp h).2.2 x hx x (by simp)
      exact (z rfl).elim
    · rw [ded_snoc, putK_old _ hv, List.length_append]
      show _ < ks.length + 1
      omega
  · have hv : valV (ded ks) x = none := by
      have q := ded_mem ks x
      rw [decide_eq_false hx] at q
      cases e : valV (ded ks) x with
      | none => rfl
      | some y => rw [e] at q; cases q
    have step : ded (ks ++ [x]) = ded ks ++ [(x, .bl true)] := by rw [ded_snoc, putK_new _ hv]
    refine ⟨fun h => ?_, fun h => ?_⟩
    · rw [step, ih1 (List.nodup_append.mp h).1, List.map_append]
      rfl
    · have hn : ¬ ks.Nodup := fun z => h (List.nodup_append.mpr ⟨z, by simp, fun y hy y' hy' e => by
        rw [List.mem_singleton.mp hy'] at e
        rw [e] at hy
        exact hx hy⟩)
      have q := ih2 hn
      rw [step, List.length_append, List.length_append]
      show (ded ks).length + 1 < ks.length + 1
      omega
theorem ded_keys {ks : List Tk} (h : ks.Nodup) : (ded ks).map (·.1) = ks := by
  rw [(ded_eq ks).1 h, List.map_map]
  exact List.map_id ks

end

section
open PySem.Spec PyProof.Rows SX
/-! ### texts by their codes: numbers, lines, lists of texts -/
theorem starts_S (a b : List Nat) : Txt.startswith (S a) (S b) = (a.take b.length == b) := by
  unfold Txt.startswith
  rw [StrLaws.subAt_eq, S_len, S_len, List.drop_zero, Nat.zero_add]
  show (decide (b.length ≤ a.length) && ((a.take (S b).length) == b)) = _
  rw [S_len]
  by_cases h : a.take b.length = b
  · rw [h, beq_self_eq_true, Bool.and_true]
    refine decide_eq_true ?_
    have e := congrArg List.length h
    rw [List.length_take] at e
    omega
  · rw [beq_false_of_ne h, Bool.and_false]
theorem digit_asc {c : Nat} (h : c < 128) : Unicode.isDigit c = (decide (48 ≤ c) && decide (c ≤ 57)) := by
  have k : ∀ n : Fin 128, Unicode.isDigit n.val = (decide (48 ≤ n.val) && decide (n.val ≤ 57)) := by decide +kernel
  exact k ⟨c, h⟩
/-- of signs below 128 -/
def asc (z : Str) : Prop := ∀ c ∈ TL.tl z, c < 128
theorem isdigit_S {a : List Nat} (h : ∀ c ∈ a, c < 128) : Txt.isdigit (S a) = (decide (a ≠ []) && a.all fun c => decide (48 ≤ c) && decide (c ≤ 57)) := by
  unfold Txt.isdigit
  rw [S_len]
  have e : (S a).cps.all Unicode.isDigit = a.all fun c => decide (48 ≤ c) && decide (c ≤ 57) := by
    show a.toArray.all Unicode.isDigit = _
    rw [List.all_toArray]
    induction a with
    | nil => rfl
    | cons x xs ih =>
      rw [List.all_cons, List.all_cons, digit_asc (h x List.mem_cons_self), ih fun c hc => h c (List.mem_cons_of_mem _ hc)]
  rw [e]
  cases a with
  | nil => rfl
  | cons x xs => rfl
/-- has the word the form of a number -/
def isNum (z : Str) : Bool := Txt.isdigit z && decide (z.length ≤ 4) && (decide (z = S [48]) || !Txt.startswith z (S [48]))
/-- the number that it writes -/
def numV (z : Str) : Int := ((NumText.digitsVal (TL.tl z) : Nat) : Int)
theorem numV_nonneg (z : Str) : 0 ≤ numV z := Int.natCast_nonneg _
theorem isNum_int {z : Str} (ha : asc z) (h : isNum z = true) : intText? z = some (numV z) ∧ z.length ≤ 640 := by
  unfold isNum at h
  rw [Bool.and_eq_true, Bool.and_eq_true] at h
  obtain ⟨⟨h1, h2⟩, _⟩ := h
  have h2' := of_decide_eq_true h2
  rw [show z = S (TL.tl z) from (S_tl z).symm, isdigit_S ha, Bool.and_eq_true] at h1
  refine ⟨?_, by omega⟩
  have q := int_S h1.2 (of_decide_eq_true h1.1) (by rw [← TL.len_tl]; omega)
  rw [S_tl] at q
  exact q
/-- the codes of a number's text -/
def dg (n : Int) : List Nat := TL.numL n.toNat
theorem dg_str {n : Int} (h : 0 ≤ n) : (Str.ofString (toString n)) = S (dg n) := by
  obtain ⟨k, rfl⟩ := Int.eq_ofNat_of_zero_le h
  exact num_S k
theorem dg_digit {n : Int} : ∀ c ∈ dg n, 48 ≤ c ∧ c ≤ 57 := fun c h => TL.numL_digits _ c h
theorem dg_ne (n : Int) : dg n ≠ [] := TL.numL_ne _
theorem dg_len {n : Int} {k : Nat} (hk : 0 < k) (h1 : n < 10 ^ k) : (dg n).length ≤ k := by
  refine TL.numL_len hk ?_
  have : (n.toNat : Int) < 10 ^ k ∨ n < 0 := by omega
  rcases this with h | h
  · exact_mod_cast h
  · rw [Int.toNat_of_nonpos (by omega)]
    exact Nat.pow_pos (by decide)
theorem numL_head : ∀ n : Nat, 0 < n → ∃ c r, TL.numL n = c :: r ∧ 49 ≤ c := by
  intro n
  induction n using Nat.strongRecOn with
  | _ n ih =>
    intro h
    by_cases h10 : n < 10
    · exact ⟨48 + n, [], TL.numL_lt h10, by omega⟩
    · obtain ⟨c, r, e, hc⟩ := ih (n / 10) (by omega) (by omega)
      exact ⟨c, r ++ [48 + n % 10], by rw [TL.numL_step (by omega), e]; rfl, hc⟩
theorem asc_S {a : List Nat} (h : ∀ c ∈ a, c < 128) : asc (S a) := h
theorem asc_dg (n : Int) : asc (S (dg n)) := fun c h => by
  have := dg_digit c h
  omega
theorem isNum_dg {n : Int} (h0 : 0 ≤ n) (h1 : n < 10000) : isNum (S (dg n)) = true ∧ numV (S (dg n)) = n := by
  constructor
  · unfold isNum
    have a1 : Txt.isdigit (S (dg n)) = true := by
      rw [isdigit_S (asc_dg n), decide_eq_true (dg_ne n), Bool.true_and, List.all_eq_true]
      intro c hc
      obtain ⟨x, y⟩ := dg_digit c hc
      rw [decide_eq_true x, decide_eq_true y]
      rfl
    have a2 : (dg n).length ≤ 4 := dg_len (by decide) (by simpa using h1)
    rw [a1, S_len, decide_eq_true a2, Bool.and_self, Bool.true_and]
    by_cases hz : n = 0
    · subst hz
      have : dg 0 = [48] := by
        unfold dg
        exact TL.numL_lt (by decide)
      rw [this, decide_eq_true rfl]
      rfl
    · obtain ⟨c, r, e, hc⟩ := numL_head n.toNat (by omega)
      have : dg n = c :: r := e
      rw [starts_S, this]
      have : (([c] : List Nat) == [48]) = false := by
        refine beq_false_of_ne fun z => ?_
        injection z with z
        omega
      show (_ || !(([c] : List Nat) == [48])) = true
      rw [this]
      exact Bool.or_true _
  · unfold numV dg
    show ((NumText.digitsVal (TL.numL n.toNat) : Nat) : Int) = n
    rw [TL.numL_val]
    omega
/-! joined and split -/
theorem mem_joinL {c : Nat} {sep : List Nat} : ∀ {ps : List (List Nat)}, c ∈ TL.joinL sep ps → c ∈ sep ∨ ∃ p ∈ ps, c ∈ p
  | [], h => by cases h
  | [p], h => .inr ⟨p, List.mem_singleton.mpr rfl, h⟩
  | p :: q :: r, h => by
    have h' : c ∈ p ++ (sep ++ TL.joinL sep (q :: r)) := h
    rcases List.mem_append.mp h' with z | z
    · exact .inr ⟨p, List.mem_cons_self, z⟩
    · rcases List.mem_append.mp z with z | z
      · exact .inl z
      · rcases mem_joinL z with z | ⟨x, hx, z⟩
        · exact .inl z
        · exact .inr ⟨x, List.mem_cons_of_mem _ hx, z⟩
theorem joinL_len {sep : List Nat} {m : Nat} (hs : sep.length ≤ m) : ∀ {ps : List (List Nat)}, (∀ p ∈ ps, p.length ≤ m) → (TL.joinL sep ps).length ≤ 2 * m * ps.length
  | [], _ => Nat.le_refl _
  | [p], h => by
    have := h p (List.mem_singleton.mpr rfl)
    show p.length ≤ 2 * m * 1
    omega
  | p :: q :: r, h => by
    have h1 := h p List.mem_cons_self
    have h2 := joinL_len hs (ps := q :: r) fun x hx => h x (List.mem_cons_of_mem _ hx)
    show (p ++ (sep ++ TL.joinL sep (q :: r))).length ≤ 2 * m * ((q :: r).length + 1)
    rw [List.length_append, List.length_append, Nat.mul_add]
    omega
theorem sum_len {m : Nat} : ∀ {ps : List (List Nat)}, (∀ p ∈ ps, p.length ≤ m) → ((ps.map S).map (·.length)).sum ≤ m * ps.length
  | [], _ => Nat.le_refl _
  | p :: ps, h => by
    have h1 := h p List.mem_cons_self
    have h2 := sum_len (ps := ps) fun x hx => h x (List.mem_cons_of_mem _ hx)
    rw [List.map_cons, List.map_cons, List.sum_cons, S_len, List.length_cons, Nat.mul_add]
    omega
theorem split_joinL {c : Nat} (hc : c < 256) {ps : List (List Nat)} (hne : ps ≠ []) (h : ∀ p ∈ ps, c ∉ p) : Txt.split (S (TL.joinL [c] ps)) (S [c]) = ps.map S := by
  rw [split_S (by simp) (by simpa using hc), spl_join hne h]
theorem spl_mem {sep : List Nat} : ∀ (l : List Nat) (k : Nat) (acc p : List Nat), p ∈ TL.spl sep k acc l → ∀ c ∈ p, c ∈ acc ∨ c ∈ l := by
  intro l
  induction l with
  | nil =>
    intro k acc p h c hc
    rw [TL.spl_nil, List.mem_singleton] at h
    rw [h] at hc
    exact .inl hc
  | cons x r ih =>
    intro k acc p h c hc
    cases k with
    | succ k =>
      have h' : p ∈ TL.spl sep k acc r := h
      rcases ih k acc p h' c hc with z | z
      · exact .inl z
      · exact .inr (List.mem_cons_of_mem _ z)
    | zero =>
      cases hp : TL.pre sep (x :: r) with
      | true =>
        rw [TL.spl_hit hp, List.mem_cons] at h
        rcases h with h | h
        · rw [h] at hc
          exact .inl hc
        · rcases ih _ _ p h c hc with z | z
          · cases z
          · exact .inr (List.mem_cons_of_mem _ z)
      | false =>
        rw [TL.spl_miss hp] at h
        rcases ih _ _ p h c hc with z | z
        · rcases List.mem_append.mp z with z | z
          · exact .inl z
          · rw [List.mem_singleton] at z
            rw [z]
            exact .inr List.mem_cons_self
        · exact .inr (List.mem_cons_of_mem _ z)
theorem asc_split {z p : Str} {c : Nat} (hc : c < 256) (ha : asc z) (h : p ∈ Txt.split z (S [c])) : asc p := by
  rw [show z = S (TL.tl z) from (S_tl z).symm, split_S (by simp) (by simpa using hc), List.mem_map] at h
  obtain ⟨q, hq, rfl⟩ := h
  exact fun x hx => (spl_mem _ _ _ _ hq x hx).elim (fun z => nomatch z) fun z => ha x z
/-! lists of texts as data -/
def dS (xs : List Str) : PyData := .list (xs.map PyData.str)
theorem eqv_str (a b : Str) : PyData.eqv (.str a) (.str b) = decide (a = b) := by
  rw [PyData.eqv]
  by_cases h : a = b
  · subst h
    simp
  · simp [h]
theorem eqvAll_str : ∀ xs ys : List Str, PyData.eqvAll (xs.map PyData.str) (ys.map PyData.str) = decide (xs = ys)
  | [], [] => by simp [PyData.eqvAll]
  | [], _ :: _ => by simp [PyData.eqvAll]
  | _ :: _, [] => by simp [PyData.eqvAll]
  | x :: xs, y :: ys => by
    simp only [List.map_cons, PyData.eqvAll, eqv_str, eqvAll_str xs ys, List.cons.injEq]
    by_cases h1 : x = y <;> by_cases h2 : xs = ys <;> simp [h1, h2]
theorem eqv_dS (xs ys : List Str) : PyData.eqv (dS xs) (dS ys) = decide (xs = ys) := by
  unfold dS
  rw [PyData.eqv, eqvAll_str]
theorem dps_S {K : PySem.W.Frag} {H : Hp} : ∀ xs : List Str, DpAll K H (xs.map V.str) (xs.map PyData.str)
  | [] => .nil
  | x :: xs => .cons (.str x) (dps_S xs)
theorem dp_S {K : PySem.W.Frag} {H : Hp} {l : Addr} {xs : List Str} (h : SqL K H l (xs.map V.str)) : Dp K H (.ref l) (dS xs) := .lst h (dps_S xs)
theorem lay_asc {x : Str} (h : asc x) : PyData.canLay0 (.str x) = true := by
  show x.cps.all (fun c => decide (c < 0x110000)) = true
  rw [← Array.all_toList, List.all_eq_true]
  intro c hc
  have := h c hc
  exact decide_eq_true (by omega)
theorem lay_dS : ∀ xs : List Str, (∀ x ∈ xs, asc x) → PyData.canLayAll0 (xs.map PyData.str) = true
  | [], _ => rfl
  | x :: xs, h => by
    show (PyData.canLay0 (.str x) && PyData.canLayAll0 (xs.map PyData.str)) = true
    rw [lay_dS xs fun y hy => h y (List.mem_cons_of_mem _ hy), lay_asc (h x List.mem_cons_self)]
    rfl
theorem depth_dS : ∀ xs : List Str, PyData.depthAll (xs.map PyData.str) ≤ 1
  | [] => by show 0 ≤ 1; omega
  | _ :: xs => by
    have ih := depth_dS xs
    show max 0 (PyData.depthAll (xs.map PyData.str)) ≤ 1
    omega
theorem sh_dS {xs : List Str} (hk : ∀ x ∈ xs, asc x) : SeqAt.shaped (dS xs) = true := by
  have h := depth_dS xs
  unfold SeqAt.shaped dS
  rw [show PyData.canLay0 (.list (xs.map PyData.str)) = PyData.canLayAll0 (xs.map PyData.str) from rfl, lay_dS xs hk]
  refine decide_eq_true ?_
  show PyData.depthAll (xs.map PyData.str) + 1 ≤ 64
  omega
/-! a list's slices -/
theorem cut_from (xs : List V) (m : Nat) : cutV xs (some (m : Int)) none = xs.drop m := by
  unfold cutV
  rw [HT.sIx_none, HT.sIx_nat]
  rcases Nat.le_total m xs.length with h | h
  · rw [Nat.min_eq_left h, List.take_of_length_le (by rw [List.length_drop]; omega)]
  · rw [Nat.min_eq_right h, Nat.sub_self, List.take_zero, List.drop_eq_nil_of_le h]

end

open SX
def topS (i : Nat) : Stmt := PySem.Challenge.pw_pickaisle_k09_written_tasks_and_walks.main.body.getD i (.Pass ⟨0, 0, 0, 0⟩)
abbrev s_PickTaken___init__ : Stmt := inClass (topS 5) 0
theorem sc_PickTaken___init__ : FnScope ["self", "place"] ["self", "place"] (defScope s_PickTaken___init__) := ⟨rfl, rfl, rfl, by decide +kernel, rfl, by decide +kernel, by decide +kernel⟩
abbrev s_InvalidNotation___init__ : Stmt := inClass (topS 6) 0
theorem sc_InvalidNotation___init__ : FnScope ["self", "line"] ["self", "line"] (defScope s_InvalidNotation___init__) := ⟨rfl, rfl, rfl, by decide +kernel, rfl, by decide +kernel, by decide +kernel⟩
abbrev s_Task___init__ : Stmt := inClass (topS 9) 0
theorem sc_Task___init__ : FnScope ["self", "start", "end", "picks"] ["self", "start", "end", "picks"] (defScope s_Task___init__) := ⟨rfl, rfl, rfl, by decide +kernel, rfl, by decide +kernel, by decide +kernel⟩
abbrev s_Task_picks : Stmt := inClass (topS 9) 1
theorem sc_Task_picks : FnScope ["self"] ["self"] (defScope s_Task_picks) := ⟨rfl, rfl, rfl, by decide +kernel, rfl, by decide +kernel, by decide +kernel⟩
abbrev s_Task_has_pick : Stmt := inClass (topS 9) 3
theorem sc_Task_has_pick : FnScope ["self", "place"] ["self", "place"] (defScope s_Task_has_pick) := ⟨rfl, rfl, rfl, by decide +kernel, rfl, by decide +kernel, by decide +kernel⟩
abbrev s_Task_with_pick : Stmt := inClass (topS 9) 4
theorem sc_Task_with_pick : FnScope ["self", "place"] ["self", "place"] (defScope s_Task_with_pick) := ⟨rfl, rfl, rfl, by decide +kernel, rfl, by decide +kernel, by decide +kernel⟩
abbrev s_Task_same_as : Stmt := inClass (topS 9) 8
theorem sc_Task_same_as : FnScope ["self", "other"] ["self", "other"] (defScope s_Task_same_as) := ⟨rfl, rfl, rfl, by decide +kernel, rfl, by decide +kernel, by decide +kernel⟩
abbrev s_format_task : Stmt := topS 13
theorem sc_format_task : FnScope ["task", "lines", "pick"] ["task"] (defScope s_format_task) := ⟨rfl, rfl, rfl, by decide +kernel, rfl, by decide +kernel, by decide +kernel⟩
abbrev s_format_walk : Stmt := topS 14
theorem sc_format_walk : FnScope ["walk", "aisle", "height"] ["walk"] (defScope s_format_walk) := ⟨rfl, rfl, rfl, by decide +kernel, rfl, by decide +kernel, by decide +kernel⟩
abbrev s_parse_task : Stmt := topS 15
theorem sc_parse_task : FnScope ["text", "lines", "start", "end", "task", "number"] ["text"] (defScope s_parse_task) := ⟨rfl, rfl, rfl, by decide +kernel, rfl, by decide +kernel, by decide +kernel⟩
abbrev s_parse_walk : Stmt := topS 16
theorem sc_parse_walk : FnScope ["text", "walk", "word", "numbers"] ["text"] (defScope s_parse_walk) := ⟨rfl, rfl, rfl, by decide +kernel, rfl, by decide +kernel, by decide +kernel⟩
abbrev s__row : Stmt := topS 17
theorem sc__row : FnScope ["head", "numbers", "number"] ["head", "numbers"] (defScope s__row) := ⟨rfl, rfl, rfl, by decide +kernel, rfl, by decide +kernel, by decide +kernel⟩
abbrev s_is_number : Stmt := topS 18
theorem sc_is_number : FnScope ["word"] ["word"] (defScope s_is_number) := ⟨rfl, rfl, rfl, by decide +kernel, rfl, by decide +kernel, by decide +kernel⟩
abbrev s__numbers_of : Stmt := topS 19
theorem sc__numbers_of : FnScope ["words", "number", "word"] ["words", "number"] (defScope s__numbers_of) := ⟨rfl, rfl, rfl, by decide +kernel, rfl, by decide +kernel, by decide +kernel⟩
abbrev s__numbers_in : Stmt := topS 20
theorem sc__numbers_in : FnScope ["lines", "number", "head", "words"] ["lines", "number", "head"] (defScope s__numbers_in) := ⟨rfl, rfl, rfl, by decide +kernel, rfl, by decide +kernel, by decide +kernel⟩
abbrev s__place_in : Stmt := topS 21
theorem sc__place_in : FnScope ["lines", "number", "word", "numbers"] ["lines", "number", "word"] (defScope s__place_in) := ⟨rfl, rfl, rfl, by decide +kernel, rfl, by decide +kernel, by decide +kernel⟩
abbrev s__task_with_line : Stmt := topS 22
theorem sc__task_with_line : FnScope ["task", "lines", "number", "pick"] ["task", "lines", "number"] (defScope s__task_with_line) := ⟨rfl, rfl, rfl, by decide +kernel, rfl, by decide +kernel, by decide +kernel⟩
abbrev s__law_row : Stmt := topS 24
theorem sc__law_row : FnScope ["cell", "many", "row", "rest", "state", "k"] ["cell", "many"] (defScope s__law_row) := ⟨rfl, rfl, rfl, by decide +kernel, rfl, by decide +kernel, by decide +kernel⟩
abbrev s__law_numbers : Stmt := topS 25
theorem sc__law_numbers : FnScope ["script", "many", "cells", "each", "numbers", "cell", "number"] ["script", "many"] (defScope s__law_numbers) := ⟨rfl, rfl, rfl, by decide +kernel, rfl, by decide +kernel, by decide +kernel⟩
abbrev s__law_place : Stmt := topS 26
theorem sc__law_place : FnScope ["numbers", "at", "most", "spread"] ["numbers", "at", "most"] (defScope s__law_place) := ⟨rfl, rfl, rfl, by decide +kernel, rfl, by decide +kernel, by decide +kernel⟩
abbrev s_law : Stmt := topS 27
theorem sc_law : FnScope ["script", "numbers", "start", "end", "picks", "k", "place", "task", "heads", "some", "again", "walk", "given", "text", "told"] ["script"] (defScope s_law) := ⟨rfl, rfl, rfl, by decide +kernel, rfl, by decide +kernel, by decide +kernel⟩
/-! ### heaps -/
theorem same_upd {H : Hp} {p : Addr} {o : HO} (h : H p = none) : Same H (upd H p o) := fun b x e => by
  rw [upd_ne (ne_of_none e h)]
  exact e
/-- a list of numbers below 1009 -/
def Small (ns : List Int) : Prop := ∀ n ∈ ns, 0 ≤ n ∧ n < 1009
theorem Small.nil : Small [] := fun _ h => nomatch h
theorem Small.snoc {ns : List Int} (h : Small ns) {n : Int} (h0 : 0 ≤ n) (h1 : n < 1009) : Small (ns ++ [n]) := fun k hk => by
  rcases List.mem_append.mp hk with z | z
  · exact h k z
  · rw [List.mem_singleton] at z
    subst z
    exact ⟨h0, h1⟩
theorem small1e7 {n : Nat} (h : n ≤ 100000) : n < sizeLine := Nat.lt_of_le_of_lt h (by decide)
section
local macro_rules | `(tactic| walk_at "rd1") => `(tactic| first
  | (refine Exists.intro _ (And.intro rfl ?_))
  | (refine ⟨_, _, rfl, rfl, ?_⟩)
  | (refine Or.inl (Exists.intro _ (And.intro rfl ?_)))
  | (refine ⟨_, _, _, rfl, rfl, by assumption, by assumption, ?_⟩)
  | (refine And.intro (Or.inl ⟨rfl, _, SqL.of (by assumption)⟩) ?_)
  | (refine And.intro (by (first | omega | (dsimp only; omega) | (constructor <;> omega) | (refine Or.inl ?_; constructor <;> omega) | (refine Or.inr ?_; constructor <;> omega) | exact ⟨by decide, by decide, by decide⟩)) ?_))
local macro_rules | `(tactic| walk_at "rd") => `(tactic| repeat walk_at "rd1")
variable {P : Program} {w : World} {K : PySem.W.Frag} {mg : Str → Option Value} {base : Heap}
/-- the names of built-ins that no def of the text hides -/
structure DrawTxt (mg : Str → Option Value) (fR : Addr) : Prop where
  abs : mg "abs" = none
  int : mg "int" = none
  range : mg "range" = none
  len : mg "len" = none
  max : mg "max" = none
  row : mg "_law_row" = some (.ref fR)
/-- a row of numbers: a new list of as many numbers as asked, each from 0 to 1008 -/
def spRow : Sp := fun vs H Q _ => ∃ (c : Int) (m : Nat), vs = [.int c, .int m] ∧ m ≤ 1000 ∧
  ∀ (H' : Hp) (p : Addr) (ns : List Int), Same H H' → H p = none → H' p = some (.lst (ns.map V.int)) → ns.length = m → Small ns → Q (.ref p) H'
theorem ok_row {f fR : Addr} {fd : FuncData} {k : Nat} (F : Fun K "_law_row" "_law_row" s__law_row f fd) (T : DrawTxt mg fR) : FnOk P w K mg base CX0 (k + 1) f fd ["cell", "many"] spRow := by
  refine F.ok sc__law_row (fun vs H Q E h => ?_) (fun cdv A outer s H vs Q E hr h => ?_)
  · obtain ⟨c, m, rfl, _⟩ := h
    rfl
  · obtain ⟨c, m, rfl, hm, q⟩ := h
    have nd := sc__law_row.nd
    refine ⟨_, pss_cons (ps_set (i := 2) nd rfl (.inl rfl) (pe_lst pa_nil))
      (pss_cons (ps_set (i := 3) nd rfl (.inl rfl) pe_int)
      (pss_cons (ps_if (pt_cmpR op_ge (pe_callB call_abs (by rfl) T.abs (by decide +kernel) (pa_cons (pv 0) pa_nil)) (pe_op op_pow pe_int pe_int) (nomark _))
          (pss_one (ps_set (i := 3) nd rfl (.inl rfl) (pe_callB call_abs (by rfl) T.abs (by decide +kernel) (pa_cons (pv 0) pa_nil)))) pss_nil)
      (pss_cons (ps_set (i := 4) nd rfl (.inl rfl) (pe_op op_mod (pe_callTy call_int1 (by rfl) T.int (by decide +kernel) (pa_cons (pe_callB call_abs (by rfl) T.abs (by decide +kernel) (pa_cons (pv 0) pa_nil)) pa_nil)) pe_int))
      (pss_cons (ps_for PassesOwn.never rfl (pi_range1 rfl T.range (pa_cons (pv 1) pa_nil)) (pg_name (i := 5) nd rfl (.inl rfl))
        (pss_cons (ps_set (i := 4) nd rfl (.inl rfl) (pe_op op_mod (pe_callTy call_int1 (by rfl) T.int (by decide +kernel)
            (pa_cons (pe_op op_add (pe_op op_mul (pe_op op_add (pv 4) pe_int) pe_int) (pe_op op_mul pe_int (pv 5))) pa_nil)) pe_int))
        (pss_one (ps_if (pt_cmpR op_gt (pv 3) pe_int (nomark _))
          (pss_cons (ps_expr (pe_bm PySem.F.plainAttrs_list PySem.F.slot_list_append PySem.F.type_list_append mt_append (pv 2)
              (pa_cons (pe_op op_mod (pe_callTy call_int1 (by rfl) T.int (by decide +kernel) (pa_cons (pv 3) pa_nil)) pe_int) pa_nil)))
            (pss_one (ps_set (i := 3) nd rfl (.inl rfl) (pe_op op_fdiv (pv 3) pe_int))))
          (pss_one (ps_expr (pe_bm PySem.F.plainAttrs_list PySem.F.slot_list_append PySem.F.type_list_append mt_append (pv 2)
              (pa_cons (pe_op op_mod (pe_callTy call_int1 (by rfl) T.int (by decide +kernel) (pa_cons (pe_op op_fdiv (pv 4) pe_int) pa_nil)) pe_int) pa_nil))))))))
      (pss_one (ps_ret (pv 2))))))), ?_⟩
    refine ⟨Nat.zero_le _, fun r nr => ?_⟩
    have s1 : Same H (upd H r (.lst [])) := same_upd nr
    walk_at "rd"
    refine ite2 (fun hc => ?_) (fun hc => ?_)
    all_goals
      walk_at "rd"
      refine for_range (lo := 0) (n := m) (fun i σ H' => ∃ (ns : List Int) (rst st : Int) (vk : Option V), σ = [some (.int c), some (.int m), some (.ref r), some (.int rst), some (.int st), vk] ∧ Same H H' ∧ H' r = some (.lst (ns.map V.int)) ∧ ns.length = i ∧ Small ns ∧ 0 ≤ st ∧ st < 2147483647)
        ⟨[], _, _, none, rfl, s1, upd_same, rfl, Small.nil, Int.emod_nonneg _ (by decide), Int.emod_lt_of_pos _ (by decide)⟩ ?_ ?_
      · rintro i σ H' hi ⟨ns, rst, st, vk, rfl, sm, hrow, hl, hs, h0, h1⟩
        have hlen : (ns.map V.int).length < sizeLine := by
          rw [List.length_map]
          exact small1e7 (by omega)
        walk_at "rd"
        refine ite2 (fun hc2 => ?_) (fun hc2 => ?_)
        · walk_at "rd"
          refine ⟨ns ++ [rst % 1009], _, _, _, rfl, fun b o e => ?_, ?_, ?_, hs.snoc (Int.emod_nonneg _ (by decide)) (Int.emod_lt_of_pos _ (by decide)), Int.emod_nonneg _ (by decide), Int.emod_lt_of_pos _ (by decide)⟩
          · rw [upd_ne (ne_of_none e nr)]
            exact sm b o e
          · rw [upd_same, List.map_append]
            rfl
          · rw [List.length_append, hl]
            rfl
        · walk_at "rd"
          refine ⟨ns ++ [((st + 1) * 48271 + 69621 * (0 + (i : Int))) % 2147483647 / 2048 % 1009], _, _, _, rfl, fun b o e => ?_, ?_, ?_, hs.snoc (Int.emod_nonneg _ (by decide)) (Int.emod_lt_of_pos _ (by decide)), Int.emod_nonneg _ (by decide), Int.emod_lt_of_pos _ (by decide)⟩
          · rw [upd_ne (ne_of_none e nr)]
            exact sm b o e
          · rw [upd_same, List.map_append]
            rfl
          · rw [List.length_append, hl]
            rfl
      · rintro σ H' ⟨ns, rst, st, vk, rfl, sm, hrow, hl, hs, h0, h1⟩
        exact ⟨_, rfl, q H' r ns sm nr hrow hl hs⟩
/-- as many numbers as asked, drawn from the script: a new list, each from 0 to 1008 -/
def spNumbers (K : PySem.W.Frag) : Sp := fun vs H Q _ => ∃ (a : Addr) (xs : List Int) (m : Nat), vs = [.ref a, .int m] ∧ SqL K H a (xs.map V.int) ∧ xs.length ≤ 63 ∧ m ≤ 200 ∧
  ∀ (H' : Hp) (p : Addr) (ns : List Int), Same H H' → H p = none → H' p = some (.lst (ns.map V.int)) → ns.length = m → Small ns → Q (.ref p) H'
theorem cut_all (xs : List V) (h : xs.length ≤ 63) : cutV xs none (some 63) = xs := by
  unfold cutV
  rw [show HT.sIx xs.length xs.length (some 63) = min 63 xs.length from HT.sIx_nat xs.length xs.length 63, HT.sIx_none, List.drop_zero, Nat.sub_zero, Nat.min_eq_right h, List.take_length]
theorem cut_to (xs : List V) (m : Nat) : cutV xs none (some (m : Int)) = xs.take m := by
  unfold cutV
  rw [HT.sIx_nat, HT.sIx_none, List.drop_zero, Nat.sub_zero]
  rcases Nat.le_total m xs.length with h | h
  · rw [Nat.min_eq_left h]
  · rw [Nat.min_eq_right h, List.take_length, List.take_of_length_le h]
def lenAt (H : Hp) (p : Addr) : Nat := match H p with
  | some (.lst xs) => xs.length
  | _ => 0
theorem lenAt_of {H : Hp} {p : Addr} {xs : List V} (h : H p = some (.lst xs)) : lenAt H p = xs.length := by
  unfold lenAt
  rw [h]
theorem each_nat (m n : Nat) (hm : m ≤ 200) : ∃ e : Nat, 1 + (m : Int).fdiv (if (n : Int) > 1 then (n : Int) else 1) = (e : Int) ∧ e ≤ 201 := by
  have hp : 0 < (if (n : Int) > 1 then (n : Int) else 1) := by split <;> omega
  have e1 : (m : Int).fdiv (if (n : Int) > 1 then (n : Int) else 1) = (m : Int) / (if (n : Int) > 1 then (n : Int) else 1) := Int.fdiv_eq_ediv_of_nonneg _ (Int.le_of_lt hp)
  have h0 : 0 ≤ (m : Int) / (if (n : Int) > 1 then (n : Int) else 1) := Int.ediv_nonneg (by omega) (Int.le_of_lt hp)
  have h1 : (m : Int) / (if (n : Int) > 1 then (n : Int) else 1) ≤ m := Int.ediv_le_self _ (by omega)
  rw [e1]
  exact ⟨(1 + (m : Int) / (if (n : Int) > 1 then (n : Int) else 1)).toNat, by omega, by omega⟩
theorem ok_numbers {f fR : Addr} {fd fdR : FuncData} (F : Fun K "_law_numbers" "_law_numbers" s__law_numbers f fd) (T : DrawTxt mg fR) (FR : Fun K "_law_row" "_law_row" s__law_row fR fdR) (bR : Binds K fdR ["cell", "many"] []) :
    FnOk P w K mg base CX0 2 f fd ["script", "many"] (spNumbers K) := by
  have GR : FnOk P w K mg base CX0 1 fR fdR ["cell", "many"] spRow := ok_row FR T
  refine F.ok sc__law_numbers (fun vs H Q E h => ?_) (fun cdv A outer s H vs Q E hr h => ?_)
  · obtain ⟨a, xs, m, rfl, _⟩ := h
    rfl
  · obtain ⟨a, xs, m, rfl, hS, hx, hm, q⟩ := h
    have nd := sc__law_numbers.nd
    refine ⟨_, pss_cons (ps_set (i := 2) nd rfl (.inl rfl) (pe_slice sl_list (pv 0) po_none (po_some pe_int)))
      (pss_cons (ps_set (i := 3) nd rfl (.inl rfl) (pe_op op_add pe_int (pe_op op_fdivN (pv 1) (pe_callB (call_max2 rfl) (by rfl) T.max (by decide +kernel)
          (pa_cons pe_int (pa_cons (pe_callB call_len (by rfl) T.len (by decide +kernel) (pa_cons (pv 2) pa_nil)) pa_nil))))))
      (pss_cons (ps_set (i := 4) nd rfl (.inl rfl) (pe_lst pa_nil))
      (pss_cons (ps_for PassesOwn.never rfl (pi_list (pv 2)) (pg_name (i := 5) nd rfl (.inl rfl))
        (pss_one (ps_for PassesOwn.never rfl (pi_list (pe_call GR hr (by rfl) T.row FR.kp bR .nil pass0 (pa_cons (pv 5) (pa_cons (pv 3) pa_nil)))) (pg_name (i := 6) nd rfl (.inl rfl))
          (pss_one (ps_expr (pe_bm PySem.F.plainAttrs_list PySem.F.slot_list_append PySem.F.type_list_append mt_append (pv 4) (pa_cons (pv 6) pa_nil)))))))
      (pss_cons (ps_while PassesOwn.never (pt_cmpR op_lt (pe_callB call_len (by rfl) T.len (by decide +kernel) (pa_cons (pv 4) pa_nil)) (pv 1) (nomark _))
        (pss_one (ps_expr (pe_bm PySem.F.plainAttrs_list PySem.F.slot_list_append PySem.F.type_list_append mt_append (pv 4) (pa_cons pe_int pa_nil)))))
      (pss_one (ps_ret (pe_slice sl_list (pv 4) po_none (po_some (pv 1))))))))), ?_⟩
    refine ⟨_, rfl, _, rfl, a, _, rfl, hS, fun c nc => ?_⟩
    rw [cut_all _ (by rw [List.length_map]; exact hx)]
    have s1 : Same H (upd H c (.lst (xs.map V.int))) := same_upd nc
    refine ⟨_, rfl, _, rfl, _, _, rfl, .inl ⟨_, SqL.of upd_same, rfl⟩, _, _, rfl, _, _, rfl, rfl, ?_, ?_⟩
    · constructor
      · rw [List.length_map]
        split <;> omega
      · rw [List.length_map]
        split <;> omega
    refine ⟨_, _, rfl, rfl, ?_⟩
    dsimp only
    obtain ⟨e, he, hle⟩ := each_nat m (List.map V.int xs).length hm
    rw [he]
    refine ⟨Nat.zero_le _, fun b nb => ?_⟩
    have s2 : Same (upd H c (.lst (xs.map V.int))) (upd (upd H c (.lst (xs.map V.int))) b (.lst [])) := same_upd nb
    have nbc : c ≠ b := ne_of_none upd_same nb
    have nb0 : H b = none := s1.free nb
    -- for cell in cells
    refine ⟨_, rfl, c, rfl, ⟨_, SqL.of (s2 _ _ upd_same)⟩, for_list (K := K) (a := c) (xs := xs.map V.int) (fun i σ H' => ∃ (ns : List Int) (v5 v6 : Option V), σ = [some (.ref a), some (.int m), some (.ref c), some (.int e), some (.ref b), v5, v6] ∧ Same H H' ∧ H' c = some (.lst (xs.map V.int)) ∧ H' b = some (.lst (ns.map V.int)) ∧ ns.length ≤ i * 201 ∧ Small ns)
      ⟨[], none, none, rfl, s1.trans s2, s2 _ _ upd_same, upd_same, Nat.zero_le _, Small.nil⟩ (fun i σ H' _ ⟨_, _, _, _, _, hc, _⟩ => SqL.of hc) ?_ ?_⟩
    · rintro i y σ H' hi ⟨ns, v5, v6, rfl, sm, hc, hb, hl, hs⟩
      obtain ⟨z, hz, rfl⟩ : ∃ z, xs[i]? = some z ∧ y = V.int z := by
        rw [List.getElem?_map] at hi
        cases e : xs[i]? with
        | none =>
          rw [e] at hi
          cases hi
        | some z =>
          rw [e] at hi
          exact ⟨z, rfl, (Option.some.inj hi).symm⟩
      have hil : i < xs.length := (List.getElem?_eq_some_iff.mp hz).1
      -- for number in _law_row(cell, each)
      refine ⟨_, rfl, _, rfl, z, e, rfl, by omega, fun H2 r rs s3 nr hr2 hrl hrs => ?_⟩
      refine ⟨r, rfl, ⟨_, SqL.of hr2⟩, for_list (K := K) (a := r) (xs := rs.map V.int) (fun j σ H3 => ∃ (ms : List Int) (v6 : Option V), σ = [some (.ref a), some (.int m), some (.ref c), some (.int e), some (.ref b), some (.int z), v6] ∧ Same H H3 ∧ H3 r = some (.lst (rs.map V.int)) ∧ H3 c = some (.lst (xs.map V.int)) ∧ H3 b = some (.lst (ms.map V.int)) ∧ ms.length = ns.length + j ∧ Small ms)
        ⟨ns, v6, rfl, sm.trans s3, hr2, s3 _ _ hc, s3 _ _ hb, rfl, hs⟩ (fun j σ H3 _ ⟨_, _, _, _, h, _⟩ => SqL.of h) ?_ ?_⟩
      · rintro j y σ H3 hj ⟨ms, v6, rfl, sm3, hr3, hc3, hb3, hl3, hs3⟩
        obtain ⟨n, hn, rfl⟩ : ∃ n, rs[j]? = some n ∧ y = V.int n := by
          rw [List.getElem?_map] at hj
          cases e : rs[j]? with
          | none =>
            rw [e] at hj
            cases hj
          | some z =>
            rw [e] at hj
            exact ⟨z, rfl, (Option.some.inj hj).symm⟩
        have hjl : j < rs.length := (List.getElem?_eq_some_iff.mp hn).1
        have hb3l : (ms.map V.int).length < sizeLine := by
          rw [List.length_map]
          exact small1e7 (by omega)
        have nrb : r ≠ b := fun z => by
          rw [z] at nr
          rw [nr] at hb
          cases hb
        obtain ⟨g0, g1⟩ := hrs n (List.mem_of_getElem? hn)
        walk_at "rd"
        refine ⟨ms ++ [n], _, rfl, fun d o e => ?_, by rw [upd_ne nrb]; exact hr3, by rw [upd_ne nbc]; exact hc3, ?_, ?_, hs3.snoc g0 g1⟩
        · rw [upd_ne (ne_of_none e nb0)]
          exact sm3 d o e
        · rw [upd_same, List.map_append]
          rfl
        · rw [List.length_append, hl3]
          rfl
      · rintro σ H3 ⟨ms, v6, rfl, sm3, hr3, hc3, hb3, hl3, hs3⟩
        rw [List.length_map] at hl3
        exact ⟨ms, _, _, rfl, sm3, hc3, hb3, by rw [Nat.succ_mul]; omega, hs3⟩
    · rintro σ H' ⟨ns, v5, v6, rfl, sm, hc, hb, hl, hs⟩
      rw [List.length_map] at hl
      -- while len(numbers) < many
      refine while_by (fun σ H' => ∃ ns : List Int, σ = [some (.ref a), some (.int m), some (.ref c), some (.int e), some (.ref b), v5, v6] ∧ Same H H' ∧ H' b = some (.lst (ns.map V.int)) ∧ Small ns) (fun _ H' => m - lenAt H' b)
        ⟨ns, rfl, sm, hb, hs⟩ ?_ ?_
      · rintro σ H' ⟨ns, rfl, sm, hb, hs⟩
        refine ⟨_, rfl, _, _, rfl, .inl ⟨_, SqL.of hb, rfl⟩, _, rfl, _, _, rfl, rfl, _, rfl, ?_⟩
        rw [List.length_map]
        refine ite2 (fun hlt => ?_) (fun hlt => ?_)
        · have hlt' : ns.length < m := by
            have := of_decide_eq_true hlt
            omega
          have hbl : (ns.map V.int).length < sizeLine := by
            rw [List.length_map]
            exact small1e7 (by omega)
          walk_at "rd"
          refine ⟨⟨ns ++ [0], rfl, fun d o e => ?_, ?_, hs.snoc (by decide) (by decide)⟩, ?_⟩
          · rw [upd_ne (ne_of_none e nb0)]
            exact sm d o e
          · rw [upd_same, List.map_append]
            rfl
          · rw [lenAt_of upd_same, lenAt_of hb, List.length_append, List.length_map]
            show m - (ns.length + 1) < m - ns.length
            omega
        · have hge : m ≤ ns.length := by
            have : ¬ ((ns.length : Int) < (m : Int)) := fun z => hlt (decide_eq_true z)
            omega
          refine ⟨_, rfl, _, rfl, _, rfl, b, _, rfl, SqL.of hb, fun p np => ?_⟩
          rw [cut_to, ← List.map_take]
          refine q _ p (ns.take m) (fun d o e => ?_) (sm.free np) upd_same (by rw [List.length_take]; omega) (fun n hn => hs n (List.mem_of_mem_take hn))
          rw [upd_ne (ne_of_none (sm d o e) np)]
          exact sm d o e
      · rintro σ H Q Q' h ⟨v, e1, x, n, e2, l, u, e3, i, j, ei, ej, k, ek, q⟩
        exact ⟨v, e1, x, n, e2, l, u, e3, i, j, ei, ej, k, ek, h _ _ q⟩
end

theorem made {H : Hp} {a : Addr} {o : HO} (h : H a = none) : ∃ H', upd H a o = H' ∧ Same H H' ∧ H' a = some o := ⟨_, rfl, same_upd h, upd_same⟩
/-! ### tasks -/
theorem ks1 : ¬ (("start" : Str) = "end") := by decide +kernel
theorem ks2 : ¬ (("start" : Str) = "_picks") := by decide +kernel
theorem ks3 : ¬ (("end" : Str) = "_picks") := by decide +kernel
def tf (a b : V) (l : Addr) : List (Str × V) := putF "_picks" (.ref l) (putF "end" b (putF "start" a []))
theorem tf_len2 (a b : V) : (putF "end" b (putF "start" a ([] : List (Str × V)))).length = 2 := by
  show (if ("start" : Str) = "end" then [(("start" : Str), b)] else (("start" : Str), a) :: putF "end" b []).length = 2
  rw [if_neg ks1]
  rfl
theorem tf_start (a b : V) (l : Addr) : (tf a b l).lookup ("start" : Str) = some a := by
  unfold tf
  rw [lookup_putF, if_neg ks2, lookup_putF, if_neg ks1, lookup_putF, if_pos rfl]
theorem tf_end (a b : V) (l : Addr) : (tf a b l).lookup ("end" : Str) = some b := by
  unfold tf
  rw [lookup_putF, if_neg ks3, lookup_putF, if_pos rfl]
theorem tf_picks (a b : V) (l : Addr) : (tf a b l).lookup ("_picks" : Str) = some (.ref l) := by
  unfold tf
  rw [lookup_putF, if_pos rfl]
theorem tf_no (a b : V) (l : Addr) {m : Str} (h1 : ¬ m = "start") (h2 : ¬ m = "end") (h3 : ¬ m = "_picks") : (tf a b l).lookup m = none := by
  unfold tf
  rw [lookup_putF, if_neg h3, lookup_putF, if_neg h2, lookup_putF, if_neg h1]
  rfl
/-- a task stands at p: its start, its end, its picks in order -/
def TaskAt (C : Addr) (H : Hp) (p : Addr) (st en : Pl) (ps : List Pl) : Prop := ∃ (dx l : Addr) (a b : V) (xs : List V),
  H p = some (.ins C dx (tf a b l)) ∧ Pr H a st ∧ Pr H b en ∧ H l = some (.lst xs) ∧ Prs H xs ps ∧ ps.Pairwise lp ∧ ps.Nodup ∧ ps.length ≤ 60
theorem TaskAt.same {C : Addr} {H H' : Hp} {p : Addr} {st en : Pl} {ps : List Pl} (h : TaskAt C H p st en ps) (k : Same H H') : TaskAt C H' p st en ps := by
  obtain ⟨dx, l, a, b, xs, h1, h2, h3, h4, h5, h6⟩ := h
  exact ⟨dx, l, a, b, xs, k _ _ h1, h2.same k, h3.same k, k _ _ h4, h5.same k, h6⟩
theorem TaskAt.over {C : Addr} {H : Hp} {p m : Addr} {st en : Pl} {ps : List Pl} {zs ws : List V} (h : TaskAt C H p st en ps) (hm : H m = some (.lst zs)) (hn : ∀ dx a b r, H p = some (.ins C dx (tf a b r)) → r ≠ m) : TaskAt C (upd H m (.lst ws)) p st en ps := by
  obtain ⟨dx, l, a, b, xs, h1, h2, h3, h4, h5, h6⟩ := h
  exact ⟨dx, l, a, b, xs, by rw [upd_ne (ne_of h1 hm (by intro z; cases z))]; exact h1, h2.over hm, h3.over hm, by rw [upd_ne (hn _ _ _ _ h1)]; exact h4, h5.over hm, h6⟩
/-- what the top has left of the class of tasks and of its errors -/
structure TaskTxt (K : PySem.W.Frag) (mg : Str → Option Value) (C CI : Addr) : Prop where
  cl : Cls K C
  nS : NoAttr K C "start"
  nE : NoAttr K C "end"
  nP : NoAttr K C "_picks"
  mgC : mg "Task" = some (.ref C)
  len : mg "len" = none
  set : mg "set" = none
  sorted : mg "sorted" = none
  list : mg "list" = none
  most : ∃ t, mg "MOST_PICKS" = some (.int 60 t)
  gI : mg "InvalidTask" = some (.ref CI)
  kI : PySem.W.keepIn K (.ref CI) = true
  xI : PySem.W.excIn K CI [.type "ValueError", .type "Exception", .type "BaseException", .type "object"] "ValueError.__new__" = true
  bI : PySem.W.subIn K (.ref CI) (.type "BaseException") = some true
  tI : PySem.W.typeIn K (.ref CI) = some (.type "type")
section
variable {P : Program} {w : World} {K : PySem.W.Frag} {mg : Str → Option Value} {base : Heap}
/-- all but what is at p is as it was -/
def But (p : Addr) (H H' : Hp) : Prop := ∀ b o, H b = some o → b ≠ p → H' b = some o
def spTask (K : PySem.W.Frag) (C CI : Addr) : Sp := fun vs H Q E => ∃ (p dx l : Addr) (a b : V) (st en : Pl) (xs : List V) (ps : List Pl), vs = [.ref p, a, b, .ref l] ∧ H p = some (.ins C dx []) ∧ Pr H a st ∧ Pr H b en ∧
  SqL K H l xs ∧ Prs H xs ps ∧ ps.length ≤ 1000 ∧
  (ps.length ≤ 60 → ps.Nodup → ∀ H', TaskAt C H' p st en (sortP ps) → But p H H' → (∀ dx a b r, H' p = some (.ins C dx (tf a b r)) → H r = none) → Q .non H') ∧
  (¬ (ps.length ≤ 60 ∧ ps.Nodup) → ∀ H', Same H H' → E (.ref CI) none H')
theorem ok_task {f C CI : Addr} {fd : FuncData} (F : Fun K "__init__" "Task.__init__" s_Task___init__ f fd) (T : TaskTxt K mg C CI) : FnOk P w K mg base (L2.CX P w) 2 f fd ["self", "start", "end", "picks"] (spTask K C CI) := by
  refine F.okX sc_Task___init__ (fun vs H Q E h => ?_) (fun cdv A outer s H vs Q E hr h => ?_)
  · obtain ⟨p, dx, l, a, b, st, en, xs, ps, rfl, _⟩ := h
    rfl
  · obtain ⟨p, dx, l, a, b, st, en, xs, ps, rfl, hp, ha, hb, hl, hx, hn, q, e⟩ := h
    obtain ⟨t, hmost⟩ := T.most
    have hxl := hx.len
    refine ⟨_, (pss_cons (ps_if (pt_cmpR op_gt (pe_callB call_len (by rfl) T.len (by decide +kernel) (pa_cons (pv 3) pa_nil)) (pe_glob (v := .int 60) rfl hmost ⟨_, rfl⟩) (nomark _)) (pss_one (ps_raise rfl (takes_of rfl rfl rfl rfl) (pmk_own PySem.F.excBase_ValueError T.xI T.gI T.kI (raises_own T.bI T.tI) rfl))) pss_nil)
      (pss_cons (ps_if (pt_cmpR op_lt (pe_callB call_lenP (by rfl) T.len (by decide +kernel) (pa_cons (pe_callTy (cr_setP rfl hr.units) (by rfl) T.set (by decide +kernel) (pa_cons (pv 3) pa_nil)) pa_nil)) (pe_callB call_len (by rfl) T.len (by decide +kernel) (pa_cons (pv 3) pa_nil)) (nomark _)) (pss_one (ps_raise rfl (takes_of rfl rfl rfl rfl) (pmk_own PySem.F.excBase_ValueError T.xI T.gI T.kI (raises_own T.bI T.tI) rfl))) pss_nil)
      (pss_cons (ps_fld (pv 0) (pv 1) rfl)
      (pss_cons (ps_fld (pv 0) (pv 2) rfl)
      (pss_one (ps_fld (pv 0) (pe_callB call_sortP (by rfl) T.sorted (by decide +kernel) (pa_cons (pv 3) pa_nil)) rfl)))))), ?_⟩
    -- len(picks) > MOST_PICKS
    refine ⟨_, rfl, _, _, rfl, .inl ⟨_, hl, rfl⟩, _, _, rfl, rfl, _, rfl, ?_⟩
    refine ite2 (fun hc => ?_) (fun hc => ?_)
    · have hc' := of_decide_eq_true hc
      exact e (fun z => by omega) H (Same.refl _)
    · have hc' : ps.length ≤ 60 := by
        have : ¬ ((60 : Int) < (xs.length : Int)) := fun z => hc (decide_eq_true z)
        omega
      -- len(set(picks)) < len(picks)
      refine ⟨_, rfl, l, xs, ps, rfl, hl, hx, by omega, fun H1 s0 ns0 k1 hs0 => ⟨s0, ps, rfl, hs0, _, rfl, _, _, rfl, .inl ⟨_, k1.seq hl, rfl⟩, _, _, rfl, rfl, _, rfl, ?_⟩⟩
      refine ite2 (fun hd => ?_) (fun hd => ?_)
      · have hd' := of_decide_eq_true hd
        exact e (fun z => (nub_lt ps).mp (by omega) z.2) H1 k1
      · have hnd : ps.Nodup := by
          have z : ¬ (((nub ps).length : Int) < (xs.length : Int)) := fun z => hd (decide_eq_true z)
          exact Decidable.byContradiction fun y => z (by have := (nub_lt ps).mpr y; omega)
        -- self.start, self.end, self._picks
        have hp1 := k1 _ _ hp
        refine ⟨_, rfl, _, rfl, p, C, dx, [], rfl, hp1, T.cl, T.nS, (by show 0 < 1000; decide), ?_⟩
        refine ⟨_, rfl, _, rfl, p, C, dx, _, rfl, upd_same, T.cl, T.nE, (by show 1 < 1000; decide), ?_⟩
        have hl' : SqL K (upd (upd H1 p (.ins C dx (putF "start" a []))) p (.ins C dx (putF "end" b (putF "start" a [])))) l xs := by
          rcases k1.seq hl with (h | ⟨o, h⟩) | h
          · exact .inl (.inl (by rw [upd_ne (ne_of hp1 h (by intro z; cases z)).symm, upd_ne (ne_of hp1 h (by intro z; cases z)).symm]; exact h))
          · exact .inl (.inr ⟨o, by rw [upd_ne (ne_of hp1 h (by intro z; cases z)).symm, upd_ne (ne_of hp1 h (by intro z; cases z)).symm]; exact h⟩)
          · exact .inr h
        have keep : ∀ c o, H1 c = some o → c ≠ p → (upd (upd H1 p (.ins C dx (putF "start" a []))) p (.ins C dx (putF "end" b (putF "start" a [])))) c = some o := fun c o h n => by
          rw [upd_ne n, upd_ne n]
          exact h
        have tupne : ∀ {v : V} {z : Pl}, Pr H1 v z → Pr (upd (upd H1 p (.ins C dx (putF "start" a []))) p (.ins C dx (putF "end" b (putF "start" a [])))) v z := fun {v z} h => by
          obtain ⟨t, rfl, h⟩ := h
          exact ⟨t, rfl, keep _ _ h (ne_of hp1 h (by intro z; cases z)).symm⟩
        have prsne : ∀ {vs : List V} {zs : List Pl}, Prs H1 vs zs → Prs (upd (upd H1 p (.ins C dx (putF "start" a []))) p (.ins C dx (putF "end" b (putF "start" a [])))) vs zs := fun h => by
          induction h with
          | nil => exact .nil
          | cons x _ ih => exact .cons (tupne x) ih
        refine ⟨_, rfl, l, xs, ps, rfl, hl', prsne (hx.same k1), fun r ys nr hys => ⟨_, rfl, p, C, dx, putF "end" b (putF "start" a []), rfl, ?_, T.cl, T.nP, ?_, ?_⟩⟩
        · rw [upd_ne (ne_of_none upd_same nr)]
          exact upd_same
        · rw [tf_len2]
          decide
        · have npr : p ≠ r := ne_of_none upd_same nr
          have sm : But p H1 (upd (upd (upd (upd H1 p (.ins C dx (putF "start" a []))) p (.ins C dx (putF "end" b (putF "start" a [])))) r (.lst ys)) p (.ins C dx (tf a b r))) := fun c o h n => by
            rw [upd_ne n, upd_ne (ne_of_none (keep c o h n) nr)]
            exact keep c o h n
          have back : ∀ {c : Addr} {xs : List V}, (upd (upd (upd H1 p (.ins C dx (putF "start" a []))) p (.ins C dx (putF "end" b (putF "start" a [])))) r (.lst ys)) c = some (.tup xs) →
              (upd (upd (upd (upd H1 p (.ins C dx (putF "start" a []))) p (.ins C dx (putF "end" b (putF "start" a [])))) r (.lst ys)) p (.ins C dx (tf a b r))) c = some (.tup xs) := fun {c xs} h => by
            rw [upd_ne (show c ≠ p from fun z => by rw [z, upd_ne npr, upd_same] at h; cases h)]
            exact h
          have pr1 : ∀ {v : V} {z : Pl}, Pr (upd (upd H1 p (.ins C dx (putF "start" a []))) p (.ins C dx (putF "end" b (putF "start" a [])))) v z → Pr (upd (upd (upd (upd H1 p (.ins C dx (putF "start" a []))) p (.ins C dx (putF "end" b (putF "start" a [])))) r (.lst ys)) p (.ins C dx (tf a b r))) v z := fun {v z} h => by
            obtain ⟨t, rfl, h⟩ := h
            exact ⟨t, rfl, back (by rw [upd_ne (ne_of_none h nr)]; exact h)⟩
          have pr2 : ∀ {vs : List V} {zs : List Pl}, Prs (upd (upd H1 p (.ins C dx (putF "start" a []))) p (.ins C dx (putF "end" b (putF "start" a [])))) vs zs → Prs (upd (upd (upd (upd H1 p (.ins C dx (putF "start" a []))) p (.ins C dx (putF "end" b (putF "start" a [])))) r (.lst ys)) p (.ins C dx (tf a b r))) vs zs := fun h => by
            induction h with
            | nil => exact .nil
            | cons x _ ih => exact .cons (pr1 x) ih
          refine q hc' hnd _ ⟨dx, r, a, b, ys, upd_same, pr1 (tupne (ha.same k1)), pr1 (tupne (hb.same k1)), ?_, pr2 hys, sortP_pw ps, sortP_nd.mpr hnd, by rw [sortP_len]; exact hc'⟩ (fun c o h n => sm c o (k1 _ _ h) n) fun dx' a' b' r' z => ?_
          · rw [upd_ne npr.symm]
            exact upd_same
          · rw [upd_same] at z
            have z2 := Option.some.inj z
            injection z2 with _ _ z3
            have z4 := tf_picks a b r
            have z6 : tf a b r = tf a' b' r' := z3
            rw [z6, tf_picks] at z4
            have z5 : r' = r := V.ref.inj (Option.some.inj z4)
            subst z5
            rw [upd_ne npr.symm, upd_ne npr.symm] at nr
            exact k1.free nr

theorem room65 {k : Nat} {A : Around} (r : Room k A) : A.units + 65 < cLine := by
  have := r.un
  omega
def spPicks (C : Addr) : Sp := fun vs H Q _ => ∃ (p : Addr) (st en : Pl) (ps : List Pl), vs = [.ref p] ∧ TaskAt C H p st en ps ∧
  ∀ (r : Addr) (xs : List V), H r = none → Prs H xs ps → Q (.ref r) (upd H r (.lst xs))
theorem ok_picks {f C CI : Addr} {fd : FuncData} (F : Fun K "picks" "Task.picks" s_Task_picks f fd) (T : TaskTxt K mg C CI) : FnOk P w K mg base CX0 1 f fd ["self"] (spPicks C) := by
  refine F.ok sc_Task_picks (fun vs H Q E h => ?_) (fun cdv A outer s H vs Q E hr h => ?_)
  · obtain ⟨p, st, en, ps, rfl, _⟩ := h
    rfl
  · obtain ⟨p, st, en, ps, rfl, ⟨dx, l, a, b, xs, h1, h2, h3, h4, h5, _⟩, q⟩ := h
    exact ⟨_, (pss_one (ps_ret (pe_callTy call_list_of (by rfl) T.list (by decide +kernel) (pa_cons (pe_fld (pv 0) rfl) pa_nil)))), _, rfl, p, C, dx, _, _, rfl, h1, T.cl, T.nP, tf_picks _ _ _, l, xs, rfl, .inl (SqL.of h4), fun r nr => q r xs nr h5⟩
def spHas (C : Addr) : Sp := fun vs H Q _ => ∃ (p : Addr) (v : V) (st en z : Pl) (ps : List Pl), vs = [.ref p, v] ∧ TaskAt C H p st en ps ∧ Pr H v z ∧ Q (.bl (decide (z ∈ ps))) H
theorem ok_has {f C CI : Addr} {fd : FuncData} (F : Fun K "has_pick" "Task.has_pick" s_Task_has_pick f fd) (T : TaskTxt K mg C CI) : FnOk P w K mg base CX0 1 f fd ["self", "place"] (spHas C) := by
  refine F.ok sc_Task_has_pick (fun vs H Q E h => ?_) (fun cdv A outer s H vs Q E hr h => ?_)
  · obtain ⟨p, v, st, en, z, ps, rfl, _⟩ := h
    rfl
  · obtain ⟨p, v, st, en, z, ps, rfl, ⟨dx, l, a, b, xs, h1, h2, h3, h4, h5, _⟩, hv, q⟩ := h
    refine ⟨_, (pss_one (ps_ret (pe_cmpR (op_inD (room65 hr)) (pv 1) (pe_fld (pv 0) rfl) (by rfl)))), ?_⟩
    refine ⟨_, rfl, _, rfl, p, C, dx, _, _, rfl, h1, T.cl, T.nP, tf_picks _ _ _, dP z, ps.map dP, hv.dp, h5.dl (SqL.of h4), sh_dP z, sh_dL ps, ?_⟩
    rw [any_dP]
    exact q
/-- an object of the class made: the heap as it is handed to __init__ -/
theorem mkSame {H : Hp} {x dx : Addr} {o u : HO} (n : H x = none) (m : H dx = none) : Same H (upd (upd H dx u) x o) := fun b o e => by
  rw [upd_ne (ne_of_none e n), upd_ne (ne_of_none e m)]
  exact e
theorem mkBut {H H' : Hp} {x dx : Addr} {o u : HO} (n : H x = none) (m : H dx = none) (k : But x (upd (upd H dx u) x o) H') : Same H H' := fun b o e => k b o (mkSame n m b o e) (ne_of_none e n)
/-- behind raise X(v), X a class with one attribute f -/
theorem raised {H : Hp} {a d C : Addr} {f : Str} {v : V} (ha : H a = none) (hd : (upd H a (exo a C none)) d = none) (hne : d ≠ a) :
    (upd (upd (upd H a (exo a C none)) d (exd d [(f, v)])) a (exo a C (some d))) a = some (exo a C (some d)) ∧ (upd (upd (upd H a (exo a C none)) d (exd d [(f, v)])) a (exo a C (some d))) d = some (exd d [(f, v)]) ∧ H d = none ∧
    Same H (upd (del (upd (upd (upd H a (exo a C none)) d (exd d [(f, v)])) a (exo a C (some d))) a) d (.xd [(f, v)])) := by
  have hdn : H d = none := by
    rw [upd_ne hne] at hd
    exact hd
  refine ⟨upd_same, by rw [upd_ne hne, upd_same], hdn, fun b o e => ?_⟩
  have h1 : b ≠ a := ne_of_none e ha
  have h2 : b ≠ d := ne_of_none e hdn
  rw [upd_ne h2, del_ne h1, upd_ne h1, upd_ne h2, upd_ne h1]
  exact e
/-- the errors of the changes: PickTaken, UnknownPick (with their __init__), TooLarge -/
structure ChgTxt (K : PySem.W.Frag) (mg : Str → Option Value) (CT CL fT : Addr) : Prop where
  gT : mg "PickTaken" = some (.ref CT)
  oT : OexC K CT
  nT : PySem.W.findIn K (.ref CT) "place" = some none
  iT : PySem.W.findIn K (.ref CT) "__init__" = some (some (.ref fT))
  yT : PySem.W.typeIn K (.ref fT) = some (.type "function")
  gL : mg "TooLarge" = some (.ref CL)
  kL : PySem.W.keepIn K (.ref CL) = true
  xL : PySem.W.excIn K CL [.type "ValueError", .type "Exception", .type "BaseException", .type "object"] "ValueError.__new__" = true
  bL : PySem.W.subIn K (.ref CL) (.type "BaseException") = some true
  tL : PySem.W.typeIn K (.ref CL) = some (.type "type")
theorem ok_taken {f C : Addr} {fd : FuncData} (F : Fun K "__init__" "PickTaken.__init__" s_PickTaken___init__ f fd) : FnOk P w K mg base CX0 1 f fd ["self", "place"] (spXI K C "place") := by
  refine F.ok sc_PickTaken___init__ (fun vs H Q E h => ?_) (fun cdv A outer s H vs Q E hr h => ?_)
  · obtain ⟨a, v, rfl, _⟩ := h
    rfl
  · obtain ⟨a, v, rfl, T, hno, ha, q⟩ := h
    exact ⟨_, pss_one (ps_ost (pv 0) (pv 1)), v, rfl, _, rfl, a, C, rfl, T, hno, .inl ⟨ha, q⟩⟩
def spWith (C CT CL : Addr) : Sp := fun vs H Q E => ∃ (p : Addr) (v : V) (st en z : Pl) (ps : List Pl), vs = [.ref p, v] ∧ TaskAt C H p st en ps ∧ Pr H v z ∧
  (z ∈ ps → ∀ (H' : Hp) (d : Addr), Same H H' → H' d = some (.xd [("place", v)]) → E (.ref CT) (some d) H') ∧
  (z ∉ ps → 60 ≤ ps.length → ∀ H' : Hp, Same H H' → E (.ref CL) none H') ∧
  (z ∉ ps → ps.length < 60 → ∀ (H' : Hp) (r : Addr), Same H H' → H r = none → TaskAt C H' r st en (sortP (ps ++ [z])) → Q (.ref r) H')
theorem ok_with {f C CI fI fH CT CL fT : Addr} {fd fdI fdH fdT : FuncData} (F : Fun K "with_pick" "Task.with_pick" s_Task_with_pick f fd) (T : TaskTxt K mg C CI) (U : ChgTxt K mg CT CL fT)
    (M : Mk K C fI) (FI : Fun K "__init__" "Task.__init__" s_Task___init__ fI fdI) (bI : Binds K fdI ["self", "start", "end", "picks"] []) (FH : Fun K "has_pick" "Task.has_pick" s_Task_has_pick fH fdH) (bH : Binds K fdH ["self", "place"] []) (mH : Meth K C "has_pick" fH)
    (FT : Fun K "__init__" "PickTaken.__init__" s_PickTaken___init__ fT fdT) (bT : Binds K fdT ["self", "place"] []) : FnOk P w K mg base (L2.CX P w) 4 f fd ["self", "place"] (spWith C CT CL) := by
  have GI : FnOk P w K mg base (L2.CX P w) 2 fI fdI ["self", "start", "end", "picks"] (spTask K C CI) := ok_task FI T
  have GH : FnOk P w K mg base CX0 1 fH fdH ["self", "place"] (spHas C) := ok_has FH T
  have GT : FnOk P w K mg base CX0 1 fT fdT ["self", "place"] (spXI K CT "place") := ok_taken FT
  refine F.okX sc_Task_with_pick (fun vs H Q E h => ?_) (fun cdv A outer s H vs Q E hr h => ?_)
  · obtain ⟨p, v, st, en, z, ps, rfl, _⟩ := h
    rfl
  · obtain ⟨p, v, st, en, z, ps, rfl, hT, hv, q1, q2, q3⟩ := h
    obtain ⟨dx, l, a, b, xs, h1, h2, h3, h4, h5, h6, h7, h8⟩ := id hT
    obtain ⟨t, hmost⟩ := T.most
    have hxl := h5.len
    refine ⟨_, (pss_cons (ps_if (pt_val (pe_meth (pv 0) T.cl mH GH (by exact hr.mono (by decide)) bH .nil pass0 (pa_cons (pv 1) pa_nil))) (pss_one (ps_raise rfl (takes_of rfl rfl rfl rfl) (pmk_oex U.oT U.iT U.yT GT (by exact hr.mono (by decide)) bT .nil pass0 (by rfl) U.gT (pa_cons (pv 1) pa_nil)))) pss_nil)
      (pss_cons (ps_if (pt_cmpR op_ge (pe_callB call_len (by rfl) T.len (by decide +kernel) (pa_cons (pe_fld (pv 0) rfl) pa_nil)) (pe_glob (v := .int 60) rfl hmost ⟨_, rfl⟩) (nomark _)) (pss_one (ps_raise rfl (takes_of rfl rfl rfl rfl) (pmk_own PySem.F.excBase_ValueError U.xL U.gL U.kL (raises_own U.bL U.tL) rfl))) pss_nil)
      (pss_one (ps_ret (pe_make M GI hr (by rfl) T.mgC bI .nil (passes_call (takes_of rfl rfl rfl rfl) fun _ _ _ _ h => h) (pa_cons (pe_fld (pv 0) rfl) (pa_cons (pe_fld (pv 0) rfl) (pa_cons (pe_op op_cat (pe_fld (pv 0) rfl) (pe_lst (pa_cons (pv 1) pa_nil))) pa_nil)))))))), ?_⟩
    refine ⟨_, rfl, p, dx, _, rfl, h1, tf_no _ _ _ (by decide +kernel) (by decide +kernel) (by decide +kernel), _, rfl, p, v, st, en, z, ps, rfl, hT, hv, _, rfl, ?_⟩
    refine ite2 (fun hc => ?_) (fun hc => ?_)
    · have hz := of_decide_eq_true hc
      refine ⟨_, rfl, by show 1 ≤ 1000; decide, fun e ne => ⟨e, v, rfl, U.oT, U.nT, upd_same, fun d hd hne => ⟨rfl, d, [("place", v)], ?_⟩⟩⟩
      obtain ⟨g1, g2, g3, g4⟩ := raised (f := "place") (v := v) ne hd hne
      exact ⟨g1, g2, g3, q1 hz _ d g4 upd_same⟩
    · have hz : z ∉ ps := fun m => hc (decide_eq_true m)
      refine ⟨_, rfl, p, C, dx, _, _, rfl, h1, T.cl, T.nP, tf_picks _ _ _, _, _, rfl, .inl ⟨_, SqL.of h4, rfl⟩, _, _, rfl, rfl, _, rfl, ?_⟩
      refine ite2 (fun hd => ?_) (fun hd => ?_)
      · have hd' := of_decide_eq_true hd
        exact q2 hz (by omega) H (Same.refl _)
      · have hlt : ps.length < 60 := by
          have : ¬ ((60 : Int) ≤ (xs.length : Int)) := fun y => hd (decide_eq_true y)
          omega
        refine ⟨_, rfl, p, C, dx, _, _, rfl, h1, T.cl, T.nS, tf_start _ _ _, _, rfl, p, C, dx, _, _, rfl, h1, T.cl, T.nE, tf_end _ _ _, _, rfl, p, C, dx, _, _, rfl, h1, T.cl, T.nP, tf_picks _ _ _, _, rfl, (by show 1 ≤ sizeLine; decide), fun m nm => ?_⟩
        obtain ⟨H1, e1, k1, g1⟩ := made (o := .lst [v]) nm
        rw [e1]
        refine ⟨l, m, _, _, rfl, rfl, k1 _ _ h4, g1, ?_, fun c nc => ?_⟩
        · show xs.length + 1 ≤ sizeLine
          rw [sizeLine_eq]
          omega
        obtain ⟨H2, e2, k2, g2⟩ := made (o := .lst (xs ++ [v])) nc
        rw [e2]
        intro x dy nx ndy nexy
        have k3 := mkSame (o := .ins C dy []) (u := .own x) nx ndy
        have k := (k1.trans k2).trans k3
        refine ⟨x, dy, c, a, b, st, en, xs ++ [v], ps ++ [z], rfl, upd_same, h2.same k, h3.same k, SqL.of (k3 _ _ g2), (h5.same k).snoc (hv.same k), ?_, fun _ _ H' hT' hb' _ => ⟨rfl, ?_⟩, fun hbad => ?_⟩
        · rw [List.length_append]
          show ps.length + 1 ≤ 1000
          omega
        · exact q3 hz hlt H' x ((k1.trans k2).trans (mkBut nx ndy hb')) (((k1.trans k2)).free nx) hT'
        · refine (hbad ⟨?_, ?_⟩).elim
          · rw [List.length_append]
            show ps.length + 1 ≤ 60
            omega
          · exact List.nodup_append.mpr ⟨h7, List.nodup_cons.mpr ⟨by simp, .nil⟩, fun y hy y' hy' e => hz (by rw [List.mem_singleton.mp hy'] at e; rw [← e]; exact hy)⟩
/-- start, end and picks, as a tuple -/
def dT (st en : Pl) (ps : List Pl) : PyData := .tuple [dP st, dP en, dL ps]
theorem eqv_dT (st en : Pl) (ps : List Pl) (st' en' : Pl) (ps' : List Pl) : PyData.eqv (dT st en ps) (dT st' en' ps') = decide (st = st' ∧ en = en' ∧ ps = ps') := by
  show PyData.eqvAll [dP st, dP en, dL ps] [dP st', dP en', dL ps'] = _
  simp only [PyData.eqvAll, eqv_dP, eqv_dL, Bool.and_true, Bool.decide_and]
theorem sh_dT (st en : Pl) (ps : List Pl) : SeqAt.shaped (dT st en ps) = true := by
  have h := depth_dPs ps
  have e : PyData.canLay0 (dT st en ps) = PyData.canLayAll0 (ps.map dP) := by
    show (true && (true && (PyData.canLayAll0 (ps.map dP) && true))) = _
    simp
  unfold SeqAt.shaped
  rw [e, lay_dPs]
  refine decide_eq_true ?_
  show max 1 (max 1 (max (PyData.depthAll (ps.map dP) + 1) 0)) + 1 ≤ 64
  omega
def spSame (C : Addr) : Sp := fun vs H Q _ => ∃ (p r : Addr) (st en st' en' : Pl) (ps ps' : List Pl), vs = [.ref p, .ref r] ∧ TaskAt C H p st en ps ∧ TaskAt C H r st' en' ps' ∧
  ∀ H', Same H H' → Q (.bl (decide (st = st' ∧ en = en' ∧ ps = ps'))) H'
theorem ok_same {f C CI fP pp : Addr} {fd fdP : FuncData} (F : Fun K "same_as" "Task.same_as" s_Task_same_as f fd) (T : TaskTxt K mg C CI) (FP : Fun K "picks" "Task.picks" s_Task_picks fP fdP) (bP : Binds K fdP ["self"] []) (hP : PropOf K C "picks" pp fP) :
    FnOk P w K mg base CX0 3 f fd ["self", "other"] (spSame C) := by
  have GP : FnOk P w K mg base CX0 1 fP fdP ["self"] (spPicks C) := ok_picks FP T
  refine F.ok sc_Task_same_as (fun vs H Q E h => ?_) (fun cdv A outer s H vs Q E hr h => ?_)
  · obtain ⟨p, r, st, en, st', en', ps, ps', rfl, _⟩ := h
    rfl
  · obtain ⟨p, r, st, en, st', en', ps, ps', rfl, hT, hR, q⟩ := h
    obtain ⟨dx, l, a, b, xs, h1, h2, h3, h4, h5, h6, h7, h8⟩ := id hT
    refine ⟨_, (pss_one (ps_ret (pe_cmpR (op_eqD hr.units) (pe_tup (pa_cons (pe_fld (pv 0) rfl) (pa_cons (pe_fld (pv 0) rfl) (pa_cons (pe_prop (pv 0) T.cl hP GP hr bP .nil pass0 rfl) pa_nil)))) (pe_tup (pa_cons (pe_fld (pv 1) rfl) (pa_cons (pe_fld (pv 1) rfl) (pa_cons (pe_prop (pv 1) T.cl hP GP hr bP .nil pass0 rfl) pa_nil)))) (nomark _)))), ?_⟩
    refine ⟨_, rfl, p, C, dx, _, _, rfl, h1, T.cl, T.nS, tf_start _ _ _, _, rfl, p, C, dx, _, _, rfl, h1, T.cl, T.nE, tf_end _ _ _, _, rfl, p, dx, _, rfl, h1, p, st, en, ps, rfl, hT, fun m ys nm hys => ⟨(by show 3 ≤ sizeLine; decide), fun t nt => ?_⟩⟩
    obtain ⟨H1, e1, k1, g1⟩ := made (o := .lst ys) nm
    rw [e1] at nt ⊢
    obtain ⟨H2, e2, k2, g2⟩ := made (o := .tup [a, b, .ref m]) nt
    rw [e2]
    have k := k1.trans k2
    obtain ⟨dx', l', a', b', xs', h1', h2', h3', h4', h5', _⟩ := id (hR.same k)
    refine ⟨_, rfl, r, C, dx', _, _, rfl, h1', T.cl, T.nS, tf_start _ _ _, _, rfl, r, C, dx', _, _, rfl, h1', T.cl, T.nE, tf_end _ _ _, _, rfl, r, dx', _, rfl, h1', r, st', en', ps', rfl, hR.same k, fun m' ys' nm' hys' => ⟨(by show 3 ≤ sizeLine; decide), fun t' nt' => ?_⟩⟩
    obtain ⟨H3, e3, k3, g3⟩ := made (o := .lst ys') nm'
    rw [e3] at nt' ⊢
    obtain ⟨H4, e4, k4, g4⟩ := made (o := .tup [a', b', .ref m']) nt'
    rw [e4]
    have kk := k3.trans k4
    have d1 : Dp K H4 (.ref t) (dT st en ps) := .tup (SqT.of (kk _ _ g2)) (.cons (h2.same (k.trans kk)).dp (.cons (h3.same (k.trans kk)).dp (.cons ((hys.same (k1.trans (k2.trans kk))).dl (SqL.of (kk _ _ (k2 _ _ g1)))) .nil)))
    have d2 : Dp K H4 (.ref t') (dT st' en' ps') := .tup (SqT.of g4) (.cons (h2'.same kk).dp (.cons (h3'.same kk).dp (.cons ((hys'.same kk).dl (SqL.of (k4 _ _ g3))) .nil)))
    refine ⟨_, _, d1, d2, sh_dT _ _ _, sh_dT _ _ _, ?_⟩
    rw [eqv_dT]
    exact q H4 (k.trans kk)
end

/-! ### notation -/
section
open GxR NdefX PySem.Spec PyProof.Rows
variable {P : Program} {w : World} {K : PySem.W.Frag} {mg : Str → Option Value} {base : Heap}
/-- a line's codes -/
def rowL (hd : List Nat) (ns : List Int) : List Nat := TL.joinL [32] (hd :: ns.map dg)
/-- names of built-ins that no def hides, a constant -/
structure NoteTop (mg : Str → Option Value) : Prop where
  str : mg "str" = none
  len : mg "len" = none
  all : mg "all" = none
  int : mg "int" = none
  range : mg "range" = none
  digits : ∃ t, mg "MOST_DIGITS" = some (.int 4 t)
/-- the error of notation -/
structure NotTxt (K : PySem.W.Frag) (mg : Str → Option Value) (CN fN : Addr) : Prop where
  g : mg "InvalidNotation" = some (.ref CN)
  o : OexC K CN
  n : PySem.W.findIn K (.ref CN) "line" = some none
  i : PySem.W.findIn K (.ref CN) "__init__" = some (some (.ref fN))
  y : PySem.W.typeIn K (.ref fN) = some (.type "function")
theorem ok_notinit {f C : Addr} {fd : FuncData} (F : Fun K "__init__" "InvalidNotation.__init__" s_InvalidNotation___init__ f fd) : FnOk P w K mg base CX0 1 f fd ["self", "line"] (spXI K C "line") := by
  refine F.ok sc_InvalidNotation___init__ (fun vs H Q E h => ?_) (fun cdv A outer s H vs Q E hr h => ?_)
  · obtain ⟨a, v, rfl, _⟩ := h
    rfl
  · obtain ⟨a, v, rfl, T, hno, ha, q⟩ := h
    exact ⟨_, pss_one (ps_ost (pv 0) (pv 1)), v, rfl, _, rfl, a, C, rfl, T, hno, .inl ⟨ha, q⟩⟩
theorem sp_S : (" " : Str) = S [32] := by decide +kernel
theorem nl_S : ("\n" : Str) = S [10] := by decide +kernel
theorem co_S : (":" : Str) = S [58] := by decide +kernel
theorem ze_S : ("0" : Str) = S [48] := by decide +kernel
theorem small_log {n : Int} (h0 : 0 ≤ n) (h1 : n < 100000) : n.natAbs.log2 < 1920 := by
  by_cases h : n.natAbs = 0
  · rw [h]
    decide
  · rw [Nat.log2_lt h]
    have h2 : n.natAbs < 2 ^ 17 := by omega
    exact Nat.lt_of_lt_of_le h2 (Nat.pow_le_pow_right (by decide) (by decide))
def spRowT : Sp := fun vs H Q _ => ∃ (hd : List Nat) (t : Addr) (ns : List Int), vs = [.str (S hd), .ref t] ∧ H t = some (.tup (ns.map V.int)) ∧ (∀ n ∈ ns, 0 ≤ n ∧ n < 100000) ∧ hd.length ≤ 1000 ∧ ns.length ≤ 1000 ∧
  ∀ H', Same H H' → Q (.str (S (rowL hd ns))) H'
theorem ok_rowT {f : Addr} {fd : FuncData} (F : Fun K "_row" "_row" s__row f fd) (T : NoteTop mg) : FnOk P w K mg base CX0 1 f fd ["head", "numbers"] spRowT := by
  refine F.ok sc__row (fun vs H Q E h => ?_) (fun cdv A outer s H vs Q E hr h => ?_)
  · obtain ⟨hd, t, ns, rfl, _⟩ := h
    rfl
  · obtain ⟨hd, t, ns, rfl, ht, hb, hl1, hl2, q⟩ := h
    have nd := sc__row.nd
    refine ⟨_, (pss_one (ps_ret (pe_join pe_str (pe_op op_cat (pe_lst (pa_cons (pv 0) pa_nil)) (pe_lc (own := [("number", 2)]) (g := gName 2) (tt := tYes) rfl nd (pi_tup (pv 1)) (blkOk_by (N := ["head", "numbers", "number"]) (sc := defScope s__row) (by decide +kernel)) (fun _ _ _ _ _ => pg_name (i := 2) nd rfl (Or.inl rfl)) (fun _ _ _ _ _ => pts_nil) (fun _ _ _ _ _ => (pe_callTy call_str_int (by rfl) T.str (by decide +kernel) (pa_cons (pv 2) pa_nil)))))))), ?_⟩
    refine ⟨⟨_, rfl⟩, _, rfl, (by show 1 ≤ sizeLine; decide), fun m nm => ?_⟩
    obtain ⟨H1, e1, k1, g1⟩ := made (o := .lst [.str (S hd)]) nm
    rw [e1]
    refine ⟨_, rfl, t, rfl, ⟨_, SqT.of (k1 _ _ ht)⟩, fun D hD => ?_⟩
    have hz : 100000 < sizeLine := by decide
    refine lc_tup (K := K) (a := t) (xs := ns.map V.int) (fun i H' => Same H1 H' ∧ H' D = some (.lst ((((ns.take i).map dg).map S).map V.str))) ?_ ?_ ?_ ?_
    · exact ⟨same_upd hD, upd_same⟩
    · rintro i H' _ ⟨k, _⟩
      exact SqT.of (k _ _ (k1 _ _ ht))
    · rintro i x H' hx ⟨k, hd'⟩
      rw [List.getElem?_map] at hx
      cases hn : ns[i]? with
      | none => rw [hn] at hx; cases hx
      | some n =>
        rw [hn] at hx
        cases hx
        obtain ⟨b0, b1⟩ := hb n (List.mem_of_getElem? hn)
        have hil : i < ns.length := (List.getElem?_eq_some_iff.mp hn).1
        refine ⟨rfl, _, rfl, _, rfl, small_log b0 b1, _, hd', ?_, ?_, ?_⟩
        · rw [List.length_map, List.length_map, List.length_map, List.length_take]
          omega
        · intro b o e
          rw [upd_ne (ne_of_none e hD)]
          exact k b o e
        · rw [upd_same, show (toString n : Str) = S (dg n) from dg_str b0, List.take_add_one, hn]
          simp only [List.map_append, Option.toList, List.map_cons, List.map_nil]
    · rintro H2 ⟨k2, g2⟩
      rw [List.length_map, List.take_length] at g2
      refine ⟨_, _, _, _, rfl, rfl, k2 _ _ g1, g2, ?_, fun p np => ?_⟩
      · rw [List.length_map, List.length_map, List.length_map]
        show 1 + ns.length ≤ sizeLine
        omega
      obtain ⟨H3, e3, k3, g3⟩ := made (o := .lst ([.str (S hd)] ++ (((ns.map dg).map S).map V.str))) np
      rw [e3]
      refine ⟨_, p, (hd :: ns.map dg).map S, rfl, rfl, .inl (SqL.of g3), ?_, ?_⟩
      · have hs : ∀ y ∈ hd :: ns.map dg, y.length ≤ 1000 := fun y hy => by
          rcases List.mem_cons.mp hy with rfl | hy
          · exact hl1
          · obtain ⟨n, hn, rfl⟩ := List.mem_map.mp hy
            have := dg_len (n := n) (k := 5) (by decide) (by have := (hb n hn).2; omega)
            omega
        have z := sum_len hs
        have e : (hd :: ns.map dg).length = ns.length + 1 := by rw [List.length_cons, List.length_map]
        rw [List.length_map, e, show (" " : Str).length = 1 from rfl]
        rw [e] at z
        omega
      · rw [sp_S, join_S]
        exact q H3 ((k1.trans k2).trans k3)
def spIsNum : Sp := fun vs H Q _ => ∃ z : Str, vs = [.str z] ∧ z.length ≤ 1000000 ∧ Q (.bl (isNum z)) H
theorem ok_isnum {f : Addr} {fd : FuncData} (F : Fun K "is_number" "is_number" s_is_number f fd) (T : NoteTop mg) : FnOk P w K mg base CX0 1 f fd ["word"] spIsNum := by
  refine F.ok sc_is_number (fun vs H Q E h => ?_) (fun cdv A outer s H vs Q E hr h => ?_)
  · obtain ⟨z, rfl, _⟩ := h
    rfl
  · obtain ⟨z, rfl, hz, q⟩ := h
    obtain ⟨t, hdig⟩ := T.digits
    have hz' : z.length ≤ sizeLine := by
      rw [sizeLine_eq]
      omega
    refine ⟨_, (pss_cons (ps_if (PW.pt (pw_or (pt_not (pt_val (pe_m0 PySem.F.slot_str_isdigit PySem.F.type_str_isdigit mt_isdigit (pv 0)))) (pw_or1 (pt_cmpR op_gt (pe_callB call_len_str (by rfl) T.len (by decide +kernel) (pa_cons (pv 0) pa_nil)) (pe_glob (v := .int 4) rfl hdig ⟨_, rfl⟩) (nomark _))))) (pss_one (ps_ret pe_bl)) pss_nil)
      (pss_one (ps_ret (pe_or (pe_cmpR op_eq (pv 0) pe_str (nomark _)) (pe_one (pe_not (pe_m1 PySem.F.slot_str_startswith PySem.F.type_str_startswith mt_startswith (pv 0) pe_str))))))), ?_⟩
    refine ⟨_, rfl, ⟨_, rfl⟩, _, rfl, rfl, trivial, _, rfl, ?_⟩
    unfold isNum at q
    cases h1 : Txt.isdigit z with
    | false =>
      rw [h1] at q
      exact q
    | true =>
      rw [h1] at q
      refine iteF ?_
      refine ⟨_, rfl, _, rfl, hz', _, _, rfl, rfl, _, rfl, ?_⟩
      refine ite2 (fun hc => ?_) (fun hc => ?_)
      · have : ¬ z.length ≤ 4 := by
          have := of_decide_eq_true hc
          omega
        rw [decide_eq_false this] at q
        exact q
      · have : z.length ≤ 4 := by
          have : ¬ ((z.length : Int) > 4) := fun y => hc (decide_eq_true y)
          omega
        rw [decide_eq_true this] at q
        refine ⟨_, rfl, rfl, _, rfl, ?_⟩
        have e : decide (V.str z = V.str ("0" : Str)) = decide (z = S [48]) := by
          rw [ze_S]
          by_cases h : z = S [48]
          · rw [h, decide_eq_true rfl, decide_eq_true rfl]
          · rw [decide_eq_false h, decide_eq_false fun y => h (V.str.inj y)]
        rw [e]
        cases h2 : decide (z = S [48]) with
        | true =>
          rw [h2] at q
          exact iteT q
        | false =>
          rw [h2] at q
          refine iteF ?_
          refine ⟨_, rfl, ⟨_, rfl⟩, _, _, rfl, rfl, _, rfl, ?_⟩
          rw [ze_S]
          exact q
/-- raises the error of notation with this number of a line -/
def RaisesN (CN : Addr) (k : Int) (H : Hp) (E : XK) : Prop := ∀ (H' : Hp) (d : Addr), Kp H H' → H' d = some (.xd [("line", .int k)]) → E (.ref CN) (some d) H'
def spNums (K : PySem.W.Frag) (T CN : Addr) : Sp := fun vs H Q E => ∃ (l : Addr) (ws : List Str) (k : Int), vs = [.ref l, .int k] ∧ SqL K H l (ws.map V.str) ∧ (∀ z ∈ ws, z.length ≤ 1000000 ∧ asc z) ∧ ws.length ≤ 1000000 ∧ TabG H T ∧
  (ws.all isNum = true → ∀ (H' : Hp) (r : Addr), Kp H H' → H' r = some (.lst ((ws.map numV).map V.int)) → Q (.ref r) H') ∧ (ws.all isNum = false → RaisesN CN k H E)
theorem ok_nums {f c T0 CN fN fI : Addr} {fd fdN fdI : FuncData} (F : FunC K "_numbers_of" "_numbers_of" s__numbers_of f c fd) (T : NoteTop mg) (TB : TabB base mg c T0) (U : NotTxt K mg CN fI) (GI : FnOk P w K mg base CX0 1 fI fdI ["self", "line"] (spXI K CN "line")) (bI : Binds K fdI ["self", "line"] [])
    (FN : Fun K "is_number" "is_number" s_is_number fN fdN) (GN : FnOk P w K mg base CX0 1 fN fdN ["word"] spIsNum) (bN : Binds K fdN ["word"] []) (gN : mg "is_number" = some (.ref fN)) : FnOk P w K mg base (L2.CX P w) 4 f fd ["words", "number"] (spNums K T0 CN) := by
  refine F.okX sc__numbers_of (fun vs H Q E h => ?_) (fun A outer s H vs Q E hr h => ?_)
  · obtain ⟨l, ws, k, rfl, _⟩ := h
    rfl
  · obtain ⟨l, ws, k, rfl, hl, hw, hwl, ht, q1, q2⟩ := h
    have nd := sc__numbers_of.nd
    refine ⟨_, (pss_cons (ps_if (pt_not (pt_val (pe_allG (k := 2) (N := ["word"]) (fr := [none]) (g := gName 0) (by exact hr.mono (by decide)) (by rfl) T.all (by decide +kernel) TB rfl (gsc_by (outer := defScope s__numbers_of) rfl rfl (by decide +kernel)) (gfr_by (outer := defScope s__numbers_of) (XN := ["words", "number", "word"]) rfl rfl (by decide +kernel)) (pi_list (pv 0)) (fun B s0 H0 cd fp rB => ⟨pg_name (i := 0) (show (["word"] : List Str).Nodup by decide) rfl (.inl rfl), (pe_call GN (by exact rB.mono (by decide)) (by rfl) gN FN.kp bN .nil pass0 (pa_cons (pv 0) pa_nil))⟩) (fun _ => rfl)))) (pss_one (ps_raise rfl (takes_of rfl rfl rfl rfl) (pmk_oex U.o U.i U.y GI (by exact hr.mono (by decide)) bI .nil pass0 (by rfl) U.g (pa_cons (pv 1) pa_nil)))) pss_nil)
      (pss_one (ps_ret (pe_lc (own := [("word", 2)]) (g := gName 2) (tt := tYes) rfl nd (pi_list (pv 0)) (blkOk_by (N := ["words", "number", "word"]) (sc := defScope s__numbers_of) (by decide +kernel)) (fun _ _ _ _ _ => pg_name (i := 2) nd rfl (Or.inl rfl)) (fun _ _ _ _ _ => pts_nil) (fun _ _ _ _ _ => (pe_callTy call_int_str (by rfl) T.int (by decide +kernel) (pa_cons (pv 2) pa_nil))))))), ?_⟩
    refine ⟨_, rfl, l, rfl, ⟨_, hl⟩, ht, fun H2 t2 => ?_⟩
    have k2 : Kp H H2 := Tabbed.kp t2 ht
    have hl2 : SqL K H2 l (ws.map V.str) := k2.seq hl
    refine for_list (K := K) (a := l) (xs := ws.map V.str) (fun i σ H' => (∃ z, σ = [z]) ∧ H' = H2 ∧ (ws.take i).all isNum = true) ?_ ?_ ?_ ?_
    · exact ⟨⟨none, rfl⟩, rfl, rfl⟩
    · rintro i σ H' _ ⟨_, rfl, _⟩
      exact hl2
    · rintro i x σ H' hx ⟨⟨z, rfl⟩, rfl, hp⟩
      rw [List.getElem?_map] at hx
      cases hn : ws[i]? with
      | none => rw [hn] at hx; cases hx
      | some y =>
        rw [hn] at hx
        cases hx
        have hy := hw y (List.mem_of_getElem? hn)
        have et : ws.take (i + 1) = ws.take i ++ [y] := by rw [List.take_add_one, hn]; rfl
        refine ⟨_, rfl, _, rfl, hy.1, _, rfl, ?_⟩
        refine ite2 (fun h7 => ?_) (fun h7 => ?_)
        · have hi : isNum y = false := by simpa using h7
          have e : ws.all isNum = false := by
            rw [Bool.eq_false_iff]
            intro z
            rw [List.all_eq_true] at z
            rw [z y (List.mem_of_getElem? hn)] at hi
            cases hi
          refine ⟨_, rfl, ?_⟩
          refine iteT ?_
          refine ⟨_, rfl, by show 1 ≤ 1000; decide, fun a na => ⟨a, .int k, rfl, U.o, U.n, upd_same, fun dd hd hne => ⟨rfl, dd, [("line", .int k)], ?_⟩⟩⟩
          obtain ⟨g1, g2, g3, g4⟩ := raised (f := "line") (v := .int k) na hd hne
          exact ⟨g1, g2, g3, q2 e _ dd (k2.trans (kpS g4)) upd_same⟩
        · have hi : isNum y = true := by simpa using h7
          refine ⟨⟨_, rfl⟩, rfl, ?_⟩
          rw [et, List.all_append, hp, List.all_cons, hi]
          rfl
    · rintro σ H' ⟨_, rfl, hp⟩
      rw [List.length_map, List.take_length] at hp
      refine ⟨_, rfl, ?_⟩
      refine iteF ?_
      refine ⟨_, rfl, l, rfl, ⟨_, hl2⟩, fun D hD => ?_⟩
      refine lc_list (K := K) (a := l) (xs := ws.map V.str) (fun i H1 => Same H' H1 ∧ H1 D = some (.lst (((ws.take i).map numV).map V.int))) ?_ ?_ ?_ ?_
      · exact ⟨same_upd hD, upd_same⟩
      · rintro i H1 _ ⟨k1, _⟩
        exact k1.seq hl2
      · rintro i x H1 hx ⟨k1, hd⟩
        rw [List.getElem?_map] at hx
        cases hn : ws[i]? with
        | none => rw [hn] at hx; cases hx
        | some y =>
          rw [hn] at hx
          cases hx
          have hy := hw y (List.mem_of_getElem? hn)
          have hil : i < ws.length := (List.getElem?_eq_some_iff.mp hn).1
          rw [List.all_eq_true] at hp
          obtain ⟨n1, n2⟩ := isNum_int hy.2 (hp y (List.mem_of_getElem? hn))
          refine ⟨rfl, _, rfl, _, _, rfl, n1, n2, _, hd, ?_, ?_, ?_⟩
          · rw [List.length_map, List.length_map, List.length_take, sizeLine_eq]
            omega
          · intro b o e
            rw [upd_ne (ne_of_none e hD)]
            exact k1 b o e
          · rw [upd_same, List.take_add_one, hn]
            simp only [List.map_append, Option.toList, List.map_cons, List.map_nil]
      · rintro H1 ⟨k1, g1⟩
        rw [List.length_map, List.take_length] at g1
        exact q1 hp H1 D (k2.trans (kpS k1)) g1
end

/-! ### notation: places, tasks, walks -/
section
open GxR NdefX PySem.Spec PyProof.Rows
variable {P : Program} {w : World} {K : PySem.W.Frag} {mg : Str → Option Value} {base : Heap}
/-- the numbers that a line writes behind these words -/
def numsIn (ls : List Str) (n : Nat) (hd : List Str) : Option (List Int) :=
  if ls.length < n then none else
    if (Txt.split (ls.getD (n - 1) Str.empty) (S [32])).take hd.length = hd ∧ ((Txt.split (ls.getD (n - 1) Str.empty) (S [32])).drop hd.length).all isNum = true then
      some (((Txt.split (ls.getD (n - 1) Str.empty) (S [32])).drop hd.length).map numV) else none
/-- what all lines keep -/
def LinesOk (ls : List Str) : Prop := ls.length ≤ 100000 ∧ ∀ z ∈ ls, z.length ≤ 900000 ∧ asc z
theorem note_raised {H : Hp} {CN fI : Addr} (U : NotTxt K mg CN fI) {k : Int} {E : XK} (q : RaisesN CN k H E) {H0 : Hp} (k0 : Kp H H0) : ∀ y, H0 y = none → ∃ a v, [V.ref y, .int k] = [.ref a, v] ∧ OexC K CN ∧ PySem.W.findIn K (.ref CN) "line" = some none ∧ (upd H0 y (exo y CN none)) a = some (exo a CN none) ∧
    ∀ dx, (upd H0 y (exo y CN none)) dx = none → dx ≠ a → V.non = .non ∧ ∃ d fs, (upd (upd (upd H0 y (exo y CN none)) dx (exd dx [("line", v)])) a (exo a CN (some dx))) y = some (exo y CN (some d)) ∧ (upd (upd (upd H0 y (exo y CN none)) dx (exd dx [("line", v)])) a (exo a CN (some dx))) d = some (exd d fs) ∧ H0 d = none ∧
      E (.ref CN) (some d) (upd (del (upd (upd (upd H0 y (exo y CN none)) dx (exd dx [("line", v)])) a (exo a CN (some dx))) y) d (.xd fs)) := fun y ny => by
  refine ⟨y, .int k, rfl, U.o, U.n, upd_same, fun dd hd hne => ⟨rfl, dd, [("line", .int k)], ?_⟩⟩
  obtain ⟨g1, g2, g3, g4⟩ := raised (f := "line") (v := .int k) ny hd hne
  exact ⟨g1, g2, g3, q _ dd (k0.trans (kpS g4)) upd_same⟩
def spIn (K : PySem.W.Frag) (T CN : Addr) : Sp := fun vs H Q E => ∃ (l h : Addr) (ls hd : List Str) (n : Nat), vs = [.ref l, .int n, .ref h] ∧ SqL K H l (ls.map V.str) ∧ SqL K H h (hd.map V.str) ∧ LinesOk ls ∧ 1 ≤ n ∧ n ≤ 1000000 ∧ hd.length ≤ 1000 ∧ (∀ x ∈ hd, asc x) ∧ TabG H T ∧
  (∀ ns, numsIn ls n hd = some ns → ∀ (H' : Hp) (r : Addr), Kp H H' → H' r = some (.lst (ns.map V.int)) → Q (.ref r) H') ∧ (numsIn ls n hd = none → RaisesN CN n H E)
theorem ok_in {f T0 CN fN fI : Addr} {fd fdN fdI : FuncData} (F : Fun K "_numbers_in" "_numbers_in" s__numbers_in f fd) (T : NoteTop mg) (U : NotTxt K mg CN fI) (GI : FnOk P w K mg base CX0 1 fI fdI ["self", "line"] (spXI K CN "line")) (bI : Binds K fdI ["self", "line"] [])
    (FNk : PySem.W.keepIn K (.ref fN) = true) (GN : FnOk P w K mg base (L2.CX P w) 4 fN fdN ["words", "number"] (spNums K T0 CN)) (bN : Binds K fdN ["words", "number"] []) (gN : mg "_numbers_of" = some (.ref fN)) : FnOk P w K mg base (L2.CX P w) 5 f fd ["lines", "number", "head"] (spIn K T0 CN) := by
  refine F.okX sc__numbers_in (fun vs H Q E h => ?_) (fun cdv A outer s H vs Q E hr h => ?_)
  · obtain ⟨l, h, ls, hd, n, rfl, _⟩ := h
    rfl
  · obtain ⟨l, h, ls, hd, n, rfl, hl, hh, hls, hn1, hn2, hhd, hha, ht, q1, q2⟩ := h
    have nd := sc__numbers_in.nd
    have hz : 1000000 < sizeLine := by decide
    refine ⟨_, (pss_cons (ps_if (pt_cmpR op_gt (pv 1) (pe_callB call_len (by rfl) T.len (by decide +kernel) (pa_cons (pv 0) pa_nil)) (nomark _)) (pss_one (ps_raise rfl (takes_of rfl rfl rfl rfl) (pmk_oex U.o U.i U.y GI (by exact hr.mono (by decide)) bI .nil pass0 (by rfl) U.g (pa_cons (pv 1) pa_nil)))) pss_nil)
      (pss_cons (ps_set (i := 3) nd rfl (.inl rfl) (pe_split (pe_ix ix_list (pv 0) (pe_op op_sub (pv 1) pe_int) (fun _ _ => rfl)) pe_str))
      (pss_cons (ps_if (pt_cmpR (r := rNeD K) (op_neD (by exact hr.units)) (pe_slice sl_list (pv 3) po_none (po_some (pe_callB call_len (by rfl) T.len (by decide +kernel) (pa_cons (pv 2) pa_nil)))) (pv 2) (nomark _)) (pss_one (ps_raise rfl (takes_of rfl rfl rfl rfl) (pmk_oex U.o U.i U.y GI (by exact hr.mono (by decide)) bI .nil pass0 (by rfl) U.g (pa_cons (pv 1) pa_nil)))) pss_nil)
      (pss_one (ps_ret (pe_call GN (by exact hr.mono (by decide)) (by rfl) gN FNk bN .nil (passes_call (takes_of rfl rfl rfl rfl) fun _ _ _ _ h => h) (pa_cons (pe_slice sl_list (pv 3) (po_some (pe_callB call_len (by rfl) T.len (by decide +kernel) (pa_cons (pv 2) pa_nil))) po_none) (pa_cons (pv 1) pa_nil)))))))), ?_⟩
    refine ⟨_, rfl, _, rfl, _, _, rfl, .inl ⟨_, hl, rfl⟩, _, _, rfl, rfl, _, rfl, ?_⟩
    unfold numsIn at q1 q2
    refine ite2 (fun hc => ?_) (fun hc => ?_)
    · have hc' := of_decide_eq_true hc
      rw [List.length_map] at hc'
      rw [if_pos (show ls.length < n by omega)] at q2
      exact ⟨_, rfl, by show 1 ≤ 1000; decide, note_raised U (q2 rfl) (Kp.refl H)⟩
    have hle : ¬ ls.length < n := fun z => hc (decide_eq_true (by rw [List.length_map]; omega))
    rw [if_neg hle] at q1 q2
    obtain ⟨ln, hln⟩ : ∃ z, ls[n - 1]? = some z := ⟨_, List.getElem?_eq_getElem (by omega)⟩
    have hget : ls.getD (n - 1) Str.empty = ln := by
      rw [List.getD_eq_getElem?_getD, hln]
      rfl
    rw [hget] at q1 q2
    obtain ⟨hll, hla⟩ := hls.2 ln (List.mem_of_getElem? hln)
    -- words = lines[number - 1].split(" ")
    refine ⟨_, rfl, _, rfl, _, _, rfl, rfl, ?_⟩
    refine ⟨l, _, _, .str ln, rfl, rfl, hl, ?_, ⟨_, rfl⟩, _, _, rfl, rfl, rfl, ?_, fun m nm => ?_⟩
    · rw [show (n : Int) - 1 = ((n - 1 : Nat) : Int) by omega]
      exact atI_nat (by rw [List.getElem?_map, hln]; rfl)
    · omega
    obtain ⟨H1, e1, k1, g1⟩ := made (o := .lst ((Txt.split ln (S [32])).map V.str)) nm
    rw [sp_S, e1]
    generalize hws : Txt.split ln (S [32]) = ws at *
    have hw : ∀ z ∈ ws, z.length ≤ 900000 ∧ asc z := fun z hz2 => by
      rw [← hws] at hz2
      exact ⟨Nat.le_trans (part_short hz2) hll, asc_split (by decide) hla hz2⟩
    have hwl : ws.length ≤ 1000000 := by
      have := split_le ln (S [32])
      rw [hws] at this
      omega
    -- words[:len(head)] != head
    refine ⟨_, rfl, _, rfl, _, _, rfl, .inl ⟨_, k1.seq hh, rfl⟩, _, rfl, m, _, rfl, SqL.of g1, fun c nc => ?_⟩
    rw [List.length_map, cut_to, ← List.map_take]
    obtain ⟨H2, e2, k2, g2⟩ := made (o := .lst ((ws.take hd.length).map V.str)) nc
    rw [e2]
    have k12 := k1.trans k2
    refine ⟨_, rfl, dS (ws.take hd.length), dS hd, dp_S (SqL.of g2), dp_S (k12.seq hh), sh_dS (fun z hz2 => (hw z (List.mem_of_mem_take hz2)).2), sh_dS hha, _, rfl, ?_⟩
    rw [eqv_dS]
    by_cases he : ws.take hd.length = hd
    · rw [decide_eq_true he]
      refine iteF ?_
      refine ⟨_, rfl, _, rfl, _, _, rfl, .inl ⟨_, k12.seq hh, rfl⟩, _, rfl, m, _, rfl, SqL.of (k2 _ _ g1), fun c2 nc2 => ?_⟩
      rw [List.length_map, cut_from, ← List.map_drop]
      obtain ⟨H3, e3, k3, g3⟩ := made (o := .lst ((ws.drop hd.length).map V.str)) nc2
      rw [e3]
      have k13 := k12.trans k3
      refine ⟨_, rfl, c2, ws.drop hd.length, n, rfl, SqL.of g3, fun z hz2 => ?_, ?_, (kpS k13).tab _ ht, fun ha H4 r k4 g4 => ?_, fun ha H4 d k4 g4 => ?_⟩
      · obtain ⟨x, y⟩ := hw z (List.mem_of_mem_drop hz2)
        exact ⟨by omega, y⟩
      · rw [List.length_drop]
        omega
      · exact q1 _ (if_pos ⟨he, ha⟩) H4 r ((kpS k13).trans k4) g4
      · exact q2 (if_neg fun z => by rw [ha] at z; cases z.2) H4 d ((kpS k13).trans k4) g4
    · rw [decide_eq_false he]
      refine iteT ?_
      exact ⟨_, rfl, by show 1 ≤ 1000; decide, note_raised U (q2 (if_neg fun z => he z.1)) (kpS k12)⟩
/-- the place that a line writes behind a word -/
def placeIn (ls : List Str) (n : Nat) (wd : Str) : Option Pl := match numsIn ls n [wd] with
  | some [a, b] => if a ≤ 1000 ∧ b ≤ 1000 then some (a, b) else none
  | _ => none
def spPlIn (K : PySem.W.Frag) (T CN : Addr) : Sp := fun vs H Q E => ∃ (l : Addr) (ls : List Str) (n : Nat) (wd : Str), vs = [.ref l, .int n, .str wd] ∧ SqL K H l (ls.map V.str) ∧ LinesOk ls ∧ 1 ≤ n ∧ n ≤ 1000000 ∧ asc wd ∧ TabG H T ∧
  (∀ p, placeIn ls n wd = some p → ∀ (H' : Hp) (v : V), Kp H H' → Pr H' v p → Q v H') ∧ (placeIn ls n wd = none → RaisesN CN n H E)
theorem ok_plin {f T0 CN fN fI : Addr} {fd fdN fdI : FuncData} (F : Fun K "_place_in" "_place_in" s__place_in f fd) (T : NoteTop mg) (hmax : mg "max" = none) (hgr : ∃ t, mg "GREATEST_OF_TASK" = some (.int 1000 t)) (U : NotTxt K mg CN fI) (GI : FnOk P w K mg base CX0 1 fI fdI ["self", "line"] (spXI K CN "line")) (bI : Binds K fdI ["self", "line"] [])
    (FNk : PySem.W.keepIn K (.ref fN) = true) (GN : FnOk P w K mg base (L2.CX P w) 5 fN fdN ["lines", "number", "head"] (spIn K T0 CN)) (bN : Binds K fdN ["lines", "number", "head"] []) (gN : mg "_numbers_in" = some (.ref fN)) : FnOk P w K mg base (L2.CX P w) 6 f fd ["lines", "number", "word"] (spPlIn K T0 CN) := by
  refine F.okX sc__place_in (fun vs H Q E h => ?_) (fun cdv A outer s H vs Q E hr h => ?_)
  · obtain ⟨l, ls, n, wd, rfl, _⟩ := h
    rfl
  · obtain ⟨l, ls, n, wd, rfl, hl, hls, hn1, hn2, hwd, ht, q1, q2⟩ := h
    obtain ⟨tk, hg⟩ := hgr
    have nd := sc__place_in.nd
    refine ⟨_, (pss_cons (ps_set (i := 3) nd rfl (.inl rfl) (pe_call GN (by exact hr.mono (by decide)) (by rfl) gN FNk bN .nil (passes_call (takes_of rfl rfl rfl rfl) fun _ _ _ _ h => h) (pa_cons (pv 0) (pa_cons (pv 1) (pa_cons (pe_lst (pa_cons (pv 2) pa_nil)) pa_nil)))))
      (pss_cons (ps_if (PW.pt (pw_or (pt_cmpR op_ne (pe_callB call_len (by rfl) T.len (by decide +kernel) (pa_cons (pv 3) pa_nil)) pe_int (nomark _)) (pw_or1 (pt_cmpR op_gt (pe_callB (cr_max rfl) (by rfl) hmax (by decide +kernel) (pa_cons (pv 3) pa_nil)) (pe_glob (v := .int 1000) rfl hg ⟨_, rfl⟩) (nomark _))))) (pss_one (ps_raise rfl (takes_of rfl rfl rfl rfl) (pmk_oex U.o U.i U.y GI (by exact hr.mono (by decide)) bI .nil pass0 (by rfl) U.g (pa_cons (pv 1) pa_nil)))) pss_nil)
      (pss_one (ps_ret (pe_tup (pa_cons (pe_ix ix_list (pv 3) pe_int (fun _ _ => rfl)) (pa_cons (pe_ix ix_list (pv 3) pe_int (fun _ _ => rfl)) pa_nil))))))), ?_⟩
    refine ⟨_, rfl, _, rfl, _, rfl, (by show 1 ≤ sizeLine; decide), fun m nm => ?_⟩
    obtain ⟨H1, e1, k1, g1⟩ := made (o := .lst [.str wd]) nm
    rw [e1]
    unfold placeIn at q1 q2
    refine ⟨l, m, ls, [wd], n, rfl, k1.seq hl, SqL.of g1, hls, hn1, hn2, (by show 1 ≤ 1000; decide), (fun z hz => by rw [List.mem_singleton.mp hz]; exact hwd), (kpS k1).tab _ ht, fun ns hns H2 r k2 g2 => ?_, fun hno H2 d k2 g2 => ?_⟩
    · rw [hns] at q1 q2
      have k12 := (kpS k1).trans k2
      have bad : ∀ (h : (match some ns with | some [a, b] => if a ≤ 1000 ∧ b ≤ 1000 then some (a, b) else none | _ => (none : Option Pl)) = none), RaisesN CN n H E := q2
      refine ⟨_, rfl, _, _, rfl, .inl ⟨_, SqL.of g2, rfl⟩, rfl, _, rfl, ?_⟩
      rw [List.length_map]
      by_cases h2 : ns.length = 2
      · have e : (!decide (V.int (ns.length : Int) = V.int 2)) = false := by
          rw [h2]
          rfl
        rw [e]
        refine iteF ?_
        obtain ⟨a, b, rfl⟩ : ∃ a b, ns = [a, b] := by
          match ns, h2 with
          | [a, b], _ => exact ⟨a, b, rfl⟩
        refine ⟨_, rfl, r, [a, b], rfl, SqL.of g2, (by show 0 < 2; decide), fun mx hm hle => ⟨_, _, rfl, rfl, _, rfl, ?_⟩⟩
        refine ite2 (fun hc => ?_) (fun hc => ?_)
        · have hc' := of_decide_eq_true hc
          refine ⟨_, rfl, by show 1 ≤ 1000; decide, note_raised U (bad (if_neg fun z => ?_)) k12⟩
          rcases List.mem_cons.mp hm with rfl | hm
          · omega
          · rw [List.mem_singleton] at hm
            omega
        · have hc' : ¬ mx > 1000 := fun z => hc (decide_eq_true z)
          have ha := hle a (by simp)
          have hb := hle b (by simp)
          refine ⟨_, rfl, r, _, _, .int a, rfl, rfl, SqL.of g2, rfl, _, rfl, r, _, _, .int b, rfl, rfl, SqL.of g2, rfl, (by show 2 ≤ sizeLine; decide), fun t nt => ?_⟩
          obtain ⟨H3, e3, k3, g3⟩ := made (o := .tup [.int a, .int b]) nt
          rw [e3]
          exact q1 (a, b) (if_pos ⟨by omega, by omega⟩) H3 _ (k12.trans (kpS k3)) ⟨t, rfl, g3⟩
      · have e : (!decide (V.int (ns.length : Int) = V.int 2)) = true := by
          rw [decide_eq_false fun z => h2 (by have := V.int.inj z; omega)]
          rfl
        rw [e]
        refine iteT ?_
        refine ⟨_, rfl, by show 1 ≤ 1000; decide, note_raised U (bad ?_) k12⟩
        match ns, h2 with
        | [], _ => rfl
        | [_], _ => rfl
        | [_, _], z => exact absurd rfl z
        | _ :: _ :: _ :: _, _ => rfl
    · rw [hno] at q2
      exact q2 rfl H2 d ((kpS k1).trans k2) g2
end

/-! ### notation: tasks and walks, read and written -/
section
open GxR NdefX PySem.Spec PyProof.Rows
variable {P : Program} {w : World} {K : PySem.W.Frag} {mg : Str → Option Value} {base : Heap}
theorem TaskAt.kp {C : Addr} {H H' : Hp} {p : Addr} {st en : Pl} {ps : List Pl} (h : TaskAt C H p st en ps) (k : Kp H H') : TaskAt C H' p st en ps := by
  obtain ⟨dx, l, a, b, xs, h1, h2, h3, h4, h5, h6⟩ := h
  exact ⟨dx, l, a, b, xs, k.ins h1, h2.kp k, h3.kp k, k.lst h4, h5.kp k, h6⟩
theorem Kp.put {H H' : Hp} {r : Addr} {o : HO} (k : Kp H H') (n : H r = none) : Kp H (upd H' r o) := by
  refine ⟨fun b u e t => ?_, fun P h => ?_⟩
  · rw [upd_ne (ne_of_none e n)]
    exact k.at_ b u e t
  · obtain ⟨ps, e, t⟩ := k.tab P h
    obtain ⟨ps0, e0, _⟩ := h
    exact ⟨ps, by rw [upd_ne (ne_of_none e0 n)]; exact e, t⟩
/-- the picks that the lines from this number on write, or the first number that cannot stand -/
def picksFrom (ls : List Str) : Nat → Nat → List Pl → Nat ⊕ List Pl
  | 0, _, ps => .inr ps
  | m + 1, n, ps => match placeIn ls n (S [112, 105, 99, 107]) with
    | none => .inl n
    | some p => if p ∈ ps ∨ 60 ≤ ps.length then .inl n else picksFrom ls m (n + 1) (ps ++ [p])
theorem pick_S : ("pick" : Str) = S [112, 105, 99, 107] := by decide +kernel
theorem start_S : ("start" : Str) = S [115, 116, 97, 114, 116] := by decide +kernel
theorem end_S : ("end" : Str) = S [101, 110, 100] := by decide +kernel
def spLine (K : PySem.W.Frag) (T CT : Addr) : Sp := fun vs H Q _ => ∃ (p l : Addr) (st en z : Pl) (ps : List Pl) (ls : List Str) (n : Nat), vs = [.ref p, .ref l, .int n] ∧ TaskAt CT H p st en ps ∧ SqL K H l (ls.map V.str) ∧ LinesOk ls ∧ 1 ≤ n ∧ n ≤ 1000000 ∧ TabG H T ∧
  placeIn ls n (S [112, 105, 99, 107]) = some z ∧ z ∉ ps ∧ ps.length < 60 ∧ ∀ (H' : Hp) (r : Addr), Kp H H' → TaskAt CT H' r st en (sortP (ps ++ [z])) → Q (.ref r) H'
theorem ok_line {f fP fW T0 CT CTK CL CIT CN : Addr} {fd fdP fdW : FuncData} (F : Fun K "_task_with_line" "_task_with_line" s__task_with_line f fd) (TT : TaskTxt K mg CT CIT)
    (FPk : PySem.W.keepIn K (.ref fP) = true) (GP : FnOk P w K mg base (L2.CX P w) 6 fP fdP ["lines", "number", "word"] (spPlIn K T0 CN)) (bP : Binds K fdP ["lines", "number", "word"] []) (gP : mg "_place_in" = some (.ref fP))
    (mW : Meth K CT "with_pick" fW) (GW : FnOk P w K mg base (L2.CX P w) 4 fW fdW ["self", "place"] (spWith CT CTK CL)) (bW : Binds K fdW ["self", "place"] []) : FnOk P w K mg base CX0 7 f fd ["task", "lines", "number"] (spLine K T0 CT) := by
  refine F.ok sc__task_with_line (fun vs H Q E h => ?_) (fun cdv A outer s H vs Q E hr h => ?_)
  · obtain ⟨p, l, st, en, z, ps, ls, n, rfl, _⟩ := h
    rfl
  · obtain ⟨p, l, st, en, z, ps, ls, n, rfl, hT, hl, hls, hn1, hn2, ht, hz, hnot, hlt, q⟩ := h
    have nd := sc__task_with_line.nd
    refine ⟨_, (pss_cons (ps_set (i := 3) nd rfl (.inl rfl) (pe_call GP (by exact hr.mono (by decide)) (by rfl) gP FPk bP .nil (passes_call takes0 fun _ _ _ _ h => h) (pa_cons (pv 1) (pa_cons (pv 2) (pa_cons pe_str pa_nil)))))
      (pss_one (ps_try_thru0 (pss_one (ps_ret (pe_meth (pv 0) TT.cl mW GW (by exact hr.mono (by decide)) bW .nil (passes_call takes0 fun _ _ _ _ h => h) (pa_cons (pv 3) pa_nil))))))), ?_⟩
    refine ⟨_, rfl, _, rfl, l, ls, n, "pick", rfl, hl, hls, hn1, hn2, (by rw [pick_S]; exact asc_S (by decide)), ht, fun z' hz' H1 v k1 hv => ?_, fun hno => ?_⟩
    · rw [pick_S, hz] at hz'
      obtain rfl := Option.some.inj hz'
      have hT1 := hT.kp k1
      obtain ⟨dx, l1, a, b, xs, h1, h2, h3, h4, h5, h6, h7, h8⟩ := id hT1
      refine ⟨_, rfl, p, dx, _, rfl, h1, tf_no _ _ _ (by decide +kernel) (by decide +kernel) (by decide +kernel), _, rfl, p, v, st, en, z, ps, rfl, hT1, hv, fun z1 => (hnot z1).elim, fun _ z1 => by omega, fun _ _ H2 r k2 _ hT2 => ?_⟩
      exact q H2 r (k1.trans (kpS k2)) hT2
    · rw [pick_S, hz] at hno
      cases hno
def spParse (K : PySem.W.Frag) (T CT : Addr) : Sp := fun vs H Q _ => ∃ (z : Str) (st en : Pl) (ps : List Pl), vs = [.str z] ∧ z.length ≤ 90000 ∧ asc z ∧ TabG H T ∧
  placeIn (Txt.split z (S [10])) 1 (S [115, 116, 97, 114, 116]) = some st ∧ placeIn (Txt.split z (S [10])) 2 (S [101, 110, 100]) = some en ∧ picksFrom (Txt.split z (S [10])) ((Txt.split z (S [10])).length - 2) 3 [] = .inr ps ∧
  ∀ (H' : Hp) (r : Addr), Kp H H' → TaskAt CT H' r st en (sortP ps) → Q (.ref r) H'
theorem picksFrom_good {ls : List Str} {m n : Nat} {acc ps : List Pl} (h : picksFrom ls (m + 1) n acc = .inr ps) : ∃ p, placeIn ls n (S [112, 105, 99, 107]) = some p ∧ p ∉ acc ∧ acc.length < 60 ∧ picksFrom ls m (n + 1) (acc ++ [p]) = .inr ps := by
  unfold picksFrom at h
  cases e : placeIn ls n (S [112, 105, 99, 107]) with
  | none => rw [e] at h; cases h
  | some p =>
    rw [e] at h
    dsimp only at h
    by_cases c : p ∈ acc ∨ 60 ≤ acc.length
    · rw [if_pos c] at h
      cases h
    · rw [if_neg c] at h
      exact ⟨p, rfl, fun z => c (.inl z), by omega, h⟩
theorem placeIn_le {ls : List Str} {n : Nat} {wd : Str} {p : Pl} (h : placeIn ls n wd = some p) : n ≤ ls.length := by
  unfold placeIn numsIn at h
  by_cases c : ls.length < n
  · rw [if_pos c] at h
    cases h
  · omega
theorem ok_parse {f fP fT fL T0 CT CIT CN : Addr} {fd fdP fdT fdL : FuncData} (F : Fun K "parse_task" "parse_task" s_parse_task f fd) (T : NoteTop mg) (TT : TaskTxt K mg CT CIT)
    (FPk : PySem.W.keepIn K (.ref fP) = true) (GP : FnOk P w K mg base (L2.CX P w) 6 fP fdP ["lines", "number", "word"] (spPlIn K T0 CN)) (bP : Binds K fdP ["lines", "number", "word"] []) (gP : mg "_place_in" = some (.ref fP))
    (MT : Mk K CT fT) (GT : FnOk P w K mg base (L2.CX P w) 2 fT fdT ["self", "start", "end", "picks"] (spTask K CT CIT)) (bT : Binds K fdT ["self", "start", "end", "picks"] [])
    (FLk : PySem.W.keepIn K (.ref fL) = true) (GL : FnOk P w K mg base CX0 7 fL fdL ["task", "lines", "number"] (spLine K T0 CT)) (bL : Binds K fdL ["task", "lines", "number"] []) (gL : mg "_task_with_line" = some (.ref fL)) : FnOk P w K mg base CX0 8 f fd ["text"] (spParse K T0 CT) := by
  refine F.ok sc_parse_task (fun vs H Q E h => ?_) (fun cdv A outer s H vs Q E hr h => ?_)
  · obtain ⟨z, st, en, ps, rfl, _⟩ := h
    rfl
  · obtain ⟨z, st, en, ps, rfl, hz, ha, ht, hst, hen, hps, q⟩ := h
    have nd := sc_parse_task.nd
    have hline : 1000000 < sizeLine := by decide
    refine ⟨_, (pss_cons (ps_set (i := 1) nd rfl (.inl rfl) (pe_split (pv 0) pe_str))
      (pss_cons (ps_set (i := 2) nd rfl (.inl rfl) (pe_call GP (by exact hr.mono (by decide)) (by rfl) gP FPk bP .nil (passes_call takes0 fun _ _ _ _ h => h) (pa_cons (pv 1) (pa_cons pe_int (pa_cons pe_str pa_nil)))))
      (pss_cons (ps_set (i := 3) nd rfl (.inl rfl) (pe_call GP (by exact hr.mono (by decide)) (by rfl) gP FPk bP .nil (passes_call takes0 fun _ _ _ _ h => h) (pa_cons (pv 1) (pa_cons pe_int (pa_cons pe_str pa_nil)))))
      (pss_cons (ps_set (i := 4) nd rfl (.inl rfl) (pe_make MT GT (by exact hr.mono (by decide)) (by rfl) TT.mgC bT .nil (passes_call takes0 fun _ _ _ _ h => h) (pa_cons (pv 2) (pa_cons (pv 3) (pa_cons (pe_lst pa_nil) pa_nil)))))
      (pss_cons (ps_for PassesOwn.never rfl (pi_range2 rfl T.range (pa_cons pe_int (pa_cons (pe_op op_add (pe_callB call_len (by rfl) T.len (by decide +kernel) (pa_cons (pv 1) pa_nil)) pe_int) pa_nil))) (pg_name (i := 5) nd rfl (.inl rfl)) (pss_one (ps_set (i := 4) nd rfl (.inl rfl) (pe_call GL (by exact hr.mono (by decide)) (by rfl) gL FLk bL .nil pass0 (pa_cons (pv 4) (pa_cons (pv 1) (pa_cons (pv 5) pa_nil)))))))
      (pss_one (ps_ret (pv 4)))))))), ?_⟩
    refine ⟨_, rfl, ⟨_, rfl⟩, _, _, rfl, rfl, rfl, (by omega), fun m nm => ?_⟩
    obtain ⟨H1, e1, k1, g1⟩ := made (o := .lst ((Txt.split z (S [10])).map V.str)) nm
    rw [nl_S, e1]
    have hll := split_le z (S [10])
    have hls : LinesOk (Txt.split z (S [10])) := ⟨by omega, fun y hy => ⟨Nat.le_trans (part_short hy) (by omega), asc_split (by decide) ha hy⟩⟩
    generalize hL : Txt.split z (S [10]) = ls at *
    have h2 : 2 ≤ ls.length := placeIn_le hen
    refine ⟨_, rfl, m, ls, 1, "start", rfl, SqL.of g1, hls, Nat.le_refl _, (by decide), (by rw [start_S]; exact asc_S (by decide)), (kpS k1).tab _ ht, fun st' hst' H2 va k2 hva => ?_, fun hno => ?_⟩
    rotate_left
    · rw [start_S, hst] at hno
      cases hno
    rw [start_S, hst] at hst'
    obtain rfl := Option.some.inj hst'
    refine ⟨_, rfl, m, ls, 2, "end", rfl, SqL.of (k2.lst g1), hls, (by decide), (by decide), (by rw [end_S]; exact asc_S (by decide)), ((kpS k1).trans k2).tab _ ht, fun en' hen' H3 vb k3 hvb => ?_, fun hno => ?_⟩
    rotate_left
    · rw [end_S, hen] at hno
      cases hno
    rw [end_S, hen] at hen'
    obtain rfl := Option.some.inj hen'
    have k03 := ((kpS k1).trans k2).trans k3
    have k13 := k2.trans k3
    refine ⟨_, rfl, _, rfl, Nat.zero_le _, fun c nc => ?_⟩
    obtain ⟨H4, e4, k4, g4⟩ := made (o := .lst []) nc
    rw [e4]
    have k04 := k03.trans (kpS k4)
    intro x dy nx ndy nexy
    have k5 := mkSame (o := .ins CT dy []) (u := .own x) nx ndy
    refine ⟨x, dy, c, va, vb, st, en, [], [], rfl, upd_same, ((hva.kp k3).same k4).same k5, (hvb.same k4).same k5, SqL.of (k5 _ _ g4), .nil, Nat.zero_le _, fun _ _ H6 hT6 hb6 _ => ⟨rfl, ?_⟩, fun hbad => (hbad ⟨Nat.zero_le _, .nil⟩).elim⟩
    have k06 : Kp H H6 := k04.trans (kpS (mkBut nx ndy hb6))
    have g6 : H6 m = some (.lst (ls.map V.str)) := mkBut nx ndy hb6 _ _ (k4 _ _ (k13.lst g1))
    refine ⟨_, rfl, _, _, rfl, .inl ⟨_, SqL.of g6, rfl⟩, _, _, rfl, rfl, 3, _, rfl, ?_, ?_⟩
    · rw [List.length_map]
      have := hls.1
      omega
    rw [List.length_map, show ((ls.length : Int) + 1 - 3).toNat = ls.length - 2 by omega]
    refine for_range (lo := 3) (n := ls.length - 2) (fun i σ H' => ∃ (r : Addr) (acc : List Pl) (v5 : Option V), σ = [some (.str z), some (.ref m), some va, some vb, some (.ref r), v5] ∧ Kp H6 H' ∧ TaskAt CT H' r st en (sortP acc) ∧ picksFrom ls (ls.length - 2 - i) (3 + i) acc = .inr ps) ?_ ?_ ?_
    · exact ⟨x, [], none, rfl, Kp.refl _, hT6, hps⟩
    · rintro i σ H' hi ⟨r, acc, v5, rfl, k, hT, hp⟩
      rw [show ls.length - 2 - i = (ls.length - 2 - (i + 1)) + 1 by omega] at hp
      obtain ⟨p, p1, p2, p3, p4⟩ := picksFrom_good hp
      refine ⟨_, rfl, _, rfl, _, rfl, r, m, st, en, p, sortP acc, ls, 3 + i, ?_, hT, SqL.of (k.lst g6), hls, by omega, by omega, (k06.trans k).tab _ ht, p1, fun z1 => p2 (sortP_mem.mp z1), by rw [sortP_len]; exact p3, fun H7 r7 k7 hT7 => ?_⟩
      · rw [show ((3 + i : Nat) : Int) = 3 + (i : Int) by omega]
        rfl
      · refine ⟨r7, acc ++ [p], _, rfl, k.trans k7, ?_, p4⟩
        rw [← sortP_congr ((sortP_perm acc).append_right [p])]
        exact hT7
    · rintro σ H' ⟨r, acc, v5, rfl, k, hT, hp⟩
      rw [Nat.sub_self] at hp
      cases hp
      exact ⟨_, rfl, q H' r (k06.trans k) hT⟩
end

/-! ### notation: walks read, tasks and walks written -/
section
open GxR NdefX PySem.Spec PyProof.Rows
variable {P : Program} {w : World} {K : PySem.W.Frag} {mg : Str → Option Value} {base : Heap}
/-- the place that a word of a walk writes -/
def wordP (y : Str) : Option Pl := if (Txt.split y (S [58])).all isNum = true then (match (Txt.split y (S [58])).map numV with
  | [a, b] => some (a, b)
  | _ => none) else none
def spPWalk (K : PySem.W.Frag) (T CN : Addr) : Sp := fun vs H Q E => ∃ z : Str, vs = [.str z] ∧ z.length ≤ 90000 ∧ asc z ∧ TabG H T ∧
  (∀ ps : List Pl, (Txt.split z (S [32])).map wordP = ps.map some → ∀ (H' : Hp) (r : Addr) (xs : List V), Kp H H' → H r = none → H' r = some (.lst xs) → Prs H' xs ps → Q (.ref r) H') ∧
  ((∃ y ∈ Txt.split z (S [32]), wordP y = none) → RaisesN CN 1 H E)
theorem ok_pwalk {f fN fI T0 CN : Addr} {fd fdN fdI : FuncData} (F : Fun K "parse_walk" "parse_walk" s_parse_walk f fd) (T : NoteTop mg) (U : NotTxt K mg CN fI) (GI : FnOk P w K mg base CX0 1 fI fdI ["self", "line"] (spXI K CN "line")) (bI : Binds K fdI ["self", "line"] [])
    (FNk : PySem.W.keepIn K (.ref fN) = true) (GN : FnOk P w K mg base (L2.CX P w) 4 fN fdN ["words", "number"] (spNums K T0 CN)) (bN : Binds K fdN ["words", "number"] []) (gN : mg "_numbers_of" = some (.ref fN)) : FnOk P w K mg base (L2.CX P w) 5 f fd ["text"] (spPWalk K T0 CN) := by
  refine F.okX sc_parse_walk (fun vs H Q E h => ?_) (fun cdv A outer s H vs Q E hr h => ?_)
  · obtain ⟨z, rfl, _⟩ := h
    rfl
  · obtain ⟨z, rfl, hz, ha, ht, q, e⟩ := h
    have nd := sc_parse_walk.nd
    have hline : 1000000 < sizeLine := by decide
    refine ⟨_, (pss_cons (ps_set (i := 1) nd rfl (.inl rfl) (pe_lst pa_nil))
      (pss_cons (ps_for (passes_of rfl) rfl (pi_list (pe_split (pv 0) pe_str)) (pg_name (i := 2) nd rfl (.inl rfl)) (pss_cons (ps_set (i := 3) nd rfl (.inl rfl) (pe_call GN (by exact hr.mono (by decide)) (by rfl) gN FNk bN .nil (passes_call (takes_of rfl rfl rfl rfl) fun _ _ _ _ h => h) (pa_cons (pe_split (pv 2) pe_str) (pa_cons pe_int pa_nil))))
      (pss_cons (ps_if (pt_cmpR op_ne (pe_callB call_len (by rfl) T.len (by decide +kernel) (pa_cons (pv 3) pa_nil)) pe_int (nomark _)) (pss_one (ps_raise rfl (takes_of rfl rfl rfl rfl) (pmk_oex U.o U.i U.y GI (by exact hr.mono (by decide)) bI .nil pass0 (by rfl) U.g (pa_cons pe_int pa_nil)))) pss_nil)
      (pss_one (ps_expr (pe_bm PySem.F.plainAttrs_list PySem.F.slot_list_append PySem.F.type_list_append mt_append (pv 1) (pa_cons (pe_tup (pa_cons (pe_ix ix_list (pv 3) pe_int (fun _ _ => rfl)) (pa_cons (pe_ix ix_list (pv 3) pe_int (fun _ _ => rfl)) pa_nil))) pa_nil)))))))
      (pss_one (ps_ret (pv 1))))), ?_⟩
    refine ⟨Nat.zero_le _, fun r nr => ?_⟩
    have k1 : Same H (upd H r (.lst [])) := same_upd nr
    refine ⟨_, rfl, ⟨_, rfl⟩, _, _, rfl, rfl, rfl, (by omega), fun l nl => ?_⟩
    have hrl : r ≠ l := ne_of_none upd_same nl
    have k2 : Same H (upd (upd H r (.lst [])) l (.lst ((Txt.split z (S [32])).map V.str))) := k1.trans (same_upd nl)
    rw [sp_S]
    have hll := split_le z (S [32])
    have hw : ∀ y ∈ Txt.split z (S [32]), y.length ≤ 90000 ∧ asc y := fun y hy => ⟨Nat.le_trans (part_short hy) hz, asc_split (by decide) ha hy⟩
    generalize hL : Txt.split z (S [32]) = ws at *
    refine ⟨l, rfl, ⟨_, SqL.of upd_same⟩, ?_⟩
    refine for_list (K := K) (a := l) (xs := ws.map V.str) (fun i σ H' => (∃ v2 v3 : Option V, σ = [some (.str z), some (.ref r), v2, v3]) ∧ Kp H H' ∧ H' l = some (.lst (ws.map V.str)) ∧ ∃ (xs : List V) (ps : List Pl), H' r = some (.lst xs) ∧ Prs H' xs ps ∧ (ws.take i).map wordP = ps.map some ∧ xs.length = i) ?_ ?_ ?_ ?_
    · exact ⟨⟨_, _, rfl⟩, kpS k2, upd_same, [], [], by rw [upd_ne hrl]; exact upd_same, .nil, rfl, rfl⟩
    · rintro i σ H' _ ⟨_, _, h, _⟩
      exact SqL.of h
    · rintro i x σ H' hx ⟨⟨v2, v3, rfl⟩, k, hl, xs, ps, hr', hxs, hps, hxl⟩
      rw [List.getElem?_map] at hx
      cases hn : ws[i]? with
      | none => rw [hn] at hx; cases hx
      | some y =>
        rw [hn] at hx
        cases hx
        have hmem := List.mem_of_getElem? hn
        have hil : i < ws.length := (List.getElem?_eq_some_iff.mp hn).1
        obtain ⟨hy1, hy2⟩ := hw y hmem
        refine ⟨_, rfl, ⟨_, rfl⟩, _, _, rfl, rfl, rfl, (by omega), fun m nm => ?_⟩
        obtain ⟨H1, e1, k3, g3⟩ := made (o := .lst ((Txt.split y (S [58])).map V.str)) nm
        rw [co_S, e1]
        have hyl := split_le y (S [58])
        have hw2 : ∀ u ∈ Txt.split y (S [58]), u.length ≤ 1000000 ∧ asc u := fun u hu => ⟨by have := part_short hu; omega, asc_split (by decide) hy2 hu⟩
        have hwp : wordP y = if (Txt.split y (S [58])).all isNum = true then (match (Txt.split y (S [58])).map numV with | [a, b] => some (a, b) | _ => none) else none := rfl
        generalize Txt.split y (S [58]) = us at *
        have bad : wordP y = none → RaisesN CN 1 H E := fun hno => e ⟨y, hmem, hno⟩
        refine ⟨m, us, 1, rfl, SqL.of g3, hw2, by omega, (k.trans (kpS k3)).tab _ ht, fun hall H2 r2 k4 g4 => ?_, fun hno H2 d k4 g4 => ?_⟩
        rotate_left
        · rw [if_neg (by rw [hno]; simp)] at hwp
          exact bad hwp H2 d ((k.trans (kpS k3)).trans k4) g4
        rw [if_pos hall] at hwp
        have k34 := (kpS k3).trans k4
        have k04 := k.trans k34
        refine ⟨_, rfl, _, _, rfl, .inl ⟨_, SqL.of g4, rfl⟩, rfl, _, rfl, ?_⟩
        rw [List.length_map]
        generalize us.map numV = ns at *
        by_cases h2 : ns.length = 2
        · have e2 : (!decide (V.int (ns.length : Int) = V.int 2)) = false := by
            rw [h2]
            rfl
          rw [e2]
          refine iteF ?_
          obtain ⟨a, b, rfl⟩ : ∃ a b, ns = [a, b] := by
            match ns, h2 with
            | [a, b], _ => exact ⟨a, b, rfl⟩
          have hr4 := k34.lst hr'
          refine ⟨_, rfl, .inl ⟨rfl, _, SqL.of hr4⟩, _, rfl, r2, _, _, .int a, rfl, rfl, SqL.of g4, rfl, _, rfl, r2, _, _, .int b, rfl, rfl, SqL.of g4, rfl, (by show 2 ≤ sizeLine; decide), fun t nt => ?_⟩
          obtain ⟨H5, e5, k5, g5⟩ := made (o := .tup [.int a, .int b]) nt
          rw [e5]
          refine ⟨r, _, _, rfl, rfl, k5 _ _ hr4, by omega, ?_⟩
          have k05 := k04.trans (kpS k5)
          have hl5 := k5 _ _ (k34.lst hl)
          refine ⟨⟨_, _, rfl⟩, k05.put nr, by rw [upd_ne hrl.symm]; exact hl5, xs ++ [.ref t], ps ++ [(a, b)], upd_same, ?_, ?_, by rw [List.length_append, hxl]; rfl⟩
          · exact ((hxs.kp (k34.trans (kpS k5))).snoc ⟨t, rfl, g5⟩).over (k5 _ _ hr4)
          · rw [List.take_add_one, hn, List.map_append, hps, List.map_append]
            show _ ++ [wordP y] = _
            rw [hwp]
            rfl
        · have e2 : (!decide (V.int (ns.length : Int) = V.int 2)) = true := by
            rw [decide_eq_false fun z => h2 (by have := V.int.inj z; omega)]
            rfl
          rw [e2]
          refine iteT ?_
          have hno : wordP y = none := by
            rw [hwp]
            match ns, h2 with
            | [], _ => rfl
            | [_], _ => rfl
            | [_, _], z => exact absurd rfl z
            | _ :: _ :: _ :: _, _ => rfl
          exact ⟨by show 1 ≤ 1000; decide, note_raised U (bad hno) k04⟩
    · rintro σ H' ⟨⟨v2, v3, rfl⟩, k, hl, xs, ps, hr', hxs, hps, hxl⟩
      rw [List.length_map, List.take_length] at hps
      exact ⟨_, rfl, q ps hps H' r xs k nr hr' hxs⟩
def plL (wd : List Nat) (p : Pl) : List Nat := rowL wd [p.1, p.2]
/-- the codes of a task's text -/
def taskL (st en : Pl) (ps : List Pl) : List Nat := TL.joinL [10] (plL [115, 116, 97, 114, 116] st :: plL [101, 110, 100] en :: ps.map (plL [112, 105, 99, 107]))
def plW (p : Pl) : List Nat := dg p.1 ++ [58] ++ dg p.2
/-- the codes of a walk's text -/
def walkL (ps : List Pl) : List Nat := TL.joinL [32] (ps.map plW)
/-- a place whose numbers can be written -/
def small (p : Pl) : Prop := 0 ≤ p.1 ∧ p.1 < 10000 ∧ 0 ≤ p.2 ∧ p.2 < 10000
theorem small_all {p : Pl} (h : small p) : ∀ n ∈ [p.1, p.2], 0 ≤ n ∧ n < 100000 := fun n hn => by
  obtain ⟨a, b, c, d⟩ := h
  rcases List.mem_cons.mp hn with rfl | hn
  · omega
  · rw [List.mem_singleton] at hn
    omega
theorem plL_len {wd : List Nat} {p : Pl} (hw : wd.length ≤ 10) (h : small p) : (plL wd p).length ≤ 60 := by
  unfold plL rowL
  have h0 := joinL_len (sep := [32]) (m := 10) (by decide) (ps := wd :: [p.1, p.2].map dg) fun y hy => by
    rcases List.mem_cons.mp hy with rfl | hy
    · exact hw
    · obtain ⟨n, hn, rfl⟩ := List.mem_map.mp hy
      have := dg_len (n := n) (k := 5) (by decide) (by have := (small_all h n hn).2; omega)
      omega
  exact h0
def spFTask (CT : Addr) : Sp := fun vs H Q _ => ∃ (p : Addr) (st en : Pl) (ps : List Pl), vs = [.ref p] ∧ TaskAt CT H p st en ps ∧ small st ∧ small en ∧ (∀ x ∈ ps, small x) ∧ ∀ H', Same H H' → Q (.str (S (taskL st en ps))) H'
theorem ok_ftask {f fR fP pp CT CIT : Addr} {fd fdR fdP : FuncData} (F : Fun K "format_task" "format_task" s_format_task f fd) (T : NoteTop mg) (TT : TaskTxt K mg CT CIT) (FRk : PySem.W.keepIn K (.ref fR) = true) (GR : FnOk P w K mg base CX0 1 fR fdR ["head", "numbers"] spRowT) (bR : Binds K fdR ["head", "numbers"] []) (gR : mg "_row" = some (.ref fR))
    (GP : FnOk P w K mg base CX0 1 fP fdP ["self"] (spPicks CT)) (bP : Binds K fdP ["self"] []) (hP : PropOf K CT "picks" pp fP) : FnOk P w K mg base CX0 3 f fd ["task"] (spFTask CT) := by
  refine F.ok sc_format_task (fun vs H Q E h => ?_) (fun cdv A outer s H vs Q E hr h => ?_)
  · obtain ⟨p, st, en, ps, rfl, _⟩ := h
    rfl
  · obtain ⟨p, st, en, ps, rfl, hT, hs1, hs2, hs3, q⟩ := h
    obtain ⟨dx, l, a, b, xs, h1, ⟨ta, rfl, h2⟩, ⟨tb, rfl, h3⟩, h4, h5, h6, h7, h8⟩ := id hT
    have nd := sc_format_task.nd
    have hline : 1000000 < sizeLine := by decide
    refine ⟨_, (pss_cons (ps_set (i := 1) nd rfl (.inl rfl) (pe_lst (pa_cons (pe_call GR (by exact hr.mono (by decide)) (by rfl) gR FRk bR .nil pass0 (pa_cons pe_str (pa_cons (pe_fld (pv 0) rfl) pa_nil))) (pa_cons (pe_call GR (by exact hr.mono (by decide)) (by rfl) gR FRk bR .nil pass0 (pa_cons pe_str (pa_cons (pe_fld (pv 0) rfl) pa_nil))) pa_nil))))
      (pss_one (ps_ret (pe_join pe_str (pe_op op_cat (pv 1) (pe_lc (own := [("pick", 2)]) (g := gName 2) (tt := tYes) rfl nd (pi_list (pe_prop (pv 0) TT.cl hP GP (by exact hr.mono (by decide)) bP .nil pass0 rfl)) (blkOk_by (N := ["task", "lines", "pick"]) (sc := defScope s_format_task) (by decide +kernel)) (fun _ _ _ _ _ => pg_name (i := 2) nd rfl (Or.inl rfl)) (fun _ _ _ _ _ => pts_nil) (fun _ _ _ _ _ => (pe_call GR (by exact hr.mono (by decide)) (by rfl) gR FRk bR .nil pass0 (pa_cons pe_str (pa_cons (pv 2) pa_nil)))))))))), ?_⟩
    refine ⟨_, rfl, p, CT, dx, _, _, rfl, h1, TT.cl, TT.nS, tf_start _ _ _, [115, 116, 97, 114, 116], ta, [st.1, st.2], ?_, h2, small_all hs1, (by decide), (by show 2 ≤ 1000; decide), fun H1 k1 => ?_⟩
    · rw [start_S]
      rfl
    refine ⟨_, rfl, p, CT, dx, _, _, rfl, k1 _ _ h1, TT.cl, TT.nE, tf_end _ _ _, [101, 110, 100], tb, [en.1, en.2], ?_, k1 _ _ h3, small_all hs2, (by decide), (by show 2 ≤ 1000; decide), fun H2 k2 => ?_⟩
    · rw [end_S]
      rfl
    refine ⟨(by show 2 ≤ sizeLine; decide), fun m nm => ?_⟩
    obtain ⟨H3, e3, k3, g3⟩ := made (o := .lst [.str (S (plL [115, 116, 97, 114, 116] st)), .str (S (plL [101, 110, 100] en))]) nm
    have e3' : upd H2 m (.lst [.str (S (rowL [115, 116, 97, 114, 116] [st.1, st.2])), .str (S (rowL [101, 110, 100] [en.1, en.2]))]) = H3 := e3
    rw [e3']
    have k03 := (k1.trans k2).trans k3
    refine ⟨⟨_, rfl⟩, _, rfl, _, rfl, p, dx, _, rfl, k03 _ _ h1, p, st, en, ps, rfl, hT.same k03, fun m2 ys nm2 hys => ?_⟩
    obtain ⟨H4, e4, k4, g4⟩ := made (o := .lst ys) nm2
    rw [e4]
    have hys4 := hys.same k4
    refine ⟨m2, rfl, ⟨_, SqL.of g4⟩, fun D hD => ?_⟩
    refine lc_list (K := K) (a := m2) (xs := ys) (fun i H' => Same H4 H' ∧ H' D = some (.lst ((((ps.take i).map (plL [112, 105, 99, 107])).map S).map V.str))) ?_ ?_ ?_ ?_
    · exact ⟨same_upd hD, upd_same⟩
    · rintro i H' _ ⟨k, _⟩
      exact SqL.of (k _ _ g4)
    · rintro i x H' hx ⟨k, hd⟩
      obtain ⟨z, hz, t, rfl, hxz⟩ := (hys4.same k).at hx
      have hil : i < ps.length := (List.getElem?_eq_some_iff.mp hz).1
      refine ⟨rfl, _, rfl, [112, 105, 99, 107], t, [z.1, z.2], ?_, hxz, small_all (hs3 z (List.mem_of_getElem? hz)), (by decide), (by show 2 ≤ 1000; decide), fun H5 k5 => ?_⟩
      · rw [pick_S]
        rfl
      · refine ⟨_, k5 _ _ hd, ?_, ?_, ?_⟩
        · rw [List.length_map, List.length_map, List.length_map, List.length_take]
          omega
        · intro b o e
          rw [upd_ne (ne_of_none e hD)]
          exact k5 _ _ (k b o e)
        · rw [upd_same, List.take_add_one, hz]
          simp only [List.map_append, Option.toList, List.map_cons, List.map_nil]
          rfl
    · rintro H5 ⟨k5, g5⟩
      rw [hys.len, List.take_length] at g5
      refine ⟨_, _, _, _, rfl, rfl, k5 _ _ (k4 _ _ g3), g5, ?_, fun c nc => ?_⟩
      · rw [List.length_map, List.length_map, List.length_map]
        show 2 + ps.length ≤ sizeLine
        omega
      obtain ⟨H6, e6, k6, g6⟩ := made (o := .lst ([.str (S (plL [115, 116, 97, 114, 116] st)), .str (S (plL [101, 110, 100] en))] ++ (((ps.map (plL [112, 105, 99, 107])).map S).map V.str))) nc
      rw [e6]
      have hlen : ∀ y ∈ plL [115, 116, 97, 114, 116] st :: plL [101, 110, 100] en :: ps.map (plL [112, 105, 99, 107]), y.length ≤ 60 := fun y hy => by
        rcases List.mem_cons.mp hy with rfl | hy
        · exact plL_len (by decide) hs1
        · rcases List.mem_cons.mp hy with rfl | hy
          · exact plL_len (by decide) hs2
          · obtain ⟨z, hz, rfl⟩ := List.mem_map.mp hy
            exact plL_len (by decide) (hs3 z hz)
      have z := sum_len hlen
      have e : (plL [115, 116, 97, 114, 116] st :: plL [101, 110, 100] en :: ps.map (plL [112, 105, 99, 107])).length = ps.length + 2 := by rw [List.length_cons, List.length_cons, List.length_map]
      refine ⟨_, c, (plL [115, 116, 97, 114, 116] st :: plL [101, 110, 100] en :: ps.map (plL [112, 105, 99, 107])).map S, rfl, rfl, .inl (SqL.of g6), ?_, ?_⟩
      · rw [List.length_map, e, show ("\n" : Str).length = 1 from rfl]
        rw [e] at z
        omega
      · rw [nl_S, join_S]
        exact q H6 (((k03.trans k4).trans k5).trans k6)
def tPlW : TE := fun σ H Q => tJs [tFmt (tVar 1), tC (.str ":"), tFmt (tVar 2)] Str.empty σ H fun out H1 => Q (.str out) H1
def spFWalk (K : PySem.W.Frag) : Sp := fun vs H Q _ => ∃ (l : Addr) (xs : List V) (ps : List Pl), vs = [.ref l] ∧ SqL K H l xs ∧ Prs H xs ps ∧ (∀ x ∈ ps, small x) ∧ ps.length ≤ 1000 ∧ ∀ H', Same H H' → Q (.str (S (walkL ps))) H'
theorem plW_len {p : Pl} (h : small p) : (plW p).length ≤ 20 := by
  have h1 := dg_len (n := p.1) (k := 5) (by decide) (by have := h.2.1; omega)
  have h2 := dg_len (n := p.2) (k := 5) (by decide) (by have := h.2.2.2; omega)
  unfold plW
  rw [List.length_append, List.length_append]
  show _ + 1 + _ ≤ 20
  omega
theorem ok_fwalk {f : Addr} {fd : FuncData} (F : Fun K "format_walk" "format_walk" s_format_walk f fd) : FnOk P w K mg base CX0 1 f fd ["walk"] (spFWalk K) := by
  refine F.ok sc_format_walk (fun vs H Q E h => ?_) (fun cdv A outer s H vs Q E hr h => ?_)
  · obtain ⟨l, xs, ps, rfl, _⟩ := h
    rfl
  · obtain ⟨l, xs, ps, rfl, hl, hx, hs, hn, q⟩ := h
    have nd := sc_format_walk.nd
    have hline : 1000000 < sizeLine := by decide
    refine ⟨_, (pss_one (ps_ret (pe_join pe_str (pe_lc (own := [("aisle", 1), ("height", 2)]) (g := gTup K 2 (gCons (gName 1) (gCons (gName 2) gNil))) (tt := tYes) (te := tPlW) rfl nd (pi_list (pv 0)) (blkOk_by (N := ["walk", "aisle", "height"]) (sc := defScope s_format_walk) (by decide +kernel)) (fun _ _ _ _ _ => (show PG _ _ (gTup K 2 (gCons (gName 1) (gCons (gName 2) gNil))) from pg_tup rfl (pgs_cons (pg_name (i := 1) nd rfl (Or.inl rfl)) (pgs_cons (pg_name (i := 2) nd rfl (Or.inl rfl)) pgs_nil)))) (fun _ _ _ _ _ => pts_nil) (fun _ _ _ _ _ => (pe_joined (PJ.cons (pe_fmt (pv 1)) (PJ.cons pe_str (PJ.cons (pe_fmt (pv 2)) PJ.nil))))))))), ?_⟩
    refine ⟨⟨_, rfl⟩, _, rfl, l, rfl, ⟨_, hl⟩, fun D hD => ?_⟩
    refine lc_list (K := K) (a := l) (xs := xs) (fun i H' => Same H H' ∧ H' D = some (.lst ((((ps.take i).map plW).map S).map V.str))) ?_ ?_ ?_ ?_
    · exact ⟨same_upd hD, upd_same⟩
    · rintro i H' _ ⟨k, _⟩
      exact k.seq hl
    · rintro i x H' hi ⟨k, hd⟩
      obtain ⟨z, hz, t, rfl, ht⟩ := (hx.same k).at hi
      have hil : i < ps.length := (List.getElem?_eq_some_iff.mp hz).1
      obtain ⟨a0, a1, b0, b1⟩ := hs z (List.mem_of_getElem? hz)
      have la := dg_len (n := z.1) (k := 5) (by decide) (by omega)
      have lb := dg_len (n := z.2) (k := 5) (by decide) (by omega)
      refine ⟨t, _, rfl, SqT.of ht, rfl, _, _, rfl, _, _, rfl, rfl, rfl, _, rfl, .inr ⟨_, rfl, small_log a0 (by omega), ?_⟩⟩
      refine ⟨_, rfl, ?_, _, rfl, ?_, _, rfl, .inr ⟨_, rfl, small_log b0 (by omega), _, rfl, ?_, ?_⟩⟩
      all_goals rw [show (toString z.1 : Str) = S (dg z.1) from dg_str a0]
      · show (S [] ++ S (dg z.1)).length ≤ sizeLine
        rw [S_cat, S_len, List.nil_append]
        omega
      · show (S [] ++ S (dg z.1) ++ (":" : Str)).length ≤ sizeLine
        rw [co_S, S_cat, S_cat, S_len]
        simp only [List.length_append, List.length_cons, List.length_nil]
        omega
      all_goals rw [show (toString z.2 : Str) = S (dg z.2) from dg_str b0]
      · show (S [] ++ S (dg z.1) ++ (":" : Str) ++ S (dg z.2)).length ≤ sizeLine
        rw [co_S, S_cat, S_cat, S_cat, S_len]
        simp only [List.length_append, List.length_cons, List.length_nil]
        omega
      · have e : Str.empty ++ S (dg z.1) ++ (":" : Str) ++ S (dg z.2) = S (plW z) := by
          show S [] ++ S (dg z.1) ++ (":" : Str) ++ S (dg z.2) = _
          rw [co_S, S_cat, S_cat, S_cat, List.nil_append]
          rfl
        rw [e]
        refine ⟨_, hd, ?_, ?_, ?_⟩
        · rw [List.length_map, List.length_map, List.length_map, List.length_take]
          omega
        · intro b o e
          rw [upd_ne (ne_of_none e hD)]
          exact k b o e
        · rw [upd_same, List.take_add_one, hz]
          simp only [List.map_append, Option.toList, List.map_cons, List.map_nil]
    · rintro H5 ⟨k5, g5⟩
      rw [hx.len, List.take_length] at g5
      have z := sum_len (m := 20) (ps := ps.map plW) fun y hy => by
        obtain ⟨p, hp, rfl⟩ := List.mem_map.mp hy
        exact plW_len (hs p hp)
      refine ⟨_, D, (ps.map plW).map S, rfl, rfl, .inl (SqL.of g5), ?_, ?_⟩
      · rw [List.length_map, List.length_map, show (" " : Str).length = 1 from rfl]
        rw [List.length_map] at z
        omega
      · rw [sp_S, join_S]
        exact q H5 k5
end

/-! ### what is written is read back -/
section
open GxR NdefX PySem.Spec PyProof.Rows
variable {P : Program} {w : World} {K : PySem.W.Frag} {mg : Str → Option Value} {base : Heap}
/-- a place of a task's text -/
def ok1 (p : Pl) : Prop := 0 ≤ p.1 ∧ p.1 ≤ 1000 ∧ 0 ≤ p.2 ∧ p.2 ≤ 1000
theorem ok1.small {p : Pl} (h : ok1 p) : small p := by
  obtain ⟨a, b, c, d⟩ := h
  exact ⟨a, by omega, c, by omega⟩
theorem free32 (n : Int) : 32 ∉ dg n := TL.numL_free (by decide)
theorem free10 (n : Int) : 10 ∉ dg n := TL.numL_free (by decide)
theorem free58 (n : Int) : 58 ∉ dg n := TL.numL_free (by decide)
theorem split_plL {wd : List Nat} (hw : 32 ∉ wd) (p : Pl) : Txt.split (S (plL wd p)) (S [32]) = [S wd, S (dg p.1), S (dg p.2)] := by
  refine split_joinL (by decide) (by simp) fun y hy => ?_
  rcases List.mem_cons.mp hy with rfl | hy
  · exact hw
  · obtain ⟨n, _, rfl⟩ := List.mem_map.mp hy
    exact free32 n
theorem plL_free10 {wd : List Nat} (hw : 10 ∉ wd) (p : Pl) : 10 ∉ plL wd p := fun h => by
  rcases mem_joinL h with z | ⟨y, hy, z⟩
  · exact absurd z (by decide)
  · rcases List.mem_cons.mp hy with rfl | hy
    · exact hw z
    · obtain ⟨n, _, rfl⟩ := List.mem_map.mp hy
      exact free10 n z
theorem plL_asc {wd : List Nat} (hw : ∀ c ∈ wd, c < 128) (p : Pl) : ∀ c ∈ plL wd p, c < 128 := fun c h => by
  rcases mem_joinL h with z | ⟨y, hy, z⟩
  · rw [List.mem_singleton.mp z]
    decide
  · rcases List.mem_cons.mp hy with rfl | hy
    · exact hw c z
    · obtain ⟨n, _, rfl⟩ := List.mem_map.mp hy
      have := dg_digit c z
      omega
theorem place_plL {ls : List Str} {n : Nat} {wd : List Nat} {p : Pl} (hw : 32 ∉ wd) (h : ok1 p) (h1 : 1 ≤ n) (hn : ls[n - 1]? = some (S (plL wd p))) : placeIn ls n (S wd) = some p := by
  have hlt := (List.getElem?_eq_some_iff.mp hn).1
  have hg : ls.getD (n - 1) Str.empty = S (plL wd p) := by
    rw [List.getD_eq_getElem?_getD, hn]
    rfl
  obtain ⟨a0, a1, b0, b1⟩ := h
  obtain ⟨na, va⟩ := isNum_dg a0 (by omega)
  obtain ⟨nb, vb⟩ := isNum_dg b0 (by omega)
  have e : numsIn ls n [S wd] = some [p.1, p.2] := by
    unfold numsIn
    rw [if_neg (by omega), hg, split_plL hw]
    show (if [S wd] = [S wd] ∧ (isNum (S (dg p.1)) && (isNum (S (dg p.2)) && true)) = true then some [numV (S (dg p.1)), numV (S (dg p.2))] else none) = _
    rw [na, nb, va, vb, if_pos ⟨rfl, rfl⟩]
  unfold placeIn
  rw [e]
  show (if p.1 ≤ 1000 ∧ p.2 ≤ 1000 then some (p.1, p.2) else none) = some p
  rw [if_pos ⟨a1, b1⟩]
theorem picks_plL {ls : List Str} : ∀ (rest acc : List Pl) (n : Nat), 1 ≤ n → (∀ (i : Nat) (p : Pl), rest[i]? = some p → ls[n + i - 1]? = some (S (plL [112, 105, 99, 107] p))) → (∀ p ∈ rest, ok1 p) → (acc ++ rest).Nodup → (acc ++ rest).length ≤ 60 →
    picksFrom ls rest.length n acc = .inr (acc ++ rest) := by
  intro rest
  induction rest with
  | nil =>
    intro acc n _ _ _ _ _
    rw [List.append_nil]
    rfl
  | cons p rest ih =>
    intro acc n h1 hl hp hnd hlen
    have e : placeIn ls n (S [112, 105, 99, 107]) = some p := place_plL (by decide) (hp p List.mem_cons_self) h1 (hl 0 p rfl)
    have hnot : p ∉ acc := fun z => (List.nodup_append.mp hnd).2.2 p z p List.mem_cons_self rfl
    have hlt : ¬ 60 ≤ acc.length := by
      rw [List.length_append, List.length_cons] at hlen
      omega
    show (match placeIn ls n (S [112, 105, 99, 107]) with | none => _ | some q => _) = _
    rw [e]
    show (if p ∈ acc ∨ 60 ≤ acc.length then _ else _) = _
    rw [if_neg (fun z => z.elim hnot hlt)]
    rw [show acc ++ p :: rest = (acc ++ [p]) ++ rest by simp]
    refine ih (acc ++ [p]) (n + 1) (by omega) (fun i q hq => ?_) (fun q hq => hp q (List.mem_cons_of_mem _ hq)) (by simpa using hnd) (by simpa using hlen)
    have z := hl (i + 1) q hq
    rw [show n + (i + 1) - 1 = n + 1 + i - 1 by omega] at z
    exact z
/-- a task's text, read -/
theorem taskL_read {st en : Pl} {ps : List Pl} (hs : ok1 st) (he : ok1 en) (hp : ∀ p ∈ ps, ok1 p) (hn : ps.Nodup) (hl : ps.length ≤ 60) :
    (S (taskL st en ps)).length ≤ 90000 ∧ asc (S (taskL st en ps)) ∧ placeIn (Txt.split (S (taskL st en ps)) (S [10])) 1 (S [115, 116, 97, 114, 116]) = some st ∧ placeIn (Txt.split (S (taskL st en ps)) (S [10])) 2 (S [101, 110, 100]) = some en ∧
      picksFrom (Txt.split (S (taskL st en ps)) (S [10])) ((Txt.split (S (taskL st en ps)) (S [10])).length - 2) 3 [] = .inr ps := by
  have es : Txt.split (S (taskL st en ps)) (S [10]) = (plL [115, 116, 97, 114, 116] st :: plL [101, 110, 100] en :: ps.map (plL [112, 105, 99, 107])).map S := by
    refine split_joinL (by decide) (by simp) fun y hy => ?_
    rcases List.mem_cons.mp hy with rfl | hy
    · exact plL_free10 (by decide) _
    · rcases List.mem_cons.mp hy with rfl | hy
      · exact plL_free10 (by decide) _
      · obtain ⟨z, _, rfl⟩ := List.mem_map.mp hy
        exact plL_free10 (by decide) _
  rw [es]
  refine ⟨?_, ?_, place_plL (by decide) hs (by decide) rfl, place_plL (by decide) he (by decide) rfl, ?_⟩
  · rw [S_len]
    have z := joinL_len (sep := [10]) (m := 60) (by decide) (ps := plL [115, 116, 97, 114, 116] st :: plL [101, 110, 100] en :: ps.map (plL [112, 105, 99, 107])) fun y hy => by
      rcases List.mem_cons.mp hy with rfl | hy
      · exact plL_len (by decide) hs.small
      · rcases List.mem_cons.mp hy with rfl | hy
        · exact plL_len (by decide) he.small
        · obtain ⟨z, hz, rfl⟩ := List.mem_map.mp hy
          exact plL_len (by decide) (hp z hz).small
    rw [List.length_cons, List.length_cons, List.length_map] at z
    unfold taskL
    omega
  · refine asc_S fun c h => ?_
    rcases mem_joinL h with z | ⟨y, hy, z⟩
    · rw [List.mem_singleton.mp z]
      decide
    · rcases List.mem_cons.mp hy with rfl | hy
      · exact plL_asc (by decide) _ c z
      · rcases List.mem_cons.mp hy with rfl | hy
        · exact plL_asc (by decide) _ c z
        · obtain ⟨x, _, rfl⟩ := List.mem_map.mp hy
          exact plL_asc (by decide) _ c z
  · rw [show ((plL [115, 116, 97, 114, 116] st :: plL [101, 110, 100] en :: ps.map (plL [112, 105, 99, 107])).map S).length - 2 = ps.length by simp]
    refine picks_plL ps [] 3 (by decide) (fun i p hi => ?_) hp hn hl
    rw [show 3 + i - 1 = i + 1 + 1 by omega]
    show ((ps.map (plL [112, 105, 99, 107])).map S)[i]? = _
    rw [List.getElem?_map, List.getElem?_map, hi]
    rfl
theorem plW_free32 (p : Pl) : 32 ∉ plW p := fun h => by
  unfold plW at h
  rcases List.mem_append.mp h with z | z
  · rcases List.mem_append.mp z with z | z
    · exact free32 _ z
    · exact absurd z (by decide)
  · exact free32 _ z
theorem plW_asc (p : Pl) : ∀ c ∈ plW p, c < 128 := fun c h => by
  unfold plW at h
  rcases List.mem_append.mp h with z | z
  · rcases List.mem_append.mp z with z | z
    · have := dg_digit c z
      omega
    · rw [List.mem_singleton.mp z]
      decide
  · have := dg_digit c z
    omega
theorem wordP_plW {p : Pl} (h : small p) : wordP (S (plW p)) = some p := by
  obtain ⟨a0, a1, b0, b1⟩ := h
  obtain ⟨na, va⟩ := isNum_dg a0 a1
  obtain ⟨nb, vb⟩ := isNum_dg b0 b1
  have e : Txt.split (S (plW p)) (S [58]) = [S (dg p.1), S (dg p.2)] := by
    have z := split_joinL (c := 58) (by decide) (ps := [dg p.1, dg p.2]) (by simp) fun y hy => by
      rcases List.mem_cons.mp hy with rfl | hy
      · exact free58 _
      · rw [List.mem_singleton.mp hy]
        exact free58 _
    have q : plW p = TL.joinL [58] [dg p.1, dg p.2] := by
      show dg p.1 ++ [58] ++ dg p.2 = dg p.1 ++ ([58] ++ dg p.2)
      rw [List.append_assoc]
    rw [q]
    exact z
  unfold wordP
  rw [e]
  show (if (isNum (S (dg p.1)) && (isNum (S (dg p.2)) && true)) = true then some (numV (S (dg p.1)), numV (S (dg p.2))) else none) = some p
  rw [na, nb, va, vb]
  rfl
theorem walkL_read {ps : List Pl} (hne : ps ≠ []) (hs : ∀ p ∈ ps, small p) (hl : ps.length ≤ 1000) : (S (walkL ps)).length ≤ 90000 ∧ asc (S (walkL ps)) ∧ (Txt.split (S (walkL ps)) (S [32])).map wordP = ps.map some := by
  refine ⟨?_, ?_, ?_⟩
  · rw [S_len]
    have z := joinL_len (sep := [32]) (m := 20) (by decide) (ps := ps.map plW) fun y hy => by
      obtain ⟨x, hx, rfl⟩ := List.mem_map.mp hy
      exact plW_len (hs x hx)
    rw [List.length_map] at z
    unfold walkL
    omega
  · refine asc_S fun c h => ?_
    rcases mem_joinL h with z | ⟨y, hy, z⟩
    · rw [List.mem_singleton.mp z]
      decide
    · obtain ⟨x, _, rfl⟩ := List.mem_map.mp hy
      exact plW_asc _ c z
  · have e : Txt.split (S (walkL ps)) (S [32]) = (ps.map plW).map S := split_joinL (by decide) (by simpa using hne) fun y hy => by
      obtain ⟨x, _, rfl⟩ := List.mem_map.mp hy
      exact plW_free32 x
    rw [e, List.map_map, List.map_map]
    exact List.map_congr_left fun p hp => wordP_plW (hs p hp)
/-! ### the law's own -/
def spPlc (K : PySem.W.Frag) : Sp := fun vs H Q _ => ∃ (a : Addr) (ns : List Int) (at_ : Nat) (most : Int), vs = [.ref a, .int at_, .int most] ∧ H a = some (.lst (ns.map V.int)) ∧ Small ns ∧ at_ + 1 < ns.length ∧ 100 ≤ most ∧ most ≤ 9999 ∧
  ∀ (H' : Hp) (v : V) (p : Pl), Same H H' → Pr H' v p → 0 ≤ p.1 → p.1 ≤ most → 0 ≤ p.2 → p.2 ≤ most → Q v H'
theorem fmod_in {a b m : Int} (h0 : 0 < b) (h1 : b ≤ m + 1) : 0 ≤ a.fmod b ∧ a.fmod b ≤ m := by
  rw [Int.fmod_eq_emod_of_nonneg _ (Int.le_of_lt h0)]
  have := Int.emod_nonneg a (show b ≠ 0 by omega)
  have := Int.emod_lt_of_pos a h0
  constructor <;> omega
theorem ok_plc {f : Addr} {fd : FuncData} (F : Fun K "_law_place" "_law_place" s__law_place f fd) (hint : mg "int" = none) : FnOk P w K mg base CX0 1 f fd ["numbers", "at", "most"] (spPlc K) := by
  refine F.ok sc__law_place (fun vs H Q E h => ?_) (fun cdv A outer s H vs Q E hr h => ?_)
  · obtain ⟨a, ns, at_, most, rfl, _⟩ := h
    rfl
  · obtain ⟨a, ns, at_, most, rfl, ha, hs, hlt, hm0, hm1, q⟩ := h
    have nd := sc__law_place.nd
    have nums : ∀ z : Nat, z < ns.length → ∃ n : Int, atI (ns.map V.int) (z : Int) = some (.int n) ∧ 0 ≤ n ∧ n < 1009 := fun z z1 => by
      refine ⟨ns[z], at_of (j := z) rfl ?_, hs _ (List.getElem_mem z1)⟩
      rw [List.getElem?_map, List.getElem?_eq_getElem z1]
      rfl
    obtain ⟨n0, h0, n00, n01⟩ := nums at_ (by omega)
    obtain ⟨n1, h1, n10, n11⟩ := nums (at_ + 1) hlt
    have h1' : atI (ns.map V.int) ((at_ : Int) + 1) = some (.int n1) := h1
    refine ⟨_, (pss_cons (ps_set (i := 3) nd rfl (.inl rfl) (pe_ix ix_list (pe_lst (pa_cons pe_int (pa_cons pe_int (pa_cons (pe_op op_add (pv 2) pe_int) pa_nil)))) (pe_op op_mod (pe_callTy call_int1 (by rfl) hint (by decide +kernel) (pa_cons (pe_ix ix_list (pv 0) (pv 1) (fun _ _ => rfl)) pa_nil)) pe_int) (fun _ _ => rfl)))
      (pss_one (ps_ret (pe_tup (pa_cons (pe_op op_modN (pe_callTy call_int1 (by rfl) hint (by decide +kernel) (pa_cons (pe_op op_add (pe_op op_mul (pe_ix ix_list (pv 0) (pv 1) (fun _ _ => rfl)) pe_int) (pe_ix ix_list (pv 0) (pe_op op_add (pv 1) pe_int) (fun _ _ => rfl))) pa_nil)) (pv 3)) (pa_cons (pe_op op_modN (pe_callTy call_int1 (by rfl) hint (by decide +kernel) (pa_cons (pe_op op_add (pe_op op_mul (pe_ix ix_list (pv 0) (pe_op op_add (pv 1) pe_int) (fun _ _ => rfl)) pe_int) (pe_ix ix_list (pv 0) (pv 1) (fun _ _ => rfl))) pa_nil)) (pv 3)) pa_nil)))))), ?_⟩
    refine ⟨_, rfl, _, _, rfl, rfl, (by show 3 ≤ sizeLine; decide), fun m nm => ?_⟩
    obtain ⟨H1, e1, k1, g1⟩ := made (o := .lst [.int 3, .int 20, .int (most + 1)]) nm
    rw [e1]
    have ha1 := k1 _ _ ha
    obtain ⟨sv, hsv, s0, s1⟩ : ∃ sv : Int, atI [V.int 3, .int 20, .int (most + 1)] (n0 % 3) = some (.int sv) ∧ 0 < sv ∧ sv ≤ most + 1 := by
      have e : n0 % 3 = 0 ∨ n0 % 3 = 1 ∨ n0 % 3 = 2 := by omega
      rcases e with e | e | e <;> rw [e]
      · exact ⟨3, rfl, by decide, by omega⟩
      · exact ⟨20, rfl, by decide, by omega⟩
      · exact ⟨most + 1, rfl, by omega, by omega⟩
    refine ⟨_, rfl, _, rfl, a, _, _, _, rfl, rfl, SqL.of ha1, h0, .inl ⟨_, rfl, _, _, rfl, rfl, (by show (0 : Int) < 3; decide), ?_⟩⟩
    refine ⟨m, _, _, _, rfl, rfl, SqL.of g1, hsv, ?_⟩
    refine ⟨_, rfl, _, rfl, a, _, _, _, rfl, rfl, SqL.of ha1, h0, _, _, rfl, rfl, .inl ⟨by omega, by omega⟩, _, rfl, _, rfl, _, _, rfl, rfl, a, _, _, _, rfl, rfl, SqL.of ha1, h1', _, _, rfl, rfl, .inl ⟨_, rfl, _, rfl, _, _, rfl, rfl, (by omega), ?_⟩⟩
    refine ⟨_, rfl, _, rfl, _, _, rfl, rfl, a, _, _, _, rfl, rfl, SqL.of ha1, h1', _, _, rfl, rfl, .inl ⟨by omega, by omega⟩, _, rfl, _, rfl, a, _, _, _, rfl, rfl, SqL.of ha1, h0, _, _, rfl, rfl, .inl ⟨_, rfl, _, rfl, _, _, rfl, rfl, (by omega), (by show 2 ≤ sizeLine; decide), fun t nt => ?_⟩⟩
    obtain ⟨H2, e2, k2, g2⟩ := made (o := .tup [.int ((n0 * 10 + n1).fmod sv), .int ((n1 * 10 + n0).fmod sv)]) nt
    rw [e2]
    obtain ⟨x0, x1⟩ := fmod_in (a := n0 * 10 + n1) s0 s1
    obtain ⟨y0, y1⟩ := fmod_in (a := n1 * 10 + n0) s0 s1
    exact q H2 _ ((n0 * 10 + n1).fmod sv, (n1 * 10 + n0).fmod sv) (k1.trans k2) ⟨t, rfl, g2⟩ x0 x1 y0 y1
end

/-! ### the law -/
section
open GxR NdefX PySem.Spec PyProof.Rows
variable {P : Program} {w : World} {K : PySem.W.Frag} {mg : Str → Option Value} {base : Heap}
structure TopN (P : Program) (w : World) (K : PySem.W.Frag) (mg : Str → Option Value) (base : Heap) (CX : CXT) (k : Nat) (x : Str) (ps : List Str) (sp : Sp) where
  f : Addr
  fd : FuncData
  G : FnOk P w K mg base CX k f fd ps sp
  b : Binds K fd ps []
  g : mg x = some (.ref f)
  kp : PySem.W.keepIn K (.ref f) = true
/-- what the law needs of the class of tasks -/
structure NoteT (P : Program) (w : World) (K : PySem.W.Frag) (mg : Str → Option Value) (base : Heap) where
  C : Addr
  CI : Addr
  CN : Addr
  T0 : Addr
  fT : Addr
  fdT : FuncData
  MT : Mk K C fT
  GT : FnOk P w K mg base (L2.CX P w) 2 fT fdT ["self", "start", "end", "picks"] (spTask K C CI)
  bT : Binds K fdT ["self", "start", "end", "picks"] []
  mgT : mg "Task" = some (.ref C)
  cl : Cls K C
  fS : Addr
  fdS : FuncData
  mS : Meth K C "same_as" fS
  GS : FnOk P w K mg base CX0 3 fS fdS ["self", "other"] (spSame C)
  bS : Binds K fdS ["self", "other"] []
  fP : Addr
  pp : Addr
  fdP : FuncData
  hP : PropOf K C "picks" pp fP
  GP : FnOk P w K mg base CX0 1 fP fdP ["self"] (spPicks C)
  bP : Binds K fdP ["self"] []
  Nu : TopN P w K mg base CX0 2 "_law_numbers" ["script", "many"] (spNumbers K)
  Pc : TopN P w K mg base CX0 1 "_law_place" ["numbers", "at", "most"] (spPlc K)
  Ft : TopN P w K mg base CX0 3 "format_task" ["task"] (spFTask C)
  Fw : TopN P w K mg base CX0 1 "format_walk" ["walk"] (spFWalk K)
  Pt : TopN P w K mg base CX0 8 "parse_task" ["text"] (spParse K T0 C)
  Pw : TopN P w K mg base (L2.CX P w) 5 "parse_walk" ["text"] (spPWalk K T0 CN)
  int : mg "int" = none
  str : mg "str" = none
  range : mg "range" = none
  sorted : mg "sorted" = none
  list : mg "list" = none
  tuple : mg "tuple" = none
  isi : mg "isinstance" = none
  all : mg "all" = none
theorem line_facts {w : Str} {wd : List Nat} (hw : w = S (wd ++ [32])) (hl : wd.length ≤ 10) {p : Pl} (h : small p) :
    w.length + (toString p.1 : Str).length ≤ sizeLine ∧ (w ++ (toString p.1 : Str)).length + (" " : Str).length ≤ sizeLine ∧ (w ++ (toString p.1 : Str) ++ (" " : Str)).length + (toString p.2 : Str).length ≤ sizeLine ∧
      w ++ (toString p.1 : Str) ++ (" " : Str) ++ (toString p.2 : Str) = S (plL wd p) := by
  subst hw
  obtain ⟨a0, a1, b0, b1⟩ := h
  have hline : 1000000 < sizeLine := by decide
  have la := dg_len (n := p.1) (k := 5) (by decide) (by omega)
  have lb := dg_len (n := p.2) (k := 5) (by decide) (by omega)
  rw [show (toString p.1 : Str) = S (dg p.1) from dg_str a0, show (toString p.2 : Str) = S (dg p.2) from dg_str b0, sp_S]
  simp only [S_cat, S_len, List.length_append, List.length_cons, List.length_nil]
  refine ⟨by omega, by omega, by omega, congrArg S ?_⟩
  show wd ++ [32] ++ dg p.1 ++ [32] ++ dg p.2 = wd ++ ([32] ++ (dg p.1 ++ ([32] ++ dg p.2)))
  simp only [List.append_assoc]
theorem word_facts {p : Pl} (h : small p) :
    (toString p.1 : Str).length + (":" : Str).length ≤ sizeLine ∧ ((toString p.1 : Str) ++ (":" : Str)).length + (toString p.2 : Str).length ≤ sizeLine ∧ (toString p.1 : Str) ++ (":" : Str) ++ (toString p.2 : Str) = S (plW p) := by
  obtain ⟨a0, a1, b0, b1⟩ := h
  have hline : 1000000 < sizeLine := by decide
  have la := dg_len (n := p.1) (k := 5) (by decide) (by omega)
  have lb := dg_len (n := p.2) (k := 5) (by decide) (by omega)
  rw [show (toString p.1 : Str) = S (dg p.1) from dg_str a0, show (toString p.2 : Str) = S (dg p.2) from dg_str b0, co_S]
  simp only [S_cat, S_len, List.length_append, List.length_cons, List.length_nil]
  exact ⟨by omega, by omega, rfl⟩
theorem start_S2 : ("start " : Str) = S ([115, 116, 97, 114, 116] ++ [32]) := by decide +kernel
theorem end_S2 : ("end " : Str) = S ([101, 110, 100] ++ [32]) := by decide +kernel
theorem pick_S2 : ("pick " : Str) = S ([112, 105, 99, 107] ++ [32]) := by decide +kernel
theorem KpSame {H H' : Hp} (h : Same H H') : Kp H H' := kpS h
abbrev NLaw : List Str := ["script", "numbers", "start", "end", "picks", "k", "place", "task", "heads", "some", "again", "walk", "given", "text", "told"]
def spLaw (K : PySem.W.Frag) (T0 : Addr) : Sp := fun vs H Q _ => ∃ (a : Addr) (ns : List Int), vs = [.ref a] ∧ SqL K H a (ns.map V.int) ∧ ns.length ≤ 63 ∧ TabG H T0 ∧ ∀ H', Q (.bl true) H'
theorem task_sum {st en : Pl} {ps : List Pl} (hs1 : small st) (hs2 : small en) (hs3 : ∀ x ∈ ps, small x) (h8 : ps.length ≤ 60) : (((plL [115, 116, 97, 114, 116] st :: plL [101, 110, 100] en :: ps.map (plL [112, 105, 99, 107])).map S).map (·.length)).sum + ((plL [115, 116, 97, 114, 116] st :: plL [101, 110, 100] en :: ps.map (plL [112, 105, 99, 107])).map S).length * ("\n" : Str).length ≤ 16777216 := by
  have hlen : ∀ y ∈ plL [115, 116, 97, 114, 116] st :: plL [101, 110, 100] en :: ps.map (plL [112, 105, 99, 107]), y.length ≤ 60 := fun y hy => by
    rcases List.mem_cons.mp hy with rfl | hy
    · exact plL_len (by decide) hs1
    · rcases List.mem_cons.mp hy with rfl | hy
      · exact plL_len (by decide) hs2
      · obtain ⟨z, hz, rfl⟩ := List.mem_map.mp hy
        exact plL_len (by decide) (hs3 z hz)
  have z := sum_len hlen
  have e : (plL [115, 116, 97, 114, 116] st :: plL [101, 110, 100] en :: ps.map (plL [112, 105, 99, 107])).length = ps.length + 2 := by rw [List.length_cons, List.length_cons, List.length_map]
  rw [List.length_map, e, show ("\n" : Str).length = 1 from rfl]
  rw [e] at z
  omega
theorem ok_law {f : Addr} {fd : FuncData} (F : Fun K "law" "law" s_law f fd) (Z : NoteT P w K mg base) : FnOk P w K mg base CX0 9 f fd ["script"] (spLaw K Z.T0) := by
  refine F.ok sc_law (fun vs H Q E h => ?_) (fun cdv A outer s H vs Q E hr h => ?_)
  · obtain ⟨a, xs, rfl, _⟩ := h
    rfl
  · obtain ⟨a0, sc, rfl, hS, hlen, ht, q⟩ := h
    have nd : NLaw.Nodup := sc_law.nd
    have hline : 1000000 < sizeLine := by decide
    refine ⟨_, (pss_cons (ps_set (i := 1) nd rfl (.inr rfl) (pe_call Z.Nu.G (by exact hr.mono (by decide)) (by rfl) Z.Nu.g Z.Nu.kp Z.Nu.b .nil pass0 (pa_cons (pv 0) (pa_cons pe_int pa_nil))))
      (pss_cons (ps_set (i := 2) nd rfl (.inl rfl) (pe_call Z.Pc.G (by exact hr.mono (by decide)) (by rfl) Z.Pc.g Z.Pc.kp Z.Pc.b .nil pass0 (pa_cons (pv 1) (pa_cons pe_int (pa_cons pe_int pa_nil)))))
      (pss_cons (ps_set (i := 3) nd rfl (.inl rfl) (pe_call Z.Pc.G (by exact hr.mono (by decide)) (by rfl) Z.Pc.g Z.Pc.kp Z.Pc.b .nil pass0 (pa_cons (pv 1) (pa_cons pe_int (pa_cons pe_int pa_nil)))))
      (pss_cons (ps_set (i := 4) nd rfl (.inl rfl) (pe_lst pa_nil))
      (pss_cons (ps_for PassesOwn.never rfl (pi_range1 rfl Z.range (pa_cons (pe_op op_mod (pe_callTy call_int1 (by rfl) Z.int (by decide +kernel) (pa_cons (pe_ix ix_list (pv 1) pe_int (fun _ _ => rfl)) pa_nil)) pe_int) pa_nil)) (pg_name (i := 5) nd rfl (.inl rfl)) (pss_cons (ps_set (i := 6) nd rfl (.inl rfl) (pe_call Z.Pc.G (by exact hr.mono (by decide)) (by rfl) Z.Pc.g Z.Pc.kp Z.Pc.b .nil pass0 (pa_cons (pv 1) (pa_cons (pe_op op_add pe_int (pe_op op_mul pe_int (pv 5))) (pa_cons pe_int pa_nil)))))
      (pss_one (ps_if (pt_cmpR (op_notInD (room65 hr)) (pv 6) (pv 4) (by rfl)) (pss_one (ps_expr (pe_bm PySem.F.plainAttrs_list PySem.F.slot_list_append PySem.F.type_list_append mt_append (pv 4) (pa_cons (pv 6) pa_nil)))) pss_nil))))
      (pss_cons (ps_set (i := 7) nd rfl (.inl rfl) (pe_make Z.MT Z.GT (by exact hr.mono (by decide)) (by rfl) Z.mgT Z.bT .nil (passes_call takes0 fun _ _ _ _ h => h) (pa_cons (pv 2) (pa_cons (pv 3) (pa_cons (pv 4) pa_nil)))))
      (pss_cons (ps_set (i := 8) nd rfl (.inl rfl) (pe_lst (pa_cons (pe_op op_add_str (pe_op op_add_str (pe_op op_add_str pe_str (pe_callTy call_str_int (by rfl) Z.str (by decide +kernel) (pa_cons (pe_ix ix_tup (pv 2) pe_int (fun _ _ => rfl)) pa_nil))) pe_str) (pe_callTy call_str_int (by rfl) Z.str (by decide +kernel) (pa_cons (pe_ix ix_tup (pv 2) pe_int (fun _ _ => rfl)) pa_nil))) (pa_cons (pe_op op_add_str (pe_op op_add_str (pe_op op_add_str pe_str (pe_callTy call_str_int (by rfl) Z.str (by decide +kernel) (pa_cons (pe_ix ix_tup (pv 3) pe_int (fun _ _ => rfl)) pa_nil))) pe_str) (pe_callTy call_str_int (by rfl) Z.str (by decide +kernel) (pa_cons (pe_ix ix_tup (pv 3) pe_int (fun _ _ => rfl)) pa_nil))) pa_nil))))
      (pss_cons (ps_if (pt_cmpR op_ne (pe_call Z.Ft.G (by exact hr.mono (by decide)) (by rfl) Z.Ft.g Z.Ft.kp Z.Ft.b .nil pass0 (pa_cons (pv 7) pa_nil)) (pe_join pe_str (pe_op op_cat (pv 8) (pe_lc (own := [("place", 6)]) (g := gName 6) (tt := tYes) rfl nd (pi_list (pe_callB call_sortP (by rfl) Z.sorted (by decide +kernel) (pa_cons (pv 4) pa_nil))) (blkOk_by (N := NLaw) (sc := defScope s_law) (by decide +kernel)) (fun _ _ _ _ _ => pg_name (i := 6) nd rfl (Or.inl rfl)) (fun _ _ _ _ _ => pts_nil) (fun _ _ _ _ _ => (pe_op op_add_str (pe_op op_add_str (pe_op op_add_str pe_str (pe_callTy call_str_int (by rfl) Z.str (by decide +kernel) (pa_cons (pe_ix (r := rIxT K) ix_tup (pv 6) pe_int (fun _ _ => rfl)) pa_nil))) pe_str) (pe_callTy call_str_int (by rfl) Z.str (by decide +kernel) (pa_cons (pe_ix (r := rIxT K) ix_tup (pv 6) pe_int (fun _ _ => rfl)) pa_nil))))))) (nomark _)) (pss_one (ps_ret pe_bl)) pss_nil)
      (pss_cons (ps_for PassesOwn.never rfl (pi_list (pe_lst (pa_cons (pv 4) (pa_cons (pe_revL (pv 4)) (pa_cons (pe_callB call_sortP (by rfl) Z.sorted (by decide +kernel) (pa_cons (pv 4) pa_nil)) pa_nil))))) (pg_name (i := 9) nd rfl (.inl rfl)) (pss_cons (ps_set (i := 10) nd rfl (.inl rfl) (pe_call Z.Pt.G (by exact hr.mono (by decide)) (by rfl) Z.Pt.g Z.Pt.kp Z.Pt.b .nil pass0 (pa_cons (pe_join pe_str (pe_op op_cat (pv 8) (pe_lc (own := [("place", 6)]) (g := gName 6) (tt := tYes) rfl nd (pi_list (pv 9)) (blkOk_by (N := NLaw) (sc := defScope s_law) (by decide +kernel)) (fun _ _ _ _ _ => pg_name (i := 6) nd rfl (Or.inl rfl)) (fun _ _ _ _ _ => pts_nil) (fun _ _ _ _ _ => (pe_op op_add_str (pe_op op_add_str (pe_op op_add_str pe_str (pe_callTy call_str_int (by rfl) Z.str (by decide +kernel) (pa_cons (pe_ix (r := rIxT K) ix_tup (pv 6) pe_int (fun _ _ => rfl)) pa_nil))) pe_str) (pe_callTy call_str_int (by rfl) Z.str (by decide +kernel) (pa_cons (pe_ix (r := rIxT K) ix_tup (pv 6) pe_int (fun _ _ => rfl)) pa_nil))))))) pa_nil)))
      (pss_one (ps_if (PW.pt (pw_or (pt_cmpR op_notBl (pe_meth (pv 10) Z.cl Z.mS Z.GS (by exact hr.mono (by decide)) Z.bS .nil pass0 (pa_cons (pv 7) pa_nil)) pe_bl (nomark _)) (pw_or1 (pt_cmpR (op_neD (by exact hr.units)) (pe_prop (pv 10) Z.cl Z.hP Z.GP (by exact hr.mono (by decide)) Z.bP .nil pass0 rfl) (pe_callB call_sortP (by rfl) Z.sorted (by decide +kernel) (pa_cons (pv 4) pa_nil)) (nomark _))))) (pss_one (ps_ret pe_bl)) pss_nil))))
      (pss_cons (ps_setLc (i := 11) (own := [("k", 5)]) (g := gName 5) (tt := tYes) rfl nd rfl rfl rfl (pi_range1 rfl Z.range (pa_cons (pe_op op_add pe_int (pe_op op_mod (pe_callTy call_int1 (by rfl) Z.int (by decide +kernel) (pa_cons (pe_ix ix_list (pv 1) pe_int (fun _ _ => rfl)) pa_nil)) pe_int)) pa_nil)) (blkOk_by (N := NLaw) (sc := defScope s_law) (by decide +kernel)) (fun _ _ _ _ _ => pg_name (i := 5) nd rfl (Or.inl rfl)) (fun _ _ _ _ _ => pts_nil) (fun _ _ _ _ _ => (pe_call Z.Pc.G (by exact hr.mono (by decide)) (by rfl) Z.Pc.g Z.Pc.kp Z.Pc.b .nil pass0 (pa_cons (pv 1) (pa_cons (pe_op op_add pe_int (pe_op op_mul pe_int (pv 5))) (pa_cons pe_int pa_nil))))))
      (pss_cons (ps_set (i := 12) nd rfl (.inl rfl) (pe_callTy call_list_of (by rfl) Z.list (by decide +kernel) (pa_cons (pv 11) pa_nil)))
      (pss_cons (ps_set (i := 13) nd rfl (.inl rfl) (pe_join pe_str (pe_lc (own := [("place", 6)]) (g := gName 6) (tt := tYes) rfl nd (pi_list (pv 11)) (blkOk_by (N := NLaw) (sc := defScope s_law) (by decide +kernel)) (fun _ _ _ _ _ => pg_name (i := 6) nd rfl (Or.inl rfl)) (fun _ _ _ _ _ => pts_nil) (fun _ _ _ _ _ => (pe_op op_add_str (pe_op op_add_str (pe_callTy call_str_int (by rfl) Z.str (by decide +kernel) (pa_cons (pe_ix (r := rIxT K) ix_tup (pv 6) pe_int (fun _ _ => rfl)) pa_nil)) pe_str) (pe_callTy call_str_int (by rfl) Z.str (by decide +kernel) (pa_cons (pe_ix (r := rIxT K) ix_tup (pv 6) pe_int (fun _ _ => rfl)) pa_nil)))))))
      (pss_cons (ps_set (i := 14) nd rfl (.inl rfl) (pe_call Z.Pw.G (by exact hr.mono (by decide)) (by rfl) Z.Pw.g Z.Pw.kp Z.Pw.b .nil (passes_call takes0 fun _ _ _ _ h => h) (pa_cons (pv 13) pa_nil)))
      (pss_cons (ps_if (PW.pt (pw_or (pt_cmpR op_ne (pe_call Z.Fw.G (by exact hr.mono (by decide)) (by rfl) Z.Fw.g Z.Fw.kp Z.Fw.b .nil pass0 (pa_cons (pv 12) pa_nil)) (pv 13) (nomark _)) (pw_or (pt_cmpR (op_neD (by exact hr.units)) (pv 12) (pv 11) (nomark _)) (pw_or (pt_not (pt_val (pe_callB call_isi (by rfl) Z.isi (by decide +kernel) (pa_cons (pv 14) (pa_cons (pe_bltn (v := .ty "list") (by rfl) Z.list (by decide +kernel) rfl) pa_nil))))) (pw_or1 (pt_cmpR (op_neD (by exact hr.units)) (pv 14) (pv 11) (nomark _))))))) (pss_one (ps_ret pe_bl)) pss_nil)
      (pss_one (ps_ret (pe_callB (cr_all rfl) (by rfl) Z.all (by decide +kernel) (pa_cons (pe_lc (own := [("place", 6)]) (g := gName 6) (tt := tYes) rfl nd (pi_list (pv 14)) (blkOk_by (N := NLaw) (sc := defScope s_law) (by decide +kernel)) (fun _ _ _ _ _ => pg_name (i := 6) nd rfl (Or.inl rfl)) (fun _ _ _ _ _ => pts_nil) (fun _ _ _ _ _ => (pe_callB (show CallR _ (.builtin "isinstance") (rIsi K) from call_isi) (by rfl) Z.isi (by decide +kernel) (pa_cons (pv 6) (pa_cons (pe_bltn (v := .ty "tuple") (by rfl) Z.tuple (by decide +kernel) rfl) pa_nil))))) pa_nil)))))))))))))))))), ?_⟩
    refine ⟨_, rfl, a0, sc, 60, rfl, hS, hlen, by decide, fun H1 p ns k1 np hp hl hs => ?_⟩
    have nums : ∀ z : Int, 0 ≤ z → z < 60 → ∃ n : Int, atI (ns.map V.int) z = some (.int n) := fun z z0 z1 => by
      have hlt : z.toNat < ns.length := by omega
      refine ⟨ns[z.toNat], at_of (j := z.toNat) (by omega) ?_⟩
      rw [List.getElem?_map, List.getElem?_eq_getElem hlt]
      rfl
    refine ⟨_, rfl, p, ns, 0, 1000, rfl, hp, hs, by omega, by decide, by decide, fun H2 a st k2 ha s0 s1 s2 s3 => ?_⟩
    refine ⟨_, rfl, p, ns, 2, 1000, rfl, k2 _ _ hp, hs, by omega, by decide, by decide, fun H3 b en k3 hb e0 e1 e2 e3 => ?_⟩
    have hst : ok1 st := ⟨s0, s1, s2, s3⟩
    have hen : ok1 en := ⟨e0, e1, e2, e3⟩
    have ha3 := ha.same k3
    have hp3 := k3 _ _ (k2 _ _ hp)
    have k03 := (k1.trans k2).trans k3
    -- picks
    refine ⟨Nat.zero_le _, fun l nl => ?_⟩
    have kl : Same H3 (upd H3 l (.lst [])) := same_upd nl
    obtain ⟨n4, h4⟩ := nums 4 (by decide) (by decide)
    refine ⟨_, rfl, p, _, _, _, rfl, rfl, SqL.of (kl _ _ hp3), h4, .inl ⟨_, rfl, _, _, rfl, rfl, (by show (0 : Int) < 11; decide), ?_⟩⟩
    have hm0 : 0 ≤ n4 % 11 := Int.emod_nonneg _ (by decide)
    have hm1 : n4 % 11 < 11 := Int.emod_lt_of_pos _ (by decide)
    obtain ⟨m, hm⟩ : ∃ m : Nat, n4 % 11 = (m : Int) := ⟨(n4 % 11).toNat, by omega⟩
    refine ⟨n4 % 11, rfl, by omega, by omega, ?_⟩
    rw [hm]
    have hm11 : m < 11 := by omega
    have npl : p ≠ l := fun e => by
      rw [e] at hp3
      rw [hp3] at nl
      cases nl
    refine for_range (lo := 0) (n := m) (fun i σ H' => ∃ (xs : List V) (ps : List Pl) (v5 v6 : Option V), σ = [some (.ref a0), some (.ref p), some a, some b, some (.ref l), v5, v6, none, none, none, none, none, none, none, none] ∧
      Kp H3 H' ∧ H' l = some (.lst xs) ∧ Prs H' xs ps ∧ ps.Nodup ∧ ps.length ≤ i ∧ ∀ x ∈ ps, ok1 x) ?_ ?_ ?_
    · exact ⟨[], [], none, none, rfl, kpS kl, upd_same, .nil, .nil, Nat.le_refl _, fun _ z => nomatch z⟩
    · rintro i σ H' hi ⟨xs, ps, v5, v6, rfl, kq, gl, px, pn, pl, po⟩
      have gp := kq.lst hp3
      refine ⟨_, rfl, _, rfl, _, _, rfl, rfl, .inl ⟨by decide, by decide⟩, _, _, rfl, rfl, p, ns, 5 + 2 * i, 1000, ?_, gp, hs, by omega, by decide, by decide, fun H4 u z k4 hu z0 z1 z2 z3 => ?_⟩
      · rw [show ((5 + 2 * i : Nat) : Int) = 5 + 2 * (0 + (i : Int)) by omega]
        rfl
      have px4 := px.same k4
      have hxl := px.len
      refine ⟨_, rfl, _, rfl, dP z, ps.map dP, hu.dp, px4.dl (SqL.of (k4 _ _ gl)), sh_dP z, sh_dL ps, _, rfl, ?_⟩
      rw [any_dP]
      have kq4 := kq.trans (kpS k4)
      refine ite2 (fun hc => ?_) (fun hc => ?_)
      · have hz : z ∉ ps := fun m => by
          rw [decide_eq_true m] at hc
          cases hc
        have gl4 := k4 _ _ gl
        refine ⟨_, rfl, Or.inl ⟨rfl, _, SqL.of gl4⟩, _, rfl, l, xs, _, rfl, rfl, gl4, (by omega), ?_⟩
        exact ⟨_, ps ++ [z], _, _, rfl, kq4.put nl, upd_same, (px4.snoc hu).over gl4,
          List.nodup_append.mpr ⟨pn, List.nodup_cons.mpr ⟨by simp, .nil⟩, fun y hy y' hy' e => hz (by rw [List.mem_singleton.mp hy'] at e; rw [← e]; exact hy)⟩, by rw [List.length_append]; show ps.length + 1 ≤ i + 1; omega, fun x hx => by
            rcases List.mem_append.mp hx with hx | hx
            · exact po x hx
            · rw [List.mem_singleton.mp hx]
              exact ⟨z0, z1, z2, z3⟩⟩
      · exact ⟨xs, ps, _, _, rfl, kq4, k4 _ _ gl, px4, pn, by omega, po⟩
    · rintro σ H4 ⟨xs, ps, v5, v6, rfl, kq, gl, px, pn, pl, po⟩
      have hxl := px.len
      have gp := kq.lst hp3
      have pa := ha3.kp kq
      have pb := hb.kp kq
      have tab4 : TabG H4 Z.T0 := kq.tab _ ((kpS k03).tab _ ht)
      clear kq
      -- task
      refine ⟨_, rfl, _, rfl, _, rfl, ?_⟩
      intro x dy nx ndy nexy
      have kx := mkSame (o := .ins Z.C dy []) (u := .own x) nx ndy
      refine ⟨x, dy, l, a, b, st, en, xs, ps, rfl, upd_same, pa.same kx, pb.same kx, SqL.of (kx _ _ gl), px.same kx, by omega, fun _ _ H5 hT5 hB5 _ => ⟨rfl, ?_⟩, fun bad => (bad ⟨by omega, pn⟩).elim⟩
      have k5 : Same H4 H5 := mkBut nx ndy hB5
      obtain ⟨ta, rfl, hta⟩ := pa.same k5
      obtain ⟨tb, rfl, htb⟩ := pb.same k5
      have px5 := px.same k5
      have gl5 := k5 _ _ gl
      have gp5 := k5 _ _ gp
      have tab5 := (kpS k5).tab _ tab4
      clear pa pb px gl gp tab4 kx hB5 k5 nx ndy nexy
      -- heads
      have sms := hst.small
      have sme := hen.small
      have lf1 := line_facts start_S2 (by decide) sms
      have lf2 := line_facts end_S2 (by decide) sme
      refine ⟨_, rfl, ta, _, _, _, rfl, rfl, SqT.of hta, rfl, _, rfl, small_log sms.1 (by have := sms.2.1; omega), _, _, rfl, rfl, lf1.1, _, _, rfl, rfl, lf1.2.1, _, rfl, ta, _, _, _, rfl, rfl, SqT.of hta, rfl, _, rfl, small_log sms.2.2.1 (by have := sms.2.2.2; omega), _, _, rfl, rfl, lf1.2.2.1, _, rfl, tb, _, _, _, rfl, rfl, SqT.of htb, rfl, _, rfl, small_log sme.1 (by have := sme.2.1; omega), _, _, rfl, rfl, lf2.1, _, _, rfl, rfl, lf2.2.1, _, rfl, tb, _, _, _, rfl, rfl, SqT.of htb, rfl, _, rfl, small_log sme.2.2.1 (by have := sme.2.2.2; omega), _, _, rfl, rfl, lf2.2.2.1, (by show 2 ≤ sizeLine; decide), fun hh nh => ?_⟩
      rw [lf1.2.2.2, lf2.2.2.2]
      obtain ⟨H6, e6, k6, g6⟩ := made (o := .lst [.str (S (plL [115, 116, 97, 114, 116] st)), .str (S (plL [101, 110, 100] en))]) nh
      rw [e6]
      have hT6 := hT5.same k6
      have px6 := px5.same k6
      have gl6 := k6 _ _ gl5
      have gp6 := k6 _ _ gp5
      have tab6 := (kpS k6).tab _ tab5
      clear hT5 px5 gl5 gp5 tab5
      have pso : ∀ x ∈ sortP ps, ok1 x := fun x hx => po x (sortP_mem.mp hx)
      -- format_task
      refine ⟨_, rfl, x, st, en, sortP ps, rfl, hT6, sms, sme, fun z hz => (pso z hz).small, fun H7 k7 => ?_⟩
      refine ⟨⟨_, rfl⟩, _, rfl, _, rfl, l, xs, ps, rfl, SqL.of (k7 _ _ gl6), px6.same k7, fun r ys nr hys => ⟨r, rfl, ?_⟩⟩
      obtain ⟨H8, e8, k8, g8⟩ := made (o := .lst ys) nr
      rw [e8]
      have hys8 := hys.same k8
      have hln : (sortP ps).length = ps.length := sortP_len ps
      refine ⟨⟨_, SqL.of g8⟩, fun D hD => ?_⟩
      refine lc_list (K := K) (a := r) (xs := ys) (fun i HJ => Same H8 HJ ∧ HJ D = some (.lst (((((sortP ps).take i).map (plL [112, 105, 99, 107])).map S).map V.str))) ?_ ?_ ?_ ?_
      · exact ⟨same_upd hD, upd_same⟩
      · rintro i HJ _ ⟨k, _⟩
        exact SqL.of (k _ _ g8)
      · rintro i x HJ hx ⟨k, hd⟩
        obtain ⟨z, hz, t, rfl, hxz⟩ := (hys8.same k).at hx
        have hil : i < (sortP ps).length := (List.getElem?_eq_some_iff.mp hz).1
        have sm := (pso z (List.mem_of_getElem? hz)).small
        have lf := line_facts pick_S2 (by decide) sm
        refine ⟨rfl, _, rfl, t, _, _, _, rfl, rfl, SqT.of hxz, rfl, _, rfl, small_log sm.1 (by have := sm.2.1; omega), _, _, rfl, rfl, lf.1, _, _, rfl, rfl, lf.2.1, _, rfl, t, _, _, _, rfl, rfl, SqT.of hxz, rfl, _, rfl, small_log sm.2.2.1 (by have := sm.2.2.2; omega), _, _, rfl, rfl, lf.2.2.1, ?_⟩
        rw [lf.2.2.2]
        refine ⟨_, hd, ?_, ?_, ?_⟩
        · rw [List.length_map, List.length_map, List.length_map, List.length_take]
          omega
        · intro b o e
          rw [upd_ne (ne_of_none e hD)]
          exact k b o e
        · rw [upd_same, List.take_add_one, hz]
          simp only [List.map_append, Option.toList, List.map_cons, List.map_nil]
      · rintro HZ ⟨kz, gz⟩
        rw [(hys8.len), List.take_length] at gz
        refine ⟨_, _, _, _, rfl, rfl, kz _ _ (k8 _ _ (k7 _ _ g6)), gz, ?_, fun c nc => ?_⟩
        · rw [List.length_map, List.length_map, List.length_map]
          show 2 + (sortP ps).length ≤ sizeLine
          omega
        obtain ⟨HC, ec, kc, gc⟩ := made (o := .lst ([.str (S (plL [115, 116, 97, 114, 116] st)), .str (S (plL [101, 110, 100] en))] ++ ((((sortP ps).map (plL [112, 105, 99, 107])).map S).map V.str))) nc
        rw [ec]
        refine ⟨_, c, (plL [115, 116, 97, 114, 116] st :: plL [101, 110, 100] en :: (sortP ps).map (plL [112, 105, 99, 107])).map S, rfl, rfl, .inl (SqL.of gc), task_sum hst.small hen.small (fun z hz => (pso z hz).small) (by omega), ?_⟩
        rw [nl_S, join_S, show TL.joinL [10] (plL [115, 116, 97, 114, 116] st :: plL [101, 110, 100] en :: (sortP ps).map (plL [112, 105, 99, 107])) = taskL st en (sortP ps) from rfl]
        refine ⟨rfl, _, rfl, ?_⟩
        rw [decide_eq_true rfl]
        refine iteF ?_
        have kA : Same H6 HC := ((k7.trans k8).trans kz).trans kc
        have hTA := hT6.same kA
        have pxA := px6.same kA
        have glA := kA _ _ gl6
        have ghA := kA _ _ g6
        have gpA := kA _ _ gp6
        have tabA := (kpS kA).tab _ tab6
        clear hT6 px6 gl6 gp6 tab6 hys hys8
        -- for some in ..
        refine ⟨_, rfl, _, rfl, l, xs, rfl, SqL.of glA, fun r1 nr1 => ?_⟩
        obtain ⟨H9, e9, k9, g9⟩ := made (o := .lst xs.reverse) nr1
        rw [e9]
        refine ⟨_, rfl, l, xs, ps, rfl, SqL.of (k9 _ _ glA), pxA.same k9, fun r2 ys2 nr2 hys2 => ?_⟩
        obtain ⟨H10, e10, k10, g10⟩ := made (o := .lst ys2) nr2
        rw [e10]
        refine ⟨(by show 3 ≤ sizeLine; decide), fun sl nsl => ?_⟩
        obtain ⟨H11, e11, k11, g11⟩ := made (o := .lst [.ref l, .ref r1, .ref r2]) nsl
        rw [e11]
        have kB : Same HC H11 := (k9.trans k10).trans k11
        have hTB := hTA.same kB
        have pxB := pxA.same kB
        have glB := kB _ _ glA
        have ghB := kB _ _ ghA
        have gpB := kB _ _ gpA
        have tabB := (kpS kB).tab _ tabA
        have each : ∀ (i : Nat) (v : V), [V.ref l, .ref r1, .ref r2][i]? = some v → ∃ (r : Addr) (zs : List V) (qs : List Pl), v = .ref r ∧ H11 r = some (.lst zs) ∧ Prs H11 zs qs ∧ qs.Perm ps := fun i v hi => by
          match i, hi with
          | 0, hi =>
            cases hi
            exact ⟨l, xs, ps, rfl, glB, pxB, .refl _⟩
          | 1, hi =>
            cases hi
            exact ⟨r1, _, _, rfl, k11 _ _ (k10 _ _ g9), pxB.rev, List.reverse_perm ps⟩
          | 2, hi =>
            cases hi
            exact ⟨r2, _, _, rfl, k11 _ _ g10, hys2.same (k10.trans k11), sortP_perm ps⟩
        clear hTA pxA glA ghA gpA tabA hys2
        refine ⟨sl, rfl, ⟨_, SqL.of g11⟩, ?_⟩
        refine for_list (K := K) (a := sl) (xs := [V.ref l, .ref r1, .ref r2]) (fun i σ H' => ∃ v9 v10 : Option V, σ = [some (.ref a0), some (.ref p), some (.ref ta), some (.ref tb), some (.ref l), v5, v6, some (.ref x), some (.ref hh), v9, v10, none, none, none, none] ∧ Kp H11 H') ?_ ?_ ?_ ?_
        · exact ⟨none, none, rfl, Kp.refl _⟩
        · rintro i σ H' _ ⟨_, _, _, k⟩
          exact SqL.of (k.lst g11)
        · rintro i u σ H' hi ⟨v9, v10, rfl, kk⟩
          obtain ⟨r, zs, qs, rfl, gr, hzs, hperm⟩ := each i u hi
          have gr' := kk.lst gr
          have hzs' := hzs.kp kk
          have qso : ∀ x ∈ qs, ok1 x := fun x hx => po x (hperm.mem_iff.mp hx)
          have hqn : qs.Nodup := hperm.nodup_iff.mpr pn
          have hql : qs.length = ps.length := hperm.length_eq
          refine ⟨⟨_, rfl⟩, _, rfl, _, rfl, r, rfl, ⟨_, SqL.of gr'⟩, fun D hD => ?_⟩
          refine lc_list (K := K) (a := r) (xs := zs) (fun i HJ => Same H' HJ ∧ HJ D = some (.lst ((((qs.take i).map (plL [112, 105, 99, 107])).map S).map V.str))) ?_ ?_ ?_ ?_
          · exact ⟨same_upd hD, upd_same⟩
          · rintro i HJ _ ⟨k, _⟩
            exact SqL.of (k _ _ gr')
          · rintro i x HJ hx ⟨k, hd⟩
            obtain ⟨z, hz, t, rfl, hxz⟩ := (hzs'.same k).at hx
            have hil : i < qs.length := (List.getElem?_eq_some_iff.mp hz).1
            have sm := (qso z (List.mem_of_getElem? hz)).small
            have lf := line_facts pick_S2 (by decide) sm
            refine ⟨rfl, _, rfl, t, _, _, _, rfl, rfl, SqT.of hxz, rfl, _, rfl, small_log sm.1 (by have := sm.2.1; omega), _, _, rfl, rfl, lf.1, _, _, rfl, rfl, lf.2.1, _, rfl, t, _, _, _, rfl, rfl, SqT.of hxz, rfl, _, rfl, small_log sm.2.2.1 (by have := sm.2.2.2; omega), _, _, rfl, rfl, lf.2.2.1, ?_⟩
            rw [lf.2.2.2]
            refine ⟨_, hd, ?_, ?_, ?_⟩
            · rw [List.length_map, List.length_map, List.length_map, List.length_take]
              omega
            · intro b o e
              rw [upd_ne (ne_of_none e hD)]
              exact k b o e
            · rw [upd_same, List.take_add_one, hz]
              simp only [List.map_append, Option.toList, List.map_cons, List.map_nil]
          · rintro HZ ⟨kz, gz⟩
            rw [(hzs'.len), List.take_length] at gz
            refine ⟨_, _, _, _, rfl, rfl, kz _ _ (kk.lst ghB), gz, ?_, fun c nc => ?_⟩
            · rw [List.length_map, List.length_map, List.length_map]
              show 2 + qs.length ≤ sizeLine
              omega
            obtain ⟨HC, ec, kc, gc⟩ := made (o := .lst ([.str (S (plL [115, 116, 97, 114, 116] st)), .str (S (plL [101, 110, 100] en))] ++ (((qs.map (plL [112, 105, 99, 107])).map S).map V.str))) nc
            rw [ec]
            refine ⟨_, c, (plL [115, 116, 97, 114, 116] st :: plL [101, 110, 100] en :: qs.map (plL [112, 105, 99, 107])).map S, rfl, rfl, .inl (SqL.of gc), task_sum hst.small hen.small (fun z hz => (qso z hz).small) (by omega), ?_⟩
            have kD : Kp H11 HC := kk.trans (kpS (kz.trans kc))
            obtain ⟨w1, w2, w3, w4, w5⟩ := taskL_read hst hen qso hqn (by omega)
            refine ⟨S (taskL st en qs), st, en, qs, (by show [V.str (Txt.join ("\n" : Str) _)] = _; rw [nl_S, join_S]; rfl), w1, w2, kD.tab _ tabB, w3, w4, w5, fun HE ag ke hTE => ?_⟩
            rw [sortP_congr hperm] at hTE
            have kE := kD.trans ke
            obtain ⟨dxe, le, ae, be, xse, te1, _⟩ := id hTE
            refine ⟨_, rfl, ag, dxe, _, rfl, te1, tf_no _ _ _ (by decide +kernel) (by decide +kernel) (by decide +kernel), _, rfl, ag, x, st, en, st, en, sortP ps, sortP ps, rfl, hTE, hTB.kp kE, fun HF kf => ?_⟩
            rw [decide_eq_true (show st = st ∧ en = en ∧ sortP ps = sortP ps from ⟨rfl, rfl, rfl⟩)]
            refine ⟨_, _, rfl, rfl, _, rfl, ?_⟩
            refine iteF ?_
            refine ⟨_, rfl, ag, dxe, _, rfl, kf _ _ te1, ag, st, en, sortP ps, rfl, hTE.same kf, fun r3 ys3 nr3 hys3 => ?_⟩
            obtain ⟨HG, eg, kg, gg⟩ := made (o := .lst ys3) nr3
            rw [eg]
            have kG := kE.trans (kpS (kf.trans kg))
            refine ⟨_, rfl, l, xs, ps, rfl, SqL.of (kG.lst glB), pxB.kp kG, fun r4 ys4 nr4 hys4 => ?_⟩
            obtain ⟨HI, ei, ki, gi⟩ := made (o := .lst ys4) nr4
            rw [ei]
            refine ⟨_, _, ((hys3.same kg).same ki).dl (SqL.of (ki _ _ gg)), (hys4.same ki).dl (SqL.of gi), sh_dL _, sh_dL _, _, rfl, ?_⟩
            rw [eqv_dL, decide_eq_true rfl]
            refine iteF ?_
            exact ⟨_, _, rfl, kG.trans (kpS ki)⟩
        · rintro σ H12 ⟨v9, v10, rfl, kk⟩
          have gpC := kk.lst gpB
          clear gpB each
          obtain ⟨n28, h28⟩ := nums 28 (by decide) (by decide)
          refine ⟨_, rfl, p, _, _, _, rfl, rfl, SqL.of gpC, h28, .inl ⟨_, rfl, _, _, rfl, rfl, (by show (0 : Int) < 12; decide), ?_⟩⟩
          have hb0 : 0 ≤ n28 % 12 := Int.emod_nonneg _ (by decide)
          have hb1 : n28 % 12 < 12 := Int.emod_lt_of_pos _ (by decide)
          obtain ⟨mw, hmw⟩ : ∃ m : Nat, 1 + n28 % 12 = (m : Int) := ⟨(1 + n28 % 12).toNat, by omega⟩
          have hmw1 : 1 ≤ mw := by omega
          have hmw2 : mw ≤ 12 := by omega
          refine ⟨_, _, rfl, rfl, 1 + n28 % 12, rfl, by omega, by omega, ?_⟩
          rw [hmw]
          show ∀ D, H12 D = none → _
          intro D hD
          refine lc_range (lo := 0) (n := mw) (fun i H' => ∃ (xs : List V) (ws : List Pl), Same H12 H' ∧ H' D = some (.lst xs) ∧ Prs H' xs ws ∧ ws.length = i ∧ ∀ x ∈ ws, small x) ?_ ?_ ?_
          · exact ⟨[], [], same_upd hD, upd_same, .nil, rfl, fun _ z => nomatch z⟩
          · rintro i H' hi ⟨ws', ws, k, hd, hw, hwl, hws⟩
            refine ⟨rfl, _, rfl, _, rfl, _, _, rfl, rfl, .inl ⟨by decide, by decide⟩, _, _, rfl, rfl, p, ns, 30 + 2 * i, 9999, ?_, k _ _ gpC, hs, by omega, by decide, by decide, fun H4 u z k4 hu z0 z1 z2 z3 => ?_⟩
            · rw [show ((30 + 2 * i : Nat) : Int) = 30 + 2 * (0 + (i : Int)) by omega]
              rfl
            have hd4 := k4 _ _ hd
            have hwlen := hw.len
            refine ⟨_, hd4, by omega, _, ws ++ [z], Same.over (k.trans k4) hD, upd_same, ((hw.same k4).snoc hu).over hd4, by rw [List.length_append, hwl]; rfl, fun x hx => ?_⟩
            rcases List.mem_append.mp hx with hx | hx
            · exact hws x hx
            · rw [List.mem_singleton.mp hx]
              exact ⟨z0, by omega, z2, by omega⟩
          rintro H13 ⟨zs, ws, k13, gD, hzs, hwl, hws⟩
          have hne : ws ≠ [] := fun e => by
            rw [e] at hwl
            simp at hwl
            omega
          have hzl := hzs.len
          have tabD : TabG H13 Z.T0 := (kpS k13).tab _ (kk.tab _ tabB)
          -- given
          refine ⟨_, rfl, D, zs, rfl, .inl (SqL.of gD), fun gv ngv => ?_⟩
          obtain ⟨H14, e14, k14, g14⟩ := made (o := .lst zs) ngv
          rw [e14]
          have gD14 := k14 _ _ gD
          have hzs14 := hzs.same k14
          -- text
          refine ⟨⟨_, rfl⟩, _, rfl, D, rfl, ⟨_, SqL.of gD14⟩, fun D2 hD2 => ?_⟩
          refine lc_list (K := K) (a := D) (xs := zs) (fun i H' => Same H14 H' ∧ H' D2 = some (.lst ((((ws.take i).map plW).map S).map V.str))) ?_ ?_ ?_ ?_
          · exact ⟨same_upd hD2, upd_same⟩
          · rintro i H' _ ⟨k, _⟩
            exact SqL.of (k _ _ gD14)
          · rintro i u H' hi ⟨k, hd⟩
            obtain ⟨z, hz, t, rfl, hxz⟩ := (hzs14.same k).at hi
            have hil : i < ws.length := (List.getElem?_eq_some_iff.mp hz).1
            have sm := hws z (List.mem_of_getElem? hz)
            have wf := word_facts sm
            refine ⟨rfl, _, rfl, t, _, _, _, rfl, rfl, SqT.of hxz, rfl, _, rfl, small_log sm.1 (by have := sm.2.1; omega), _, _, rfl, rfl, wf.1, _, rfl, t, _, _, _, rfl, rfl, SqT.of hxz, rfl, _, rfl, small_log sm.2.2.1 (by have := sm.2.2.2; omega), _, _, rfl, rfl, wf.2.1, ?_⟩
            rw [wf.2.2]
            refine ⟨_, hd, ?_, ?_, ?_⟩
            · rw [List.length_map, List.length_map, List.length_map, List.length_take]
              omega
            · intro b o e
              rw [upd_ne (ne_of_none e hD2)]
              exact k b o e
            · rw [upd_same, List.take_add_one, hz]
              simp only [List.map_append, Option.toList, List.map_cons, List.map_nil]
          rintro H15 ⟨k15, g15⟩
          rw [hzl, List.take_length] at g15
          refine ⟨_, D2, (ws.map plW).map S, rfl, rfl, .inl (SqL.of g15), ?_, ?_⟩
          · have z := sum_len (m := 20) (ps := ws.map plW) fun y hy => by
              obtain ⟨p, hp, rfl⟩ := List.mem_map.mp hy
              exact plW_len (hws p hp)
            rw [List.length_map, List.length_map, show (" " : Str).length = 1 from rfl]
            rw [List.length_map] at z
            omega
          rw [sp_S, join_S, show TL.joinL [32] (ws.map plW) = walkL ws from rfl]
          -- told
          obtain ⟨w1, w2, w3⟩ := walkL_read hne hws (by omega)
          have k415 := k14.trans k15
          refine ⟨_, rfl, _, rfl, w1, w2, (kpS k415).tab _ tabD, fun us hus H16 r xr k16 nr16 gr16 hxr => ?_, fun bad => ?_⟩
          rotate_left
          · obtain ⟨y, hy, hn⟩ := bad
            have z : wordP y ∈ ws.map some := by
              rw [← w3]
              exact List.mem_map.mpr ⟨y, hy, rfl⟩
            rw [hn] at z
            obtain ⟨_, _, z⟩ := List.mem_map.mp z
            cases z
          rw [w3] at hus
          obtain rfl : ws = us := List.map_inj_right (fun _ _ z => Option.some.inj z) |>.mp hus
          have kp16 : Kp H14 H16 := (kpS k15).trans k16
          have g16 := kp16.lst g14
          have gD16 := kp16.lst gD14
          have hzs16 := hzs14.kp kp16
          refine ⟨_, rfl, gv, zs, ws, rfl, SqL.of g16, hzs16, hws, by omega, fun H17 k17 => ?_⟩
          refine ⟨_, rfl, rfl, _, rfl, ?_⟩
          rw [decide_eq_true rfl]
          refine iteF ?_
          have g17 := k17 _ _ g16
          have gD17 := k17 _ _ gD16
          have hzs17 := hzs16.same k17
          have gr17 := k17 _ _ gr16
          have hxr17 := hxr.same k17
          refine ⟨_, rfl, _, rfl, _, _, hzs17.dl (SqL.of g17), hzs17.dl (SqL.of gD17), sh_dL _, sh_dL _, _, rfl, ?_⟩
          rw [eqv_dL, decide_eq_true rfl]
          refine iteF ?_
          refine ⟨_, rfl, .ref r, .ty "list", _, _, true, rfl, .ty "list", .base (.lst gr17), kit_ty (by decide +kernel), _, rfl, ?_⟩
          refine iteF ?_
          refine ⟨_, rfl, _, rfl, _, _, hxr17.dl (SqL.of gr17), hzs17.dl (SqL.of gD17), sh_dL _, sh_dL _, _, rfl, ?_⟩
          rw [eqv_dL, decide_eq_true rfl]
          refine iteF ?_
          -- all are tuples
          refine ⟨_, rfl, r, rfl, ⟨_, SqL.of gr17⟩, fun D3 hD3 => ?_⟩
          refine lc_list (K := K) (a := r) (xs := xr) (fun i H' => Same H17 H' ∧ ∃ bs : List Bool, H' D3 = some (.lst (bs.map V.bl)) ∧ bs.length = i ∧ bs.all id = true) ?_ ?_ ?_ ?_
          · exact ⟨same_upd hD3, [], upd_same, rfl, rfl⟩
          · rintro i H' _ ⟨k, _⟩
            exact SqL.of (k _ _ gr17)
          · rintro i u H' hi ⟨k, bs, hd, hbl, hba⟩
            obtain ⟨z, hz, t, rfl, hxz⟩ := (hxr17.same k).at hi
            have hil : i < ws.length := (List.getElem?_eq_some_iff.mp hz).1
            refine ⟨rfl, _, rfl, .ref t, .ty "tuple", _, _, true, rfl, .ty "tuple", .base (.tup hxz), kit_ty (by decide +kernel), _, hd, ?_, ?_, bs ++ [true], ?_, ?_, ?_⟩
            · rw [List.length_map]
              omega
            · intro b o e
              rw [upd_ne (ne_of_none e hD3)]
              exact k b o e
            · rw [upd_same, List.map_append]
              rfl
            · rw [List.length_append, hbl]
              rfl
            · rw [List.all_append, hba]
              rfl
          · rintro H18 ⟨k18, bs, hd, hbl, hba⟩
            refine ⟨D3, bs, rfl, SqL.of hd, ?_⟩
            rw [hba]
            exact q H18
end

/-! ### the end -/
section
open GxR NdefX PySem.Spec PyProof.Rows
/-! ### what the top has left -/
theorem all_mk {l : PySem.W.OpenLaw} {w : World} {K : PySem.W.Frag} {h : Heap} {mg : Str → Option Value} {fa : Addr} {T0 : Addr} (X : K.In h) (G : h.Ns mainGlobals mg) (hfa : mg "law" = some (.ref fa))
    {CL : Addr}
    {CIT : Addr}
    {Pe : Addr}
    {CTK : Addr}
    {nm0 qn0 : Str} {N0 : Addr} {bs0 : List Value} {sn0 : List Str} {sb0 : List Value} {ab0 : Bool} {co0 : Option Bool} {dd0 : Option Addr} {ma0 mb0 mc0 md0 me0 : Option Value}
    {f_iCTK : Addr}
    {od_iCTK an_iCTK : Option Addr} {sl_iCTK : Array (Option Value)} {oc_iCTK kV_iCTK dc_iCTK pm_iCTK cd_iCTK ct_iCTK : Value}
    {CN : Addr}
    {nm1 qn1 : Str} {N1 : Addr} {bs1 : List Value} {sn1 : List Str} {sb1 : List Value} {ab1 : Bool} {co1 : Option Bool} {dd1 : Option Addr} {ma1 mb1 mc1 md1 me1 : Option Value}
    {f_iCN : Addr}
    {od_iCN an_iCN : Option Addr} {sl_iCN : Array (Option Value)} {oc_iCN kV_iCN dc_iCN pm_iCN cd_iCN ct_iCN : Value}
    {CT : Addr}
    {tk1 tk2 tk3 : Tok}
    {f_tin : Addr}
    {od_tin an_tin : Option Addr} {sl_tin : Array (Option Value)} {oc_tin kV_tin dc_tin pm_tin cd_tin ct_tin : Value}
    {f_tha : Addr}
    {od_tha an_tha : Option Addr} {sl_tha : Array (Option Value)} {oc_tha kV_tha dc_tha pm_tha cd_tha ct_tha : Value}
    {f_twi : Addr}
    {od_twi an_twi : Option Addr} {sl_twi : Array (Option Value)} {oc_twi kV_twi dc_twi pm_twi cd_twi ct_twi : Value}
    {f_tsm : Addr}
    {od_tsm an_tsm : Option Addr} {sl_tsm : Array (Option Value)} {oc_tsm kV_tsm dc_tsm pm_tsm cd_tsm ct_tsm : Value}
    {pp : Addr}
    {prest : List Value}
    {f_tpk : Addr}
    {od_tpk an_tpk : Option Addr} {sl_tpk : Array (Option Value)} {oc_tpk kV_tpk dc_tpk pm_tpk cd_tpk ct_tpk : Value}
    {f_nof : Addr}
    {c8_nof : Addr}
    {od_nof an_nof : Option Addr} {sl_nof : Array (Option Value)} {oc_nof kV_nof dc_nof pm_nof ct_nof : Value}
    {f_fta : Addr}
    {od_fta an_fta : Option Addr} {sl_fta : Array (Option Value)} {oc_fta kV_fta dc_fta pm_fta cd_fta ct_fta : Value}
    {f_fwa : Addr}
    {od_fwa an_fwa : Option Addr} {sl_fwa : Array (Option Value)} {oc_fwa kV_fwa dc_fwa pm_fwa cd_fwa ct_fwa : Value}
    {f_pta : Addr}
    {od_pta an_pta : Option Addr} {sl_pta : Array (Option Value)} {oc_pta kV_pta dc_pta pm_pta cd_pta ct_pta : Value}
    {f_pwa : Addr}
    {od_pwa an_pwa : Option Addr} {sl_pwa : Array (Option Value)} {oc_pwa kV_pwa dc_pwa pm_pwa cd_pwa ct_pwa : Value}
    {f_ro : Addr}
    {od_ro an_ro : Option Addr} {sl_ro : Array (Option Value)} {oc_ro kV_ro dc_ro pm_ro cd_ro ct_ro : Value}
    {f_isn : Addr}
    {od_isn an_isn : Option Addr} {sl_isn : Array (Option Value)} {oc_isn kV_isn dc_isn pm_isn cd_isn ct_isn : Value}
    {f_nin : Addr}
    {od_nin an_nin : Option Addr} {sl_nin : Array (Option Value)} {oc_nin kV_nin dc_nin pm_nin cd_nin ct_nin : Value}
    {f_pin : Addr}
    {od_pin an_pin : Option Addr} {sl_pin : Array (Option Value)} {oc_pin kV_pin dc_pin pm_pin cd_pin ct_pin : Value}
    {f_twl : Addr}
    {od_twl an_twl : Option Addr} {sl_twl : Array (Option Value)} {oc_twl kV_twl dc_twl pm_twl cd_twl ct_twl : Value}
    {f_row : Addr}
    {od_row an_row : Option Addr} {sl_row : Array (Option Value)} {oc_row kV_row dc_row pm_row cd_row ct_row : Value}
    {f_num : Addr}
    {od_num an_num : Option Addr} {sl_num : Array (Option Value)} {oc_num kV_num dc_num pm_num cd_num ct_num : Value}
    {f_pl : Addr}
    {od_pl an_pl : Option Addr} {sl_pl : Array (Option Value)} {oc_pl kV_pl dc_pl pm_pl cd_pl ct_pl : Value}
    {f_law : Addr}
    {od_law an_law : Option Addr} {sl_law : Array (Option Value)} {oc_law kV_law dc_law pm_law cd_law ct_law : Value}
    (a_CL : PySem.W.nsIn K mainGlobals "TooLarge" = some (some (.ref CL)))
    (kpCL : PySem.W.keepIn K (.ref CL) = true)
    (exCL : PySem.W.excIn K CL [.type "ValueError", .type "Exception", .type "BaseException", .type "object"] "ValueError.__new__" = true)
    (sbCL : PySem.W.subIn K (.ref CL) (.type "BaseException") = some true)
    (tyCL : PySem.W.typeIn K (.ref CL) = some (.type "type"))
    (a_CIT : PySem.W.nsIn K mainGlobals "InvalidTask" = some (some (.ref CIT)))
    (kpCIT : PySem.W.keepIn K (.ref CIT) = true)
    (exCIT : PySem.W.excIn K CIT [.type "ValueError", .type "Exception", .type "BaseException", .type "object"] "ValueError.__new__" = true)
    (sbCIT : PySem.W.subIn K (.ref CIT) (.type "BaseException") = some true)
    (tyCIT : PySem.W.typeIn K (.ref CIT) = some (.type "type"))
    (a_Pe : PySem.W.nsIn K mainGlobals "PickError" = some (some (.ref Pe)))
    (a_CTK : PySem.W.nsIn K mainGlobals "PickTaken" = some (some (.ref CTK)))
    (kpCTK : PySem.W.keepIn K (.ref CTK) = true)
    (sbCTK : PySem.W.subIn K (.ref CTK) (.type "BaseException") = some true)
    (tyCTK : PySem.W.typeIn K (.ref CTK) = some (.type "type"))
    (xlCTK : K.lookup CTK = some (excClassObj nm0 qn0 CTK N0 bs0 [.ref Pe, .type "ValueError", .type "Exception", .type "BaseException", .type "object"] true sn0 sb0 ab0 co0 dd0 ma0 mb0 mc0 md0 me0 "ValueError.__new__"))
    (saCTK : PySem.W.findIn K (.ref CTK) "__setattr__" = some (some (.builtin "object.__setattr__")))
    (noCTK : PySem.W.findIn K (.ref CTK) "place" = some none)
    (a_iCTK : PySem.W.findIn K (.ref CTK) "__init__" = some (some (.ref f_iCTK)))
    (tiCTK : PySem.W.typeIn K (.ref f_iCTK) = some (.type "function"))
    (l_iCTK : K.lookup f_iCTK = some ⟨oc_iCTK, od_iCTK, .func (PySem.W.fnOf "__init__" "PickTaken.__init__" (defArgs s_PickTaken___init__) (defBody s_PickTaken___init__) (defScope s_PickTaken___init__) .none kV_iCTK dc_iCTK pm_iCTK an_iCTK cd_iCTK ct_iCTK), sl_iCTK⟩)
    (c_iCTK : PySem.W.codeIn K cd_iCTK "PickTaken.__init__" = true)
    (k_iCTK : PySem.W.keepIn K (.ref f_iCTK) = true)
    (a_CN : PySem.W.nsIn K mainGlobals "InvalidNotation" = some (some (.ref CN)))
    (kpCN : PySem.W.keepIn K (.ref CN) = true)
    (sbCN : PySem.W.subIn K (.ref CN) (.type "BaseException") = some true)
    (tyCN : PySem.W.typeIn K (.ref CN) = some (.type "type"))
    (xlCN : K.lookup CN = some (excClassObj nm1 qn1 CN N1 bs1 [.ref Pe, .type "ValueError", .type "Exception", .type "BaseException", .type "object"] true sn1 sb1 ab1 co1 dd1 ma1 mb1 mc1 md1 me1 "ValueError.__new__"))
    (saCN : PySem.W.findIn K (.ref CN) "__setattr__" = some (some (.builtin "object.__setattr__")))
    (noCN : PySem.W.findIn K (.ref CN) "line" = some none)
    (a_iCN : PySem.W.findIn K (.ref CN) "__init__" = some (some (.ref f_iCN)))
    (tiCN : PySem.W.typeIn K (.ref f_iCN) = some (.type "function"))
    (l_iCN : K.lookup f_iCN = some ⟨oc_iCN, od_iCN, .func (PySem.W.fnOf "__init__" "InvalidNotation.__init__" (defArgs s_InvalidNotation___init__) (defBody s_InvalidNotation___init__) (defScope s_InvalidNotation___init__) .none kV_iCN dc_iCN pm_iCN an_iCN cd_iCN ct_iCN), sl_iCN⟩)
    (c_iCN : PySem.W.codeIn K cd_iCN "InvalidNotation.__init__" = true)
    (k_iCN : PySem.W.keepIn K (.ref f_iCN) = true)
    (a_CT : PySem.W.nsIn K mainGlobals "Task" = some (some (.ref CT)))
    (pg_CT : PySem.W.plainGet K CT Str.empty = true)
    (hd_CT : PySem.W.hasDictIn K CT = true)
    (po_CT : PySem.W.plainOver K CT = true)
    (sa_CT : PySem.W.findIn K (.ref CT) "__setattr__" = some (some (.builtin "object.__setattr__")))
    (mk_CT : PySem.W.makesIn K CT = true)
    (kc_CT : PySem.W.keepIn K (.ref CT) = true)
    (tstart : PySem.W.findIn K (.ref CT) "start" = some none)
    (tend : PySem.W.findIn K (.ref CT) "end" = some none)
    (tppicks : PySem.W.findIn K (.ref CT) "_picks" = some none)
    (most : PySem.W.nsIn K mainGlobals "MOST_PICKS" = some (some (.int 60 tk1)))
    (digi : PySem.W.nsIn K mainGlobals "MOST_DIGITS" = some (some (.int 4 tk2)))
    (grea : PySem.W.nsIn K mainGlobals "GREATEST_OF_TASK" = some (some (.int 1000 tk3)))
    (a_tin : PySem.W.findIn K (.ref CT) "__init__" = some (some (.ref f_tin)))
    (i_tin : PySem.W.isFn K (.ref f_tin) = true)
    (l_tin : K.lookup f_tin = some ⟨oc_tin, od_tin, .func (PySem.W.fnOf "__init__" "Task.__init__" (defArgs s_Task___init__) (defBody s_Task___init__) (defScope s_Task___init__) .none kV_tin dc_tin pm_tin an_tin cd_tin ct_tin), sl_tin⟩)
    (c_tin : PySem.W.codeIn K cd_tin "Task.__init__" = true)
    (k_tin : PySem.W.keepIn K (.ref f_tin) = true)
    (a_tha : PySem.W.findIn K (.ref CT) "has_pick" = some (some (.ref f_tha)))
    (i_tha : PySem.W.isFn K (.ref f_tha) = true)
    (l_tha : K.lookup f_tha = some ⟨oc_tha, od_tha, .func (PySem.W.fnOf "has_pick" "Task.has_pick" (defArgs s_Task_has_pick) (defBody s_Task_has_pick) (defScope s_Task_has_pick) .none kV_tha dc_tha pm_tha an_tha cd_tha ct_tha), sl_tha⟩)
    (c_tha : PySem.W.codeIn K cd_tha "Task.has_pick" = true)
    (k_tha : PySem.W.keepIn K (.ref f_tha) = true)
    (a_twi : PySem.W.findIn K (.ref CT) "with_pick" = some (some (.ref f_twi)))
    (i_twi : PySem.W.isFn K (.ref f_twi) = true)
    (l_twi : K.lookup f_twi = some ⟨oc_twi, od_twi, .func (PySem.W.fnOf "with_pick" "Task.with_pick" (defArgs s_Task_with_pick) (defBody s_Task_with_pick) (defScope s_Task_with_pick) .none kV_twi dc_twi pm_twi an_twi cd_twi ct_twi), sl_twi⟩)
    (c_twi : PySem.W.codeIn K cd_twi "Task.with_pick" = true)
    (k_twi : PySem.W.keepIn K (.ref f_twi) = true)
    (a_tsm : PySem.W.findIn K (.ref CT) "same_as" = some (some (.ref f_tsm)))
    (i_tsm : PySem.W.isFn K (.ref f_tsm) = true)
    (l_tsm : K.lookup f_tsm = some ⟨oc_tsm, od_tsm, .func (PySem.W.fnOf "same_as" "Task.same_as" (defArgs s_Task_same_as) (defBody s_Task_same_as) (defScope s_Task_same_as) .none kV_tsm dc_tsm pm_tsm an_tsm cd_tsm ct_tsm), sl_tsm⟩)
    (c_tsm : PySem.W.codeIn K cd_tsm "Task.same_as" = true)
    (k_tsm : PySem.W.keepIn K (.ref f_tsm) = true)
    (pa : PySem.W.findIn K (.ref CT) "picks" = some (some (.ref pp)))
    (pg : PySem.W.specialIn K (.ref pp) "__get__" = some (some (.builtin "property.__get__")))
    (pt : PySem.W.takesIn K (.ref pp) = some true)
    (pr : PySem.W.recIn K pp "property" = some (.ref f_tpk :: prest))
    (l_tpk : K.lookup f_tpk = some ⟨oc_tpk, od_tpk, .func (PySem.W.fnOf "picks" "Task.picks" (defArgs s_Task_picks) (defBody s_Task_picks) (defScope s_Task_picks) .none kV_tpk dc_tpk pm_tpk an_tpk cd_tpk ct_tpk), sl_tpk⟩)
    (c_tpk : PySem.W.codeIn K cd_tpk "Task.picks" = true)
    (k_tpk : PySem.W.keepIn K (.ref f_tpk) = true)
    (a_nof : PySem.W.nsIn K mainGlobals "_numbers_of" = some (some (.ref f_nof)))
    (l_nof : K.lookup f_nof = some ⟨oc_nof, od_nof, .func (PySem.W.fnOf "_numbers_of" "_numbers_of" (defArgs s__numbers_of) (defBody s__numbers_of) (defScope s__numbers_of) .none kV_nof dc_nof pm_nof an_nof (.ref c8_nof) ct_nof), sl_nof⟩)
    (c_nof : PySem.W.codeIn K (.ref c8_nof) "_numbers_of" = true)
    (k_nof : PySem.W.keepIn K (.ref f_nof) = true)
    (a_fta : PySem.W.nsIn K mainGlobals "format_task" = some (some (.ref f_fta)))
    (l_fta : K.lookup f_fta = some ⟨oc_fta, od_fta, .func (PySem.W.fnOf "format_task" "format_task" (defArgs s_format_task) (defBody s_format_task) (defScope s_format_task) .none kV_fta dc_fta pm_fta an_fta cd_fta ct_fta), sl_fta⟩)
    (c_fta : PySem.W.codeIn K cd_fta "format_task" = true)
    (k_fta : PySem.W.keepIn K (.ref f_fta) = true)
    (a_fwa : PySem.W.nsIn K mainGlobals "format_walk" = some (some (.ref f_fwa)))
    (l_fwa : K.lookup f_fwa = some ⟨oc_fwa, od_fwa, .func (PySem.W.fnOf "format_walk" "format_walk" (defArgs s_format_walk) (defBody s_format_walk) (defScope s_format_walk) .none kV_fwa dc_fwa pm_fwa an_fwa cd_fwa ct_fwa), sl_fwa⟩)
    (c_fwa : PySem.W.codeIn K cd_fwa "format_walk" = true)
    (k_fwa : PySem.W.keepIn K (.ref f_fwa) = true)
    (a_pta : PySem.W.nsIn K mainGlobals "parse_task" = some (some (.ref f_pta)))
    (l_pta : K.lookup f_pta = some ⟨oc_pta, od_pta, .func (PySem.W.fnOf "parse_task" "parse_task" (defArgs s_parse_task) (defBody s_parse_task) (defScope s_parse_task) .none kV_pta dc_pta pm_pta an_pta cd_pta ct_pta), sl_pta⟩)
    (c_pta : PySem.W.codeIn K cd_pta "parse_task" = true)
    (k_pta : PySem.W.keepIn K (.ref f_pta) = true)
    (a_pwa : PySem.W.nsIn K mainGlobals "parse_walk" = some (some (.ref f_pwa)))
    (l_pwa : K.lookup f_pwa = some ⟨oc_pwa, od_pwa, .func (PySem.W.fnOf "parse_walk" "parse_walk" (defArgs s_parse_walk) (defBody s_parse_walk) (defScope s_parse_walk) .none kV_pwa dc_pwa pm_pwa an_pwa cd_pwa ct_pwa), sl_pwa⟩)
    (c_pwa : PySem.W.codeIn K cd_pwa "parse_walk" = true)
    (k_pwa : PySem.W.keepIn K (.ref f_pwa) = true)
    (a_ro : PySem.W.nsIn K mainGlobals "_row" = some (some (.ref f_ro)))
    (l_ro : K.lookup f_ro = some ⟨oc_ro, od_ro, .func (PySem.W.fnOf "_row" "_row" (defArgs s__row) (defBody s__row) (defScope s__row) .none kV_ro dc_ro pm_ro an_ro cd_ro ct_ro), sl_ro⟩)
    (c_ro : PySem.W.codeIn K cd_ro "_row" = true)
    (k_ro : PySem.W.keepIn K (.ref f_ro) = true)
    (a_isn : PySem.W.nsIn K mainGlobals "is_number" = some (some (.ref f_isn)))
    (l_isn : K.lookup f_isn = some ⟨oc_isn, od_isn, .func (PySem.W.fnOf "is_number" "is_number" (defArgs s_is_number) (defBody s_is_number) (defScope s_is_number) .none kV_isn dc_isn pm_isn an_isn cd_isn ct_isn), sl_isn⟩)
    (c_isn : PySem.W.codeIn K cd_isn "is_number" = true)
    (k_isn : PySem.W.keepIn K (.ref f_isn) = true)
    (a_nin : PySem.W.nsIn K mainGlobals "_numbers_in" = some (some (.ref f_nin)))
    (l_nin : K.lookup f_nin = some ⟨oc_nin, od_nin, .func (PySem.W.fnOf "_numbers_in" "_numbers_in" (defArgs s__numbers_in) (defBody s__numbers_in) (defScope s__numbers_in) .none kV_nin dc_nin pm_nin an_nin cd_nin ct_nin), sl_nin⟩)
    (c_nin : PySem.W.codeIn K cd_nin "_numbers_in" = true)
    (k_nin : PySem.W.keepIn K (.ref f_nin) = true)
    (a_pin : PySem.W.nsIn K mainGlobals "_place_in" = some (some (.ref f_pin)))
    (l_pin : K.lookup f_pin = some ⟨oc_pin, od_pin, .func (PySem.W.fnOf "_place_in" "_place_in" (defArgs s__place_in) (defBody s__place_in) (defScope s__place_in) .none kV_pin dc_pin pm_pin an_pin cd_pin ct_pin), sl_pin⟩)
    (c_pin : PySem.W.codeIn K cd_pin "_place_in" = true)
    (k_pin : PySem.W.keepIn K (.ref f_pin) = true)
    (a_twl : PySem.W.nsIn K mainGlobals "_task_with_line" = some (some (.ref f_twl)))
    (l_twl : K.lookup f_twl = some ⟨oc_twl, od_twl, .func (PySem.W.fnOf "_task_with_line" "_task_with_line" (defArgs s__task_with_line) (defBody s__task_with_line) (defScope s__task_with_line) .none kV_twl dc_twl pm_twl an_twl cd_twl ct_twl), sl_twl⟩)
    (c_twl : PySem.W.codeIn K cd_twl "_task_with_line" = true)
    (k_twl : PySem.W.keepIn K (.ref f_twl) = true)
    (a_row : PySem.W.nsIn K mainGlobals "_law_row" = some (some (.ref f_row)))
    (l_row : K.lookup f_row = some ⟨oc_row, od_row, .func (PySem.W.fnOf "_law_row" "_law_row" (defArgs s__law_row) (defBody s__law_row) (defScope s__law_row) .none kV_row dc_row pm_row an_row cd_row ct_row), sl_row⟩)
    (c_row : PySem.W.codeIn K cd_row "_law_row" = true)
    (k_row : PySem.W.keepIn K (.ref f_row) = true)
    (a_num : PySem.W.nsIn K mainGlobals "_law_numbers" = some (some (.ref f_num)))
    (l_num : K.lookup f_num = some ⟨oc_num, od_num, .func (PySem.W.fnOf "_law_numbers" "_law_numbers" (defArgs s__law_numbers) (defBody s__law_numbers) (defScope s__law_numbers) .none kV_num dc_num pm_num an_num cd_num ct_num), sl_num⟩)
    (c_num : PySem.W.codeIn K cd_num "_law_numbers" = true)
    (k_num : PySem.W.keepIn K (.ref f_num) = true)
    (a_pl : PySem.W.nsIn K mainGlobals "_law_place" = some (some (.ref f_pl)))
    (l_pl : K.lookup f_pl = some ⟨oc_pl, od_pl, .func (PySem.W.fnOf "_law_place" "_law_place" (defArgs s__law_place) (defBody s__law_place) (defScope s__law_place) .none kV_pl dc_pl pm_pl an_pl cd_pl ct_pl), sl_pl⟩)
    (c_pl : PySem.W.codeIn K cd_pl "_law_place" = true)
    (k_pl : PySem.W.keepIn K (.ref f_pl) = true)
    (a_law : PySem.W.nsIn K mainGlobals "law" = some (some (.ref f_law)))
    (l_law : K.lookup f_law = some ⟨oc_law, od_law, .func (PySem.W.fnOf "law" "law" (defArgs s_law) (defBody s_law) (defScope s_law) .none kV_law dc_law pm_law an_law cd_law ct_law), sl_law⟩)
    (c_law : PySem.W.codeIn K cd_law "law" = true)
    (k_law : PySem.W.keepIn K (.ref f_law) = true)
    (z_abs : PySem.W.nsIn K mainGlobals "abs" = some none)
    (z_all : PySem.W.nsIn K mainGlobals "all" = some none)
    (z_int : PySem.W.nsIn K mainGlobals "int" = some none)
    (z_isinstance : PySem.W.nsIn K mainGlobals "isinstance" = some none)
    (z_len : PySem.W.nsIn K mainGlobals "len" = some none)
    (z_list : PySem.W.nsIn K mainGlobals "list" = some none)
    (z_max : PySem.W.nsIn K mainGlobals "max" = some none)
    (z_range : PySem.W.nsIn K mainGlobals "range" = some none)
    (z_set : PySem.W.nsIn K mainGlobals "set" = some none)
    (z_sorted : PySem.W.nsIn K mainGlobals "sorted" = some none)
    (z_str : PySem.W.nsIn K mainGlobals "str" = some none)
    (z_tuple : PySem.W.nsIn K mainGlobals "tuple" = some none)
    : ∃ fd : FuncData, (∀ (s : Shared) (v : Value), BindsTo s fd ⟨[v], []⟩ [("script", v)]) ∧
      ∀ base : Heap, K.In base → base.Ns mainGlobals mg → TabB base mg c8_nof T0 → FnOk l.prog w K mg base CX0 9 fa fd ["script"] (spLaw K T0) := by
  have e := hfa.symm.trans (PySem.W.mg_of X G a_law)
  cases e
  have F_nof : FunC K "_numbers_of" "_numbers_of" s__numbers_of f_nof c8_nof _ := ⟨⟨_, _, _, _, _, _, _, _, rfl, l_nof, c_nof⟩, k_nof⟩
  have b_nof : Binds K _ ["words", "number"] [] := (fun_mk (st := s__numbers_of) l_nof c_nof k_nof).binds (ps := ["words", "number"]) fun _ _ _ _ _ _ us hl => match us, hl with | [_, _], _ => rfl
  have F_fta := fun_mk (st := s_format_task) l_fta c_fta k_fta
  have b_fta := F_fta.binds (ps := ["task"]) fun _ _ _ _ _ _ us hl => match us, hl with | [_], _ => rfl
  have F_fwa := fun_mk (st := s_format_walk) l_fwa c_fwa k_fwa
  have b_fwa := F_fwa.binds (ps := ["walk"]) fun _ _ _ _ _ _ us hl => match us, hl with | [_], _ => rfl
  have F_pta := fun_mk (st := s_parse_task) l_pta c_pta k_pta
  have b_pta := F_pta.binds (ps := ["text"]) fun _ _ _ _ _ _ us hl => match us, hl with | [_], _ => rfl
  have F_pwa := fun_mk (st := s_parse_walk) l_pwa c_pwa k_pwa
  have b_pwa := F_pwa.binds (ps := ["text"]) fun _ _ _ _ _ _ us hl => match us, hl with | [_], _ => rfl
  have F_ro := fun_mk (st := s__row) l_ro c_ro k_ro
  have b_ro := F_ro.binds (ps := ["head", "numbers"]) fun _ _ _ _ _ _ us hl => match us, hl with | [_, _], _ => rfl
  have F_isn := fun_mk (st := s_is_number) l_isn c_isn k_isn
  have b_isn := F_isn.binds (ps := ["word"]) fun _ _ _ _ _ _ us hl => match us, hl with | [_], _ => rfl
  have F_nin := fun_mk (st := s__numbers_in) l_nin c_nin k_nin
  have b_nin := F_nin.binds (ps := ["lines", "number", "head"]) fun _ _ _ _ _ _ us hl => match us, hl with | [_, _, _], _ => rfl
  have F_pin := fun_mk (st := s__place_in) l_pin c_pin k_pin
  have b_pin := F_pin.binds (ps := ["lines", "number", "word"]) fun _ _ _ _ _ _ us hl => match us, hl with | [_, _, _], _ => rfl
  have F_twl := fun_mk (st := s__task_with_line) l_twl c_twl k_twl
  have b_twl := F_twl.binds (ps := ["task", "lines", "number"]) fun _ _ _ _ _ _ us hl => match us, hl with | [_, _, _], _ => rfl
  have F_row := fun_mk (st := s__law_row) l_row c_row k_row
  have b_row := F_row.binds (ps := ["cell", "many"]) fun _ _ _ _ _ _ us hl => match us, hl with | [_, _], _ => rfl
  have F_num := fun_mk (st := s__law_numbers) l_num c_num k_num
  have b_num := F_num.binds (ps := ["script", "many"]) fun _ _ _ _ _ _ us hl => match us, hl with | [_, _], _ => rfl
  have F_pl := fun_mk (st := s__law_place) l_pl c_pl k_pl
  have b_pl := F_pl.binds (ps := ["numbers", "at", "most"]) fun _ _ _ _ _ _ us hl => match us, hl with | [_, _, _], _ => rfl
  have F_law := fun_mk (st := s_law) l_law c_law k_law
  have b_law := F_law.binds (ps := ["script"]) fun _ _ _ _ _ _ us hl => match us, hl with | [_], _ => rfl
  have F_tin := fun_mk (st := s_Task___init__) l_tin c_tin k_tin
  have b_tin := F_tin.binds (ps := ["self", "start", "end", "picks"]) fun _ _ _ _ _ _ us hl => match us, hl with | [_, _, _, _], _ => rfl
  have F_tha := fun_mk (st := s_Task_has_pick) l_tha c_tha k_tha
  have b_tha := F_tha.binds (ps := ["self", "place"]) fun _ _ _ _ _ _ us hl => match us, hl with | [_, _], _ => rfl
  have F_twi := fun_mk (st := s_Task_with_pick) l_twi c_twi k_twi
  have b_twi := F_twi.binds (ps := ["self", "place"]) fun _ _ _ _ _ _ us hl => match us, hl with | [_, _], _ => rfl
  have F_tsm := fun_mk (st := s_Task_same_as) l_tsm c_tsm k_tsm
  have b_tsm := F_tsm.binds (ps := ["self", "other"]) fun _ _ _ _ _ _ us hl => match us, hl with | [_, _], _ => rfl
  have F_tpk := fun_mk (st := s_Task_picks) l_tpk c_tpk k_tpk
  have b_tpk := F_tpk.binds (ps := ["self"]) fun _ _ _ _ _ _ us hl => match us, hl with | [_], _ => rfl
  have F_iCTK := fun_mk (st := s_PickTaken___init__) l_iCTK c_iCTK k_iCTK
  have b_iCTK := F_iCTK.binds (ps := ["self", "place"]) fun _ _ _ _ _ _ us hl => match us, hl with | [_, _], _ => rfl
  have o_CTK : OexC K CTK := ⟨⟨nm0, qn0, N0, bs0, _, sn0, sb0, ab0, co0, dd0, ma0, mb0, mc0, md0, me0, xlCTK, rfl⟩, saCTK, sbCTK, tyCTK, kpCTK⟩
  have F_iCN := fun_mk (st := s_InvalidNotation___init__) l_iCN c_iCN k_iCN
  have b_iCN := F_iCN.binds (ps := ["self", "line"]) fun _ _ _ _ _ _ us hl => match us, hl with | [_, _], _ => rfl
  have o_CN : OexC K CN := ⟨⟨nm1, qn1, N1, bs1, _, sn1, sb1, ab1, co1, dd1, ma1, mb1, mc1, md1, me1, xlCN, rfl⟩, saCN, sbCN, tyCN, kpCN⟩
  have D : DrawTxt mg f_row := ⟨PySem.W.mg_none_of X G z_abs, PySem.W.mg_none_of X G z_int, PySem.W.mg_none_of X G z_range, PySem.W.mg_none_of X G z_len, PySem.W.mg_none_of X G z_max, PySem.W.mg_of X G a_row⟩
  have N : NoteTop mg := { str := PySem.W.mg_none_of X G z_str, len := PySem.W.mg_none_of X G z_len, all := PySem.W.mg_none_of X G z_all, int := PySem.W.mg_none_of X G z_int, range := PySem.W.mg_none_of X G z_range, digits := ⟨tk2, PySem.W.mg_of X G digi⟩ }
  have U : NotTxt K mg CN f_iCN := { g := PySem.W.mg_of X G a_CN, o := o_CN, n := noCN, i := a_iCN, y := tiCN }
  have TT : TaskTxt K mg CT CIT := { cl := ⟨pg_CT, hd_CT, po_CT, sa_CT⟩, nS := tstart, nE := tend, nP := tppicks, mgC := PySem.W.mg_of X G a_CT, len := PySem.W.mg_none_of X G z_len, set := PySem.W.mg_none_of X G z_set, sorted := PySem.W.mg_none_of X G z_sorted, list := PySem.W.mg_none_of X G z_list, most := ⟨tk1, PySem.W.mg_of X G most⟩, gI := PySem.W.mg_of X G a_CIT, kI := kpCIT, xI := exCIT, bI := sbCIT, tI := tyCIT }
  have CH : ChgTxt K mg CTK CL f_iCTK := { gT := PySem.W.mg_of X G a_CTK, oT := o_CTK, nT := noCTK, iT := a_iCTK, yT := tiCTK, gL := PySem.W.mg_of X G a_CL, kL := kpCL, xL := exCL, bL := sbCL, tL := tyCL }
  have hPr : PropOf K CT "picks" pp f_tpk := ⟨pa, pg, pt, prest, pr⟩
  have MT : Mk K CT f_tin := ⟨mk_CT, a_tin, i_tin, kc_CT⟩
  have m_tin : Meth K CT "__init__" f_tin := ⟨a_tin, i_tin, k_tin⟩
  have m_tha : Meth K CT "has_pick" f_tha := ⟨a_tha, i_tha, k_tha⟩
  have m_twi : Meth K CT "with_pick" f_twi := ⟨a_twi, i_twi, k_twi⟩
  have m_tsm : Meth K CT "same_as" f_tsm := ⟨a_tsm, i_tsm, k_tsm⟩
  refine ⟨PySem.W.fnOf "law" "law" (defArgs s_law) (defBody s_law) (defScope s_law) .none kV_law dc_law pm_law an_law cd_law ct_law, fun s v => .of_eq rfl, fun base _ _ TB => ?_⟩
  have gPk := ok_picks (P := l.prog) (w := w) (mg := mg) (base := base) F_tpk TT
  have gTk := ok_task (P := l.prog) (w := w) (mg := mg) (base := base) F_tin TT
  have gIN := ok_notinit (C := CN) (P := l.prog) (w := w) (mg := mg) (base := base) F_iCN
  have gNu := ok_isnum (P := l.prog) (w := w) (mg := mg) (base := base) F_isn N
  have gNo := ok_nums (P := l.prog) (w := w) (mg := mg) (base := base) F_nof N TB U gIN b_iCN F_isn gNu b_isn (PySem.W.mg_of X G a_isn)
  have gIn := ok_in (P := l.prog) (w := w) (mg := mg) (base := base) F_nin N U gIN b_iCN k_nof gNo b_nof (PySem.W.mg_of X G a_nof)
  have gPi := ok_plin (P := l.prog) (w := w) (mg := mg) (base := base) F_pin N (PySem.W.mg_none_of X G z_max) ⟨tk3, PySem.W.mg_of X G grea⟩ U gIN b_iCN k_nin gIn b_nin (PySem.W.mg_of X G a_nin)
  have gWi := ok_with (P := l.prog) (w := w) (mg := mg) (base := base) F_twi TT CH MT F_tin b_tin F_tha b_tha m_tha F_iCTK b_iCTK
  have gLi := ok_line (P := l.prog) (w := w) (mg := mg) (base := base) F_twl TT k_pin gPi b_pin (PySem.W.mg_of X G a_pin) m_twi gWi b_twi
  have gPa := ok_parse (P := l.prog) (w := w) (mg := mg) (base := base) F_pta N TT k_pin gPi b_pin (PySem.W.mg_of X G a_pin) MT gTk b_tin k_twl gLi b_twl (PySem.W.mg_of X G a_twl)
  have gPw := ok_pwalk (P := l.prog) (w := w) (mg := mg) (base := base) F_pwa N U gIN b_iCN k_nof gNo b_nof (PySem.W.mg_of X G a_nof)
  have gRo := ok_rowT (P := l.prog) (w := w) (mg := mg) (base := base) F_ro N
  have gFt := ok_ftask (P := l.prog) (w := w) (mg := mg) (base := base) F_fta N TT k_ro gRo b_ro (PySem.W.mg_of X G a_ro) gPk b_tpk hPr
  have gFw := ok_fwalk (P := l.prog) (w := w) (mg := mg) (base := base) F_fwa
  exact ok_law F_law { C := CT, CI := CIT, CN := CN, T0 := T0, fT := f_tin, fdT := _, MT := MT, GT := gTk, bT := b_tin, mgT := PySem.W.mg_of X G a_CT, cl := TT.cl, fS := f_tsm, fdS := _, mS := m_tsm, GS := ok_same F_tsm TT F_tpk b_tpk hPr, bS := b_tsm, fP := f_tpk, pp := pp, fdP := _, hP := hPr, GP := gPk, bP := b_tpk, Nu := ⟨f_num, _, ok_numbers F_num D F_row b_row, b_num, PySem.W.mg_of X G a_num, k_num⟩, Pc := ⟨f_pl, _, ok_plc F_pl (PySem.W.mg_none_of X G z_int), b_pl, PySem.W.mg_of X G a_pl, k_pl⟩, Ft := ⟨f_fta, _, gFt, b_fta, PySem.W.mg_of X G a_fta, k_fta⟩, Fw := ⟨f_fwa, _, gFw, b_fwa, PySem.W.mg_of X G a_fwa, k_fwa⟩, Pt := ⟨f_pta, _, gPa, b_pta, PySem.W.mg_of X G a_pta, k_pta⟩, Pw := ⟨f_pwa, _, gPw, b_pwa, PySem.W.mg_of X G a_pwa, k_pwa⟩, int := PySem.W.mg_none_of X G z_int, str := PySem.W.mg_none_of X G z_str, range := PySem.W.mg_none_of X G z_range, sorted := PySem.W.mg_none_of X G z_sorted, list := PySem.W.mg_none_of X G z_list, tuple := PySem.W.mg_none_of X G z_tuple, isi := PySem.W.mg_none_of X G z_isinstance, all := PySem.W.mg_none_of X G z_all }
theorem walk {l : PySem.W.OpenLaw} {q : Program} {loose : List Str} {XP : (Str → Option Value) → Heap → Prop} {YP : World → Heap → Prop} {d : DefRec} {K : Params → PySem.W.Frag} {cN T0 : Addr}
    (hn : l.most = some 63) (hdf : d.params.defaults = []) (hY : ∀ (w : World) (h : Heap), YP w h → (K w.params).In h) (hT : ∀ (w : World) (h : Heap), YP w h → ∀ P ∈ [T0], h.get? P = some (PySem.W.tabObj #[]))
    (nT : ∀ w : World, (K w.params).lookup T0 = none) (eN : ∀ w : World, PySem.W.codeHdIn (K w.params) cN T0 = true)
    (F : ∀ (w : World) (mg : Str → Option Value) (fa : Addr) (h : Heap), (K w.params).In h → h.Ns mainGlobals mg → mg d.name = some (.ref fa) →
      ∃ fd : FuncData, (∀ (s : Shared) (u : Value), BindsTo s fd ⟨[u], []⟩ [("script", u)]) ∧
        ∀ base : Heap, (K w.params).In base → base.Ns mainGlobals mg → TabB base mg cN T0 → FnOk l.prog w (K w.params) mg base CX0 9 fa fd ["script"] (spLaw (K w.params) T0)) :
    PySem.W.WalkO q loose XP YP l.row.toRowW d [] (fun f vs => PySem.call f vs) := by
  refine LamX.walk_ofTs (n := 63) (k := 9) (x := "script") (CX := fun _ => CX0) hn (by decide) hdf ⟨rfl, by decide, by decide⟩ hY (fun w mg fa h Y KX G hmg => ?_) (fun _ _ _ _ _ z => z)
  obtain ⟨fd, hb, hF⟩ := F w mg fa h KX G hmg
  refine ⟨fd, [(cN, T0)], spLaw (K w.params) T0, fun p hp => ?_, fun p hp => ?_, fun p hp => ?_, hb, fun H a ns hl _ hS hq => ⟨a, ns, rfl, hq, hl, ⟨#[], hS (cN, T0) (by simp), trivial⟩, fun _ => rfl⟩, fun base b1 b2 T => hF base b1 b2 (let h := T (cN, T0) (by simp); ⟨h.code, h.bm, h.gP⟩)⟩
  all_goals rw [List.mem_singleton.mp hp]
  · exact hT w h Y _ (by simp)
  · exact nT w
  · exact PySem.W.codeHd_of_K KX (eN w)
end


end Pk
open PySem PySem.W PyProof.Rows
set_option maxRecDepth 100000 in
set_option maxHeartbeats 0 in
theorem PySem.Challenge.cw_pickaisle_k09_written_tasks_and_walks_holds : PySem.Challenge.rw_pickaisle_k09_written_tasks_and_walks.Holds := by
  w_on; o_law; o_head (kmHook hd.heap_39 [2, 3, 15, 17, 18, 20, 21, 22, 29, 30, 31, 32, 35, 42, 43, 44, 47, 54, 55, 56, 59, 66, 68, 69, 71, 72, 73, 74, 75, 78, 85, 87, 88, 90, 91, 92, 93, 94, 104, 106, 107, 109, 110, 111, 113, 114, 116, 117, 118, 119, 121, 122, 124, 125, 126, 128, 129, 131, 132, 133, 135, 136, 138, 139, 140, 142, 143, 145, 146, 147, 149, 150, 152, 153, 154, 156, 157, 159, 160, 161, 163, 164, 166, 167, 168, 169, 170, 171, 172, 175, 178, 179, 180, 183, 184, 185, 187, 188, 190, 191, 192, 194, 195, 197, 198, 199, 202, 203, 204, 206, 207, 209, 210, 211, 214, 215, 216, 218, 219, 221, 222, 223, 225, 226, 228, 229, 230, 232, 233, 235, 236, 237, 239, 240, 242, 243, 244, 246, 247, 249, 250, 251, 253, 254, 256, 257, 258, 261, 262] (fun _ => by kernel_rfl) [212]); (case hw => w_witness2)
  k_fill
  refine Pk.walk (l := PySem.Challenge.rw_pickaisle_k09_written_tasks_and_walks) (cN := 214) (T0 := 212) rfl rfl (fun w h Y => km_in_of Y) (fun w h Y => km_tabs_of Y) (fun w => by kernel_rfl) (fun w => by kernel_rfl) ?F
  case F =>
    intro w mg fa h KX G hmg
    refine' Pk.all_mk KX G hmg ?a_CL ?kpCL ?exCL ?sbCL ?tyCL ?a_CIT ?kpCIT ?exCIT ?sbCIT ?tyCIT ?a_Pe ?a_CTK ?kpCTK ?sbCTK ?tyCTK ?xlCTK ?saCTK ?noCTK ?a_iCTK ?tiCTK ?l_iCTK ?c_iCTK ?k_iCTK ?a_CN ?kpCN ?sbCN ?tyCN ?xlCN ?saCN ?noCN ?a_iCN ?tiCN ?l_iCN ?c_iCN ?k_iCN ?a_CT ?pg_CT ?hd_CT ?po_CT ?sa_CT ?mk_CT ?kc_CT ?tstart ?tend ?tppicks ?most ?digi ?grea ?a_tin ?i_tin ?l_tin ?c_tin ?k_tin ?a_tha ?i_tha ?l_tha ?c_tha ?k_tha ?a_twi ?i_twi ?l_twi ?c_twi ?k_twi ?a_tsm ?i_tsm ?l_tsm ?c_tsm ?k_tsm ?pa ?pg ?pt ?pr ?l_tpk ?c_tpk ?k_tpk ?a_nof ?l_nof ?c_nof ?k_nof ?a_fta ?l_fta ?c_fta ?k_fta ?a_fwa ?l_fwa ?c_fwa ?k_fwa ?a_pta ?l_pta ?c_pta ?k_pta ?a_pwa ?l_pwa ?c_pwa ?k_pwa ?a_ro ?l_ro ?c_ro ?k_ro ?a_isn ?l_isn ?c_isn ?k_isn ?a_nin ?l_nin ?c_nin ?k_nin ?a_pin ?l_pin ?c_pin ?k_pin ?a_twl ?l_twl ?c_twl ?k_twl ?a_row ?l_row ?c_row ?k_row ?a_num ?l_num ?c_num ?k_num ?a_pl ?l_pl ?c_pl ?k_pl ?a_law ?l_law ?c_law ?k_law ?z_abs ?z_all ?z_int ?z_isinstance ?z_len ?z_list ?z_max ?z_range ?z_set ?z_sorted ?z_str ?z_tuple
    (case a_CL => k_is)
    (case kpCL => k_is)
    (case exCL => k_exc)
    (case sbCL => k_is)
    (case tyCL => k_is)
    (case a_CIT => k_is)
    (case kpCIT => k_is)
    (case exCIT => k_exc)
    (case sbCIT => k_is)
    (case tyCIT => k_is)
    (case a_Pe => k_is)
    (case a_CTK => k_is)
    (case kpCTK => k_is)
    (case sbCTK => k_is)
    (case tyCTK => k_is)
    (case xlCTK => k_is)
    (case saCTK => k_is)
    (case noCTK => k_is)
    (case a_iCTK => k_is)
    (case tiCTK => k_is)
    (case l_iCTK => k_is)
    (case c_iCTK => k_is)
    (case k_iCTK => k_is)
    (case a_CN => k_is)
    (case kpCN => k_is)
    (case sbCN => k_is)
    (case tyCN => k_is)
    (case xlCN => k_is)
    (case saCN => k_is)
    (case noCN => k_is)
    (case a_iCN => k_is)
    (case tiCN => k_is)
    (case l_iCN => k_is)
    (case c_iCN => k_is)
    (case k_iCN => k_is)
    (case a_CT => k_is)
    (case pg_CT => k_is)
    (case hd_CT => k_is)
    (case po_CT => k_is)
    (case sa_CT => k_is)
    (case mk_CT => k_is)
    (case kc_CT => k_is)
    (case tstart => k_is)
    (case tend => k_is)
    (case tppicks => k_is)
    (case most => k_is)
    (case digi => k_is)
    (case grea => k_is)
    (case a_tin => k_is)
    (case i_tin => k_is)
    (case l_tin => k_is)
    (case c_tin => k_is)
    (case k_tin => k_is)
    (case a_tha => k_is)
    (case i_tha => k_is)
    (case l_tha => k_is)
    (case c_tha => k_is)
    (case k_tha => k_is)
    (case a_twi => k_is)
    (case i_twi => k_is)
    (case l_twi => k_is)
    (case c_twi => k_is)
    (case k_twi => k_is)
    (case a_tsm => k_is)
    (case i_tsm => k_is)
    (case l_tsm => k_is)
    (case c_tsm => k_is)
    (case k_tsm => k_is)
    (case pa => k_is)
    (case pg => k_is)
    (case pt => k_is)
    (case pr => k_is)
    (case l_tpk => k_is)
    (case c_tpk => k_is)
    (case k_tpk => k_is)
    (case a_nof => k_is)
    (case l_nof => k_is)
    (case c_nof => k_is)
    (case k_nof => k_is)
    (case a_fta => k_is)
    (case l_fta => k_is)
    (case c_fta => k_is)
    (case k_fta => k_is)
    (case a_fwa => k_is)
    (case l_fwa => k_is)
    (case c_fwa => k_is)
    (case k_fwa => k_is)
    (case a_pta => k_is)
    (case l_pta => k_is)
    (case c_pta => k_is)
    (case k_pta => k_is)
    (case a_pwa => k_is)
    (case l_pwa => k_is)
    (case c_pwa => k_is)
    (case k_pwa => k_is)
    (case a_ro => k_is)
    (case l_ro => k_is)
    (case c_ro => k_is)
    (case k_ro => k_is)
    (case a_isn => k_is)
    (case l_isn => k_is)
    (case c_isn => k_is)
    (case k_isn => k_is)
    (case a_nin => k_is)
    (case l_nin => k_is)
    (case c_nin => k_is)
    (case k_nin => k_is)
    (case a_pin => k_is)
    (case l_pin => k_is)
    (case c_pin => k_is)
    (case k_pin => k_is)
    (case a_twl => k_is)
    (case l_twl => k_is)
    (case c_twl => k_is)
    (case k_twl => k_is)
    (case a_row => k_is)
    (case l_row => k_is)
    (case c_row => k_is)
    (case k_row => k_is)
    (case a_num => k_is)
    (case l_num => k_is)
    (case c_num => k_is)
    (case k_num => k_is)
    (case a_pl => k_is)
    (case l_pl => k_is)
    (case c_pl => k_is)
    (case k_pl => k_is)
    (case a_law => k_is)
    (case l_law => k_is)
    (case c_law => k_is)
    (case k_law => k_is)
    (case z_abs => k_is)
    (case z_all => k_is)
    (case z_int => k_is)
    (case z_isinstance => k_is)
    (case z_len => k_is)
    (case z_list => k_is)
    (case z_max => k_is)
    (case z_range => k_is)
    (case z_set => k_is)
    (case z_sorted => k_is)
    (case z_str => k_is)
    (case z_tuple => k_is)


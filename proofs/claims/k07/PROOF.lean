import PyProof.Rows.All
import Wide.All
import OpenK.AllK
import Wide.FinOn
import KE.KExcIs
import KE.SortData
import KE.KNestM
import PyProof.StrBlock2
import HandS.ForMost
import HandS.Deep
import HandS.TupSets
import HandS.SortRule
import HandS.ForExc
import HandS.ExcInit
import HandS.ExcIs
import HandS.ExcField
import HandS.ExcValue
import HandS.ExcOwn
import HandS.Property
import HandS.CallSlots
import HandS.Style
import HandS.IsInst
import HandS.Codes
import HandS.TupLen
import HandS.Small
import HandS.EndTab
import HandS.GenList
import HandS.Nested
import HandS.AnyAll
import HandS.DictComp
import HandS.Dict
import HandS.Comp
import HandS.Conv
import HandS.Words
import HandS.WordsExc
import HandS.Text
import HandS.FStr
import KE.DataMinMax
import PySem.Challenge.RW_pickaisle_k07_written_houses_and_back
set_option Elab.async false
set_option linter.all false
set_option maxRecDepth 100000
set_option maxHeartbeats 8000000
open PySem PySem.W PyProof.Rows in
open_top hd for PySem.Challenge.rw_pickaisle_k07_written_houses_and_back
namespace Pk
open PySem L2
/-! ### errors that are held as values -/
/-- at a: an error of the class at D that is held; fs: its own attributes -/
def XvAt (H : Hp) (a D : Addr) (fs : List (Str × V)) : Prop :=
  (H a = some (ExO (.ref D) a) ∧ fs = []) ∨ ∃ d, H a = some (exo a D (some d)) ∧ H d = some (exd d fs)
theorem XvAt.same {H H' : Hp} {a D : Addr} {fs : List (Str × V)} (h : XvAt H a D fs) (k : Same H H') : XvAt H' a D fs := by
  rcases h with ⟨h, e⟩ | ⟨d, h, e⟩
  · exact .inl ⟨k _ _ h, e⟩
  · exact .inr ⟨d, k _ _ h, k _ _ e⟩
section
variable {X : Cx} {pins : List (Addr × Obj)} {σ : St} {H : Hp} {s : Shared}
theorem xv_inst {a D : Addr} {fs : List (Str × V)} (I : Inv X pins σ H s) (h : XvAt H a D fs) :
    ∃ oe od, PySem.W.InstAt s.heap a oe D od ∧ ∀ (f : Str) (v : V), fs.lookup f = some v → ∃ o u, od = some o ∧ PySem.W.lookIn f o = some (some u) ∧ RelV v u := by
  rcases h with ⟨h, rfl⟩ | ⟨d, h, e⟩
  · obtain ⟨⟨oe, vs, ho, hz, hd, h1, _⟩, _, _⟩ := I.hok a _ h
    refine ⟨oe, none, ⟨ho, hz.1, by unfold PySem.W.notCls; rw [hd], by rw [hz.2]; trivial⟩, fun f v l => ?_⟩
    cases l
  · obtain ⟨t1, ho⟩ := exo_at I.hok h
    obtain ⟨mA, hn, hr⟩ := exd_at I.hok e
    obtain ⟨od, hod, hl⟩ := lookIn_ns hn
    refine ⟨_, some od, ⟨ho, rfl, rfl, hod⟩, fun f v l => ?_⟩
    have q := hr f
    rw [l] at q
    obtain ⟨u, hu, ru⟩ := RelO.some_of q
    exact ⟨od, u, rfl, by rw [hl, hu], ru⟩
end
/-- isinstance(e, c), e an error that is held -/
def rIsV (K : PySem.W.Frag) : List V → Hp → VK → Prop := fun xs H Q => ∃ (a D : Addr) (fs : List (Str × V)) (c : V) (cv : Value) (b : Bool),
  xs = [.ref a, c] ∧ XvAt H a D fs ∧ ExcC K D ∧ (∀ u, RelV c u → u = cv) ∧ PySem.W.kitOne K (.ref D) cv = some b ∧ Q (.bl b) H
theorem call_isV {X : Cx} : CallR X (.builtin "isinstance") (rIsV X.K) := by
  intro pins s σ H xs us Q I r h
  obtain ⟨a, D, fs, c, cv, b, rfl, hx, C, hcv, e, q⟩ := h
  cases r with
  | cons rx rr =>
    cases rr with
    | cons rt rr =>
      cases rr
      cases rx
      obtain rfl := hcv _ rt
      obtain ⟨oe, od, J, _⟩ := xv_inst I hx
      have hcl : (PySem.W.clsIn X.K D).isSome = true := by
        obtain ⟨cd, hc, _⟩ := PySem.W.any_some C.hd
        rw [hc]
        rfl
      exact PySem.W.kia_one (PySem.W.kitx_exc hcl C.hg C.hk C.hs C.ha C.hn C.ht C.hm) I.kIn J e (fun z => nomatch z)
        fun tk => ⟨.bl b, H, I.kept (t' := tk) (fun _ _ z => z), rfl, q⟩
/-- e.f, e an error that is held -/
def tXvF (K : PySem.W.Frag) (n : Str) (te : TE) : TE := fun σ H Q => te σ H fun x H1 => ∃ (a C : Addr) (fs : List (Str × V)) (v : V),
  x = .ref a ∧ XvAt H1 a C fs ∧ XfC K C ∧ PySem.W.findIn K (.ref C) n = some none ∧ fs.lookup n = some v ∧ Q v H1
theorem pe_xvF {X : Cx} {e : Expr} {te : TE} {pos : Pos} {n : Str} (he : PE X e te) (hb : attributeBase e n X.env (eval e X.env) = eval e X.env := by rfl) :
    PE X (.Attribute e n pos) (tXvF X.K n te) := by
  refine ⟨fun pins s σ H Q I h => attr_of hb (thn (he.run pins s σ H _ I h) fun u s1 hh => ?_)⟩
  obtain ⟨x, H1, I1, rx, a, C, fs, v, rfl, hx, T, hno, l, q⟩ := hh
  obtain rfl : u = Value.ref a := rx
  obtain ⟨oe, od, J, hf⟩ := xv_inst I1 hx
  obtain ⟨o, u, rfl, hl, ru⟩ := hf n v l
  exact HandSPX.exc_get I1.kIn J T.ga T.gg T.exC (PySem.W.findObj_own T.hdC hno rfl hl) (handed_of ru) ⟨v, H1, I1.tok _, ru, q⟩
/-- C(e, ..) as a value, C an own class of errors whose __init__ keeps sp -/
def tMkV (C : Addr) (sp : Sp) (dvs : List V) (ta : TA) : TE := fun σ H Q => ta σ H fun vs H1 => vs.length ≤ 1000 ∧ ∀ a, H1 a = none →
  sp (.ref a :: (vs ++ dvs)) (upd H1 a (exo a C none)) (fun v H2 => v = .non ∧ Q (.ref a) H2) (fun _ _ _ => False)
section
variable {X : Cx} {e : Expr} {es : List Expr} {te : TE} {ta : TA} {p pos : Pos}
theorem pe_oexV {CX : CXT} {x : Str} {C fI : Addr} {k : Nat} {fd : FuncData} {ps : List Str} {sp : Sp} {ds : List Value} {dvs : List V} (T : OexC X.K C)
    (iC : PySem.W.findIn X.K (.ref C) "__init__" = some (some (.ref fI))) (tI : PySem.W.typeIn X.K (.ref fI) = some (.type "function"))
    (F1 : FnOk X.prog X.w X.K X.mg X.base CX k fI fd ps sp) (hr : Room (k + 1) X.A) (hb : Binds X.K fd ps ds) (hd : Vals dvs ds) (hx : Passes CX X (fun _ _ _ => False)) (hg : Gl X x) (hm : X.mg x = some (.ref C)) (ha : PA X (e :: es) ta)
    (hdb : (x == ("__debug__" : Str)) = false := by decide) (he : starEach (e :: es) X.env = (false, eval e X.env) :: starEach es X.env := by rfl) (hpl : (backTo pos (starEach es X.env)).any (·.1) = false := by rfl) :
    PE X (.Call (.Name x p) (e :: es) [] pos) (tMkV C sp dvs ta) := by
  refine ⟨fun pins s σ H Q I h => ?_⟩
  obtain ⟨nm, qn, N, bs, bm, sn, sb, ab, co, dd, k0, k1, k2, k3, k5, hC, hbm⟩ := T.cls
  refine wpAny_Call_Name_kw (ld_glob I hg hm ?_ hdb)
  refine PySem.W.callWith_K (h₀ := X.base) I.ok.mod.kin T.kC (thn (ha.run pos pins s σ H _ I h) fun us s1 hh => ?_) he hpl
  obtain ⟨vs, H1, I1, r1, hz, q1⟩ := hh
  refine ⟨I1.kIn, ?_⟩
  show wpAny _ _ (call (.ref C) us) _ _ _
  obtain ⟨hp, g, dr, tk, os⟩ := s1
  have hsz : hp.objs.size ≤ hp.objs.size + 1 := Nat.le_add_right _ 1
  have hn : H1 (hp.objs.size + 1) = none := I1.hok.fresh hsz
  have kk : ∀ b o, hp.get? b = some o → ((hp.push (PySem.W.kdv_tup us)).push (PySem.HandSPX.excO C hp.objs.size)).get? b = some o :=
    fun b o z => Heap.get?_push_of_some _ (Heap.get?_push_of_some _ z)
  have hget : ((hp.push (PySem.W.kdv_tup us)).push (PySem.HandSPX.excO C hp.objs.size)).get? (hp.objs.size + 1) = some (PySem.HandSPX.excO C hp.objs.size) := by
    heap_get
  have I2 : Inv X pins σ (upd H1 (hp.objs.size + 1) (exo (hp.objs.size + 1) C none))
      ⟨(hp.push (PySem.W.kdv_tup us)).push (PySem.HandSPX.excO C hp.objs.size), g, dr, tk, os⟩ := I1.laid (t' := tk) kk hsz (exo_ok hget)
  have r2 : Vals (V.ref (hp.objs.size + 1) :: (vs ++ dvs)) (Value.ref (hp.objs.size + 1) :: (us ++ ds)) := .cons rfl (r1.append hd)
  have hq := q1 (hp.objs.size + 1) hn
  have hl : (Value.ref (hp.objs.size + 1) :: us ++ ds).length = ps.length := by
    have z := r2.length
    rw [F1.len _ _ _ _ hq] at z
    exact z.symm
  have hus : us.length ≤ sizeLine := by
    have z := Paired.length r1
    rw [sizeLine_eq]
    omega
  refine wpAny_call (PySem.HandSPX.call_own F.excBase_ValueError (fun Y => PySem.HandSPX.refsVE_contains Y bm hbm) (I1.kIn _ _ hC)
    (PySem.W.looks_findIn I1.kIn iC) (fun self => PySem.W.bind_fn I1.kIn self tI) hus ?_)
  refine codeAny_mono (F1.run _ X.stack _ _ ⟨Value.ref (hp.objs.size + 1) :: us, []⟩ (Value.ref (hp.objs.size + 1) :: (us ++ ds)) _ _
    (fun _ _ _ => False) (hr.make C us []) (I2.env0.make C us []) (hb _ (Value.ref (hp.objs.size + 1) :: us) I2.kIn hl) r2 hq) fun r s' hq' => ?_
  cases r with
  | error er => exact hx pins σ _ _ er s' I2 hq'
  | ok fl =>
    cases fl with
    | ret u =>
      obtain ⟨v, H3, I3, rv, ev, q3⟩ := I2.after hq'
      subst ev
      exact ⟨rv, V.ref (hp.objs.size + 1), H3, I3, rfl, q3⟩
    | next => exact hq'.elim
    | brk => exact hq'.elim
    | cont => exact hq'.elim
end
/-- __init__(self, v): self.f = v, of an own class of errors -/
def spXI (K : PySem.W.Frag) (C : Addr) (f : Str) : Sp := fun vs H Q _ => ∃ (a : Addr) (v : V), vs = [.ref a, v] ∧ OexC K C ∧ PySem.W.findIn K (.ref C) f = some none ∧ H a = some (exo a C none) ∧
  ∀ dx, H dx = none → dx ≠ a → Q .non (upd (upd H dx (exd dx [(f, v)])) a (exo a C (some dx)))
/-- text * n -/
theorem op_rep_str {X : Cx} : OpR X (binaryOp .Mult) (fun x y H Q => ∃ z i, x = .str z ∧ y = .int i ∧ MulOk z i ∧ Q (.str (Txt.mul z i)) H) := by
  intro pins s σ H x y v u Q I rx ry h
  obtain ⟨z, i, rfl, rfl, hc, q⟩ := h
  obtain ⟨t, rfl⟩ := rx
  obtain ⟨t', rfl⟩ := ry
  exact SB.mul hc fun t' k => ⟨.str (Txt.mul z i), H, I.tok _, ⟨_, rfl⟩, q⟩

/-! ### places: tuples of two numbers, lists of them -/
abbrev Pl := Int × Int
/-- v is a tuple that holds the place p -/
def Pr (H : Hp) (v : V) (p : Pl) : Prop := ∃ t, v = .ref t ∧ H t = some (.tup [.int p.1, .int p.2])
theorem Pr.same {H H' : Hp} {v : V} {p : Pl} (h : Pr H v p) (k : Same H H') : Pr H' v p := by
  obtain ⟨t, rfl, h⟩ := h
  exact ⟨t, rfl, k _ _ h⟩
inductive Prs (H : Hp) : List V → List Pl → Prop
  | nil : Prs H [] []
  | cons {v : V} {p : Pl} {vs : List V} {ps : List Pl} : Pr H v p → Prs H vs ps → Prs H (v :: vs) (p :: ps)
theorem Prs.same {H H' : Hp} {vs : List V} {ps : List Pl} (h : Prs H vs ps) (k : Same H H') : Prs H' vs ps := by
  induction h with
  | nil => exact .nil
  | cons a _ ih => exact .cons (a.same k) ih
theorem Prs.len {H : Hp} {vs : List V} {ps : List Pl} (h : Prs H vs ps) : vs.length = ps.length := by
  induction h with
  | nil => rfl
  | cons a _ ih => exact congrArg (· + 1) ih
theorem Prs.app {H : Hp} {vs us : List V} {ps qs : List Pl} (h : Prs H vs ps) (k : Prs H us qs) : Prs H (vs ++ us) (ps ++ qs) := by
  induction h with
  | nil => exact k
  | cons a _ ih => exact .cons a ih
theorem Prs.snoc {H : Hp} {vs : List V} {v : V} {ps : List Pl} {p : Pl} (h : Prs H vs ps) (k : Pr H v p) : Prs H (vs ++ [v]) (ps ++ [p]) := h.app (.cons k .nil)
theorem Prs.at {H : Hp} {vs : List V} {ps : List Pl} (h : Prs H vs ps) : ∀ {i : Nat} {v : V}, vs[i]? = some v → ∃ p, ps[i]? = some p ∧ Pr H v p := by
  induction h with
  | nil => intro i v e; cases e
  | cons a _ ih =>
    intro i v e
    cases i with
    | zero => cases e; exact ⟨_, rfl, a⟩
    | succ i => exact ih e
theorem Prs.take {H : Hp} {vs : List V} {ps : List Pl} (h : Prs H vs ps) : ∀ n, Prs H (vs.take n) (ps.take n) := by
  induction h with
  | nil => intro n; cases n <;> exact .nil
  | cons a _ ih => intro n; cases n with
    | zero => exact .nil
    | succ n => exact .cons a (ih n)
theorem Prs.drop {H : Hp} {vs : List V} {ps : List Pl} (h : Prs H vs ps) : ∀ n, Prs H (vs.drop n) (ps.drop n) := by
  induction h with
  | nil => intro n; cases n <;> exact .nil
  | cons a r ih => intro n; cases n with
    | zero => exact .cons a r
    | succ n => exact ih n
theorem Prs.mem {H : Hp} {vs : List V} {ps : List Pl} (h : Prs H vs ps) {v : V} (m : v ∈ vs) : ∃ p ∈ ps, Pr H v p := by
  induction h with
  | nil => cases m
  | cons a _ ih =>
    rcases List.mem_cons.mp m with e | m
    · subst e; exact ⟨_, List.mem_cons_self, a⟩
    · obtain ⟨p, hp, k⟩ := ih m
      exact ⟨p, List.mem_cons_of_mem _ hp, k⟩
theorem Prs.rev {H : Hp} {vs : List V} {ps : List Pl} (h : Prs H vs ps) : Prs H vs.reverse ps.reverse := by
  induction h with
  | nil => exact .nil
  | cons a _ ih => rw [List.reverse_cons, List.reverse_cons]; exact ih.snoc a
/-! ### their data -/
def dP (p : Pl) : PyData := .tuple [.int p.1, .int p.2]
def dL (ps : List Pl) : PyData := .list (ps.map dP)
theorem Pr.dp {K : PySem.W.Frag} {H : Hp} {v : V} {p : Pl} (h : Pr H v p) : Dp K H v (dP p) := by
  obtain ⟨t, rfl, h⟩ := h
  exact .tup (SqT.of h) (.cons (.int _) (.cons (.int _) .nil))
theorem Prs.dps {K : PySem.W.Frag} {H : Hp} {vs : List V} {ps : List Pl} (h : Prs H vs ps) : DpAll K H vs (ps.map dP) := by
  induction h with
  | nil => exact .nil
  | cons a _ ih => exact .cons a.dp ih
theorem Prs.dl {K : PySem.W.Frag} {H : Hp} {l : Addr} {vs : List V} {ps : List Pl} (h : Prs H vs ps) (e : SqL K H l vs) : Dp K H (.ref l) (dL ps) := .lst e h.dps
theorem eqv_int (a b : Int) : PyData.eqv (.int a) (.int b) = decide (a = b) := by
  rw [PyData.eqv]
  rfl
theorem eqv_dP (p q : Pl) : PyData.eqv (dP p) (dP q) = decide (p = q) := by
  obtain ⟨a, b⟩ := p
  obtain ⟨c, d⟩ := q
  show PyData.eqvAll [.int a, .int b] [.int c, .int d] = _
  simp only [PyData.eqvAll, eqv_int, Prod.ext_iff, Bool.and_true, Bool.decide_and]
theorem eqvAll_dP : ∀ ps qs : List Pl, PyData.eqvAll (ps.map dP) (qs.map dP) = decide (ps = qs)
  | [], [] => by simp [PyData.eqvAll]
  | [], _ :: _ => by simp [PyData.eqvAll]
  | _ :: _, [] => by simp [PyData.eqvAll]
  | p :: ps, q :: qs => by
    simp only [List.map_cons, PyData.eqvAll, eqv_dP, eqvAll_dP ps qs, List.cons.injEq]
    by_cases h1 : p = q <;> by_cases h2 : ps = qs <;> simp [h1, h2]
theorem eqv_dL (ps qs : List Pl) : PyData.eqv (dL ps) (dL qs) = decide (ps = qs) := by
  unfold dL
  rw [PyData.eqv, eqvAll_dP]
theorem lay_dPs : ∀ ps : List Pl, PyData.canLayAll0 (ps.map dP) = true
  | [] => rfl
  | _ :: ps => by
    show (true && PyData.canLayAll0 (ps.map dP)) = true
    rw [lay_dPs ps]
    rfl
theorem depth_dPs : ∀ ps : List Pl, PyData.depthAll (ps.map dP) ≤ 1
  | [] => by show 0 ≤ 1; omega
  | _ :: ps => by
    have ih := depth_dPs ps
    show max 1 (PyData.depthAll (ps.map dP)) ≤ 1
    omega
theorem sh_dP (p : Pl) : SeqAt.shaped (dP p) = true := rfl
theorem sh_dL (ps : List Pl) : SeqAt.shaped (dL ps) = true := by
  have h := depth_dPs ps
  unfold SeqAt.shaped dL
  rw [show PyData.canLay0 (.list (ps.map dP)) = PyData.canLayAll0 (ps.map dP) from rfl, lay_dPs]
  refine decide_eq_true ?_
  show PyData.depthAll (ps.map dP) + 1 ≤ 64
  omega
theorem any_dP (ps : List Pl) (p : Pl) : ((ps.map dP).any fun z => PyData.eqv z (dP p)) = decide (p ∈ ps) := by
  induction ps with
  | nil => simp
  | cons q ps ih =>
    rw [List.map_cons, List.any_cons, ih, eqv_dP]
    by_cases h1 : q = p
    · subst h1; simp
    · have h2 : ¬ p = q := fun z => h1 z.symm
      simp [h1, h2]

/-! ### the order of places, lists in order, each place once -/
def lp (p q : Pl) : Prop := p.1 < q.1 ∨ (p.1 = q.1 ∧ p.2 ≤ q.2)
instance : DecidableRel lp := fun p q => inferInstanceAs (Decidable (p.1 < q.1 ∨ (p.1 = q.1 ∧ p.2 ≤ q.2)))
theorem lp_trans {p q r : Pl} (h : lp p q) (k : lp q r) : lp p r := by unfold lp at *; omega
theorem lp_total (p q : Pl) : lp p q ∨ lp q p := by unfold lp; omega
theorem lp_anti {p q : Pl} (h : lp p q) (k : lp q p) : p = q := by
  unfold lp at *
  exact Prod.ext (by omega) (by omega)
def insP (p : Pl) : List Pl → List Pl
  | [] => [p]
  | q :: r => if lp p q then p :: q :: r else q :: insP p r
def sortP : List Pl → List Pl
  | [] => []
  | p :: r => insP p (sortP r)
theorem insP_perm (p : Pl) : ∀ r, (insP p r).Perm (p :: r)
  | [] => .refl _
  | q :: r => by
    unfold insP
    split
    · exact .refl _
    · exact ((insP_perm p r).cons q).trans (.swap p q r)
theorem sortP_perm : ∀ r, (sortP r).Perm r
  | [] => .nil
  | p :: r => (insP_perm p (sortP r)).trans ((sortP_perm r).cons p)
theorem insP_pw (p : Pl) : ∀ {r}, List.Pairwise lp r → (insP p r).Pairwise lp
  | [], _ => List.pairwise_singleton _ _
  | q :: r, h => by
    unfold insP
    have hq : ∀ {x}, x ∈ r → lp q x := fun m => List.rel_of_pairwise_cons h m
    split
    · rename_i c
      refine List.pairwise_cons.mpr ⟨fun x hx => ?_, h⟩
      rcases List.mem_cons.mp hx with e | hx
      · rw [e]; exact c
      · exact lp_trans c (hq hx)
    · rename_i c
      refine List.pairwise_cons.mpr ⟨fun x hx => ?_, insP_pw p (List.Pairwise.of_cons h)⟩
      rcases List.mem_cons.mp ((insP_perm p r).mem_iff.mp hx) with e | hx
      · rw [e]; exact (lp_total p q).resolve_left c
      · exact hq hx
theorem sortP_pw : ∀ r, (sortP r).Pairwise lp
  | [] => .nil
  | p :: r => insP_pw p (sortP_pw r)
theorem pw_uniq : ∀ {a b : List Pl}, a.Perm b → a.Pairwise lp → b.Pairwise lp → a = b
  | [], b, h, _, _ => h.nil_eq
  | p :: a, [], h, _, _ => absurd h.length_eq (by simp)
  | p :: a, q :: b, h, ha, hb => by
    have e : p = q := by
      rcases List.mem_cons.mp (h.mem_iff.mp List.mem_cons_self) with e | m
      · exact e
      · rcases List.mem_cons.mp (h.mem_iff.mpr List.mem_cons_self) with e | m'
        · exact e.symm
        · exact lp_anti (List.rel_of_pairwise_cons ha m') (List.rel_of_pairwise_cons hb m)
    subst e
    rw [pw_uniq ((List.perm_cons p).mp h) ha.of_cons hb.of_cons]
theorem sortP_of {a b : List Pl} (h : a.Perm b) (ha : a.Pairwise lp) : a = sortP b := pw_uniq (h.trans (sortP_perm b).symm) ha (sortP_pw b)
theorem sortP_congr {a b : List Pl} (h : a.Perm b) : sortP a = sortP b := sortP_of ((sortP_perm a).trans h) (sortP_pw a)
theorem sortP_mem {p : Pl} {r : List Pl} : p ∈ sortP r ↔ p ∈ r := (sortP_perm r).mem_iff
theorem sortP_len (r : List Pl) : (sortP r).length = r.length := (sortP_perm r).length_eq
theorem sortP_nd {r : List Pl} : (sortP r).Nodup ↔ r.Nodup := (sortP_perm r).nodup_iff
theorem sortP_id {r : List Pl} (h : r.Pairwise lp) : sortP r = r := (sortP_of (.refl _) h).symm
theorem sortP_idem (r : List Pl) : sortP (sortP r) = sortP r := sortP_id (sortP_pw r)
/-- each place once -/
def nub : List Pl → List Pl
  | [] => []
  | p :: r => if p ∈ r then nub r else p :: nub r
theorem nub_mem {p : Pl} : ∀ {r : List Pl}, p ∈ nub r ↔ p ∈ r
  | [] => Iff.rfl
  | q :: r => by
    unfold nub
    split
    · rename_i h
      rw [nub_mem (r := r), List.mem_cons]
      exact ⟨.inr, fun k => k.elim (fun e => by rw [e]; exact h) id⟩
    · rw [List.mem_cons, List.mem_cons, nub_mem (r := r)]
theorem nub_nd : ∀ r : List Pl, (nub r).Nodup
  | [] => .nil
  | p :: r => by
    unfold nub
    split
    · exact nub_nd r
    · rename_i h
      exact List.nodup_cons.mpr ⟨fun m => h (nub_mem.mp m), nub_nd r⟩
theorem nub_le : ∀ r : List Pl, (nub r).length ≤ r.length
  | [] => Nat.le_refl _
  | p :: r => by
    unfold nub
    have := nub_le r
    split
    · rw [List.length_cons]; omega
    · rw [List.length_cons, List.length_cons]; omega
theorem nub_lt : ∀ r : List Pl, (nub r).length < r.length ↔ ¬ r.Nodup
  | [] => by simp [nub]
  | p :: r => by
    have ih := nub_lt r
    have hl := nub_le r
    unfold nub
    rw [List.nodup_cons]
    split
    · rename_i h
      rw [List.length_cons]
      exact ⟨fun _ k => k.1 h, fun _ => by omega⟩
    · rename_i h
      rw [List.length_cons, List.length_cons, Nat.add_lt_add_iff_right, ih]
      exact ⟨fun k z => k z.2, fun k z => k ⟨h, z⟩⟩
theorem nub_id : ∀ {r : List Pl}, r.Nodup → nub r = r
  | [], _ => rfl
  | p :: r, h => by
    unfold nub
    rw [if_neg (List.nodup_cons.mp h).1, nub_id (List.nodup_cons.mp h).2]
/-- in order, each once -/
def marksP (r : List Pl) : List Pl := sortP (nub r)
theorem marksP_of {a r : List Pl} (hn : a.Nodup) (hm : ∀ p, p ∈ a ↔ p ∈ r) (ho : a.Pairwise lp) : a = marksP r :=
  sortP_of ((List.perm_ext_iff_of_nodup hn (nub_nd r)).mpr fun p => (hm p).trans nub_mem.symm) ho
theorem marksP_congr {a r : List Pl} (h : ∀ p, p ∈ a ↔ p ∈ r) : marksP a = marksP r :=
  sortP_congr ((List.perm_ext_iff_of_nodup (nub_nd a) (nub_nd r)).mpr fun p => nub_mem.trans ((h p).trans nub_mem.symm))
/-! ### the rules -/
theorem perm_lift {α β : Type} {f : α → β} {us vs : List β} (h : us.Perm vs) : ∀ L : List α, us = L.map f → ∃ L1 : List α, vs = L1.map f ∧ L1.Perm L := by
  induction h with
  | nil =>
    intro L e
    cases L with
    | nil => exact ⟨[], rfl, .nil⟩
    | cons b L => cases e
  | cons x _ ih =>
    intro L e
    cases L with
    | nil => cases e
    | cons b L =>
      injection e with e1 e2
      obtain ⟨L1, e3, p⟩ := ih L e2
      exact ⟨b :: L1, by rw [List.map_cons, e1, e3], p.cons b⟩
  | swap x y l =>
    intro L e
    match L, e with
    | b :: c :: L, e =>
      injection e with e1 e
      injection e with e2 e3
      exact ⟨c :: b :: L, by rw [List.map_cons, List.map_cons, e1, e2, e3], .swap b c L⟩
  | trans _ _ ih1 ih2 =>
    intro L e
    obtain ⟨L1, e1, p1⟩ := ih1 L e
    obtain ⟨L2, e2, p2⟩ := ih2 L1 e1
    exact ⟨L2, e2, p2.trans p1⟩
/-- a set of places stands at a -/
def SetOf (P : Program) (w : World) (H : Hp) (a : Addr) (ps : List Pl) : Prop := ∃ L : List (Addr × List Int), H a = some (SetTO P w a L) ∧
  (∀ x ∈ L, ∃ p ∈ ps, x.2 = [p.1, p.2] ∧ H x.1 = some (.tup [.int p.1, .int p.2])) ∧ ∀ p ∈ ps, [p.1, p.2] ∈ L.map (·.2)
section
variable {X : Cx} {pins : List (Addr × Obj)} {σ : St} {H : Hp} {s : Shared}
def toP (x : Addr × List Int) : Pl := (x.2.getD 0 0, x.2.getD 1 0)
theorem setOf_list {P : Program} {w : World} {a : Addr} {ps : List Pl} {L : List (Addr × List Int)}
    (h1 : ∀ x ∈ L, ∃ p ∈ ps, x.2 = [p.1, p.2] ∧ H x.1 = some (.tup [.int p.1, .int p.2])) (h2 : ∀ p ∈ ps, [p.1, p.2] ∈ L.map (·.2)) (nd : (L.map (·.2)).Nodup) :
    (L.map toP).Nodup ∧ ∀ p, p ∈ L.map toP ↔ p ∈ ps := by
  constructor
  · refine List.pairwise_map.mpr (List.Pairwise.imp_of_mem (fun {x y} hx hy ne e => ?_) (List.pairwise_map.mp nd))
    obtain ⟨p, _, ep, _⟩ := h1 x hx
    obtain ⟨q, _, eq, _⟩ := h1 y hy
    unfold toP at e
    rw [ep, eq] at e
    apply ne
    rw [ep, eq]
    have e1 : p.1 = q.1 := (Prod.mk.inj e).1
    have e2 : p.2 = q.2 := (Prod.mk.inj e).2
    rw [e1, e2]
  · intro p
    constructor
    · intro m
      obtain ⟨x, hx, rfl⟩ := List.mem_map.mp m
      obtain ⟨p, hp, ep, _⟩ := h1 x hx
      unfold toP
      rw [ep]
      exact hp
    · intro m
      obtain ⟨x, hx, e⟩ := List.mem_map.mp (h2 p m)
      refine List.mem_map.mpr ⟨x, hx, ?_⟩
      unfold toP
      rw [e]
      rfl
/-- set(xs), xs a list of places -/
def rSetP (K : PySem.W.Frag) (P : Program) (w : World) : List V → Hp → VK → Prop := fun xs H Q => ∃ (l : Addr) (vs : List V) (ps : List Pl), xs = [.ref l] ∧ SqL K H l vs ∧ Prs H vs ps ∧ ps.length < 64 ∧
  ∀ (H' : Hp) (a : Addr), H a = none → Same H H' → SetOf P w H' a ps → Q (.ref a) H'
theorem prs_ks {K : PySem.W.Frag} {vs : List V} {ps : List Pl} (h : Prs H vs ps) : ∃ ks : List (Addr × List Int), vs = ks.map (fun p => V.ref p.1) ∧ (∀ x ∈ ks, ∃ p ∈ ps, x.2 = [p.1, p.2] ∧ H x.1 = some (.tup [.int p.1, .int p.2])) ∧ ks.map (·.2) = ps.map (fun p => [p.1, p.2]) := by
  induction h with
  | nil => exact ⟨[], rfl, fun x hx => (nomatch hx), rfl⟩
  | @cons v p vs ps a _ ih =>
    obtain ⟨t, rfl, ht⟩ := a
    obtain ⟨ks, e, k, m⟩ := ih
    refine ⟨(t, [p.1, p.2]) :: ks, by rw [e]; rfl, fun x hx => ?_, by rw [List.map_cons, m]; rfl⟩
    rcases List.mem_cons.mp hx with z | z
    · subst z
      exact ⟨p, List.mem_cons_self, rfl, ht⟩
    · obtain ⟨q, hq, r⟩ := k x z
      exact ⟨q, List.mem_cons_of_mem _ hq, r⟩
theorem cr_setP (hc : X.calm = true) (hu : X.A.units + 64 < cLine) : CallR X (.type "set") (rSetP X.K X.prog X.w) := by
  intro pins s σ H xs us Q I r h
  obtain ⟨l, vs, ps, rfl, hl, hp, hn, q⟩ := h
  obtain ⟨ks, rfl, hk, hm⟩ := prs_ks (K := X.K) hp
  refine cr_setOfT hc hu pins s σ H [.ref l] us Q I r ⟨l, ks, rfl, hl, fun x hx => ?_, ?_, fun a L ha h1 h2 => ?_⟩
  · obtain ⟨p, _, e, k⟩ := hk x hx
    rw [e]
    exact SqT.of k
  · have e := congrArg List.length hm
    rw [List.length_map, List.length_map] at e
    omega
  · have sm : Same H (upd H a (SetTO X.prog X.w a L)) := fun b o e => by
      rw [upd_ne (ne_of_none e ha)]
      exact e
    refine q _ a ha sm ⟨L, upd_same, fun x hx => ?_, fun p hp => ?_⟩
    · obtain ⟨p, hp, e, k⟩ := hk x (h1 x hx)
      exact ⟨p, hp, e, sm _ _ k⟩
    · have m : [p.1, p.2] ∈ ks.map (·.2) := by
        rw [hm]
        exact List.mem_map.mpr ⟨p, hp, rfl⟩
      obtain ⟨x, hx, e⟩ := List.mem_map.mp m
      rw [← e]
      exact h2 x hx
/-- len(s), s a set of places -/
theorem call_lenP : CallR X (.builtin "len") (fun xs H Q => ∃ (a : Addr) (ps : List Pl), xs = [.ref a] ∧ SetOf X.prog X.w H a ps ∧ Q (.int (nub ps).length) H) := by
  intro pins s σ H xs us Q I r h
  obtain ⟨a, ps, rfl, ⟨L, ha, h1, h2⟩, q⟩ := h
  rw [Vals.ref1 r]
  have R0 : SetT0 X.prog X.w s.heap a L := (I.hok a _ ha).1
  obtain ⟨es, ep, t, R⟩ := R0.full fun x hx => by
    obtain ⟨p, _, e, k⟩ := h1 x hx
    have z : SqT X.K H x.1 (x.2.map V.int) := by rw [e]; exact SqT.of k
    exact I.isT z
  obtain ⟨o, ho, hex, hd⟩ := R.ob
  obtain ⟨n1, n2⟩ := setOf_list (P := X.prog) (w := X.w) (a := a) h1 h2 R0.ex.choose_spec.choose_spec.choose_spec.2.2.2.1
  have hl : L.length = (nub ps).length := by
    have z : (L.map toP).Perm (nub ps) := (List.perm_ext_iff_of_nodup n1 (nub_nd ps)).mpr fun p => (n2 p).trans nub_mem.symm
    have z2 := z.length_eq
    rw [List.length_map] at z2
    exact z2
  have hsz := R.size
  have hfew := R.few
  refine call_len_set ho hex hd R.fits (by omega) ⟨.int (nub ps).length, H, I.tok _, ⟨_, by rw [hsz, hl]⟩, q⟩
end

section
open PyProof.Rows
/-! ### sorted(xs), xs a list of places; sorted(s), s a set of places -/
/-- what place a value stands for -/
def plAt (H : Hp) (v : V) : Pl := match v with
  | .ref t => (match H t with
    | some (.tup [.int a, .int b]) => (a, b)
    | _ => (0, 0))
  | _ => (0, 0)
theorem plAt_of {H : Hp} {v : V} {p : Pl} (h : Pr H v p) : plAt H v = p := by
  obtain ⟨t, rfl, h⟩ := h
  show (match H t with
    | some (.tup [.int a, .int b]) => (a, b)
    | _ => (0, 0)) = p
  rw [h]
theorem prs_plAt {H : Hp} {vs : List V} {ps : List Pl} (h : Prs H vs ps) : vs.map (plAt H) = ps := by
  induction h with
  | nil => rfl
  | cons a _ ih => rw [List.map_cons, ih, plAt_of a]
theorem prs_of_mem {H : Hp} : ∀ {ys : List V}, (∀ y ∈ ys, ∃ p, Pr H y p) → Prs H ys (ys.map (plAt H))
  | [], _ => .nil
  | y :: ys, h => by
    obtain ⟨p, hp⟩ := h y List.mem_cons_self
    refine .cons ?_ (prs_of_mem fun z hz => h z (List.mem_cons_of_mem _ hz))
    rw [plAt_of hp]
    exact hp
theorem prs_perm {H : Hp} {xs ys : List V} {ps : List Pl} (h : Prs H xs ps) (m : ys.Perm xs) : Prs H ys (ys.map (plAt H)) ∧ (ys.map (plAt H)).Perm ps := by
  refine ⟨prs_of_mem fun y hy => ?_, ?_⟩
  · obtain ⟨p, _, k⟩ := h.mem (m.mem_iff.mp hy)
    exact ⟨p, k⟩
  · have e := m.map (plAt H)
    rw [prs_plAt h] at e
    exact e
def rSortP (K : PySem.W.Frag) : List V → Hp → VK → Prop := fun vs H Q => ∃ (a : Addr) (xs : List V) (ps : List Pl), vs = [.ref a] ∧ SqL K H a xs ∧ Prs H xs ps ∧
  ∀ (p : Addr) (ys : List V), H p = none → Prs H ys (sortP ps) → Q (.ref p) (upd H p (.lst ys))
section
variable {X : Cx}
theorem call_sortP : CallR X (.builtin "sorted") (rSortP X.K) := by
  intro pins s σ H vs us Q I r h
  obtain ⟨a, xs, ps, rfl, hs, hp, q⟩ := h
  refine cr_sortedPO pins s σ H [.ref a] us Q I r ⟨a, xs, plAt H, rfl, hs, fun x hx => ?_, fun ys p h1 h2 hn => ?_⟩
  · obtain ⟨p, _, t, e, k⟩ := hp.mem hx
    refine ⟨t, e, ?_⟩
    have z : plAt H x = p := plAt_of ⟨t, e, k⟩
    rw [z]
    exact k
  · obtain ⟨k1, k2⟩ := prs_perm hp h2.perm
    have e : ys.map (plAt H) = sortP ps := sortP_of k2 (List.pairwise_map.mpr (List.Pairwise.imp (fun {x y} z => by
      have z1 : SrtO.lexB (plAt H y) (plAt H x) = false := z
      have z2 := SrtO.lexB_no.mp z1
      unfold lp
      omega) h1))
    rw [e] at k1
    exact q p ys hn k1
def rSortS (P : Program) (w : World) : List V → Hp → VK → Prop := fun vs H Q => ∃ (a : Addr) (ps : List Pl), vs = [.ref a] ∧ SetOf P w H a ps ∧
  ∀ (p : Addr) (ys : List V), H p = none → Prs H ys (marksP ps) → Q (.ref p) (upd H p (.lst ys))
theorem eachIs_map {α β : Type} {R : α → β → Prop} (f : β → α) : ∀ {bs : List β}, (∀ b ∈ bs, R (f b) b) → PySem.W.EachIs R (bs.map f) bs
  | [], _ => .nil
  | b :: bs, h => .cons (h b List.mem_cons_self) (eachIs_map f fun c hc => h c (List.mem_cons_of_mem _ hc))
theorem eachIs_back {α β : Type} {f : β → α} : ∀ {out : List α} {bs : List β}, PySem.W.EachIs (fun v b => v = f b) out bs → out = bs.map f
  | _, _, .nil => rfl
  | _, _, .cons e r => by rw [e, eachIs_back r]; rfl
theorem reads_two {h : Heap} {t : Addr} {a b : Int} (k : TS.TupInts h (.ref t) [a, b]) : ∃ as, Reads h (.ref t) (.tuple [.int a, .int b]) as ∧ as = [] := by
  obtain ⟨t', its, e, ⟨o, ho, hc, n, hd⟩, hi⟩ := k
  cases e
  generalize he : its.toList = l at hi
  cases hi with
  | cons _ t1 hi =>
    cases hi with
    | cons _ t2 hi =>
      cases hi
      exact ⟨[], .tuple ho hc hd (by rw [he]; exact .cons (.int _ _) (.cons (.int _ _) .nil)), rfl⟩
section
variable {P : Program} {w : World} {A : Around} {E : Value → Shared → Prop} {s : Shared}
theorem sorted_setP {a : Addr} {L : List (Addr × List Int)} {es : Array (Int × Value)} {ep : Nat} {t : SetTable} {Q : Value → Shared → Prop} (R : SetTR P w s.heap a L es ep t) (hh : A.handled = none) (hu : A.units + 64 < cLine)
    (hxy : ∀ b ∈ L, b.2 = [(toP b).1, (toP b).2])
    (hQ : ∀ (s' : Shared) (p : Addr) (out : Array Value) (c : Nat) (L' : List (Addr × List Int)), (∀ b o, s.heap.get? b = some o → s'.heap.get? b = some o) → s'.gens = s.gens → s'.os = s.os → s.heap.objs.size ≤ p →
      s'.heap.get? p = some (seqObj "list" out c) → out.toList = L'.map (fun q => Value.ref q.1) → L'.Perm L → L'.Pairwise (fun q r => lp (toP q) (toP r)) → Q (.ref p) s') :
    wpAny (model P w) A (call (.builtin "sorted") [.ref a]) Q E s := by
  obtain ⟨so, sho, shex, shd⟩ := R.ob
  have ssz := R.size
  have sfew := R.few
  have hcl : cLine = 10000 ∨ True := .inr trivial
  refine Calls.call_function_entry kind_sorted plain_sorted entry_sorted (args_sorted1 _) ?_
  unfold Builtin.«sorted»
  refine wpAny_bind (m := checkCount "sorted" 1 1 _) (wpAny_pure ?_)
  refine wpAny_bind (collect_set (A := A.in1) hh ⟨so, sho, shex.1, shd⟩ R.fits (by unfold scanBound; omega) R.tab.ris R.led fun s1 vs k1 z1 g1 o1 pm => ?_)
  have hes : es.toList.map (·.2) = L.map fun q => Value.ref q.1 := by
    rw [R.rows]
    unfold rowsOf
    rw [List.map_map]
    rfl
  rw [hes] at pm
  obtain ⟨L1, rfl, p1⟩ := perm_lift pm.symm L rfl
  have hvl : (L1.map fun q : Addr × List Int => Value.ref q.1).length < 64 := by
    rw [List.length_map, p1.length_eq]
    exact sfew
  refine wpAny_bind (wpAny_newList ?_ (by rw [sizeLine_eq]; omega))
  generalize hvs : (L1.map fun q : Addr × List Int => Value.ref q.1) = vs at *
  have hoL : (s1.heap.push (seqObj "list" vs.toArray 0)).get? s1.heap.objs.size = some (seqObj "list" vs.toArray 0) := Heap.get?_push_size _ rfl
  have tk : ∀ q ∈ L1, TS.TupInts (s1.heap.push (seqObj "list" vs.toArray 0)) (.ref q.1) [(toP q).1, (toP q).2] := fun q hq => by
    have hq' := p1.mem_iff.mp hq
    have z : TS.TupInts (s1.heap.push (seqObj "list" vs.toArray 0)) (.ref q.1) q.2 := tupInts_of (P := P) (w := w) (isT_keep (R.tup q hq') fun b u e => Heap.get?_push_of_some _ (k1 b u e))
    rw [hxy q hq'] at z
    exact z
  have er : PySem.W.EachIs (fun v (b : Addr × List Int) => ∃ as, Reads (s1.heap.push (seqObj "list" vs.toArray 0)) v (.tuple [.int (toP b).1, .int (toP b).2]) as ∧ s1.heap.objs.size ∉ as) vs L1 := by
    subst hvs
    refine eachIs_map _ fun b hb => ?_
    obtain ⟨as, k, e⟩ := reads_two (tk b hb)
    exact ⟨as, k, by rw [e]; simp⟩
  have ev : PySem.W.EachIs (fun v (b : Addr × List Int) => v = Value.ref b.1) vs L1 := by
    rw [← hvs]
    exact eachIs_map _ fun b _ => rfl
  refine wpAny_bind (wpAny_holding (PySem.W.list_sort_data (s := { s1 with heap := s1.heap.push (seqObj "list" vs.toArray 0) }) (enc := fun b : Addr × List Int => .tuple [.int (toP b).1, .int (toP b).2]) hoL ev er
    (PySem.W.AllAlike.of fun b b' => by rfl) (PySem.W.Sortable.tuples fun b => ⟨_, _, rfl⟩) ?_ (fun b _ => ?_) fun out ho he => ?_))
  · rw [← hvs, List.length_map] at hvl
    rw [sizeLine_eq]
    omega
  · have z : A.in1.units ≤ A.units + 3 := by
      unfold Around.in1
      simp
    show A.in1.units + 1 + 1 < cLine
    omega
  obtain ⟨c, hc⟩ := sortedHeap_at (vs := vs) (out := out.toArray) hoL
  have eo := eachIs_back he
  refine wpAny_pure ⟨_, rfl, hQ _ s1.heap.objs.size out.toArray c _ (fun b u e => ?_) g1 o1 z1 hc (by rw [List.toList_toArray]; exact eo) ((List.mergeSort_perm _ _).trans p1) ?_⟩
  · have q := k1 b u e
    have hlt := Heap.lt_size q
    show (sortedHeap _ s1.heap.objs.size vs out.toArray).get? b = some u
    rw [sortedHeap_old (Nat.ne_of_lt hlt) (by rw [size_push']; exact Nat.lt_succ_of_lt hlt)]
    exact Heap.get?_push_of_some _ q
  · rw [PySem.W.dataLe_ii]
    have z := List.pairwise_mergeSort (le := fun p q : Addr × List Int => decide ((toP p).1 < (toP q).1 ∨ ((toP p).1 = (toP q).1 ∧ (toP p).2 ≤ (toP q).2)))
      (fun a b c h1 h2 => decide_eq_true (by have k1 := of_decide_eq_true h1; have k2 := of_decide_eq_true h2; omega))
      (fun a b => by
        rw [Bool.or_eq_true, decide_eq_true_eq, decide_eq_true_eq]
        omega) L1
    exact List.Pairwise.imp (fun h => of_decide_eq_true h) z
end
theorem call_sortS (hc : X.calm = true) (hu : X.A.units + 64 < cLine) : CallR X (.builtin "sorted") (rSortS X.prog X.w) := by
  intro pins s σ H vs us Q I r h
  obtain ⟨a, ps, rfl, ⟨L, ha, h1, h2⟩, q⟩ := h
  rw [Vals.ref1 r]
  have R0 : SetT0 X.prog X.w s.heap a L := (I.hok a _ ha).1
  obtain ⟨es, ep, t, R⟩ := R0.full fun x hx => by
    obtain ⟨p, _, e, k⟩ := h1 x hx
    have z : SqT X.K H x.1 (x.2.map V.int) := by rw [e]; exact SqT.of k
    exact I.isT z
  obtain ⟨n1, n2⟩ := setOf_list (P := X.prog) (w := X.w) (a := a) h1 h2 R.nd
  have hxy : ∀ b ∈ L, b.2 = [(toP b).1, (toP b).2] := fun b hb => by
    obtain ⟨p, _, e, _⟩ := h1 b hb
    unfold toP
    rw [e]
    rfl
  refine sorted_setP R (I.ok.hd hc) hu hxy fun s' p out c L' kp kg ko hp hg hout pm pw => ?_
  have few := R.few
  have hl' : L'.length < 64 := by rw [pm.length_eq]; exact few
  have fresh : H p = none := I.hok.fresh hp
  have hz : (L'.map fun q => V.ref q.1).length ≤ sizeLine := by
    rw [List.length_map, sizeLine_eq]
    omega
  have hv : Vals (L'.map fun q => V.ref q.1) out.toList := by
    rw [hout]
    exact vals_of_refs L'
  have J : Inv X pins σ (upd H p (.lst (L'.map fun q => V.ref q.1))) { s with heap := s'.heap, gens := s'.gens, drawn := s'.drawn, toks := s'.toks } :=
    I.call (ch := []) (Un.laid kp hp fresh) (I.hok.laid kp hp ⟨hz, out.toList, c, hv, hg⟩) (by rw [kg]; exact I.bare) (fun _ z => nomatch z)
  have es' : s' = { s with heap := s'.heap, gens := s'.gens, drawn := s'.drawn, toks := s'.toks } := by
    obtain ⟨a1, a2, a3, a4, a5⟩ := s'
    obtain ⟨b1, b2, b3, b4, b5⟩ := s
    cases ko
    rfl
  rw [es']
  refine ⟨.ref p, _, J, rfl, q p _ fresh ?_⟩
  have e : L'.map toP = marksP ps := by
    refine marksP_of ((pm.map toP).nodup_iff.mpr n1) (fun p => ((pm.map toP).mem_iff).trans (n2 p)) (List.pairwise_map.mpr pw)
  rw [← e]
  have all : ∀ M : List (Addr × List Int), (∀ x ∈ M, x ∈ L) → Prs H (M.map fun q => V.ref q.1) (M.map toP) := by
    intro M
    induction M with
    | nil => intro _; exact .nil
    | cons x M ih =>
      intro hm
      obtain ⟨p, _, ep, k⟩ := h1 x (hm x List.mem_cons_self)
      refine .cons ⟨x.1, rfl, ?_⟩ (ih fun y hy => hm y (List.mem_cons_of_mem _ hy))
      rw [k]
      unfold toP
      rw [ep]
      rfl
  exact all L' fun x hx => pm.mem_iff.mp hx
end

end

section
open PySem.Spec PyProof.Rows
/-! ### try with several clauses, with and without names -/
/-- the ends of a clause whose name stands in slot i: behind it the slot is empty -/
def asEnds (i : Nat) (D : Ends) : Ends := { nx := fun τ G => D.nx (τ.set i none) G, rt := D.rt, bk := fun τ G => D.bk (τ.set i none) G, ct := fun τ G => D.ct (τ.set i none) G }
abbrev Sui := Addr → Value → Option Addr → TS
/-- what the clauses wish of an error of the body -/
def wNext (K : PySem.W.Frag) (Wo : WX) (D : Ends) : List (Value × Option Nat × Sui) → WX
  | [] => Wo
  | (c, none, ts) :: more => fun cls d τ G => ∃ b, PySem.W.exmOne K cls c = some b ∧ (b = true → ∀ x, G x = none → ts x cls d D τ G) ∧ (b = false → wNext K Wo D more cls d τ G)
  | (c, some i, ts) :: more => fun cls d τ G => ∃ b, PySem.W.exmOne K cls c = some b ∧ (b = true → ∀ x, G x = none → ts x cls d (asEnds i D) (τ.set i (some (.ref x))) G) ∧ (b = false → wNext K Wo D more cls d τ G)
/-- try: the body's reading, its errors wished for as the clauses take them -/
def tTry (K : PySem.W.Frag) (Wo : WX) (l : List (Value × Option Nat × Sui)) (tb : WX → TS) : TS := fun D τ G => tb (wNext K Wo D l) D τ G
inductive Clauses (X : Cx) : List ExceptHandler → List (Value × Option Nat × Sui) → Prop
  | nil : Clauses X [] []
  | plain {x : Str} {c : Value} {ts : Sui} {s0 : Stmt} {su : List Stmt} {p1 p2 : Pos} {hs : List ExceptHandler} {l : List (Value × Option Nat × Sui)} (hc : Names X x c)
      (hsu : ∀ (a : Addr) (oe : Obj) (cls : Value) (d : Option Addr) (pn : List (Addr × Obj)), Zc cls d oe → (∃ vs, oe.data = .fields vs) → PSs (X.suite a ((a, oe) :: pn)) (s0 :: su) (ts a cls d)) (more : Clauses X hs l) :
      Clauses X (.ExceptHandler (some (.Name x p1)) none (s0 :: su) p2 :: hs) ((c, none, ts) :: l)
  | named {x n : Str} {i : Nat} {c : Value} {ts : Sui} {s0 : Stmt} {su : List Stmt} {p1 p2 : Pos} {hs : List ExceptHandler} {l : List (Value × Option Nat × Sui)} (hN : X.N.Nodup) (hi : X.N[i]? = some n) (hn : X.env.kindOf n = some .local) (hc : Names X x c)
      (hsu : ∀ (a : Addr) (oe : Obj) (cls : Value) (d : Option Addr) (pn : List (Addr × Obj)), Zc cls d oe → (∃ vs, oe.data = .fields vs) → PSs (X.suite a ((a, oe) :: pn)) (s0 :: su) (ts a cls d)) (more : Clauses X hs l) :
      Clauses X (.ExceptHandler (some (.Name x p1)) (some n) (s0 :: su) p2 :: hs) ((c, some i, ts) :: l)
section
variable {X : Cx} {body : List Stmt} {c0 : ExceptHandler} {cs : List ExceptHandler} {l : List (Value × Option Nat × Sui)} {pos : Pos} {tb : WX → TS} {Wo : WX}
theorem ps_try_next (hst : X.stack = X.env :: X.outer) (hfm : X.env.frame = some X.env.locals) (tk : Takes X Wo)
    (hbody : ∀ (W : WX) (pn : List (Addr × Obj)) (xe : Value → Shared → Prop), Takes (X.tr pn xe) W → PassesOwn (model X.prog X.w) X.A X.env xe → PSs (X.tr pn xe) body (tb W))
    (hcs : Clauses X (c0 :: cs) l) : PS X (.Try body (c0 :: cs) [] [] pos) (tTry X.K Wo l tb) := by
  refine ⟨fun pins s τ G D I hw => ?_⟩
  have kk := I.ok
  have hfrs : X.A.frames = some (X.env :: X.outer) := by rw [kk.frames, hst]
  let M := model X.prog X.w
  refine wpAny_Try_except ?_
  refine wpAny_mono ((hbody (wNext X.K Wo D l) (X.pn ++ pins) (fun e s₁ => wpAny M X.A (noteFrame e X.env) (fun _ s₂ => wpAny M X.A (setFlight e none) (fun _ s₃ => wpAny M X.A (handleBy e X.env (c0 :: cs)) (SP X pins D) X.xe s₃) X.xe s₂) X.xe s₁)
    (fun u s' xx => ?_) PassesOwn.looking).run [] s τ G D (I.toTry _) hw) (fun fl s1 hsp => ?_) (fun e s1 he => he)
  · obtain ⟨a, B, sI, pins', τ', G', cls, d, rfl, J0, nb, up, sky, na, hos, hag, wish⟩ := xx
    have J : Inv X pins τ' G' sI := J0.ofTry kk
    have sk : Sky B (X.env :: X.outer) a (Zc cls d) X.env.locals s'.heap := hst ▸ sky
    show wpAny M X.A (noteFrame (.ref a) X.env) _ _ _
    refine Sky.land Zc.steady hfrs hfm sk fun h3 fl3 up3 => ?_
    have J3 : Inv X pins τ' G' { s' with heap := h3 } := J.landed nb fl3.1 (up.trans up3) hos hag
    obtain ⟨oe3, vs3, he3, hz3, hd3⟩ := fl3.there
    have nfr : a ∉ frs (X.env :: X.outer) := fun hm => by
      obtain ⟨_, o', e', hnf⟩ := fl3.2.2.1.mem hm
      rw [he3] at e'
      cases e'
      exact hnf _ hd3
    have nL : a ≠ X.env.locals := fun z => nfr (List.mem_filterMap.mpr ⟨X.env, List.mem_cons_self, by rw [hfm, z]⟩)
    have nF : a ∉ X.fs := fun hm => by
      obtain ⟨e, he, q⟩ := List.mem_filterMap.mp hm
      exact nfr (List.mem_filterMap.mpr ⟨e, List.mem_cons_of_mem _ he, q⟩)
    have S3 := J3.suite he3 hd3 na nL nF
    have LT : PySem.W.Looks M h3 (typeOf (.ref a)) cls := fun A Q E s k q => wpAny_typeOf_ref (k _ _ he3) (by rw [hz3.1]; exact q)
    have test : ∀ {x : Str} {c : Value} {p1 : Pos} {Q : Value → Shared → Prop} {E : Value → Shared → Prop}, Names X x c → Q c { s' with heap := h3 } → wpAny M (X.A.mark (some (.ref a))) (eval (.Name x p1) X.env) Q E { s' with heap := h3 } :=
      fun {x c p1 Q E} hc q => by
        obtain ⟨hg, hdbg, hm | ⟨hm, hv, hnn⟩⟩ := hc
        · exact ld_glob (X := X.suite a ((a, oe3) :: (X.pn ++ pins))) S3 hg hm q hdbg
        · exact ld_blt (X := X.suite a ((a, oe3) :: (X.pn ++ pins))) S3 hg hm hv q hnn hdbg
    have each : ∀ {hs : List ExceptHandler} {l' : List (Value × Option Nat × Sui)}, Clauses X hs l' → wNext X.K Wo D l' cls d τ' G' → wpAny M X.A (handleBy (.ref a) X.env hs) (SP X pins D) X.xe { s' with heap := h3 } := by
      intro hs l' hk
      induction hk with
      | nil =>
        intro wish
        refine wpAny_handleBy_nil ?_
        obtain ⟨k1, k2, k3, oe, vs, T, oT, ts', he, hz, hd, hf1, hr⟩ := id fl3
        unfold PySem.passOn
        refine wpAny_bind (wpAny_field he hd hf1 ?_)
        rw [if_neg (show ¬ ((Value.ref T == Value.none) = true) from by simp)]
        have out : wpAny M X.A (setFlight (.ref a) X.env.frame) (fun _ s4 => wpAny M X.A (throw (.ref a) : Sem Flow) (SP X pins D) X.xe s4) X.xe { s' with heap := h3 } := by
          rw [hfm]
          refine HandSPX.setFlight_upZ fl3 fun h4 hh4 up4 => wpAny_throw (tk _ _ ?_)
          exact ⟨a, B, sI, pins, τ', G', cls, d, rfl, J, nb, (up.trans up3).trans up4, .inr (.inr (hst ▸ hh4)), na, hos, hag, wish⟩
        first
          | exact wpAny_bind (wpAny_pure (wpAny_bind out))
          | exact wpAny_bind out
      | plain hc hsu more ih =>
        intro wish
        obtain ⟨b, hb1, yes, no⟩ := wish
        refine wpAny_handleBy_cons (codeAny_handlers_test ?_) (by intro q; cases q)
        refine test hc ((PySem.W.exm_one (M := M) J3.kIn LT hb1).here ?_)
        cases b with
        | false => exact ih (no rfl)
        | true =>
          refine codeAny_handlers_suite (HandSPX.lands_againZ fl3 fun h4 fl4 up4 => ?_)
          have J4 : Inv X pins τ' G' { s' with heap := h4 } := J.landed nb fl4.1 ((up.trans up3).trans up4) hos hag
          obtain ⟨oe4, vs4, he4, hz4, hd4⟩ := fl4.there
          refine wpAny_mono ((hsu a oe4 cls d (X.pn ++ pins) hz4 ⟨_, hd4⟩).run [] _ _ G' _ (J4.suite he4 hd4 na nL nF) (yes rfl a na)) (fun f s6 hsp => ?_) (fun _ _ z => z.elim)
          cases f with
          | ret u =>
            obtain ⟨v6, τ6, G6, S6, r6, q6⟩ := hsp
            exact ⟨v6, τ6, G6, S6.unsuite kk, r6, q6⟩
          | next =>
            obtain ⟨τ6, G6, S6, q6⟩ := hsp
            exact ⟨τ6, G6, S6.unsuite kk, q6⟩
          | brk =>
            obtain ⟨τ6, G6, S6, q6⟩ := hsp
            exact ⟨τ6, G6, S6.unsuite kk, q6⟩
          | cont =>
            obtain ⟨τ6, G6, S6, q6⟩ := hsp
            exact ⟨τ6, G6, S6.unsuite kk, q6⟩
      | named hN hi hn hc hsu more ih =>
        intro wish
        obtain ⟨b, hb1, yes, no⟩ := wish
        refine wpAny_handleBy_cons (codeAny_handlers_test ?_) (by intro q; cases q)
        refine test hc ((PySem.W.exm_one (M := M) J3.kIn LT hb1).here ?_)
        cases b with
        | false => exact ih (no rfl)
        | true =>
          refine codeAny_handlers_suite_as (HandSPX.lands_againZ fl3 fun h4 fl4 up4 => ?_)
          have J4 : Inv X pins τ' G' { s' with heap := h4 } := J.landed nb fl4.1 ((up.trans up3).trans up4) hos hag
          obtain ⟨oe4, vs4, he4, hz4, hd4⟩ := fl4.there
          refine store_ok (X := X.suite a ((a, oe4) :: (X.pn ++ pins))) (v := .ref a) (J4.suite he4 hd4 na nL nF) hN hi (.inl hn) rfl (fun s5 S5 => ?_) (.inr hn)
          refine wpAny_mono ((hsu a oe4 cls d (X.pn ++ pins) hz4 ⟨_, hd4⟩).run [] s5 _ G' _ S5 (yes rfl a na)) (fun f s6 hsp => ?_) (fun _ _ z => z.elim)
          cases f with
          | ret u =>
            obtain ⟨v6, τ6, G6, S6, r6, q6⟩ := hsp
            exact gone_ok (S6.unsuite kk) hN hi hn fun s7 J7 => ⟨v6, _, G6, J7, r6, q6⟩
          | next =>
            obtain ⟨τ6, G6, S6, q6⟩ := hsp
            exact gone_ok (S6.unsuite kk) hN hi hn fun s7 J7 => ⟨_, G6, J7, q6⟩
          | brk =>
            obtain ⟨τ6, G6, S6, q6⟩ := hsp
            exact gone_ok (S6.unsuite kk) hN hi hn fun s7 J7 => ⟨_, G6, J7, q6⟩
          | cont =>
            obtain ⟨τ6, G6, S6, q6⟩ := hsp
            exact gone_ok (S6.unsuite kk) hN hi hn fun s7 J7 => ⟨_, G6, J7, q6⟩
    exact each hcs wish
  · cases fl with
    | ret u =>
      obtain ⟨v, τ', G', J', r, q⟩ := hsp
      exact ⟨v, τ', G', J'.ofTry kk, r, q⟩
    | next =>
      obtain ⟨τ', G', J', q⟩ := hsp
      exact wpAny_execs_nil ⟨τ', G', J'.ofTry kk, q⟩
    | brk =>
      obtain ⟨τ', G', J', q⟩ := hsp
      exact ⟨τ', G', J'.ofTry kk, q⟩
    | cont =>
      obtain ⟨τ', G', J', q⟩ := hsp
      exact ⟨τ', G', J'.ofTry kk, q⟩
end

end

section
open PySem.Spec PyProof.Rows
/-! ### calls of methods and of classes whose errors are wished for at the caller's slots -/
section
variable {X : Cx} {CX : CXT} {k : Nat} {C f : Addr} {fd : FuncData} {ps : List Str} {sp : Sp} {E : L2.St → XK} {x m : Str} {p pos apos : Pos} {o e : Expr} {es : List Expr} {ta : TE} {t : TA}
def tMethS (C : Addr) (m : Str) (sp : Sp) (E : L2.St → XK) (ta : TE) (t : TA) : TE := fun τ G Q => ta τ G fun x G1 => ∃ a dx fs, x = .ref a ∧ G1 a = some (.ins C dx fs) ∧ fs.lookup m = none ∧ t τ G1 fun vs G2 => sp (x :: vs) G2 Q (E τ)
theorem pe_methS {pl : Sem Bool} (ho : PE X o ta) (c : Cls X.K C) (hm : Meth X.K C m f) (F : FnOk X.prog X.w X.K X.mg X.base CX k f fd ps sp) (hr : Room k X.A) (hb : Binds X.K fd ps []) (hx : ∀ τ, PassesAt CX X τ (E τ)) (ha : PA X (e :: es) t)
    (h1 : starEach (e :: es) X.env = (false, eval e X.env) :: starEach es X.env := by rfl) (h2 : (backTo pos (starEach es X.env)).any (·.1) = false := by rfl)
    (h3 : eval (.Call (.Attribute o m apos) (e :: es) [] pos) X.env = (do
      let recv ← eval o X.env
      standAt apos.atName
      let (g, first) ← holding [recv] (getMethod recv m pl)
      callWith pos g first (backTo pos (starEach (e :: es) X.env)) (backToKw pos (keywordEach [] X.env))) := by rfl) :
    PE X (.Call (.Attribute o m apos) (e :: es) [] pos) (tMethS C m sp E ta t) := by
  refine ⟨fun pins s τ G Q I h => PySem.W.methodCall_KW (pl := pl) (thn (ho.run pins s τ G _ I h) fun u s1 hh => ?_) h3⟩
  obtain ⟨y, G1, I1, ry, a, dx, fs, rfl, ea, l, q⟩ := hh
  obtain rfl : u = Value.ref a := ry
  refine getmeth_ok I1 ea c hm l (PySem.W.callWith_K (first := [.ref a]) (h₀ := X.base) I.ok.mod.kin hm.kp (thn (ha.run pos pins s1 τ G1 _ I1 q) fun us s2 hh => ?_) h1 h2)
  obtain ⟨vs, G2, I2, r, q2⟩ := hh
  refine ⟨I2.kIn, run_fnSD (dvs := []) (ds := []) (E := E) (us := .ref a :: us) (vs := .ref a :: vs) F hr hb .nil (hx τ) I2 (.cons rfl r) ?_⟩
  rw [List.append_nil]
  exact q2
def tMakeS (C : Addr) (sp : Sp) (E : L2.St → XK) (t : TA) : TE := fun τ G Q => t τ G fun vs G1 => ∀ x dx, G1 x = none → G1 dx = none → dx ≠ x →
  sp (.ref x :: vs) (upd (upd G1 dx (.own x)) x (.ins C dx [])) (fun v G2 => v = .non ∧ Q (.ref x) G2) (E τ)
theorem pe_makeS (M : Mk X.K C f) (F : FnOk X.prog X.w X.K X.mg X.base CX k f fd ps sp) (hr : Room (k + 1) X.A) (hg : Gl X x) (hm : X.mg x = some (.ref C)) (hb : Binds X.K fd ps []) (hx : ∀ τ, PassesAt CX X τ (E τ)) (ha : PA X (e :: es) t)
    (hdb : (x == ("__debug__" : Str)) = false := by decide) (h1 : starEach (e :: es) X.env = (false, eval e X.env) :: starEach es X.env := by rfl) (h2 : (backTo pos (starEach es X.env)).any (·.1) = false := by rfl) :
    PE X (.Call (.Name x p) (e :: es) [] pos) (tMakeS C sp E t) := by
  refine ⟨fun pins s τ G Q I h => wpAny_Call_Name_kw (ld_glob I hg hm ?_ hdb)⟩
  refine PySem.W.callWith_K (h₀ := X.base) I.ok.mod.kin M.kp (thn (ha.run pos pins s τ G _ I h) fun us s1 hh => ?_) h1 h2
  obtain ⟨vs, G1, I1, r, q⟩ := hh
  refine ⟨I1.kIn, ?_⟩
  show wpAny _ _ (call (.ref C) us) _ _ _
  let n := s1.heap.objs.size
  have hq := q (n + 1) n (I1.hok.fresh (Nat.le_succ _)) (I1.hok.fresh (Nat.le_refl _)) (Nat.ne_of_lt (Nat.lt_succ_self _))
  have I2 := Inv.made (C := C) I1
  have r2 : Vals (V.ref (n + 1) :: vs) (Value.ref (n + 1) :: us) := .cons rfl r
  have hl : (Value.ref (n + 1) :: us).length = ps.length := by
    have z := r2.length
    rw [F.len _ _ _ _ hq] at z
    exact z.symm
  have hbb := hb _ (Value.ref (n + 1) :: us) I2.kIn (by rw [List.append_nil]; exact hl)
  rw [List.append_nil] at hbb
  refine wpAny_call (make_map (f := f) I1.kIn M.makes M.init (beq_iff_eq.mp M.fn) (codeAny_mono (F.run _ X.stack _ _ ⟨Value.ref (n + 1) :: us, []⟩ (Value.ref (n + 1) :: us) _ _ (E τ) (hr.make C us []) (I2.env0.make C us []) hbb r2 hq) fun r s' hq' => ?_))
  cases r with
  | error z => exact hx τ pins _ _ z s' I2 hq'
  | ok fl =>
    cases fl with
    | ret u =>
      obtain ⟨v, G', I3, rv, ev, q3⟩ := I2.after hq'
      subst ev
      exact ⟨rv, V.ref (n + 1), G', I3, rfl, q3⟩
    | next => exact hq'.elim
    | brk => exact hq'.elim
    | cont => exact hq'.elim
end
/-! ### what was said of places stays when a list is written anew -/
theorem Pr.over {H : Hp} {m : Addr} {zs ws : List V} {v : V} {p : Pl} (h : Pr H v p) (hm : H m = some (.lst zs)) : Pr (upd H m (.lst ws)) v p := by
  obtain ⟨t, rfl, h⟩ := h
  exact ⟨t, rfl, by rw [upd_ne (ne_of h hm (by intro z; cases z))]; exact h⟩
theorem Prs.over {H : Hp} {m : Addr} {zs ws vs : List V} {ps : List Pl} (h : Prs H vs ps) (hm : H m = some (.lst zs)) : Prs (upd H m (.lst ws)) vs ps := by
  induction h with
  | nil => exact .nil
  | cons a _ ih => exact .cons (a.over hm) ih
theorem Same.over {H0 H : Hp} {m : Addr} {o : HO} (k : Same H0 H) (n : H0 m = none) : Same H0 (upd H m o) := fun b u e => by
  rw [upd_ne (ne_of_none e n)]
  exact k b u e
/-! ### lists of two lists of places -/
def dLL (a b : List Pl) : PyData := .list [dL a, dL b]
theorem eqv_dLL (a b a' b' : List Pl) : PyData.eqv (dLL a b) (dLL a' b') = decide (a = a' ∧ b = b') := by
  show PyData.eqvAll [dL a, dL b] [dL a', dL b'] = _
  simp only [PyData.eqvAll, eqv_dL, Bool.and_true, Bool.decide_and]
theorem sh_dLL (a b : List Pl) : SeqAt.shaped (dLL a b) = true := by
  have h1 := depth_dPs a
  have h2 := depth_dPs b
  have e : PyData.canLay0 (dLL a b) = (PyData.canLayAll0 (a.map dP) && (PyData.canLayAll0 (b.map dP) && true)) := rfl
  unfold SeqAt.shaped
  rw [e, lay_dPs, lay_dPs]
  refine decide_eq_true ?_
  show max (PyData.depthAll (a.map dP) + 1) (max (PyData.depthAll (b.map dP) + 1) 0) + 1 ≤ 64
  omega
def dPP (a b : Pl) : PyData := .tuple [dP a, dP b]
theorem eqv_dPP (a b a' b' : Pl) : PyData.eqv (dPP a b) (dPP a' b') = decide (a = a' ∧ b = b') := by
  show PyData.eqvAll [dP a, dP b] [dP a', dP b'] = _
  simp only [PyData.eqvAll, eqv_dP, Bool.and_true, Bool.decide_and]
theorem sh_dPP (a b : Pl) : SeqAt.shaped (dPP a b) = true := rfl

end

section
open PySem.Spec PyProof.Rows GenW GxR NdefX
/-! ### all and any over a generator expression whose element may call -/
/-- the generator's own frame -/
abbrev envG (X : Cx) (sc : Scope) (C : Addr) (cd : Value) : Env := genEnv sc (cloFrom X.env.cells sc.names []) C cd builtinsNs X.env
/-- and its surroundings; s0, H0: ahead of its frame; fp: the iterator's objects -/
abbrev cxG (X : Cx) (N : List Str) (sc : Scope) (B : Around) (s0 : Shared) (H0 : Hp) (cd : Value) (fp : List Addr) : Cx :=
  { X with
    A := B
    N := N
    s_0 := s0
    H_0 := H0
    env := envG X sc s0.heap.objs.size cd
    outer := X.stack
    stack := envG X sc s0.heap.objs.size cd :: X.stack
    ex := fp
    fn := fun _ => false
    calm := true
    pn := []
    xe := fun _ _ => False }
/-- what its scope must keep -/
structure GSc (env : Env) (sc : Scope) : Prop where
  kind : sc.kind = .function
  co : sc.isCoroutine = false
  cell : ∀ y ∈ sc.names, y.2 ≠ .cell
  dot : sc.names.lookup (".0" : Str) = some NameKind.local
  free : ∀ y ∈ sc.names, y.2 = .free → ∃ c, env.cells.lookup y.1 = some c
/-- the free names' slots: fr tells for each name its slot outside, none for an own one -/
def slotsG (fr : List (Option Nat)) (σ : L2.St) : L2.St := fr.map fun o => match o with
  | none => none
  | some j => (σ[j]?).join
structure GFr (X : Cx) (sc : Scope) (N : List Str) (fr : List (Option Nat)) : Prop where
  len : fr.length = N.length
  at_ : ∀ (i : Nat) (y : Str) (j : Nat), N[i]? = some y → fr[i]? = some (some j) → sc.names.lookup y = some .free ∧ X.N[j]? = some y ∧ (X.env.scope.names.lookup y = some .cell ∨ X.env.scope.names.lookup y = some .free)
theorem slotsG_some {fr : List (Option Nat)} {σ : L2.St} {i : Nat} {v : V} (h : (slotsG fr σ)[i]? = some (some v)) : ∃ j, fr[i]? = some (some j) ∧ σ[j]? = some (some v) := by
  unfold slotsG at h
  rw [List.getElem?_map] at h
  cases e : fr[i]? with
  | none => rw [e] at h; cases h
  | some o =>
    rw [e] at h
    cases o with
    | none => simp at h
    | some j =>
      refine ⟨j, rfl, ?_⟩
      have h2 : (σ[j]?).join = some v := by simpa using h
      cases q : σ[j]? with
      | none => rw [q] at h2; cases h2
      | some w => rw [q] at h2; cases w with
        | none => cases h2
        | some v' => cases h2; rfl
section
variable {X : Cx} {pins : List (Addr × Obj)} {σ : L2.St} {H : Hp} {s0 s5 : Shared}
/-- all stands that stood -/
theorem Inv.stood (I : Inv X pins σ H s0) (os : s5.os = s0.os) (k : ∀ b o, s0.heap.get? b = some o → s5.heap.get? b = some o) (hb : AllBare s5.gens) : Inv X pins σ H s5 :=
  I.call' (ch := []) os (Un.kept k) (I.hok.kept k) hb fun b z => absurd z (by simp)
theorem start_gen {N : List Str} {sc : Scope} {B : Around} {cd : Value} {fp : List Addr} {a : Addr} {o : Obj} {m : Str → Option Value}
    {fr : List (Option Nat)} (I : Inv X pins σ H s0) (S : GSc X.env sc) (FR : GFr X sc N fr) (hf : ∀ b ∈ fp, FpOk X pins H b ∧ b < s0.heap.objs.size) (hB : B.handled = none)
    (hfr : B.frames = some (envG X sc s0.heap.objs.size cd :: X.stack)) (os : s5.os = s0.os) (hb : AllBare s5.gens)
    (k : ∀ b u, s0.heap.get? b = some u → s5.heap.get? b = some u) (hn : s5.heap.Ns s0.heap.objs.size m)
    (ha : s0.heap.objs.size < a) (hao : s5.heap.get? a = some o) (hod : ∀ v, o.data ≠ .cell v) :
    Inv (cxG X N sc B s0 H cd fp) [(a, o)] (slotsG fr σ) H s5 := by
  have cm : ∀ {y c}, (cloFrom X.env.cells sc.names []).lookup y = some c → X.env.cells.lookup y = some c := fun {y c} e => clo_cm S.free e
  have nofs : ∀ b ∈ frs X.stack, b < s0.heap.objs.size := fun b hb => by
    rcases List.mem_cons.mp (I.stkSub b hb) with z | z
    · rw [z]; exact I.lt
    · obtain ⟨_, u, hu, _⟩ := I.funs.mem z
      exact Heap.lt_size hu
  refine ⟨⟨I.ok.mod, S.kind, I.ok.glob, rfl, Nat.le_refl _, fun y z c e1 e2 => I.ok.inj y z c (cm e1) (cm e2), fun y hy => ?_, fun y c z => ?_, fun _ => hB, hfr, .inr ⟨rfl, rfl⟩,
      fun b hb => ⟨Nat.ne_of_lt (hf b hb).2, fun y c e z => (hf b hb).1.2.2.2.2.1 y c (cm e) z⟩, I.bs, Nat.le_trans I.ok.bsz I.sz, fun b u e hb => ?_, fun b hb z => ?_, I.stack, I.stkFree⟩,
    os, hb, Un.kept k, ⟨m, hn, fun i y v h1 h2 => ?_⟩, fun y c e => ?_, I.hok.fresh (Nat.le_refl _), fun y c e => I.freeC y c (cm e), fun p hp => ?_, I.hok.kept k, ?_⟩
  · have hy : sc.names.lookup y = some .cell ∨ sc.names.lookup y = some .free := hy
    rcases hy with hy | hy
    · exact absurd rfl (S.cell _ (PySem.mem_of_lookup hy))
    · have hm := PySem.mem_of_lookup hy
      obtain ⟨c, hc⟩ := S.free _ hm rfl
      exact ⟨c, clo_has S.free hm hc⟩
  · exact absurd (show (false : Bool) = true from z) (by decide)
  · rcases (hf b hb).1.2.2.2.1 with z | z
    · exact I.ok.noex b u e z
    · exact absurd (Nat.lt_of_lt_of_le (Heap.lt_size e) (Nat.le_trans I.ok.bsz z)) (Nat.lt_irrefl _)
  · rcases List.mem_cons.mp (I.stkSub b z) with z | z
    · exact (hf b hb).1.2.1 z
    · exact (hf b hb).1.2.2.1 z
  · obtain ⟨j, e1, e2⟩ := slotsG_some h2
    obtain ⟨f1, f2, f3⟩ := FR.at_ i y j h1 e1
    obtain ⟨m0, _, hl⟩ := I.loc
    obtain ⟨u, r, lk⟩ := hl j y v f2 e2 (f3.elim (fun z => .inr (.inl z)) fun z => .inr (.inr z))
    refine fun _ => ⟨u, r, .inr ⟨.inr f1, ?_⟩⟩
    rcases lk with ⟨z, _⟩ | ⟨_, c, hc, hv⟩
    · have z : X.env.scope.names.lookup y = some .local := z
      rcases f3 with q | q <;> rw [q] at z <;> cases z
    · exact ⟨c, clo_has S.free (PySem.mem_of_lookup f1) hc, hv.keeps k⟩
  · obtain ⟨v, hv⟩ := I.cell y c (cm e)
    exact ⟨v, hv.keeps k⟩
  · have hp : p ∈ [(a, o)] := hp
    obtain rfl : p = (a, o) := by simpa using hp
    exact ⟨hao, I.hok.fresh (Nat.le_of_lt ha), Nat.ne_of_gt ha, fun z => absurd (Nat.lt_trans ha (nofs _ z)) (Nat.lt_irrefl _), hod⟩
  · show (slotsG fr σ).length = N.length
    unfold slotsG
    rw [List.length_map]
    exact FR.len
end

end

section
open PySem.Spec PyProof.Rows GenW GxR
/-! ### the generator's turns -/
/-- what it hands out; st: the answer at which the asker stops -/
def YG (Y : Cx) (pins : List (Addr × Obj)) (st : Bool) (Q : VK) : Protocol := fun _ _ v s kap =>
  ∃ σ' H' c, v = .bool c ∧ Inv Y pins σ' H' s ∧ (c = st → Q (.bl st) H') ∧
    (c ≠ st → ∀ s2 : Shared, s2.heap = s.heap → s2.os = s.os → AllBare s2.gens → kap (.send .none) s2)
def RG (Y : Cx) (pins : List (Addr × Obj)) (st : Bool) (Q : VK) : GenEnd := fun n s₀ r s₁ =>
  ((r = .ok (.ret .none) ∨ r = .ok .next) ∧ (fun (_ : Nat) (_ t : Shared) => ∃ σ' H', Inv Y pins σ' H' t ∧ Q (.bl (!st)) H') n s₀ s₁) ∨ ∃ e, r = .error e ∧ (fun (_ : Value) (_ : Shared) => False) e s₁
/-- the loop of the promise -/
def Turns (J : It) (g : TG) (te : TE) (st : Bool) (Q : VK) (W : Nat → Nat → L2.St → Hp → Prop) : Prop := ∀ i m σ H, W i m σ H →
  (J.stop i H ∧ Q (.bl (!st)) H) ∨ (J.go i H ∧ ∃ N : L2.St → Hp → Prop, (∀ σ' H', N σ' H' → ∃ m', m' < m ∧ W (i + 1) m' σ' H') ∧
    ∀ x H', J.yld i H x H' → g x σ H' fun σ2 H2 => te σ2 H2 fun y H3 => ∃ c, y = .bl c ∧ if c = st then Q (.bl st) H3 else N σ2 H3)
section
variable {Y : Cx} {A : Around} {tg elt iter : Expr} {sc : Scope} {pos : Pos} {it : Addr} {fp : List Addr} {tn : Nat → Heap → Prop} {J : It} {g : TG} {te : TE} {st : Bool} {Q : VK}
  {W : Nat → Nat → L2.St → Hp → Prop} {pins : List (Addr × Obj)}
theorem seg_turns (hc : Y.calm = true) (hco : Y.env.scope.isCoroutine = false)
    (hA : A.over (.compLoop (.GeneratorExp elt [⟨tg, iter, [], 0⟩] sc pos) 0 (.ref it) .none Y.env) [] = Y.A)
    (T : Turn Y.prog Y.w Y.K tg J fp it tn) (hg : PG Y tg g) (he : PE Y elt te) (hx : ∀ e s, Y.xe e s → False)
    (ff : ∀ b ∈ fp, ∀ H : Hp, H b = none → FpOk Y pins H b) (turn : Turns J g te st Q W) :
    ∀ (m n i : Nat) (σ : L2.St) (H : Hp) (s₀ s : Shared), m < n → Inv Y pins σ H s → tn i s.heap → (∀ b ∈ fp, H b = none) → W i m σ H →
      Seg (model Y.prog Y.w) A (RG Y pins st Q) (YG Y pins st Q) n s₀ (.compLoop (.GeneratorExp elt [⟨tg, iter, [], 0⟩] sc pos) 0 (.ref it) .none Y.env)
        ((model Y.prog Y.w).den (.compLoop (.GeneratorExp elt [⟨tg, iter, [], 0⟩] sc pos) 0 (.ref it) .none Y.env)) [] s := by
  intro m
  induction m using Nat.strongRecOn with
  | _ m ih =>
    intro n i σ H s₀ s hmn I ht hf hw
    have fpo : ∀ {H' : Hp}, (∀ b ∈ fp, H' b = none) → ∀ b ∈ fp, FpOk Y pins H' b := fun q b hb => ff b hb _ (q b hb)
    show Seg _ A _ _ n s₀ _ ((compTurn (.GeneratorExp elt [⟨tg, iter, [], 0⟩] sc pos) 0 (.ref it) .none Y.env).onRaise (leaving Y.env)) [] s
    rw [compTurn_gen, Sem.onRaise_eq_wrap]
    refine seg_bind_wrap (wpAny_standAt ?_)
    rcases turn i m σ H hw with ⟨hstop, q⟩ | ⟨go, N, hN, step⟩
    · refine seg_bind_wrap ?_
      rw [hA]
      refine wpAny_mono (T.done Y rfl rfl rfl hc i pins s σ H (fun _ _ => False) I (fpo hf) ht hstop) (fun r s4 h4 => ?_) fun _ _ e => e.elim
      obtain ⟨rfl, I4⟩ := h4
      exact seg_end (.ok .next) (.inl ⟨.inr rfl, σ, H, I4, q⟩)
    · refine seg_bind_wrap ?_
      rw [hA]
      refine wpAny_mono (T.item Y rfl rfl rfl hc i pins s σ H (fun _ _ => False) I (fpo hf) ht go) (fun r s4 h4 => ?_) fun _ _ e => e.elim
      obtain ⟨u, rfl, h4⟩ := h4
      refine seg_bind_wrap ?_
      rw [hA]
      refine wpAny_mono h4 (fun _ s5 h5 => ?_) fun _ _ e => e.elim
      obtain ⟨x, H5, I5, r5, y5, t5, f5⟩ := h5
      have I5' := I5.pinned (fpo f5) (T.obj _ _ t5)
      refine seg_bind_wrap ?_
      rw [hA]
      refine wpAny_mono (hg.run _ s5 σ H5 x u _ I5' r5 (step x H5 y5)) (fun _ s6 h6 => ?_) fun _ _ e => (hx _ _ e).elim
      obtain ⟨σ6, H6, I6, q6⟩ := h6
      simp only [List.forIn_nil]
      refine seg_bind_wrap (wpAny_pure ?_)
      simp only [if_true]
      have hy : ∀ v, yieldOut Y.env v = yieldValue v := fun v => by simp only [yieldOut, hco, Bool.false_eq_true, if_false]
      simp only [hy]
      rw [Sem.bind_eq_wrap', Sem.bind_eq_wrap', Sem.wrap_wrap, Sem.wrap_wrap]
      refine seg_wrap ?_
      rw [hA]
      refine wpAny_mono (he.run _ s6 σ6 H6 _ I6 q6) (fun y s7 h7 => ?_) fun _ _ e => (hx _ _ e).elim
      obtain ⟨v7, H7, I7, r7, c, rfl, q7⟩ := h7
      obtain rfl : y = .bool c := r7
      have J7 : Inv Y pins σ6 H7 s7 := I7.unpinned
      have t7 : tn (i + 1) s7.heap := T.keep _ _ _ t5 fun b hb o e => (I7.pin (b, o) (List.mem_append_right _ (List.mem_append_right _ (mem_pinsAt hb e)))).1
      have f7 : ∀ b ∈ fp, H7 b = none := fun b hb => by
        obtain ⟨o, e, _⟩ := T.obj _ _ t5 b hb
        exact (I7.pin (b, o) (List.mem_append_right _ (List.mem_append_right _ (mem_pinsAt hb e)))).2.1
      obtain ⟨k, rfl⟩ : ∃ k, n = k + 1 := ⟨n - 1, by omega⟩
      refine seg_at (seg_yield rfl rfl rfl ⟨σ6, H7, c, rfl, J7, fun e => ?_, fun e s2 eh eo eb => ?_⟩)
      · rw [if_pos e] at q7
        exact q7
      · rw [if_neg e] at q7
        obtain ⟨m', hm, w7⟩ := hN σ6 H7 q7
        exact seg_again rfl (ih m' hm k (i + 1) σ6 H7 s2 s2 (by omega) (Inv.stood J7 eo (fun b o z => by rw [eh]; exact z) eb) (by rw [eh]; exact t7) f7 w7)
/-- from its beginning -/
theorem seg_begins (hc : Y.calm = true) (hco : Y.env.scope.isCoroutine = false)
    (hA : A.over (.compLoop (.GeneratorExp elt [⟨tg, iter, [], 0⟩] sc pos) 0 (.ref it) .none Y.env) [] = Y.A)
    (T : Turn Y.prog Y.w Y.K tg J fp it tn) (hg : PG Y tg g) (he : PE Y elt te) (hx : ∀ e s, Y.xe e s → False)
    (ff : ∀ b ∈ fp, ∀ H : Hp, H b = none → FpOk Y pins H b) (turn : Turns J g te st Q W)
    (m n : Nat) (σ : L2.St) (H : Hp) (s₀ s : Shared) (hmn : m < n) (I : Inv Y pins σ H s) (ht : tn 0 s.heap) (hf : ∀ b ∈ fp, H b = none) (hw : W 0 m σ H) :
      Seg (model Y.prog Y.w) A (RG Y pins st Q) (YG Y pins st Q) n s₀ (.compStart (.GeneratorExp elt [⟨tg, iter, [], 0⟩] sc pos) 0 (.ref it) .none Y.env)
        ((model Y.prog Y.w).den (.compStart (.GeneratorExp elt [⟨tg, iter, [], 0⟩] sc pos) 0 (.ref it) .none Y.env)) [] s := by
  have rest := seg_turns hc hco hA T hg he hx ff turn m n 0 σ H s₀ s hmn I ht hf hw
  show Seg _ A _ _ n s₀ _ ((compStart (.GeneratorExp elt [⟨tg, iter, [], 0⟩] sc pos) 0 (.ref it) .none Y.env).onRaise (leaving Y.env)) [] s
  unfold compStart
  rw [Sem.onRaise_eq_wrap]
  show Seg _ A _ _ n s₀ _ ((ask >>= _).wrap _ _ _ _) [] s
  refine seg_bind_wrap (wpAny_askSetting ?_)
  split
  · exact seg_again rfl rest
  · refine seg_bind_wrap (wpAny_rule ?_)
    first
      | exact seg_bind_wrap (wpAny_standAt (seg_bind_wrap (T.self _ 0 s _ _ ht (seg_again rfl rest))))
      | (show Seg _ A _ _ n s₀ _ ((standAt iter.pos >>= _).wrap _ _ _ _) [] s
         exact seg_bind_wrap (wpAny_standAt (seg_bind_wrap (T.self _ 0 s _ _ ht (seg_again rfl rest)))))
end

end

section
open PySem.Spec PyProof.Rows GenW GxR
/-! ### who asks: all, any -/
section
variable {Y : Cx} {A : Around} {st : Bool} {Q : VK} {pins : List (Addr × Obj)} {R : Result → Shared → Prop} {a : Addr} {g : Nat}
theorem all_asks (hh : A.handled = none) (hd : A.depth < recursionLimit) (hp : ∀ σ' H' t, Inv Y pins σ' H' t → t.heap.IsGen a g)
    (hend : ∀ σ' H' b t, Inv Y pins σ' H' t → Q (.bl b) H' → R (.ok (.ret (.bool b))) t) :
    ∀ (n : Nat) (s : Shared), s.heap.IsGen a g → s.heap.NoLimit →
      (∃ gs, s.gens[g]? = some gs ∧ gs.Goes (model Y.prog Y.w) A.in1.in1 (RG Y pins false Q) (YG Y pins false Q) n (.send .none) (s.setGen g .running)) →
      codeAny (model Y.prog Y.w) A (.builtin "all.loop" ⟨[.ref a], []⟩) R s := by
  intro n
  induction n with
  | zero =>
    intro s hg hl ⟨gs, hgs, hgo⟩
    refine codeAny_builtin F.entry_all_loop ?_
    rw [Around.under_plainId F.plain_all_loop _]
    show wpAny _ A.in1 (pyNext (.ref a) >>= _) _ _ s
    refine wpAny_bind (next_genG (A := A.in1) hh hl hd hg hgs hgo (fun v s₁ gs' hbare hv => ?_) (fun s₁ hf h' hk => ?_) fun e s₁ he => he.elim)
    · obtain ⟨σ', H', c, rfl, J, h1, h2⟩ := hv
      refine wpAny_bind (wpAny_holding (wpAny_truthy_bool ?_))
      refine wpAny_bind (wpAny_letGo ?_)
      cases c with
      | true => exact (h2 (by decide) _ rfl rfl J.bare).elim
      | false =>
        simp only [Bool.false_eq_true, if_false]
        refine wpAny_bind (wpAny_rule (wpAny_pure ?_))
        exact hend σ' H' false _ (Inv.stood (s5 := s₁.setGen g gs') J rfl (fun _ _ z => z) (allBare_setGen J.bare hbare)) (h1 rfl)
    · obtain ⟨σ', H', J, q⟩ := hf
      refine wpAny_bind (wpAny_rule (wpAny_pure ?_))
      exact hend σ' H' true _ (Inv.stood (s5 := { s₁.setGen g .finished with heap := h' }) J rfl hk (allBare_setGen J.bare rfl)) q
  | succ n ih =>
    intro s hg hl ⟨gs, hgs, hgo⟩
    have hgl : g < s.gens.size := (Array.getElem?_eq_some_iff.mp hgs).1
    refine codeAny_builtin F.entry_all_loop ?_
    rw [Around.under_plainId F.plain_all_loop _]
    show wpAny _ A.in1 (pyNext (.ref a) >>= _) _ _ s
    refine wpAny_bind (wpAny_gsz (n := g + 1) hgl (next_genG (A := A.in1) hh hl hd hg hgs hgo (fun v s₁ gs' hbare hv => ?_) (fun s₁ hf h' hk => ?_) fun e s₁ he => he.elim))
    · intro hsz
      obtain ⟨σ', H', c, rfl, J, h1, h2⟩ := hv
      have J2 : Inv Y pins σ' H' (s₁.setGen g gs') := Inv.stood J rfl (fun _ _ z => z) (allBare_setGen J.bare hbare)
      have hs1 : g < s₁.gens.size := by
        have q : (s₁.setGen g gs').gens.size = s₁.gens.size := setGen_size _ _ _
        have q2 : g + 1 ≤ (s₁.setGen g gs').gens.size := hsz
        omega
      refine wpAny_bind (wpAny_holding (wpAny_truthy_bool ?_))
      refine wpAny_bind (wpAny_letGo ?_)
      cases c with
      | true =>
        simp only [if_true]
        exact wpAny_pure ⟨plainId_quiet F.plain_all_loop _, ih _ (hp _ _ _ J2) J2.nolimit ⟨gs', setGen_at hs1, h2 (by decide) _ rfl rfl (allBare_setGen J2.bare rfl)⟩⟩
      | false =>
        simp only [Bool.false_eq_true, if_false]
        refine wpAny_bind (wpAny_rule (wpAny_pure ?_))
        exact hend σ' H' false _ J2 (h1 rfl)
    · intro hsz
      obtain ⟨σ', H', J, q⟩ := hf
      refine wpAny_bind (wpAny_rule (wpAny_pure ?_))
      exact hend σ' H' true _ (Inv.stood (s5 := { s₁.setGen g .finished with heap := h' }) J rfl hk (allBare_setGen J.bare rfl)) q
theorem any_asks (hh : A.handled = none) (hd : A.depth < recursionLimit) (hp : ∀ σ' H' t, Inv Y pins σ' H' t → t.heap.IsGen a g)
    (hend : ∀ σ' H' b t, Inv Y pins σ' H' t → Q (.bl b) H' → R (.ok (.ret (.bool b))) t) :
    ∀ (n : Nat) (s : Shared), s.heap.IsGen a g → s.heap.NoLimit →
      (∃ gs, s.gens[g]? = some gs ∧ gs.Goes (model Y.prog Y.w) A.in1.in1 (RG Y pins true Q) (YG Y pins true Q) n (.send .none) (s.setGen g .running)) →
      codeAny (model Y.prog Y.w) A (.builtin "any.loop" ⟨[.ref a], []⟩) R s := by
  intro n
  induction n with
  | zero =>
    intro s hg hl ⟨gs, hgs, hgo⟩
    refine codeAny_builtin F.entry_any_loop ?_
    rw [Around.under_plainId F.plain_any_loop _]
    show wpAny _ A.in1 (pyNext (.ref a) >>= _) _ _ s
    refine wpAny_bind (next_genG (A := A.in1) hh hl hd hg hgs hgo (fun v s₁ gs' hbare hv => ?_) (fun s₁ hf h' hk => ?_) fun e s₁ he => he.elim)
    · obtain ⟨σ', H', c, rfl, J, h1, h2⟩ := hv
      refine wpAny_bind (wpAny_holding (wpAny_truthy_bool ?_))
      refine wpAny_bind (wpAny_letGo ?_)
      cases c with
      | false => exact (h2 (by decide) _ rfl rfl J.bare).elim
      | true =>
        simp only [if_true]
        refine wpAny_bind (wpAny_rule (wpAny_pure ?_))
        exact hend σ' H' true _ (Inv.stood (s5 := s₁.setGen g gs') J rfl (fun _ _ z => z) (allBare_setGen J.bare hbare)) (h1 rfl)
    · obtain ⟨σ', H', J, q⟩ := hf
      refine wpAny_bind (wpAny_rule (wpAny_pure ?_))
      exact hend σ' H' false _ (Inv.stood (s5 := { s₁.setGen g .finished with heap := h' }) J rfl hk (allBare_setGen J.bare rfl)) q
  | succ n ih =>
    intro s hg hl ⟨gs, hgs, hgo⟩
    have hgl : g < s.gens.size := (Array.getElem?_eq_some_iff.mp hgs).1
    refine codeAny_builtin F.entry_any_loop ?_
    rw [Around.under_plainId F.plain_any_loop _]
    show wpAny _ A.in1 (pyNext (.ref a) >>= _) _ _ s
    refine wpAny_bind (wpAny_gsz (n := g + 1) hgl (next_genG (A := A.in1) hh hl hd hg hgs hgo (fun v s₁ gs' hbare hv => ?_) (fun s₁ hf h' hk => ?_) fun e s₁ he => he.elim))
    · intro hsz
      obtain ⟨σ', H', c, rfl, J, h1, h2⟩ := hv
      have J2 : Inv Y pins σ' H' (s₁.setGen g gs') := Inv.stood J rfl (fun _ _ z => z) (allBare_setGen J.bare hbare)
      have hs1 : g < s₁.gens.size := by
        have q : (s₁.setGen g gs').gens.size = s₁.gens.size := setGen_size _ _ _
        have q2 : g + 1 ≤ (s₁.setGen g gs').gens.size := hsz
        omega
      refine wpAny_bind (wpAny_holding (wpAny_truthy_bool ?_))
      refine wpAny_bind (wpAny_letGo ?_)
      cases c with
      | false =>
        simp only [Bool.false_eq_true, if_false]
        exact wpAny_pure ⟨plainId_quiet F.plain_any_loop _, ih _ (hp _ _ _ J2) J2.nolimit ⟨gs', setGen_at hs1, h2 (by decide) _ rfl rfl (allBare_setGen J2.bare rfl)⟩⟩
      | true =>
        simp only [if_true]
        refine wpAny_bind (wpAny_rule (wpAny_pure ?_))
        exact hend σ' H' true _ J2 (h1 rfl)
    · intro hsz
      obtain ⟨σ', H', J, q⟩ := hf
      refine wpAny_bind (wpAny_rule (wpAny_pure ?_))
      exact hend σ' H' false _ (Inv.stood (s5 := { s₁.setGen g .finished with heap := h' }) J rfl hk (allBare_setGen J.bare rfl)) q
end

end

section
open PySem.Spec PyProof.Rows GenW GxR NdefX
/-! ### the expression -/
/-- where the generator's code runs, asked from A -/
abbrev arG (A : Around) (tg elt iter : Expr) (sc : Scope) (pos : Pos) (it : Addr) (env : Env) : Around :=
  A.in1.in1.over (.compLoop (.GeneratorExp elt [⟨tg, iter, [], 0⟩] sc pos) 0 (.ref it) .none env) []
theorem arG_hd {A : Around} {tg elt iter : Expr} {sc : Scope} {pos : Pos} {it : Addr} {env : Env} (h : A.handled = none) : (arG A tg elt iter sc pos it env).handled = none := h
theorem arG_frames {A : Around} {tg elt iter : Expr} {sc : Scope} {pos : Pos} {it : Addr} {env : Env} {l : List Env} (h : A.frames = some l) : (arG A tg elt iter sc pos it env).frames = some (env :: l) := by
  obtain ⟨hd, d, f, gs, u⟩ := A
  obtain rfl : f = some l := h
  rfl
theorem arG_room {k : Nat} {A : Around} {tg elt iter : Expr} {sc : Scope} {pos : Pos} {it : Addr} {env : Env} (r : Room (k + 1) A) : Room k (arG A tg elt iter sc pos it env) :=
  ⟨r.hd, by have := r.dp; show A.depth + 0 + 1 + 3 * k + 5 < _; omega, by have := r.un; show A.units + 1 + 1 + 0 + 3 + 16 * k + 200 < _; omega⟩
/-- a generator stands at a and has handed out nothing -/
def GReady (X : Cx) (pins : List (Addr × Obj)) (σ : L2.St) (N : List Str) (sc : Scope) (st : Bool) (Q : VK) (a : Addr) (s5 : Shared) : Prop :=
  ∃ (g : Nat) (B : Around) (s0 : Shared) (H0 : Hp) (cd : Value) (fp : List Addr) (ps : List (Addr × Obj)) (n : Nat),
    s5.heap.IsGen a g ∧ s5.heap.NoLimit ∧ (∀ σ' H' t, Inv (cxG X N sc B s0 H0 cd fp) ps σ' H' t → t.heap.IsGen a g) ∧
    (∀ σ' H' t, Inv (cxG X N sc B s0 H0 cd fp) ps σ' H' t → Inv X pins σ H' t) ∧
    ∃ gs, s5.gens[g]? = some gs ∧ gs.Goes (model X.prog X.w) X.A.in1.in1 (RG (cxG X N sc B s0 H0 cd fp) ps st Q) (YG (cxG X N sc B s0 H0 cd fp) ps st Q) n (.send .none) (s5.setGen g .running)
/-- the answer: the element's readings, one after another -/
def tAns (st : Bool) (te : TE) : TS := fun D σ H => te σ H fun y H3 => ∃ c, y = .bl c ∧ if c = st then D.rt (.bl st) H3 else D.nx σ H3
def tGen (P : Addr) (fr : List (Option Nat)) (wi : TI) (g : TG) (te : TE) (st : Bool) : TE := fun σ H Q => wi σ H fun J H1 => TabG H1 P ∧ ∀ H2, Tabbed P H1 H2 →
  ∃ W : Nat → Nat → L2.St → Hp → Prop, (∃ m, W 0 m (slotsG fr σ) H2) ∧ ∀ i m σ H, W i m σ H →
    (J.stop i H ∧ (Ends.mk (fun _ H' => Q (.bl (!st)) H') Q (fun _ _ => False) (fun _ _ => False)).nx σ H) ∨ (J.go i H ∧ ∃ N : L2.St → Hp → Prop, (∀ σ' H', N σ' H' → ∃ m', m' < m ∧ W (i + 1) m' σ' H') ∧
      ∀ x H', J.yld i H x H' → g x σ H' fun σ2 H2 => tAns st te { (Ends.mk (fun _ H' => Q (.bl (!st)) H') Q (fun _ _ => False) (fun _ _ => False)) with nx := N, ct := N, bk := fun _ H' => Q (.bl (!st)) H' } σ2 H2)
section
variable {X : Cx} {pins : List (Addr × Obj)} {σ : L2.St} {H : Hp} {s : Shared}
theorem make_gen {c P : Addr} {tg elt iter : Expr} {gpos : Pos} {sc : Scope} {N : List Str} {fr : List (Option Nat)} {wi : TI} {g : TG} {te : TE} {k : Nat} {st : Bool} {Q : VK} {Q' : Value → Shared → Prop}
    (hr : Room (k + 1) X.A) (TB : TabB X.base X.mg c P) (hcode : X.env.code = .ref c) (S : GSc X.env sc) (FR : GFr X sc N fr) (hi : PI X tg iter wi)
    (hb : ∀ (B : Around) (s0 : Shared) (H0 : Hp) (cd : Value) (fp : List Addr), Room k B → PG (cxG X N sc B s0 H0 cd fp) tg g ∧ PE (cxG X N sc B s0 H0 cd fp) elt te)
    (hs : ∀ v, genFold iter X.env v = pure v) (I : Inv X pins σ H s) (h : tGen P fr wi g te st σ H Q)
    (hQ : ∀ a s5, GReady X pins σ N sc st Q a s5 → Q' (.ref a) s5) :
    wpAny (model X.prog X.w) X.A (eval (.GeneratorExp elt [⟨tg, iter, [], 0⟩] sc gpos) X.env) Q' X.xe s := by
  refine wpAny_GeneratorExp_make S.co (closure_ok S.free) S.cell S.dot S.kind (by have := hr.dp; omega) ?_ hs
  refine thn (hi.run pins s σ H _ I h) fun xv s1 h1 => thn h1 fun itv s2 h2 => ?_
  obtain ⟨it, fp, tn, J, H2, rfl, I2, T, t2, f2, ⟨ps, hP, htr⟩, hW⟩ := h2
  have hPs : s2.heap.get? P = some { cls := .none, data := .fields ps } := I2.hok P _ hP
  have cd : PySem.W.CodeHd s2.heap c P := TB.code.keeps fun b u e => I2.bk b u e
  refine ⟨I2.nolimit, ?_⟩
  have cont : ∀ (code : Value) (h3 : Heap) (tk : Nat) (ps' : Array Value), Heap.ExtBut P s2.heap h3 → s2.heap.objs.size ≤ h3.objs.size → h3.get? P = some { cls := .none, data := .fields ps' } → (∃ more, ps' = ps ++ more) → TriplesOk ps'.toList →
      wpAny (model X.prog X.w) X.A (builtinsFor X.env.globals X.env.builtins) (fun bi s₄ => ∀ h', h'.Ns s₄.heap.objs.size (fun y => if y = ".0" then some (Value.ref it) else none) →
        Heap.SameBut s₄.heap.objs.size (s₄.heap.push { cls := .type "frame", data := .dict #[] }) h' →
          Q' (.ref h'.objs.size) { s₄ with
            gens := s₄.gens.push (.fresh (.compStart (.GeneratorExp elt [⟨tg, iter, [], 0⟩] sc gpos) 0 (.ref it) .none (genEnv sc (cloFrom X.env.cells sc.names []) s₄.heap.objs.size code bi X.env))),
            toks := s₄.toks + 1 + 1 + 1,
            heap := h'.push { cls := .type "generator", data := .fields #[.int s₄.gens.size 0, .str "<genexpr>" (s₄.toks + 1), .str (X.env.qual ++ "<genexpr>") (s₄.toks + 1 + 1)] } }) X.xe { s2 with heap := h3, toks := tk } := by
    intro code h3 tk ps' hx3 hsz hP3 hmore ht3
    obtain ⟨more, rfl⟩ := hmore
    obtain ⟨bm, ob, e1, e2, e3, e4, e5, e6, e7, e8⟩ := TB.bm
    have keep3 : ∀ b u, b ≠ P → s2.heap.get? b = some u → h3.get? b = some u := fun b u z e => hx3 b u z e
    have I3 : Inv X pins σ (upd H2 P (.tbl (ps ++ more))) { s2 with heap := h3, toks := tk } := inv_tab (g' := s2.gens) (d' := s2.drawn) I2 hP keep3 hP3 I2.bare
    have TT : Tabbed P H2 (upd H2 P (.tbl (ps ++ more))) := ⟨⟨ps ++ more, upd_same, ht3⟩, fun b z => upd_ne z⟩
    refine wpAny_builtinsFor (m := X.mg) (by rw [I3.ok.glob]; exact I3.mod.glob.keeps I3.bk) e1 e2 (I3.bk _ _ e5) e6 e7 e8 ?_
    intro h' hn' hs'
    -- the new frame at C, the generator behind it
    have sz' : h'.objs.size = h3.objs.size + 1 := by rw [hs'.1, Heap.size_push]
    have keep' : ∀ b u, h3.get? b = some u → h'.get? b = some u := fun b u e => hs'.extBut b u (Nat.ne_of_lt (Heap.lt_size e)) (Heap.get?_push_of_some _ e)
    obtain ⟨W, ⟨m0, w0⟩, turn⟩ := hW _ TT
    have neP : ∀ b ∈ fp, b ≠ P := fun b hb z => by
      have q := (f2 b hb).1
      rw [z, hP] at q
      cases q
    have ltC : ∀ b ∈ fp, b < h3.objs.size := fun b hb => by
      obtain ⟨u, hu, _⟩ := T.obj _ _ t2 b hb
      exact Nat.lt_of_lt_of_le (Heap.lt_size hu) hsz
    have f3 : ∀ b ∈ fp, FpOk X pins (upd H2 P (.tbl (ps ++ more))) b := fun b hb => ⟨by rw [upd_ne (neP b hb)]; exact (f2 b hb).1, (f2 b hb).2⟩
    have aC : h3.objs.size < h'.objs.size := by rw [sz']; exact Nat.lt_succ_self _
    generalize hgo : ({ cls := .type "generator", data := .fields #[.int s2.gens.size 0, .str "<genexpr>" (tk + 1), .str (X.env.qual ++ "<genexpr>") (tk + 1 + 1)] } : Obj) = genO
    have isg : ∀ {h : Heap}, h.get? h'.objs.size = some genO → h.IsGen h'.objs.size s2.gens.size := fun {h} e => by
      subst hgo
      exact ⟨_, _, _, e, rfl, rfl, rfl⟩
    have atA : (h'.push genO).get? h'.objs.size = some genO := Heap.get?_push_size _ (by subst hgo; rfl)
    have keep5 : ∀ b u, h3.get? b = some u → (h'.push genO).get? b = some u := fun b u e => Heap.get?_push_of_some _ (keep' b u e)
    let B : Around := arG X.A tg elt iter sc gpos it (envG X sc h3.objs.size code)
    have rB : Room k B := arG_room hr
    have nofs : ∀ b ∈ fp, b ∉ frs X.stack := fun b hb z => by
      rcases List.mem_cons.mp (I3.stkSub b z) with q | q
      · exact (f2 b hb).2.1 q
      · exact (f2 b hb).2.2.1 q
    refine hQ _ _ ⟨s2.gens.size, B, { s2 with heap := h3, toks := tk }, upd H2 P (.tbl (ps ++ more)), code, fp, [(h'.objs.size, genO)], m0 + 1, isg atA, I3.nolimit.keeps keep5,
      fun σ' H' t J => isg (J.pin (h'.objs.size, genO) (by simp)).1, fun σ' H' t J => ?_, _, Array.getElem?_push_size .., rfl, ?_⟩
    · exact I3.call' (ch := fp) J.os J.base J.hok J.bare fun b hb => ⟨(f2 b hb).2.2.2.1, (f2 b hb).2.1, (f2 b hb).2.2.2.2.1, (f2 b hb).2.2.2.2.2⟩
    · have I5 := start_gen (N := N) (B := B) (cd := code) (fp := fp) (a := h'.objs.size) (o := genO) I3 S FR (fun b hb => ⟨f3 b hb, ltC b hb⟩) rB.hd (arG_frames I3.ok.frames)
        (s5 := { s2 with gens := s2.gens.push (.fresh (.compStart (.GeneratorExp elt [⟨tg, iter, [], 0⟩] sc gpos) 0 (.ref it) .none (envG X sc h3.objs.size code))), toks := tk + 1 + 1 + 1, heap := h'.push genO })
        rfl (I3.bare.push rfl) keep5 (hn'.push _) aC atA (by subst hgo; intro v z; cases z)
      have I6 := Inv.stood (s5 := Shared.setGen { s2 with gens := s2.gens.push (.fresh (.compStart (.GeneratorExp elt [⟨tg, iter, [], 0⟩] sc gpos) 0 (.ref it) .none (envG X sc h3.objs.size code))), toks := tk + 1 + 1 + 1, heap := h'.push genO } s2.gens.size .running) I5 rfl (fun _ _ e => e) (allBare_setGen I5.bare rfl)
      have hb' := hb B { s2 with heap := h3, toks := tk } (upd H2 P (.tbl (ps ++ more))) code fp rB
      refine seg_begins (Y := cxG X N sc B { s2 with heap := h3, toks := tk } (upd H2 P (.tbl (ps ++ more))) code fp) (A := X.A.in1.in1) (tn := tn) (J := J) rfl S.co rfl T hb'.1 hb'.2 (fun _ _ e => e)
        (fun b hb H' hn => ⟨hn, Nat.ne_of_lt (ltC b hb), nofs b hb, .inl hb, fun y e he => (f2 b hb).2.2.2.2.1 y e (clo_cm S.free he), fun p hp => ?_⟩) turn m0 (m0 + 1) _ _ _ _ (Nat.lt_succ_self _) I6
        (T.keep 0 _ _ t2 fun b hb o e => keep5 b o (keep3 b o (neP b hb) e)) (fun b hb => (f3 b hb).1) w0
      have hp : p ∈ [(h'.objs.size, genO)] := hp
      obtain rfl : p = (h'.objs.size, genO) := by simpa using hp
      exact Nat.ne_of_gt (Nat.lt_trans (ltC b hb) aC)
  cases hf : codeAmong gpos ps.toList with
  | none =>
    refine wpAny_genexprCodeX hcode (cd.code hPs htr) (cd.tab hPs) hf fun c' h' tk hx hge hlt hco' _ htab' _ => ?_
    obtain ⟨o1, vs, f1, tf, fl, tg', inF, tx, tt, op, _, _, _, _, _, _, _, _, _, htr', _⟩ := hco'
    exact cont _ h' tk _ hx (Nat.le_trans hge (Nat.le_of_lt hlt)) htab'.2 ⟨_, rfl⟩ htr'
  | some cv =>
    refine wpAny_genexprCode_hit hcode (cd.code hPs htr) hf ?_
    exact cont cv s2.heap s2.toks ps (Heap.ExtBut.refl _ _) (Nat.le_refl _) hPs ⟨#[], by simp⟩ htr
theorem pe_allG {c P : Addr} {tg elt iter : Expr} {p pos gpos : Pos} {sc : Scope} {N : List Str} {fr : List (Option Nat)} {wi : TI} {g : TG} {te : TE} {k : Nat}
    (hr : Room (k + 1) X.A) (hg : Gl X "all") (hm : X.mg "all" = none) (hbt : bootBuiltins "all" = some (.builtin "all")) (TB : TabB X.base X.mg c P) (hcode : X.env.code = .ref c) (S : GSc X.env sc) (FR : GFr X sc N fr) (hi : PI X tg iter wi)
    (hb : ∀ (B : Around) (s0 : Shared) (H0 : Hp) (cd : Value) (fp : List Addr), Room k B → PG (cxG X N sc B s0 H0 cd fp) tg g ∧ PE (cxG X N sc B s0 H0 cd fp) elt te)
    (hs : ∀ v, genFold iter X.env v = pure v)
    (he : starEach [.GeneratorExp elt [⟨tg, iter, [], 0⟩] sc gpos] X.env = (false, eval (.GeneratorExp elt [⟨tg, iter, [], 0⟩] sc gpos) X.env) :: starEach [] X.env := by rfl) :
    PE X (.Call (.Name "all" p) [.GeneratorExp elt [⟨tg, iter, [], 0⟩] sc gpos] [] pos) (tGen P fr wi g te false) := by
  refine ⟨fun pins s σ H Q I h => ?_⟩
  refine wpAny_Call_Name_kw (ld_blt I hg hm hbt ?_)
  refine PyProof.Rows.callWith_builtin1 ?_ he (by rfl)
  rw [he]
  show wpAny _ X.A (spliced ((false, eval (.GeneratorExp elt [⟨tg, iter, [], 0⟩] sc gpos) X.env) :: backTo pos (starEach [] X.env))) _ _ s
  refine Calls.spliced_cons (make_gen hr TB hcode S FR hi hb hs I h fun a s5 hG => ?_)
  refine Calls.spliced_nil ?_
  obtain ⟨n, B, s0, H0, cd, fp, ps, m, q1, q2, q3, q4, q5⟩ := hG
  refine call_function_tree F.kind_all F.plain_all F.entry_all (F.args_all1 _) ?_
  unfold Builtin.«all»
  refine wpAny_bind (m := oneArg "all" _) (wpAny_pure ?_)
  refine wpAny_bind (wpAny_pyIter_gen q1 ?_)
  refine wpAny_pure ⟨plainId_quiet F.plain_all_loop _, ?_⟩
  exact all_asks (Y := cxG X N sc B s0 H0 cd fp) hr.hd (by have := hr.dp; omega) q3 (fun σ' H' b t J q => ⟨.bl b, H', q4 σ' H' t J, rfl, q⟩) m s5 q1 q2 q5
theorem pe_anyG {c P : Addr} {tg elt iter : Expr} {p pos gpos : Pos} {sc : Scope} {N : List Str} {fr : List (Option Nat)} {wi : TI} {g : TG} {te : TE} {k : Nat}
    (hr : Room (k + 1) X.A) (hg : Gl X "any") (hm : X.mg "any" = none) (hbt : bootBuiltins "any" = some (.builtin "any")) (TB : TabB X.base X.mg c P) (hcode : X.env.code = .ref c) (S : GSc X.env sc) (FR : GFr X sc N fr) (hi : PI X tg iter wi)
    (hb : ∀ (B : Around) (s0 : Shared) (H0 : Hp) (cd : Value) (fp : List Addr), Room k B → PG (cxG X N sc B s0 H0 cd fp) tg g ∧ PE (cxG X N sc B s0 H0 cd fp) elt te)
    (hs : ∀ v, genFold iter X.env v = pure v)
    (he : starEach [.GeneratorExp elt [⟨tg, iter, [], 0⟩] sc gpos] X.env = (false, eval (.GeneratorExp elt [⟨tg, iter, [], 0⟩] sc gpos) X.env) :: starEach [] X.env := by rfl) :
    PE X (.Call (.Name "any" p) [.GeneratorExp elt [⟨tg, iter, [], 0⟩] sc gpos] [] pos) (tGen P fr wi g te true) := by
  refine ⟨fun pins s σ H Q I h => ?_⟩
  refine wpAny_Call_Name_kw (ld_blt I hg hm hbt ?_)
  refine PyProof.Rows.callWith_builtin1 ?_ he (by rfl)
  rw [he]
  show wpAny _ X.A (spliced ((false, eval (.GeneratorExp elt [⟨tg, iter, [], 0⟩] sc gpos) X.env) :: backTo pos (starEach [] X.env))) _ _ s
  refine Calls.spliced_cons (make_gen hr TB hcode S FR hi hb hs I h fun a s5 hG => ?_)
  refine Calls.spliced_nil ?_
  obtain ⟨n, B, s0, H0, cd, fp, ps, m, q1, q2, q3, q4, q5⟩ := hG
  refine call_function_tree F.kind_any F.plain_any F.entry_any (F.args_any1 _) ?_
  unfold Builtin.«any»
  refine wpAny_bind (m := oneArg "any" _) (wpAny_pure ?_)
  refine wpAny_bind (wpAny_pyIter_gen q1 ?_)
  refine wpAny_pure ⟨plainId_quiet F.plain_any_loop _, ?_⟩
  exact any_asks (Y := cxG X N sc B s0 H0 cd fp) hr.hd (by have := hr.dp; omega) q3 (fun σ' H' b t J q => ⟨.bl b, H', q4 σ' H' t J, rfl, q⟩) m s5 q1 q2 q5
end

end

section
open PySem.Spec PyProof.Rows
/-! ### a dict comprehension whose keys are tuples -/
section
variable {X : Cx} {pins : List (Addr × Obj)} {σ : L2.St} {H : Hp} {s : Shared}
/-- an entry is laid under a tuple -/
theorem lay_entry {A : Around} {E : Value → Shared → Prop} {D b : Addr} {kvs : List (List Key × V)} {k : List Key} {v : V} {r : Value} {Q : Unit → Shared → Prop}
    (hu : A.units < cLine) (I : Inv X pins σ H s) (hD : H D = some (.dT kvs)) (hb : H b = some (.tup (k.map kV))) (hl : kvs.length < sizeLine) (rv : RelV v r)
    (h : ∀ s', Inv X pins σ (upd H D (.dT (putK kvs k v))) s' → Q () s') : wpAny (model X.prog X.w) A (dictSet D (.ref b) r) Q E s := by
  obtain ⟨le, nd, xs, rel, dd⟩ := dt_of I.hok hD
  have small : xs.length ≤ sizeLine := by rw [← Paired.length rel]; exact le
  have small2 : (putK kvs k v).length ≤ sizeLine := by
    have q := length_putK kvs k v
    omega
  refine wpAny_dictSet_heap (hsz := small) (show (tupleKind (mixKind X.prog X.w)).room A from hu) (key_of I.hok hb) dd fun h2 dd2 same => h _ ?_
  obtain ⟨o, es, ep, ho, p2, p3, p4, _, p5⟩ := dd2
  refine d_write I (by rw [hD]; exact True.intro) same ⟨o, ho⟩ ⟨small2, nd, _, (rel.put k hb rv).keeps fun c ys ec => ?_, o, es, ep, ho, p2, p3, p4, p5⟩
  have cD : c ≠ D := ne_of ec hD fun z => nomatch z
  rw [upd_ne cD]
  exact ec
/-- D: the new dict -/
def tDcT (wi : TI) (g : TG) (tk tv : TE) (vs : List Nat) : TE := fun σ H Q => wi σ H fun J H1 => ∀ D, H1 D = none → ∃ W : Nat → Nat → Hp → Prop, (∃ m, W 0 m (upd H1 D (.dT []))) ∧ ∀ i m H, W i m H →
  (J.stop i H ∧ Q (.ref D) H) ∨ (J.go i H ∧ ∃ Nx : Hp → Prop, (∀ H', Nx H' → ∃ m', m' < m ∧ W (i + 1) m' H') ∧
    ∀ x H', J.yld i H x H' → g x (wipe σ vs) H' fun σ2 H2 => wipe σ2 vs = wipe σ vs ∧ tk σ2 H2 fun y H4 => tv σ2 H4 fun z H5 =>
      ∃ b kvs k, y = .ref b ∧ H5 b = some (.tup (k.map kV)) ∧ H5 D = some (.dT kvs) ∧ kvs.length < sizeLine ∧ Nx (upd H5 D (.dT (putK kvs k z))))
theorem pe_dcT {kx vx tg iter : Expr} {scope : Scope} {own : List (Str × Nat)} {pos : Pos} {wi : TI} {g : TG} {tk tv : TE} (hc : X.calm = true) (hu : X.A.units < cLine) (hN : X.N.Nodup) (hi : PI X tg iter wi) (ok : BlkOk X.N X.env.scope scope own)
    (hb : ∀ (s : Shared) (H : Hp) (C : Addr) (cl : List (Str × Addr)) (fp : List Addr), PG (X.blk s H scope (compEnvC scope cl C X.env) fp) tg g ∧ PE (X.blk s H scope (compEnvC scope cl C X.env) fp) kx tk ∧ PE (X.blk s H scope (compEnvC scope cl C X.env) fp) vx tv)
    (hs : ∀ x, foldedSetIterable iter X.env x = pure x := by intro _; rfl) :
    PE X (.DictComp kx vx [⟨tg, iter, [], 0⟩] scope pos) (tDcT wi g tk tv (own.map (·.2))) := by
  refine ⟨fun pins s σ H Q I h => ?_⟩
  rw [arm_eval_DictComp]
  have caught : ∀ y ∈ scope.names, y.2 = .free → ∃ c, X.env.cells.lookup y.1 = some c := fun y hy e => by
    have q := ok.free y hy e
    exact I.ok.has _ (q.elim .inl .inr)
  refine wpAny_comprehension_free (use := none) rfl hs (closure_ok caught) ok.kind (fun y hy e => by rw [ok.uniq y hy, e]) ?_
  refine thn (hi.run pins s σ H _ I h) fun xv s1 h1 => thn h1 fun itv s2 h2 => ?_
  obtain ⟨it, fp, tn, J, H2, rfl, I2, T, t2, f2, rest⟩ := h2
  refine wpAny_newObj_type (newEnv_comp ?_)
  generalize eD : s2.heap.objs.size = D
  have nD : H2 D = none := I2.hok.fresh (Nat.le_of_eq eD)
  obtain ⟨W, ⟨m0, w0⟩, turn⟩ := rest D nD
  generalize e3 : ({ s2 with heap := s2.heap.push { cls := .type "dict", data := .dict #[] } } : Shared) = s3
  have heap3 : s3.heap = s2.heap.push { cls := .type "dict", data := .dict #[] } := by rw [← e3]
  have I3 : Inv X pins σ (upd H2 D (.dT [])) s3 := by
    rw [← e3]
    refine I2.laid (t' := s2.toks) (fun b o e => Heap.get?_push_of_some _ e) (Nat.le_of_eq eD) ?_
    rw [← eD]
    exact dt_empty s2.heap I2.big
  have old : ∀ b ∈ fp, b < s2.heap.objs.size := fun b hb => by
    obtain ⟨o, e, _⟩ := T.obj _ _ t2 b hb
    exact Heap.lt_size e
  have f3 : ∀ b ∈ fp, FpOk X pins (upd H2 D (.dT [])) b ∧ b < s3.heap.objs.size := fun b hb => by
    have lt := old b hb
    refine ⟨⟨?_, (f2 b hb).2⟩, by rw [heap3, Heap.size_push]; exact Nat.lt_succ_of_lt lt⟩
    rw [upd_ne (by rw [← eD]; exact Nat.ne_of_lt lt)]
    exact (f2 b hb).1
  have t3 : tn 0 s3.heap := T.keep _ _ _ t2 fun b _ o e => by rw [heap3]; exact Heap.get?_push_of_some _ e
  have I4 := block_start I3 ok hN f3
  obtain ⟨pg, pk, pv⟩ := hb s3 (upd H2 D (.dT [])) s3.heap.objs.size (cellsFrom (s3.heap.objs.size + 1) scope.names (cloFrom X.env.cells scope.names [])) fp
  show codeAny _ _ (.compStart (.DictComp kx vx [⟨tg, iter, [], 0⟩] scope pos) 0 (.ref it) (.ref D) (compEnvC scope (cellsFrom (s3.heap.objs.size + 1) scope.names (cloFrom X.env.cells scope.names [])) s3.heap.objs.size X.env))
    (compPost (model X.prog X.w) X.A X.xe none _ (.ref D) s3.heap.objs.size) { s3 with heap := pushCells (s3.heap.push { cls := .type "dict", data := .dict #[] }) scope.names }
  have none3 : ∀ b ∈ fp, (upd H2 D (.dT [])) b = none := fun b hb => (f3 b hb).1.1
  generalize ece : compEnvC scope (cellsFrom (s3.heap.objs.size + 1) scope.names (cloFrom X.env.cells scope.names [])) s3.heap.objs.size X.env = ce at I4 pg pk pv ⊢
  have ceL : ce.locals = s3.heap.objs.size := by subst ece; rfl
  generalize eH3 : upd H2 D (.dT []) = H3 at I3 I4 pg pk pv w0 none3 f3
  generalize e4 : ({ s3 with heap := pushCells (s3.heap.push { cls := .type "dict", data := .dict #[] }) scope.names } : Shared) = s4 at I4 ⊢
  have t4 : tn 0 s4.heap := T.keep _ _ _ t3 fun b _ o e => by rw [← e4]; exact pushCells_keeps _ _ _ _ (Heap.get?_push_of_some _ e)
  have fpo : ∀ {σ' : L2.St} {H' : Hp} {s' : Shared}, Inv (X.blk s3 H3 scope ce fp) [] σ' H' s' → (∀ b ∈ fp, H' b = none) → ∀ b ∈ fp, FpOk (X.blk s3 H3 scope ce fp) [] H' b := fun {σ' H' s'} I' hn b hb =>
    ⟨hn b hb, (I'.ok.exf b hb).1, I'.ok.exfs b hb, .inl hb, fun x c e => (I'.ok.exf b hb).2 x c e, fun p hp => absurd (show p ∈ ([] : List (Addr × Obj)) ++ [] from hp) (by simp)⟩
  have loop : codeAny (model X.prog X.w) X.A (.compLoop (.DictComp kx vx [⟨tg, iter, [], 0⟩] scope pos) 0 (.ref it) (.ref D) ce) (compPost (model X.prog X.w) X.A X.xe none (EP X pins σ Q) (.ref D) s3.heap.objs.size) s4 := by
    refine compLoop_anyD (fun n s' => ∃ i H', Inv (X.blk s3 H3 scope ce fp) [] (wipe σ (own.map (·.2))) H' s' ∧ tn i s'.heap ∧ (∀ b ∈ fp, H' b = none) ∧ W i n H') ?_ m0 ⟨0, H3, I4, t4, none3, w0⟩
    rintro n s5 ⟨i, H5, I5, t5, n5, w5⟩
    rcases turn i n H5 w5 with ⟨hstop, qq⟩ | ⟨go, Nx, hNx, step⟩
    · refine thnF (T.done (X.blk s3 H3 scope ce fp) rfl rfl rfl hc i [] s5 _ H5 (fun _ _ => False) I5 (fpo I5 n5) t5 hstop) fun r s6 h6 => ?_
      obtain ⟨rfl, I6⟩ := h6
      have I7 : Inv X pins σ H5 s6 := I3.call' (ch := fp) I6.os I6.base I6.hok I6.bare fun b hb =>
        have z := (f3 b hb).1.2
        ⟨z.2.2.1, z.1, z.2.2.2.1, z.2.2.2.2⟩
      have nC : H5 s3.heap.objs.size = none := by
        have z : H5 ce.locals = none := I6.free
        rwa [ceL] at z
      obtain ⟨m, hn, _⟩ := I6.loc
      have hn : s6.heap.Ns ce.locals m := hn
      rw [ceL] at hn
      obtain ⟨_, g1, _, g3, g4, g5⟩ := I3.fpOk (Nat.le_refl _) nC
      exact ⟨m, hn, fun h2 sb => ⟨.ref D, H5, I7.turned (t' := s6.toks) (fun b o ne e => (sb.2 b ne).trans e) nC g1 g3 g4 g5, rfl, qq⟩⟩
    · refine thnF (T.item (X.blk s3 H3 scope ce fp) rfl rfl rfl hc i [] s5 _ H5 (fun _ _ => False) I5 (fpo I5 n5) t5 go) fun r s6 h6 => ?_
      obtain ⟨u, rfl, h6⟩ := h6
      refine thnF h6 fun _ s7 ⟨x, H7, I7, r7, y7, t7, n7⟩ => ?_
      have J7 := I7.pinned (fpo I7 n7) (T.obj _ _ t7)
      refine thnF (pg.run _ s7 _ H7 x u _ J7 r7 (step x H7 y7)) fun _ s8 ⟨σ8, H8, I8, ew, q8⟩ => ?_
      simp only [List.forIn_nil]
      refine wpAny_pure ?_
      simp only [if_true]
      refine thnF (pk.run _ s8 σ8 H8 _ I8 q8) fun u1 s10 ⟨yk, H10, I10, r10, q10⟩ => ?_
      refine thnF (pv.run _ s10 σ8 H10 _ I10 q10) fun u2 s11 ⟨yv, H11, I11, r11, b, kvs, k, ek, hb11, hD11, hl11, nx⟩ => ?_
      subst ek
      obtain rfl : u1 = .ref b := r10
      refine lay_entry (X := X.blk s3 H3 scope ce fp) hu I11 hD11 hb11 hl11 r11 fun s12 I12 => ?_
      obtain ⟨m', lt, w'⟩ := hNx _ nx
      have len8 : (wipe σ (own.map (·.2))).length = σ8.length := by rw [← ew, wipe_length]
      have stay : ∀ c ∈ fp, ∀ o, s7.heap.get? c = some o → s12.heap.get? c = some o ∧ (upd H11 D (.dT (putK kvs k yv))) c = none := fun c hc' o e =>
        have z := I12.pin (c, o) (List.mem_append_right _ (List.mem_append_right _ (mem_pinsAt hc' e)))
        ⟨z.1, z.2.1⟩
      refine ⟨m', lt, i + 1, _, (I12.unpinned (pins := [])).weak len8 (fun j v e => ?_), T.keep _ _ _ t7 fun c hc' o e => (stay c hc' o e).1, fun c hc' => ?_, w'⟩
      · rw [← ew] at e
        exact (wipe_some e).1
      · obtain ⟨o, e, _⟩ := T.obj _ _ t7 c hc'
        exact (stay c hc' o e).2
  exact codeAny_compStart_dict loop (T.self X.A 0 _ _ _ t4 loop)
end

end

section
open PySem.Spec PyProof.Rows
/-! ### tuples of numbers and texts (links are such), lists of them -/
abbrev Tk := List L2.Key
/-- v is a tuple that holds k -/
def Kr (H : Hp) (v : V) (k : Tk) : Prop := ∃ t, v = .ref t ∧ H t = some (.tup (k.map kV))
theorem Kr.same {H H' : Hp} {v : V} {k : Tk} (h : Kr H v k) (z : Same H H') : Kr H' v k := by
  obtain ⟨t, rfl, h⟩ := h
  exact ⟨t, rfl, z _ _ h⟩
theorem Kr.over {H : Hp} {m : Addr} {zs ws : List V} {v : V} {k : Tk} (h : Kr H v k) (hm : H m = some (.lst zs)) : Kr (upd H m (.lst ws)) v k := by
  obtain ⟨t, rfl, h⟩ := h
  refine ⟨t, rfl, ?_⟩
  rw [upd_ne (ne_of h hm fun z => nomatch z)]
  exact h
inductive Krs (H : Hp) : List V → List Tk → Prop
  | nil : Krs H [] []
  | cons {v : V} {k : Tk} {vs : List V} {ks : List Tk} : Kr H v k → Krs H vs ks → Krs H (v :: vs) (k :: ks)
section
variable {H H' : Hp} {vs us : List V} {ks ls : List Tk}
theorem Krs.same (h : Krs H vs ks) (z : Same H H') : Krs H' vs ks := by
  induction h with
  | nil => exact .nil
  | cons a _ ih => exact .cons (a.same z) ih
theorem Krs.over {m : Addr} {zs ws : List V} (h : Krs H vs ks) (hm : H m = some (.lst zs)) : Krs (upd H m (.lst ws)) vs ks := by
  induction h with
  | nil => exact .nil
  | cons a _ ih => exact .cons (a.over hm) ih
theorem Krs.len (h : Krs H vs ks) : vs.length = ks.length := by
  induction h with
  | nil => rfl
  | cons a _ ih => exact congrArg (· + 1) ih
theorem Krs.app (h : Krs H vs ks) (g : Krs H us ls) : Krs H (vs ++ us) (ks ++ ls) := by
  induction h with
  | nil => exact g
  | cons a _ ih => exact .cons a ih
theorem Krs.snoc {v : V} {k : Tk} (h : Krs H vs ks) (g : Kr H v k) : Krs H (vs ++ [v]) (ks ++ [k]) := h.app (.cons g .nil)
theorem Krs.at (h : Krs H vs ks) : ∀ {i : Nat} {v : V}, vs[i]? = some v → ∃ k, ks[i]? = some k ∧ Kr H v k := by
  induction h with
  | nil => intro i v e; cases e
  | cons a _ ih =>
    intro i v e
    cases i with
    | zero => cases e; exact ⟨_, rfl, a⟩
    | succ i => exact ih e
theorem Krs.mem (h : Krs H vs ks) {v : V} (m : v ∈ vs) : ∃ k ∈ ks, Kr H v k := by
  induction h with
  | nil => cases m
  | cons a _ ih =>
    rcases List.mem_cons.mp m with e | m
    · subst e; exact ⟨_, List.mem_cons_self, a⟩
    · obtain ⟨k, hk, q⟩ := ih m
      exact ⟨k, List.mem_cons_of_mem _ hk, q⟩
/-- by their addresses -/
theorem Krs.split (h : Krs H vs ks) : ∃ L : List (Addr × Tk), vs = L.map (fun p => V.ref p.1) ∧ ks = L.map (·.2) ∧ ∀ p ∈ L, H p.1 = some (.tup (p.2.map kV)) := by
  induction h with
  | nil => exact ⟨[], rfl, rfl, fun p z => nomatch z⟩
  | cons a _ ih =>
    obtain ⟨t, rfl, e⟩ := a
    obtain ⟨L, rfl, rfl, q⟩ := ih
    refine ⟨(t, _) :: L, rfl, rfl, fun p hp => ?_⟩
    rcases List.mem_cons.mp hp with rfl | hp
    · exact e
    · exact q p hp
theorem krs_of {L : List (Addr × Tk)} (h : ∀ p ∈ L, H p.1 = some (.tup (p.2.map kV))) : Krs H (L.map fun p => V.ref p.1) (L.map (·.2)) := by
  induction L with
  | nil => exact .nil
  | cons p L ih => exact .cons ⟨p.1, rfl, h p List.mem_cons_self⟩ (ih fun q hq => h q (List.mem_cons_of_mem _ hq))
end
/-! ### their data -/
def kd : L2.Key → PyData
  | .inl i => .int i
  | .inr x => .str x
def dK (k : Tk) : PyData := .tuple (k.map kd)
def dKs (ks : List Tk) : PyData := .list (ks.map dK)
theorem eqv_kd (a b : L2.Key) : PyData.eqv (kd a) (kd b) = decide (a = b) := by
  cases a <;> cases b <;> simp only [kd, PyData.eqv, Sum.inl.injEq, Sum.inr.injEq, reduceCtorEq, decide_false] <;> first | rfl | (simp [PyData.eqv]; done) | skip
theorem eqvAll_kd : ∀ a b : Tk, PyData.eqvAll (a.map kd) (b.map kd) = decide (a = b)
  | [], [] => by simp [PyData.eqvAll]
  | [], _ :: _ => by simp [PyData.eqvAll]
  | _ :: _, [] => by simp [PyData.eqvAll]
  | p :: ps, q :: qs => by
    simp only [List.map_cons, PyData.eqvAll, eqv_kd, eqvAll_kd ps qs, List.cons.injEq]
    by_cases h1 : p = q <;> by_cases h2 : ps = qs <;> simp [h1, h2]
theorem eqv_dK (a b : Tk) : PyData.eqv (dK a) (dK b) = decide (a = b) := by
  unfold dK
  rw [PyData.eqv, eqvAll_kd]
theorem eqvAll_dK : ∀ ps qs : List Tk, PyData.eqvAll (ps.map dK) (qs.map dK) = decide (ps = qs)
  | [], [] => by simp [PyData.eqvAll]
  | [], _ :: _ => by simp [PyData.eqvAll]
  | _ :: _, [] => by simp [PyData.eqvAll]
  | p :: ps, q :: qs => by
    simp only [List.map_cons, PyData.eqvAll, eqv_dK, eqvAll_dK ps qs, List.cons.injEq]
    by_cases h1 : p = q <;> by_cases h2 : ps = qs <;> simp [h1, h2]
theorem eqv_dKs (ps qs : List Tk) : PyData.eqv (dKs ps) (dKs qs) = decide (ps = qs) := by
  unfold dKs
  rw [PyData.eqv, eqvAll_dK]
instance (k : Tk) (ks : List Tk) : Decidable (k ∈ ks) := decidable_of_iff (ks.any (fun q => decide (q = k)) = true) (by simp)
theorem any_dK (ks : List Tk) (k : Tk) : ((ks.map dK).any fun z => PyData.eqv z (dK k)) = decide (k ∈ ks) := by
  induction ks with
  | nil => simp
  | cons q ks ih =>
    rw [List.map_cons, List.any_cons, ih, eqv_dK]
    by_cases h1 : q = k
    · subst h1; simp
    · have h2 : ¬ k = q := fun z => h1 z.symm
      simp [h1, h2]
theorem dp_keys {K : PySem.W.Frag} {H : Hp} : ∀ k : Tk, DpAll K H (k.map kV) (k.map kd)
  | [] => .nil
  | .inl i :: k => .cons (.int i) (dp_keys k)
  | .inr x :: k => .cons (.str x) (dp_keys k)
theorem Kr.dp {K : PySem.W.Frag} {H : Hp} {v : V} {k : Tk} (h : Kr H v k) : Dp K H v (dK k) := by
  obtain ⟨t, rfl, h⟩ := h
  exact .tup (SqT.of h) (dp_keys k)
theorem Krs.dps {K : PySem.W.Frag} {H : Hp} {vs : List V} {ks : List Tk} (h : Krs H vs ks) : DpAll K H vs (ks.map dK) := by
  induction h with
  | nil => exact .nil
  | cons a _ ih => exact .cons a.dp ih
theorem Krs.dl {K : PySem.W.Frag} {H : Hp} {l : Addr} {vs : List V} {ks : List Tk} (h : Krs H vs ks) (e : SqL K H l vs) : Dp K H (.ref l) (dKs ks) := .lst e h.dps
theorem depth_kds : ∀ k : Tk, PyData.depthAll (k.map kd) = 0
  | [] => rfl
  | .inl _ :: k => by
    show max 0 (PyData.depthAll (k.map kd)) = 0
    rw [depth_kds k]
    rfl
  | .inr _ :: k => by
    show max 0 (PyData.depthAll (k.map kd)) = 0
    rw [depth_kds k]
    rfl
/-- its texts are texts -/
def okk (k : Tk) : Bool := PyData.canLayAll0 (k.map kd)
theorem lay_dKs : ∀ ks : List Tk, (∀ k ∈ ks, okk k = true) → PyData.canLayAll0 (ks.map dK) = true
  | [], _ => rfl
  | k :: ks, h => by
    show (PyData.canLayAll0 (k.map kd) && PyData.canLayAll0 (ks.map dK)) = true
    rw [lay_dKs ks fun q hq => h q (List.mem_cons_of_mem _ hq), show PyData.canLayAll0 (k.map kd) = true from h k List.mem_cons_self]
    rfl
theorem depth_dKs : ∀ ks : List Tk, PyData.depthAll (ks.map dK) ≤ 1
  | [] => by show 0 ≤ 1; omega
  | k :: ks => by
    have ih := depth_dKs ks
    show max (PyData.depthAll (k.map kd) + 1) (PyData.depthAll (ks.map dK)) ≤ 1
    rw [depth_kds]
    omega
theorem sh_dK {k : Tk} (h : okk k = true) : SeqAt.shaped (dK k) = true := by
  unfold SeqAt.shaped dK
  rw [show PyData.canLay0 (.tuple (k.map kd)) = PyData.canLayAll0 (k.map kd) from rfl, show PyData.canLayAll0 (k.map kd) = true from h]
  refine decide_eq_true ?_
  show PyData.depthAll (k.map kd) + 1 ≤ 64
  rw [depth_kds]
  omega
theorem sh_dKs {ks : List Tk} (hk : ∀ k ∈ ks, okk k = true) : SeqAt.shaped (dKs ks) = true := by
  unfold SeqAt.shaped dKs
  rw [show PyData.canLay0 (.list (ks.map dK)) = PyData.canLayAll0 (ks.map dK) from rfl, lay_dKs ks hk]
  have h := depth_dKs ks
  refine decide_eq_true ?_
  show PyData.depthAll (ks.map dK) + 1 ≤ 64
  omega

end

section
open PySem.Spec PyProof.Rows
/-! ### sorted(xs), xs a list of such tuples; sorted(d), d a dict whose keys they are -/
/-- where the texts stand -/
def shp (k : Tk) : List Bool := k.map fun x => match x with
  | .inl _ => false
  | .inr _ => true
def leK : Tk → Tk → Bool := PySem.W.dataLe false dK
def sortK (ks : List Tk) : List Tk := ks.mergeSort leK
theorem sortK_perm (ks : List Tk) : (sortK ks).Perm ks := List.mergeSort_perm _ _
theorem alike_kd : ∀ a b : Tk, shp a = shp b → PySem.W.alikeAll (a.map kd) (b.map kd) = true
  | [], [], _ => by simp [PySem.W.alikeAll]
  | [], _ :: _, h => by simp [shp] at h
  | _ :: _, [], h => by simp [shp] at h
  | x :: a, y :: b, h => by
    have h2 : shp a = shp b := by
      unfold shp at h ⊢
      simp only [List.map_cons, List.cons.injEq] at h
      exact h.2
    rw [List.map_cons, List.map_cons, PySem.W.alikeAll, alike_kd a b h2]
    unfold shp at h
    simp only [List.map_cons, List.cons.injEq] at h
    cases x <;> cases y <;> simp at h <;> simp [kd, PySem.W.alike]
theorem alike_dK {a b : Tk} (h : shp a = shp b) : PySem.W.alike (dK a) (dK b) = true := by
  unfold dK
  rw [PySem.W.alike]
  exact alike_kd a b h
theorem reads_keys {h : Heap} : ∀ (k : Tk) {its : List Value}, Vals (k.map kV) its → ReadsAll h its (k.map kd) []
  | [], _, .nil => .nil
  | .inl i :: k, _, .cons r t => by
    obtain ⟨u, rfl⟩ := (show ∃ u, _ = Value.int i u from r)
    exact .cons (.int i u) (reads_keys k t)
  | .inr x :: k, _, .cons r t => by
    obtain ⟨u, rfl⟩ := (show ∃ u, _ = Value.str x u from r)
    exact .cons (.str x u) (reads_keys k t)
theorem reads_k {P : Program} {w : World} {H : Hp} {h : Heap} {t : Addr} {k : Tk} (ok : HOk P w H h) (e : H t = some (.tup (k.map kV))) : Reads h (.ref t) (dK k) [] := by
  obtain ⟨_, its, r, o, ho, hc, n, hd⟩ := (show ObjOk P w H h t (.tup (k.map kV)) from ok t _ e)
  exact .tuple ho hc hd (reads_keys k (by simpa using r))
theorem each_map {α β : Type} {R : α → β → Prop} (f : β → α) : ∀ {bs : List β}, (∀ b ∈ bs, R (f b) b) → PySem.W.EachIs R (bs.map f) bs
  | [], _ => .nil
  | b :: bs, h => .cons (h b List.mem_cons_self) (each_map f fun c hc => h c (List.mem_cons_of_mem _ hc))
theorem refs_vals (L : List (Addr × Tk)) : Vals (L.map fun p => V.ref p.1) (L.map fun p => Value.ref p.1) := by
  induction L with
  | nil => exact .nil
  | cons p L ih => exact .cons rfl ih
theorem vals_refs' : ∀ {L : List (Addr × Tk)} {its : List Value}, Vals (L.map fun p => V.ref p.1) its → its = L.map fun p => Value.ref p.1
  | [], _, .nil => rfl
  | p :: L, _, .cons r t => by
    have r : _ = Value.ref p.1 := r
    rw [r, vals_refs' t]
    rfl
theorem sort_pairs (L : List (Addr × Tk)) : (L.mergeSort (PySem.W.dataLe false fun b => dK b.2)).map (·.2) = sortK (L.map (·.2)) := List.map_mergeSort fun a _ b _ => rfl
/-- the order sorts: all alike, none empty -/
def Fit (ks : List Tk) : Prop := ∃ sh : List Bool, sh ≠ [] ∧ ∀ k ∈ ks, shp k = sh
theorem Fit.alike {L : List (Addr × Tk)} (h : Fit (L.map (·.2))) : PySem.W.AllAlike (L.map fun b => dK b.2) := by
  obtain ⟨sh, _, q⟩ := h
  intro d hd d' hd'
  obtain ⟨b, hb, rfl⟩ := List.mem_map.mp hd
  obtain ⟨c, hc, rfl⟩ := List.mem_map.mp hd'
  exact alike_dK ((q _ (List.mem_map_of_mem hb)).trans (q _ (List.mem_map_of_mem hc)).symm)
theorem Fit.sortable {L : List (Addr × Tk)} (h : Fit (L.map (·.2))) : PySem.W.Sortable (L.map fun b => dK b.2) := .inl fun d hd => by
  obtain ⟨sh, q0, q⟩ := h
  obtain ⟨b, hb, rfl⟩ := List.mem_map.mp hd
  have e := q _ (List.mem_map_of_mem hb)
  cases hk : b.2 with
  | nil =>
    have hk2 : (b.2 : Tk) = [] := hk
    rw [show shp ((fun x : Addr × Tk => x.2) b) = shp b.2 from rfl, hk2] at e
    exact absurd e.symm q0
  | cons x r => exact ⟨kd x, r.map kd, rfl⟩
theorem depth_dK (k : Tk) : (dK k).depth = 1 := by
  show PyData.depthAll (k.map kd) + 1 = 1
  rw [depth_kds]
section
variable {X : Cx}
def rSortK (K : PySem.W.Frag) : List V → Hp → VK → Prop := fun vs H Q => ∃ (a : Addr) (xs : List V) (ks : List Tk), vs = [.ref a] ∧ SqL K H a xs ∧ Krs H xs ks ∧ Fit ks ∧
  ∀ (p : Addr) (ys : List V), H p = none → Krs H ys (sortK ks) → Q (.ref p) (upd H p (.lst ys))
theorem call_sortK (hu : X.A.units + 64 < cLine) : CallR X (.builtin "sorted") (rSortK X.K) := by
  intro pins s σ H vs us Q I r h
  obtain ⟨a, xs, ks, rfl, hs, hk, hf, q⟩ := h
  obtain ⟨its, rv, hl, hz⟩ := I.list hs
  rw [Vals.ref1 r]
  obtain ⟨L, rfl, rfl, hL⟩ := hk.split
  have e := vals_refs' rv
  subst e
  refine PySem.W.sorted_data (bs := L) (enc := fun b : Addr × Tk => dK b.2) (R := fun v b => v = Value.ref b.1) hl.isList (each_map _ fun b _ => rfl) (each_map _ fun b hb => ⟨[], reads_k I.hok (hL b hb)⟩) hf.alike hf.sortable
    (by rw [List.length_map] at hz; exact hz) (fun b _ => by show X.A.units + 2 + (dK b.2).depth < cLine; rw [depth_dK]; omega) fun out ho eo => ?_
  have eo2 := eachIs_back eo
  obtain ⟨ep, he'⟩ := PyProof.Rows.sortedAll_at s.heap (L.map fun p => Value.ref p.1) out.toArray
  have hlen : ((L.mergeSort (PySem.W.dataLe false fun b => dK b.2)).map fun p => V.ref p.1).length ≤ sizeLine := by
    rw [List.length_map, (List.mergeSort_perm _ _).length_eq]
    rw [List.length_map] at hz
    exact hz
  refine ⟨.ref _, upd H (s.heap.objs.size + 1) (.lst ((L.mergeSort (PySem.W.dataLe false fun b => dK b.2)).map fun p => V.ref p.1)), I.laid (t' := s.toks) (fun _ _ => PyProof.Rows.sortedAll_old) (Nat.le_succ _)
    ⟨hlen, out, ep, by rw [eo2]; exact refs_vals _, he'⟩, rfl, q _ _ (I.hok.fresh (Nat.le_succ _)) ?_⟩
  rw [← sort_pairs]
  exact krs_of fun p hp => hL p ((List.mergeSort_perm _ _).mem_iff.mp hp)
def rSortDT : List V → Hp → VK → Prop := fun vs H Q => ∃ (a : Addr) (kvs : List (Tk × V)), vs = [.ref a] ∧ Rd H a (.dT kvs) ∧ Fit (kvs.map (·.1)) ∧
  ∀ (p : Addr) (ys : List V), H p = none → Krs H ys (sortK (kvs.map (·.1))) → Q (.ref p) (upd H p (.lst ys))
theorem call_sortDT (hc : X.calm = true) (hu : X.A.units + 64 < cLine) : CallR X (.builtin "sorted") rSortDT := by
  intro pins s σ H vs us Q I r h
  obtain ⟨a, kvs, rfl, hd, hf, q⟩ := h
  rw [Vals.ref1 r]
  obtain ⟨z, lo, es0, pr, o, es, ep, ho, hx, hdt, he, hn⟩ := (show ObjOk X.prog X.w H s.heap a (.dT kvs) from hd.ok I.hok)
  have l1 : es.size = es0.length := size_of_entries he
  have l2 : kvs.length = es0.length := Paired.length pr
  refine Calls.call_function_entry PyProof.Rows.kind_sorted PyProof.Rows.plain_sorted PyProof.Rows.entry_sorted (PyProof.Rows.args_sorted1 _) ?_
  unfold Builtin.«sorted»
  refine wpAny_bind (m := checkCount "sorted" 1 1 _) (wpAny_pure ?_)
  refine wpAny_bind (PySem.W.kdu_collect (A := X.A.in1) (kdl_raw lo hx hdt) (I.ok.hd hc) ho (by omega) fun h' tk acc hk hacc => ?_)
  -- what was collected: the keys' addresses
  have ea : acc.toList = es0.map fun x => Value.ref x.2.1 := by
    have hl : acc.toList.length = es0.length := by rw [Array.length_toList, hacc.1]; exact l1
    refine List.ext_getElem? fun j => ?_
    rw [List.getElem?_map]
    cases hj : acc.toList[j]? with
    | none =>
      have h1 := List.getElem?_eq_none_iff.mp hj
      rw [List.getElem?_eq_none (by omega)]
      rfl
    | some v =>
      obtain ⟨en, hen, hv⟩ := hacc.2 j v (by rw [← Array.getElem?_toList]; exact hj)
      have qe := entry_at he j
      rw [hen] at qe
      cases hb : es0[j]? with
      | none =>
        rw [hb] at qe
        exact nomatch (show some en = none from qe)
      | some b =>
        rw [hb] at qe
        have e2 : en = entryOfKey (tupleKind (mixKind X.prog X.w)) b := Option.some.inj qe
        rw [hv, e2]
        rfl
  obtain ⟨L, eL1, eL2, hL⟩ : ∃ L : List (Addr × Tk), (es0.map fun x => Value.ref x.2.1) = L.map (fun p => Value.ref p.1) ∧ kvs.map (·.1) = L.map (·.2) ∧ ∀ p ∈ L, H p.1 = some (.tup (p.2.map kV)) := by
    clear ea hacc he l1 l2 q hf hd
    induction pr with
    | nil => exact ⟨[], rfl, rfl, fun p z => nomatch z⟩
    | cons h1 _ ih =>
      obtain ⟨L, e1, e2, e3⟩ := ih (by simp at z; omega) (by simp at hn; exact hn.2)
      rename_i p0 q0 _ _ _
      refine ⟨(q0.2.1, p0.1) :: L, by rw [List.map_cons, List.map_cons, e1], by rw [List.map_cons, List.map_cons, e2], fun p hp => ?_⟩
      rcases List.mem_cons.mp hp with rfl | hp
      · exact h1.2.1
      · exact e3 p hp
  rw [eL1] at ea
  rw [eL2] at hf q
  have hlen0 : L.length ≤ sizeLine := by
    have e := congrArg List.length eL2
    rw [List.length_map, List.length_map] at e
    omega
  have I1 : Inv X pins σ H { s with heap := h', toks := tk } := I.kept hk
  rw [ea]
  refine wpAny_bind (wpAny_newList ?_ (by rw [List.length_map]; exact hlen0))
  have hoL : (h'.push (seqObj "list" (L.map fun p => Value.ref p.1).toArray 0)).get? h'.objs.size = some (seqObj "list" (L.map fun p => Value.ref p.1).toArray 0) := Heap.get?_push_size _ rfl
  show wpAny _ _ _ _ _ { s with heap := h'.push (seqObj "list" (L.map fun p => Value.ref p.1).toArray 0), toks := tk }
  have ok2 : HOk X.prog X.w H (h'.push (seqObj "list" (L.map fun p => Value.ref p.1).toArray 0)) := I1.hok.kept fun b u e => Heap.get?_push_of_some _ e
  refine wpAny_bind (wpAny_holding (PySem.W.list_sort_data (s := { s with heap := h'.push (seqObj "list" (L.map fun p => Value.ref p.1).toArray 0), toks := tk }) (bs := L) (enc := fun b : Addr × Tk => dK b.2) (R := fun v b => v = Value.ref b.1)
    hoL (each_map _ fun b _ => rfl) (each_map _ fun b hb => ⟨[], reads_k ok2 (hL b hb), by simp⟩) hf.alike hf.sortable hlen0 (fun b _ => ?_) fun out hout eo => ?_))
  · have z1 : X.A.in1.units ≤ X.A.units + 3 := by
      unfold Around.in1
      simp
    show X.A.in1.units + 1 + (dK b.2).depth < cLine
    rw [depth_dK]
    omega
  have eo2 := eachIs_back eo
  obtain ⟨c, hcc⟩ := PyProof.Rows.sortedHeap_at (vs := L.map fun p => Value.ref p.1) (out := out.toArray) hoL
  have hlen : ((L.mergeSort (PySem.W.dataLe false fun b => dK b.2)).map fun p => V.ref p.1).length ≤ sizeLine := by
    rw [List.length_map, (List.mergeSort_perm _ _).length_eq]
    exact hlen0
  refine wpAny_pure ⟨_, rfl, .ref h'.objs.size, upd H h'.objs.size (.lst ((L.mergeSort (PySem.W.dataLe false fun b => dK b.2)).map fun p => V.ref p.1)), I1.laid (t' := tk) (fun b u e => ?_) (Nat.le_refl _)
    ⟨hlen, out, c, by rw [eo2]; exact refs_vals _, hcc⟩, rfl, q _ _ (I1.hok.fresh (Nat.le_refl _)) ?_⟩
  · have lt : b < h'.objs.size := Heap.lt_size e
    rw [PyProof.Rows.sortedHeap_old (Nat.ne_of_lt lt) (by rw [size_push']; exact Nat.lt_succ_of_lt lt)]
    exact Heap.get?_push_of_some _ e
  · rw [← sort_pairs]
    exact krs_of fun p hp => hL p ((List.mergeSort_perm _ _).mem_iff.mp hp)
end

end

section
open PySem.Spec PyProof.Rows GxR NdefX
/-! ### all stands that stood, but tables of code objects may have grown -/
structure Kp (H H' : Hp) : Prop where
  at_ : ∀ b o, H b = some o → (∀ ps, o ≠ .tbl ps) → H' b = some o
  tab : ∀ P, TabG H P → TabG H' P
theorem kpS {H H' : Hp} (h : Same H H') : Kp H H' := ⟨fun b o e _ => h b o e, fun P ⟨ps, e, t⟩ => ⟨ps, h _ _ e, t⟩⟩
theorem Kp.refl (H : Hp) : Kp H H := kpS (Same.refl H)
theorem Kp.trans {H H1 H2 : Hp} (a : Kp H H1) (b : Kp H1 H2) : Kp H H2 := ⟨fun c o e n => b.at_ c o (a.at_ c o e n) n, fun P h => b.tab P (a.tab P h)⟩
theorem Tabbed.kp {P : Addr} {H H' : Hp} (h : Tabbed P H H') (t : TabG H P) : Kp H H' := by
  obtain ⟨ps, e0, t0⟩ := t
  refine ⟨fun b o e n => ?_, fun P' ⟨qs, e, t'⟩ => ?_⟩
  · rw [h.2 b fun z => by rw [z, e0] at e; exact n ps (Option.some.inj e).symm]
    exact e
  · by_cases z : P' = P
    · rw [z]
      exact h.1
    · exact ⟨qs, by rw [h.2 _ z]; exact e, t'⟩
section
variable {H H' : Hp}
theorem Kp.ins (k : Kp H H') {b C dx : Addr} {fs : List (Str × V)} (e : H b = some (.ins C dx fs)) : H' b = some (.ins C dx fs) := k.at_ _ _ e fun _ z => nomatch z
theorem Kp.lst (k : Kp H H') {b : Addr} {xs : List V} (e : H b = some (.lst xs)) : H' b = some (.lst xs) := k.at_ _ _ e fun _ z => nomatch z
theorem Kp.tup (k : Kp H H') {b : Addr} {xs : List V} (e : H b = some (.tup xs)) : H' b = some (.tup xs) := k.at_ _ _ e fun _ z => nomatch z
theorem Kp.dT (k : Kp H H') {b : Addr} {kvs : List (Tk × V)} (e : H b = some (.dT kvs)) : H' b = some (.dT kvs) := k.at_ _ _ e fun _ z => nomatch z
theorem Kp.frz (k : Kp H H') {b : Addr} {o : Obj} {u : HO} (e : H b = some (.frz o u)) : H' b = some (.frz o u) := k.at_ _ _ e fun _ z => nomatch z
theorem Kp.seq {K : PySem.W.Frag} (k : Kp H H') {a : Addr} {xs : List V} (h : SqL K H a xs) : SqL K H' a xs := by
  rcases h with (h | ⟨o, h⟩) | h
  · exact .inl (.inl (k.lst h))
  · exact .inl (.inr ⟨o, k.frz h⟩)
  · exact .inr h
theorem Kp.free (k : Kp H H') {l : Addr} (h : H' l = none) : H l = none ∨ ∃ ps, H l = some (.tbl ps) := by
  cases q : H l with
  | none => exact .inl rfl
  | some o =>
    by_cases t : ∃ ps, o = .tbl ps
    · obtain ⟨ps, rfl⟩ := t
      exact .inr ⟨ps, rfl⟩
    · rw [k.at_ _ _ q fun ps z => t ⟨ps, z⟩] at h
      cases h
theorem Kr.kp {v : V} {x : Tk} (h : Kr H v x) (k : Kp H H') : Kr H' v x := by
  obtain ⟨t, rfl, h⟩ := h
  exact ⟨t, rfl, k.tup h⟩
theorem Krs.kp {vs : List V} {ks : List Tk} (h : Krs H vs ks) (k : Kp H H') : Krs H' vs ks := by
  induction h with
  | nil => exact .nil
  | cons a _ ih => exact .cons (a.kp k) ih
theorem Pr.kp {v : V} {p : Pl} (h : Pr H v p) (k : Kp H H') : Pr H' v p := by
  obtain ⟨t, rfl, h⟩ := h
  exact ⟨t, rfl, k.tup h⟩
theorem Prs.kp {vs : List V} {ps : List Pl} (h : Prs H vs ps) (k : Kp H H') : Prs H' vs ps := by
  induction h with
  | nil => exact .nil
  | cons a _ ih => exact .cons (a.kp k) ih
end
/-! ### a def whose code object is known -/
structure FunC (K : PySem.W.Frag) (x qual : Str) (st : Stmt) (f c : Addr) (fd : FuncData) : Prop where
  ex : ∃ (oc : Value) (od : Option Addr) (kV doc pm : Value) (an : Option Addr) (ct : Value) (osl : Array (Option Value)),
    fd = PySem.W.fnOf x qual (defArgs st) (defBody st) (defScope st) .none kV doc pm an (.ref c) ct ∧ K.lookup f = some ⟨oc, od, .func fd, osl⟩ ∧ PySem.W.codeIn K (.ref c) qual = true
  kp : PySem.W.keepIn K (.ref f) = true
section
variable {P : Program} {w : World} {K : PySem.W.Frag} {mg : Str → Option Value} {base : Heap}
theorem FunC.ok {x qual : Str} {st : Stmt} {f c : Addr} {fd : FuncData} {N ps : List Str} {k : Nat} {sp : Sp} (F : FunC K x qual st f c fd) (S : FnScope N ps (defScope st)) (len : ∀ vs H Q E, sp vs H Q E → vs.length = ps.length)
    (hbody : ∀ (A : Around) (outer : List Env) (s : Shared) (H : Hp) (vs : List V) (Q : VK) (E : XK), Room k (A.deeper (envOfC qual (defScope st) s.heap.objs.size f (.ref c))) → sp vs H Q E →
      ∃ t, PSs (cxOf CX0 P w K mg base N qual (defScope st) f (.ref c) A outer s H E).nox (defBody st) t ∧ t { nx := fun _ H' => Q .non H', rt := Q } (start N vs) H) : FnOk P w K mg base CX0 (k + 1) f fd ps sp := by
  obtain ⟨oc, od, kV, doc, pm, an, ct, osl, rfl, lk, hcd⟩ := F.ex
  refine fn_of lk hcd S len fun A outer s H vs Q E hr h => ?_
  obtain ⟨t, z, q⟩ := hbody A outer s H vs Q E hr h
  exact ⟨t, z.nox, q⟩
theorem FunC.okX {x qual : Str} {st : Stmt} {f c : Addr} {fd : FuncData} {N ps : List Str} {k : Nat} {sp : Sp} (F : FunC K x qual st f c fd) (S : FnScope N ps (defScope st)) (len : ∀ vs H Q E, sp vs H Q E → vs.length = ps.length)
    (hbody : ∀ (A : Around) (outer : List Env) (s : Shared) (H : Hp) (vs : List V) (Q : VK) (E : XK), Room k (A.deeper (envOfC qual (defScope st) s.heap.objs.size f (.ref c))) → sp vs H Q E →
      ∃ t, PSs (cxOf (L2.CX P w) P w K mg base N qual (defScope st) f (.ref c) A outer s H E) (defBody st) t ∧ t { nx := fun _ H' => Q .non H', rt := Q } (start N vs) H) : FnOk P w K mg base (L2.CX P w) (k + 1) f fd ps sp := by
  obtain ⟨oc, od, kV, doc, pm, an, ct, osl, rfl, lk, hcd⟩ := F.ex
  exact fn_of lk hcd S len fun A outer s H vs Q E hr h => hbody A outer s H vs Q E hr h
end
/-! ### a generator expression's scope, by looking -/
def gscC (outer sc : Scope) : Bool := (match sc.kind with | .function => true | _ => false) && !sc.isCoroutine && (match sc.names.lookup (".0" : Str) with | some .local => true | _ => false) &&
  (sc.names.all fun y => match y.2 with
    | .cell => false
    | .free => (match outer.names.lookup y.1 with | some .cell => true | _ => false)
    | _ => true)
theorem gsc_by {env : Env} {outer sc : Scope} (ho : env.scope = outer) (hc : env.cells = cellsFrom (env.locals + 1) env.scope.names []) (h : gscC outer sc = true) : GSc env sc := by
  subst ho
  unfold gscC at h
  simp only [Bool.and_eq_true, List.all_eq_true] at h
  obtain ⟨⟨⟨h1, h2⟩, h3⟩, h4⟩ := h
  refine ⟨?_, by simpa using h2, fun y hy e => ?_, ?_, fun y hy e => ?_⟩
  · split at h1
    · assumption
    · cases h1
  · have q := h4 y hy
    rw [e] at q
    cases q
  · split at h3
    · assumption
    · cases h3
  · have q := h4 y hy
    rw [e] at q
    have q2 : (match env.scope.names.lookup y.1 with | some .cell => true | _ => false) = true := q
    split at q2
    · rename_i z
      rw [hc]
      exact cell_has z
    · cases q2
def gfrC (XN : List Str) (outer sc : Scope) (N : List Str) (fr : List (Option Nat)) : Bool := decide (fr.length = N.length) && ((N.zip fr).all fun p => match p.2 with
  | none => true
  | some j => (match sc.names.lookup p.1 with | some .free => true | _ => false) && decide (XN[j]? = some p.1) && (match outer.names.lookup p.1 with | some .cell => true | _ => false))
theorem gfr_by {X : Cx} {outer sc : Scope} {XN N : List Str} {fr : List (Option Nat)} (ho : X.env.scope = outer) (hn : X.N = XN) (h : gfrC XN outer sc N fr = true) : GFr X sc N fr := by
  subst ho hn
  unfold gfrC at h
  simp only [Bool.and_eq_true, List.all_eq_true, decide_eq_true_eq] at h
  obtain ⟨h1, h2⟩ := h
  refine ⟨h1, fun i y j e1 e2 => ?_⟩
  have m : (y, some j) ∈ N.zip fr := by
    refine List.mem_of_getElem? (i := i) ?_
    rw [List.getElem?_zip_eq_some]
    exact ⟨e1, e2⟩
  have q := h2 _ m
  simp only [Bool.and_eq_true, decide_eq_true_eq] at q
  obtain ⟨⟨q1, q2⟩, q3⟩ := q
  refine ⟨?_, q2, .inl ?_⟩
  · split at q1
    · assumption
    · cases q1
  · split at q3
    · assumption
    · cases q3

end

section
open PySem.Spec PyProof.Rows
/-! ### the entries that a dict comprehension over a list lays -/
theorem dcT_list {K : PySem.W.Frag} {a : Addr} {xs : List V} {g : TG} {tk tv : TE} {vs : List Nat} {σ : L2.St} {H1 : Hp} {D : Addr} {Qd : Hp → Prop} (Pv : Nat → Hp → Prop) (h0 : Pv 0 (upd H1 D (.dT []))) (hl : ∀ i H, i ≤ xs.length → Pv i H → SqL K H a xs)
    (hs : ∀ i x H, xs[i]? = some x → Pv i H → g x (wipe σ vs) H fun σ2 H2 => wipe σ2 vs = wipe σ vs ∧ tk σ2 H2 fun y H4 => tv σ2 H4 fun z H5 =>
      ∃ b kvs k, y = .ref b ∧ H5 b = some (.tup (k.map kV)) ∧ H5 D = some (.dT kvs) ∧ kvs.length < sizeLine ∧ Pv (i + 1) (upd H5 D (.dT (putK kvs k z)))) (hd : ∀ H, Pv xs.length H → Qd H) :
    ∃ W : Nat → Nat → Hp → Prop, (∃ m, W 0 m (upd H1 D (.dT []))) ∧ ∀ i m H, W i m H →
      ((Itl K a).stop i H ∧ Qd H) ∨ ((Itl K a).go i H ∧ ∃ Nx : Hp → Prop, (∀ H', Nx H' → ∃ m', m' < m ∧ W (i + 1) m' H') ∧
        ∀ x H', (Itl K a).yld i H x H' → g x (wipe σ vs) H' fun σ2 H2 => wipe σ2 vs = wipe σ vs ∧ tk σ2 H2 fun y H4 => tv σ2 H4 fun z H5 =>
          ∃ b kvs k, y = .ref b ∧ H5 b = some (.tup (k.map kV)) ∧ H5 D = some (.dT kvs) ∧ kvs.length < sizeLine ∧ Nx (upd H5 D (.dT (putK kvs k z)))) := by
  refine ⟨fun i m H => m = xs.length - i ∧ i ≤ xs.length ∧ Pv i H, ⟨xs.length, by simp, Nat.zero_le _, h0⟩, fun i m H w => ?_⟩
  obtain ⟨rfl, le, p⟩ := w
  have q := hl i H le p
  by_cases lt : i < xs.length
  · refine .inr ⟨⟨xs, xs[i], q, List.getElem?_eq_getElem lt⟩, Pv (i + 1), fun H' p' => ⟨xs.length - (i + 1), by omega, rfl, lt, p'⟩, fun x H' y => ?_⟩
    obtain ⟨rfl, y⟩ := y
    exact hs i x _ (y xs q) p
  · obtain rfl : i = xs.length := by omega
    exact .inl ⟨⟨xs, q, Nat.le_refl _⟩, hd H p⟩
theorem snoc_ind {α : Type} {P : List α → Prop} (h0 : P []) (h1 : ∀ l x, P l → P (l ++ [x])) (l : List α) : P l := by
  rw [← List.reverse_reverse l]
  induction l.reverse with
  | nil => exact h0
  | cons x r ih =>
    rw [List.reverse_cons]
    exact h1 _ _ ih
/-- laid one after another -/
def ded (ks : List Tk) : List (Tk × V) := ks.foldl (fun kvs k => putK kvs k (.bl true)) []
theorem ded_snoc (ks : List Tk) (k : Tk) : ded (ks ++ [k]) = putK (ded ks) k (.bl true) := by
  unfold ded
  rw [List.foldl_append]
  rfl
theorem ded_mem : ∀ (ks : List Tk) (k : Tk), (valV (ded ks) k).isSome = decide (k ∈ ks) := by
  intro ks
  refine snoc_ind (P := fun ks : List Tk => ∀ k : Tk, (valV (ded ks) k).isSome = decide (k ∈ ks)) (fun k => by simp [ded, valV_nil]) (fun ks x ih k => ?_) ks
  rw [ded_snoc, valV_put]
  by_cases h : k = x
  · subst h
    simp
  · rw [if_neg h, ih k]
    simp [h]
theorem ded_le (ks : List Tk) : (ded ks).length ≤ ks.length := by
  refine snoc_ind (P := fun ks : List Tk => (ded ks).length ≤ ks.length) (Nat.le_refl _) (fun ks x ih => ?_) ks
  rw [ded_snoc, List.length_append]
  have q := length_putK (ded ks) x (.bl true)
  show _ ≤ ks.length + 1
  omega
theorem putK_old {kvs : List (Tk × V)} {k : Tk} (v : V) (h : (valV kvs k).isSome = true) : (putK kvs k v).length = kvs.length := by
  unfold putK
  rw [if_pos (by rw [valV_any]; exact h), List.length_map]
theorem ded_eq (ks : List Tk) : (ks.Nodup → ded ks = ks.map fun k => (k, V.bl true)) ∧ (¬ ks.Nodup → (ded ks).length < ks.length) := by
  refine snoc_ind (P := fun ks : List Tk => (ks.Nodup → ded ks = ks.map fun k => (k, V.bl true)) ∧ (¬ ks.Nodup → (ded ks).length < ks.length)) ⟨fun _ => rfl, fun h => (h .nil).elim⟩ (fun ks x ih => ?_) ks
  obtain ⟨ih1, ih2⟩ := ih
  have le := ded_le ks
  by_cases hx : x ∈ ks
  · have hv : (valV (ded ks) x).isSome = true := by rw [ded_mem]; exact decide_eq_true hx
    refine ⟨fun h => ?_, fun _ => ?_⟩
    · have z := (List.nodup_append.mp h).2.2 x hx x (by simp)
      exact (z rfl).elim
    · rw [ded_snoc, putK_old _ hv, List.length_append]
      show _ < ks.length + 1
      omega
  · have hv : valV (ded ks) x = none := by
      have q := ded_mem ks x
      rw [decide_eq_false hx] at q
      cases e : valV (ded ks) x with
      | none => rfl
      | some y => rw [e] at q; cases q
    have step : ded (ks ++ [x]) = ded ks ++ [(x, .bl true)] := by rw [ded_snoc, putK_new _ hv]
    refine ⟨fun h => ?_, fun h => ?_⟩
    · rw [step, ih1 (List.nodup_append.mp h).1, List.map_append]
      rfl
    · have hn : ¬ ks.Nodup := fun z => h (List.nodup_append.mpr ⟨z, by simp, fun y hy y' hy' e => by
        rw [List.mem_singleton.mp hy'] at e
        rw [e] at hy
        exact hx hy⟩)
      have q := ih2 hn
      rw [step, List.length_append, List.length_append]
      show (ded ks).length + 1 < ks.length + 1
      omega
theorem ded_keys {ks : List Tk} (h : ks.Nodup) : (ded ks).map (·.1) = ks := by
  rw [(ded_eq ks).1 h, List.map_map]
  exact List.map_id ks

end

section
open PySem.Spec PyProof.Rows SX
/-! ### texts by their codes: numbers, lines, lists of texts -/
theorem starts_S (a b : List Nat) : Txt.startswith (S a) (S b) = (a.take b.length == b) := by
  unfold Txt.startswith
  rw [StrLaws.subAt_eq, S_len, S_len, List.drop_zero, Nat.zero_add]
  show (decide (b.length ≤ a.length) && ((a.take (S b).length) == b)) = _
  rw [S_len]
  by_cases h : a.take b.length = b
  · rw [h, beq_self_eq_true, Bool.and_true]
    refine decide_eq_true ?_
    have e := congrArg List.length h
    rw [List.length_take] at e
    omega
  · rw [beq_false_of_ne h, Bool.and_false]
theorem digit_asc {c : Nat} (h : c < 128) : Unicode.isDigit c = (decide (48 ≤ c) && decide (c ≤ 57)) := by
  have k : ∀ n : Fin 128, Unicode.isDigit n.val = (decide (48 ≤ n.val) && decide (n.val ≤ 57)) := by decide +kernel
  exact k ⟨c, h⟩
/-- of signs below 128 -/
def asc (z : Str) : Prop := ∀ c ∈ TL.tl z, c < 128
theorem isdigit_S {a : List Nat} (h : ∀ c ∈ a, c < 128) : Txt.isdigit (S a) = (decide (a ≠ []) && a.all fun c => decide (48 ≤ c) && decide (c ≤ 57)) := by
  unfold Txt.isdigit
  rw [S_len]
  have e : (S a).cps.all Unicode.isDigit = a.all fun c => decide (48 ≤ c) && decide (c ≤ 57) := by
    show a.toArray.all Unicode.isDigit = _
    rw [List.all_toArray]
    induction a with
    | nil => rfl
    | cons x xs ih =>
      rw [List.all_cons, List.all_cons, digit_asc (h x List.mem_cons_self), ih fun c hc => h c (List.mem_cons_of_mem _ hc)]
  rw [e]
  cases a with
  | nil => rfl
  | cons x xs => rfl
/-- has the word the form of a number -/
def isNum (z : Str) : Bool := Txt.isdigit z && decide (z.length ≤ 4) && (decide (z = S [48]) || !Txt.startswith z (S [48]))
/-- the number that it writes -/
def numV (z : Str) : Int := ((NumText.digitsVal (TL.tl z) : Nat) : Int)
theorem numV_nonneg (z : Str) : 0 ≤ numV z := Int.natCast_nonneg _
theorem isNum_int {z : Str} (ha : asc z) (h : isNum z = true) : intText? z = some (numV z) ∧ z.length ≤ 640 := by
  unfold isNum at h
  rw [Bool.and_eq_true, Bool.and_eq_true] at h
  obtain ⟨⟨h1, h2⟩, _⟩ := h
  have h2' := of_decide_eq_true h2
  rw [show z = S (TL.tl z) from (S_tl z).symm, isdigit_S ha, Bool.and_eq_true] at h1
  refine ⟨?_, by omega⟩
  have q := int_S h1.2 (of_decide_eq_true h1.1) (by rw [← TL.len_tl]; omega)
  rw [S_tl] at q
  exact q
/-- the codes of a number's text -/
def dg (n : Int) : List Nat := TL.numL n.toNat
theorem dg_str {n : Int} (h : 0 ≤ n) : (Str.ofString (toString n)) = S (dg n) := by
  obtain ⟨k, rfl⟩ := Int.eq_ofNat_of_zero_le h
  exact num_S k
theorem dg_digit {n : Int} : ∀ c ∈ dg n, 48 ≤ c ∧ c ≤ 57 := fun c h => TL.numL_digits _ c h
theorem dg_ne (n : Int) : dg n ≠ [] := TL.numL_ne _
theorem dg_len {n : Int} {k : Nat} (hk : 0 < k) (h1 : n < 10 ^ k) : (dg n).length ≤ k := by
  refine TL.numL_len hk ?_
  have : (n.toNat : Int) < 10 ^ k ∨ n < 0 := by omega
  rcases this with h | h
  · exact_mod_cast h
  · rw [Int.toNat_of_nonpos (by omega)]
    exact Nat.pow_pos (by decide)
theorem numL_head : ∀ n : Nat, 0 < n → ∃ c r, TL.numL n = c :: r ∧ 49 ≤ c := by
  intro n
  induction n using Nat.strongRecOn with
  | _ n ih =>
    intro h
    by_cases h10 : n < 10
    · exact ⟨48 + n, [], TL.numL_lt h10, by omega⟩
    · obtain ⟨c, r, e, hc⟩ := ih (n / 10) (by omega) (by omega)
      exact ⟨c, r ++ [48 + n % 10], by rw [TL.numL_step (by omega), e]; rfl, hc⟩
theorem asc_S {a : List Nat} (h : ∀ c ∈ a, c < 128) : asc (S a) := h
theorem asc_dg (n : Int) : asc (S (dg n)) := fun c h => by
  have := dg_digit c h
  omega
theorem isNum_dg {n : Int} (h0 : 0 ≤ n) (h1 : n < 10000) : isNum (S (dg n)) = true ∧ numV (S (dg n)) = n := by
  constructor
  · unfold isNum
    have a1 : Txt.isdigit (S (dg n)) = true := by
      rw [isdigit_S (asc_dg n), decide_eq_true (dg_ne n), Bool.true_and, List.all_eq_true]
      intro c hc
      obtain ⟨x, y⟩ := dg_digit c hc
      rw [decide_eq_true x, decide_eq_true y]
      rfl
    have a2 : (dg n).length ≤ 4 := dg_len (by decide) (by simpa using h1)
    rw [a1, S_len, decide_eq_true a2, Bool.and_self, Bool.true_and]
    by_cases hz : n = 0
    · subst hz
      have : dg 0 = [48] := by
        unfold dg
        exact TL.numL_lt (by decide)
      rw [this, decide_eq_true rfl]
      rfl
    · obtain ⟨c, r, e, hc⟩ := numL_head n.toNat (by omega)
      have : dg n = c :: r := e
      rw [starts_S, this]
      have : (([c] : List Nat) == [48]) = false := by
        refine beq_false_of_ne fun z => ?_
        injection z with z
        omega
      show (_ || !(([c] : List Nat) == [48])) = true
      rw [this]
      exact Bool.or_true _
  · unfold numV dg
    show ((NumText.digitsVal (TL.numL n.toNat) : Nat) : Int) = n
    rw [TL.numL_val]
    omega
/-! joined and split -/
theorem mem_joinL {c : Nat} {sep : List Nat} : ∀ {ps : List (List Nat)}, c ∈ TL.joinL sep ps → c ∈ sep ∨ ∃ p ∈ ps, c ∈ p
  | [], h => by cases h
  | [p], h => .inr ⟨p, List.mem_singleton.mpr rfl, h⟩
  | p :: q :: r, h => by
    have h' : c ∈ p ++ (sep ++ TL.joinL sep (q :: r)) := h
    rcases List.mem_append.mp h' with z | z
    · exact .inr ⟨p, List.mem_cons_self, z⟩
    · rcases List.mem_append.mp z with z | z
      · exact .inl z
      · rcases mem_joinL z with z | ⟨x, hx, z⟩
        · exact .inl z
        · exact .inr ⟨x, List.mem_cons_of_mem _ hx, z⟩
theorem joinL_len {sep : List Nat} {m : Nat} (hs : sep.length ≤ m) : ∀ {ps : List (List Nat)}, (∀ p ∈ ps, p.length ≤ m) → (TL.joinL sep ps).length ≤ 2 * m * ps.length
  | [], _ => Nat.le_refl _
  | [p], h => by
    have := h p (List.mem_singleton.mpr rfl)
    show p.length ≤ 2 * m * 1
    omega
  | p :: q :: r, h => by
    have h1 := h p List.mem_cons_self
    have h2 := joinL_len hs (ps := q :: r) fun x hx => h x (List.mem_cons_of_mem _ hx)
    show (p ++ (sep ++ TL.joinL sep (q :: r))).length ≤ 2 * m * ((q :: r).length + 1)
    rw [List.length_append, List.length_append, Nat.mul_add]
    omega
theorem sum_len {m : Nat} : ∀ {ps : List (List Nat)}, (∀ p ∈ ps, p.length ≤ m) → ((ps.map S).map (·.length)).sum ≤ m * ps.length
  | [], _ => Nat.le_refl _
  | p :: ps, h => by
    have h1 := h p List.mem_cons_self
    have h2 := sum_len (ps := ps) fun x hx => h x (List.mem_cons_of_mem _ hx)
    rw [List.map_cons, List.map_cons, List.sum_cons, S_len, List.length_cons, Nat.mul_add]
    omega
theorem split_joinL {c : Nat} (hc : c < 256) {ps : List (List Nat)} (hne : ps ≠ []) (h : ∀ p ∈ ps, c ∉ p) : Txt.split (S (TL.joinL [c] ps)) (S [c]) = ps.map S := by
  rw [split_S (by simp) (by simpa using hc), spl_join hne h]
theorem spl_mem {sep : List Nat} : ∀ (l : List Nat) (k : Nat) (acc p : List Nat), p ∈ TL.spl sep k acc l → ∀ c ∈ p, c ∈ acc ∨ c ∈ l := by
  intro l
  induction l with
  | nil =>
    intro k acc p h c hc
    rw [TL.spl_nil, List.mem_singleton] at h
    rw [h] at hc
    exact .inl hc
  | cons x r ih =>
    intro k acc p h c hc
    cases k with
    | succ k =>
      have h' : p ∈ TL.spl sep k acc r := h
      rcases ih k acc p h' c hc with z | z
      · exact .inl z
      · exact .inr (List.mem_cons_of_mem _ z)
    | zero =>
      cases hp : TL.pre sep (x :: r) with
      | true =>
        rw [TL.spl_hit hp, List.mem_cons] at h
        rcases h with h | h
        · rw [h] at hc
          exact .inl hc
        · rcases ih _ _ p h c hc with z | z
          · cases z
          · exact .inr (List.mem_cons_of_mem _ z)
      | false =>
        rw [TL.spl_miss hp] at h
        rcases ih _ _ p h c hc with z | z
        · rcases List.mem_append.mp z with z | z
          · exact .inl z
          · rw [List.mem_singleton] at z
            rw [z]
            exact .inr List.mem_cons_self
        · exact .inr (List.mem_cons_of_mem _ z)
theorem asc_split {z p : Str} {c : Nat} (hc : c < 256) (ha : asc z) (h : p ∈ Txt.split z (S [c])) : asc p := by
  rw [show z = S (TL.tl z) from (S_tl z).symm, split_S (by simp) (by simpa using hc), List.mem_map] at h
  obtain ⟨q, hq, rfl⟩ := h
  exact fun x hx => (spl_mem _ _ _ _ hq x hx).elim (fun z => nomatch z) fun z => ha x z
/-! lists of texts as data -/
def dS (xs : List Str) : PyData := .list (xs.map PyData.str)
theorem eqv_str (a b : Str) : PyData.eqv (.str a) (.str b) = decide (a = b) := by
  rw [PyData.eqv]
  by_cases h : a = b
  · subst h
    simp
  · simp [h]
theorem eqvAll_str : ∀ xs ys : List Str, PyData.eqvAll (xs.map PyData.str) (ys.map PyData.str) = decide (xs = ys)
  | [], [] => by simp [PyData.eqvAll]
  | [], _ :: _ => by simp [PyData.eqvAll]
  | _ :: _, [] => by simp [PyData.eqvAll]
  | x :: xs, y :: ys => by
    simp only [List.map_cons, PyData.eqvAll, eqv_str, eqvAll_str xs ys, List.cons.injEq]
    by_cases h1 : x = y <;> by_cases h2 : xs = ys <;> simp [h1, h2]
theorem eqv_dS (xs ys : List Str) : PyData.eqv (dS xs) (dS ys) = decide (xs = ys) := by
  unfold dS
  rw [PyData.eqv, eqvAll_str]
theorem dps_S {K : PySem.W.Frag} {H : Hp} : ∀ xs : List Str, DpAll K H (xs.map V.str) (xs.map PyData.str)
  | [] => .nil
  | x :: xs => .cons (.str x) (dps_S xs)
theorem dp_S {K : PySem.W.Frag} {H : Hp} {l : Addr} {xs : List Str} (h : SqL K H l (xs.map V.str)) : Dp K H (.ref l) (dS xs) := .lst h (dps_S xs)
theorem lay_asc {x : Str} (h : asc x) : PyData.canLay0 (.str x) = true := by
  show x.cps.all (fun c => decide (c < 0x110000)) = true
  rw [← Array.all_toList, List.all_eq_true]
  intro c hc
  have := h c hc
  exact decide_eq_true (by omega)
theorem lay_dS : ∀ xs : List Str, (∀ x ∈ xs, asc x) → PyData.canLayAll0 (xs.map PyData.str) = true
  | [], _ => rfl
  | x :: xs, h => by
    show (PyData.canLay0 (.str x) && PyData.canLayAll0 (xs.map PyData.str)) = true
    rw [lay_dS xs fun y hy => h y (List.mem_cons_of_mem _ hy), lay_asc (h x List.mem_cons_self)]
    rfl
theorem depth_dS : ∀ xs : List Str, PyData.depthAll (xs.map PyData.str) ≤ 1
  | [] => by show 0 ≤ 1; omega
  | _ :: xs => by
    have ih := depth_dS xs
    show max 0 (PyData.depthAll (xs.map PyData.str)) ≤ 1
    omega
theorem sh_dS {xs : List Str} (hk : ∀ x ∈ xs, asc x) : SeqAt.shaped (dS xs) = true := by
  have h := depth_dS xs
  unfold SeqAt.shaped dS
  rw [show PyData.canLay0 (.list (xs.map PyData.str)) = PyData.canLayAll0 (xs.map PyData.str) from rfl, lay_dS xs hk]
  refine decide_eq_true ?_
  show PyData.depthAll (xs.map PyData.str) + 1 ≤ 64
  omega
/-! a list's slices -/
theorem cut_from (xs : List V) (m : Nat) : cutV xs (some (m : Int)) none = xs.drop m := by
  unfold cutV
  rw [HT.sIx_none, HT.sIx_nat]
  rcases Nat.le_total m xs.length with h | h
  · rw [Nat.min_eq_left h, List.take_of_length_le (by rw [List.length_drop]; omega)]
  · rw [Nat.min_eq_right h, Nat.sub_self, List.take_zero, List.drop_eq_nil_of_le h]

end

open SX
def topS (i : Nat) : Stmt := PySem.Challenge.pw_pickaisle_k07_written_houses_and_back.main.body.getD i (.Pass ⟨0, 0, 0, 0⟩)
abbrev s_InvalidNotation___init__ : Stmt := inClass (topS 6) 0
theorem sc_InvalidNotation___init__ : FnScope ["self", "line"] ["self", "line"] (defScope s_InvalidNotation___init__) := ⟨rfl, rfl, rfl, by decide +kernel, rfl, by decide +kernel, by decide +kernel⟩
abbrev s_House___init__ : Stmt := inClass (topS 12) 0
theorem sc_House___init__ : FnScope ["self", "lengths", "gaps", "closed", "link"] ["self", "lengths", "gaps", "closed"] (defScope s_House___init__) := ⟨rfl, rfl, rfl, by decide +kernel, rfl, by decide +kernel, by decide +kernel⟩
abbrev s_House_lengths : Stmt := inClass (topS 12) 1
theorem sc_House_lengths : FnScope ["self"] ["self"] (defScope s_House_lengths) := ⟨rfl, rfl, rfl, by decide +kernel, rfl, by decide +kernel, by decide +kernel⟩
abbrev s_House_gaps : Stmt := inClass (topS 12) 2
theorem sc_House_gaps : FnScope ["self"] ["self"] (defScope s_House_gaps) := ⟨rfl, rfl, rfl, by decide +kernel, rfl, by decide +kernel, by decide +kernel⟩
abbrev s_House_closed : Stmt := inClass (topS 12) 3
theorem sc_House_closed : FnScope ["self"] ["self"] (defScope s_House_closed) := ⟨rfl, rfl, rfl, by decide +kernel, rfl, by decide +kernel, by decide +kernel⟩
abbrev s_House_crosses : Stmt := inClass (topS 12) 6
theorem sc_House_crosses : FnScope ["self"] ["self"] (defScope s_House_crosses) := ⟨rfl, rfl, rfl, by decide +kernel, rfl, by decide +kernel, by decide +kernel⟩
abbrev s_House_is_link : Stmt := inClass (topS 12) 9
theorem sc_House_is_link : FnScope ["self", "link", "word", "aisle", "height"] ["self", "link"] (defScope s_House_is_link) := ⟨rfl, rfl, rfl, by decide +kernel, rfl, by decide +kernel, by decide +kernel⟩
abbrev s_House_is_closed : Stmt := inClass (topS 12) 10
theorem sc_House_is_closed : FnScope ["self", "link"] ["self", "link"] (defScope s_House_is_closed) := ⟨rfl, rfl, rfl, by decide +kernel, rfl, by decide +kernel, by decide +kernel⟩
abbrev s_House_with_closed : Stmt := inClass (topS 12) 17
theorem sc_House_with_closed : FnScope ["self", "link"] ["self", "link"] (defScope s_House_with_closed) := ⟨rfl, rfl, rfl, by decide +kernel, rfl, by decide +kernel, by decide +kernel⟩
abbrev s_House_same_as : Stmt := inClass (topS 12) 19
theorem sc_House_same_as : FnScope ["self", "other"] ["self", "other"] (defScope s_House_same_as) := ⟨rfl, rfl, rfl, by decide +kernel, rfl, by decide +kernel, by decide +kernel⟩
abbrev s__are_long : Stmt := topS 13
theorem sc__are_long : FnScope ["numbers", "number"] ["numbers"] (defScope s__are_long) := ⟨rfl, rfl, rfl, by decide +kernel, rfl, by decide +kernel, by decide +kernel⟩
abbrev s__cross_heights : Stmt := topS 14
theorem sc__cross_heights : FnScope ["lengths", "heights", "length"] ["lengths"] (defScope s__cross_heights) := ⟨rfl, rfl, rfl, by decide +kernel, rfl, by decide +kernel, by decide +kernel⟩
abbrev s_format_house : Stmt := topS 17
theorem sc_format_house : FnScope ["house", "lines", "word", "aisle", "height"] ["house"] (defScope s_format_house) := ⟨rfl, rfl, rfl, by decide +kernel, rfl, by decide +kernel, by decide +kernel⟩
abbrev s_parse_house : Stmt := topS 18
theorem sc_parse_house : FnScope ["text", "lines", "lengths", "gaps", "house", "number"] ["text"] (defScope s_parse_house) := ⟨rfl, rfl, rfl, by decide +kernel, rfl, by decide +kernel, by decide +kernel⟩
abbrev s__row : Stmt := topS 19
theorem sc__row : FnScope ["head", "numbers", "number"] ["head", "numbers"] (defScope s__row) := ⟨rfl, rfl, rfl, by decide +kernel, rfl, by decide +kernel, by decide +kernel⟩
abbrev s_is_number : Stmt := topS 20
theorem sc_is_number : FnScope ["word"] ["word"] (defScope s_is_number) := ⟨rfl, rfl, rfl, by decide +kernel, rfl, by decide +kernel, by decide +kernel⟩
abbrev s__numbers_of : Stmt := topS 21
theorem sc__numbers_of : FnScope ["words", "number", "word"] ["words", "number"] (defScope s__numbers_of) := ⟨rfl, rfl, rfl, by decide +kernel, rfl, by decide +kernel, by decide +kernel⟩
abbrev s__numbers_in : Stmt := topS 22
theorem sc__numbers_in : FnScope ["lines", "number", "head", "words"] ["lines", "number", "head"] (defScope s__numbers_in) := ⟨rfl, rfl, rfl, by decide +kernel, rfl, by decide +kernel, by decide +kernel⟩
abbrev s__house_of : Stmt := topS 23
theorem sc__house_of : FnScope ["lengths", "gaps", "number"] ["lengths", "gaps", "number"] (defScope s__house_of) := ⟨rfl, rfl, rfl, by decide +kernel, rfl, by decide +kernel, by decide +kernel⟩
abbrev s__house_with_line : Stmt := topS 24
theorem sc__house_with_line : FnScope ["house", "lines", "number", "word", "numbers"] ["house", "lines", "number"] (defScope s__house_with_line) := ⟨rfl, rfl, rfl, by decide +kernel, rfl, by decide +kernel, by decide +kernel⟩
abbrev s__law_row : Stmt := topS 26
theorem sc__law_row : FnScope ["cell", "many", "row", "rest", "state", "k"] ["cell", "many"] (defScope s__law_row) := ⟨rfl, rfl, rfl, by decide +kernel, rfl, by decide +kernel, by decide +kernel⟩
abbrev s__law_numbers : Stmt := topS 27
theorem sc__law_numbers : FnScope ["script", "many", "cells", "each", "numbers", "cell", "number"] ["script", "many"] (defScope s__law_numbers) := ⟨rfl, rfl, rfl, by decide +kernel, rfl, by decide +kernel, by decide +kernel⟩
abbrev s__law_parts : Stmt := topS 28
theorem sc__law_parts : FnScope ["numbers", "at", "most", "lengths", "gaps", "closed", "k", "aisle", "spot", "link"] ["numbers", "at"] (defScope s__law_parts) := ⟨rfl, rfl, rfl, by decide +kernel, rfl, by decide +kernel, by decide +kernel⟩
abbrev s__law_lines : Stmt := topS 31
theorem sc__law_lines : FnScope ["lengths", "gaps", "closed", "lines", "number", "link"] ["lengths", "gaps", "closed"] (defScope s__law_lines) := ⟨rfl, rfl, rfl, by decide +kernel, rfl, by decide +kernel, by decide +kernel⟩
abbrev s_law : Stmt := topS 32
theorem sc_law : FnScope ["script", "numbers", "rows", "lengths", "gaps", "closed", "house", "text", "some", "again"] ["script"] (defScope s_law) := ⟨rfl, rfl, rfl, by decide +kernel, rfl, by decide +kernel, by decide +kernel⟩
/-! ### heaps -/
theorem same_upd {H : Hp} {p : Addr} {o : HO} (h : H p = none) : Same H (upd H p o) := fun b x e => by
  rw [upd_ne (ne_of_none e h)]
  exact e
/-- a list of numbers below 1009 -/
def Small (ns : List Int) : Prop := ∀ n ∈ ns, 0 ≤ n ∧ n < 1009
theorem Small.nil : Small [] := fun _ h => nomatch h
theorem Small.snoc {ns : List Int} (h : Small ns) {n : Int} (h0 : 0 ≤ n) (h1 : n < 1009) : Small (ns ++ [n]) := fun k hk => by
  rcases List.mem_append.mp hk with z | z
  · exact h k z
  · rw [List.mem_singleton] at z
    subst z
    exact ⟨h0, h1⟩
theorem small1e7 {n : Nat} (h : n ≤ 100000) : n < sizeLine := Nat.lt_of_le_of_lt h (by decide)
section
local macro_rules | `(tactic| walk_at "rd1") => `(tactic| first
  | (refine Exists.intro _ (And.intro rfl ?_))
  | (refine ⟨_, _, rfl, rfl, ?_⟩)
  | (refine Or.inl (Exists.intro _ (And.intro rfl ?_)))
  | (refine ⟨_, _, _, rfl, rfl, by assumption, by assumption, ?_⟩)
  | (refine And.intro (Or.inl ⟨rfl, _, SqL.of (by assumption)⟩) ?_)
  | (refine And.intro (by (first | omega | (dsimp only; omega) | (constructor <;> omega) | (refine Or.inl ?_; constructor <;> omega) | (refine Or.inr ?_; constructor <;> omega) | exact ⟨by decide, by decide, by decide⟩)) ?_))
local macro_rules | `(tactic| walk_at "rd") => `(tactic| repeat walk_at "rd1")
variable {P : Program} {w : World} {K : PySem.W.Frag} {mg : Str → Option Value} {base : Heap}
/-- the names of built-ins that no def of the text hides -/
structure DrawTxt (mg : Str → Option Value) (fR : Addr) : Prop where
  abs : mg "abs" = none
  int : mg "int" = none
  range : mg "range" = none
  len : mg "len" = none
  max : mg "max" = none
  row : mg "_law_row" = some (.ref fR)
/-- a row of numbers: a new list of as many numbers as asked, each from 0 to 1008 -/
def spRow : Sp := fun vs H Q _ => ∃ (c : Int) (m : Nat), vs = [.int c, .int m] ∧ m ≤ 1000 ∧
  ∀ (H' : Hp) (p : Addr) (ns : List Int), Same H H' → H p = none → H' p = some (.lst (ns.map V.int)) → ns.length = m → Small ns → Q (.ref p) H'
theorem ok_row {f fR : Addr} {fd : FuncData} {k : Nat} (F : Fun K "_law_row" "_law_row" s__law_row f fd) (T : DrawTxt mg fR) : FnOk P w K mg base CX0 (k + 1) f fd ["cell", "many"] spRow := by
  refine F.ok sc__law_row (fun vs H Q E h => ?_) (fun cdv A outer s H vs Q E hr h => ?_)
  · obtain ⟨c, m, rfl, _⟩ := h
    rfl
  · obtain ⟨c, m, rfl, hm, q⟩ := h
    have nd := sc__law_row.nd
    refine ⟨_, pss_cons (ps_set (i := 2) nd rfl (.inl rfl) (pe_lst pa_nil))
      (pss_cons (ps_set (i := 3) nd rfl (.inl rfl) pe_int)
      (pss_cons (ps_if (pt_cmpR op_ge (pe_callB call_abs (by rfl) T.abs (by decide +kernel) (pa_cons (pv 0) pa_nil)) (pe_op op_pow pe_int pe_int) (nomark _))
          (pss_one (ps_set (i := 3) nd rfl (.inl rfl) (pe_callB call_abs (by rfl) T.abs (by decide +kernel) (pa_cons (pv 0) pa_nil)))) pss_nil)
      (pss_cons (ps_set (i := 4) nd rfl (.inl rfl) (pe_op op_mod (pe_callTy call_int1 (by rfl) T.int (by decide +kernel) (pa_cons (pe_callB call_abs (by rfl) T.abs (by decide +kernel) (pa_cons (pv 0) pa_nil)) pa_nil)) pe_int))
      (pss_cons (ps_for PassesOwn.never rfl (pi_range1 rfl T.range (pa_cons (pv 1) pa_nil)) (pg_name (i := 5) nd rfl (.inl rfl))
        (pss_cons (ps_set (i := 4) nd rfl (.inl rfl) (pe_op op_mod (pe_callTy call_int1 (by rfl) T.int (by decide +kernel)
            (pa_cons (pe_op op_add (pe_op op_mul (pe_op op_add (pv 4) pe_int) pe_int) (pe_op op_mul pe_int (pv 5))) pa_nil)) pe_int))
        (pss_one (ps_if (pt_cmpR op_gt (pv 3) pe_int (nomark _))
          (pss_cons (ps_expr (pe_bm PySem.F.plainAttrs_list PySem.F.slot_list_append PySem.F.type_list_append mt_append (pv 2)
              (pa_cons (pe_op op_mod (pe_callTy call_int1 (by rfl) T.int (by decide +kernel) (pa_cons (pv 3) pa_nil)) pe_int) pa_nil)))
            (pss_one (ps_set (i := 3) nd rfl (.inl rfl) (pe_op op_fdiv (pv 3) pe_int))))
          (pss_one (ps_expr (pe_bm PySem.F.plainAttrs_list PySem.F.slot_list_append PySem.F.type_list_append mt_append (pv 2)
              (pa_cons (pe_op op_mod (pe_callTy call_int1 (by rfl) T.int (by decide +kernel) (pa_cons (pe_op op_fdiv (pv 4) pe_int) pa_nil)) pe_int) pa_nil))))))))
      (pss_one (ps_ret (pv 2))))))), ?_⟩
    refine ⟨Nat.zero_le _, fun r nr => ?_⟩
    have s1 : Same H (upd H r (.lst [])) := same_upd nr
    walk_at "rd"
    refine ite2 (fun hc => ?_) (fun hc => ?_)
    all_goals
      walk_at "rd"
      refine for_range (lo := 0) (n := m) (fun i σ H' => ∃ (ns : List Int) (rst st : Int) (vk : Option V), σ = [some (.int c), some (.int m), some (.ref r), some (.int rst), some (.int st), vk] ∧ Same H H' ∧ H' r = some (.lst (ns.map V.int)) ∧ ns.length = i ∧ Small ns ∧ 0 ≤ st ∧ st < 2147483647)
        ⟨[], _, _, none, rfl, s1, upd_same, rfl, Small.nil, Int.emod_nonneg _ (by decide), Int.emod_lt_of_pos _ (by decide)⟩ ?_ ?_
      · rintro i σ H' hi ⟨ns, rst, st, vk, rfl, sm, hrow, hl, hs, h0, h1⟩
        have hlen : (ns.map V.int).length < sizeLine := by
          rw [List.length_map]
          exact small1e7 (by omega)
        walk_at "rd"
        refine ite2 (fun hc2 => ?_) (fun hc2 => ?_)
        · walk_at "rd"
          refine ⟨ns ++ [rst % 1009], _, _, _, rfl, fun b o e => ?_, ?_, ?_, hs.snoc (Int.emod_nonneg _ (by decide)) (Int.emod_lt_of_pos _ (by decide)), Int.emod_nonneg _ (by decide), Int.emod_lt_of_pos _ (by decide)⟩
          · rw [upd_ne (ne_of_none e nr)]
            exact sm b o e
          · rw [upd_same, List.map_append]
            rfl
          · rw [List.length_append, hl]
            rfl
        · walk_at "rd"
          refine ⟨ns ++ [((st + 1) * 48271 + 69621 * (0 + (i : Int))) % 2147483647 / 2048 % 1009], _, _, _, rfl, fun b o e => ?_, ?_, ?_, hs.snoc (Int.emod_nonneg _ (by decide)) (Int.emod_lt_of_pos _ (by decide)), Int.emod_nonneg _ (by decide), Int.emod_lt_of_pos _ (by decide)⟩
          · rw [upd_ne (ne_of_none e nr)]
            exact sm b o e
          · rw [upd_same, List.map_append]
            rfl
          · rw [List.length_append, hl]
            rfl
      · rintro σ H' ⟨ns, rst, st, vk, rfl, sm, hrow, hl, hs, h0, h1⟩
        exact ⟨_, rfl, q H' r ns sm nr hrow hl hs⟩
/-- as many numbers as asked, drawn from the script: a new list, each from 0 to 1008 -/
def spNumbers (K : PySem.W.Frag) : Sp := fun vs H Q _ => ∃ (a : Addr) (xs : List Int) (m : Nat), vs = [.ref a, .int m] ∧ SqL K H a (xs.map V.int) ∧ xs.length ≤ 63 ∧ m ≤ 200 ∧
  ∀ (H' : Hp) (p : Addr) (ns : List Int), Same H H' → H p = none → H' p = some (.lst (ns.map V.int)) → ns.length = m → Small ns → Q (.ref p) H'
theorem cut_all (xs : List V) (h : xs.length ≤ 63) : cutV xs none (some 63) = xs := by
  unfold cutV
  rw [show HT.sIx xs.length xs.length (some 63) = min 63 xs.length from HT.sIx_nat xs.length xs.length 63, HT.sIx_none, List.drop_zero, Nat.sub_zero, Nat.min_eq_right h, List.take_length]
theorem cut_to (xs : List V) (m : Nat) : cutV xs none (some (m : Int)) = xs.take m := by
  unfold cutV
  rw [HT.sIx_nat, HT.sIx_none, List.drop_zero, Nat.sub_zero]
  rcases Nat.le_total m xs.length with h | h
  · rw [Nat.min_eq_left h]
  · rw [Nat.min_eq_right h, List.take_length, List.take_of_length_le h]
def lenAt (H : Hp) (p : Addr) : Nat := match H p with
  | some (.lst xs) => xs.length
  | _ => 0
theorem lenAt_of {H : Hp} {p : Addr} {xs : List V} (h : H p = some (.lst xs)) : lenAt H p = xs.length := by
  unfold lenAt
  rw [h]
theorem each_nat (m n : Nat) (hm : m ≤ 200) : ∃ e : Nat, 1 + (m : Int).fdiv (if (n : Int) > 1 then (n : Int) else 1) = (e : Int) ∧ e ≤ 201 := by
  have hp : 0 < (if (n : Int) > 1 then (n : Int) else 1) := by split <;> omega
  have e1 : (m : Int).fdiv (if (n : Int) > 1 then (n : Int) else 1) = (m : Int) / (if (n : Int) > 1 then (n : Int) else 1) := Int.fdiv_eq_ediv_of_nonneg _ (Int.le_of_lt hp)
  have h0 : 0 ≤ (m : Int) / (if (n : Int) > 1 then (n : Int) else 1) := Int.ediv_nonneg (by omega) (Int.le_of_lt hp)
  have h1 : (m : Int) / (if (n : Int) > 1 then (n : Int) else 1) ≤ m := Int.ediv_le_self _ (by omega)
  rw [e1]
  exact ⟨(1 + (m : Int) / (if (n : Int) > 1 then (n : Int) else 1)).toNat, by omega, by omega⟩
theorem ok_numbers {f fR : Addr} {fd fdR : FuncData} (F : Fun K "_law_numbers" "_law_numbers" s__law_numbers f fd) (T : DrawTxt mg fR) (FR : Fun K "_law_row" "_law_row" s__law_row fR fdR) (bR : Binds K fdR ["cell", "many"] []) :
    FnOk P w K mg base CX0 2 f fd ["script", "many"] (spNumbers K) := by
  have GR : FnOk P w K mg base CX0 1 fR fdR ["cell", "many"] spRow := ok_row FR T
  refine F.ok sc__law_numbers (fun vs H Q E h => ?_) (fun cdv A outer s H vs Q E hr h => ?_)
  · obtain ⟨a, xs, m, rfl, _⟩ := h
    rfl
  · obtain ⟨a, xs, m, rfl, hS, hx, hm, q⟩ := h
    have nd := sc__law_numbers.nd
    refine ⟨_, pss_cons (ps_set (i := 2) nd rfl (.inl rfl) (pe_slice sl_list (pv 0) po_none (po_some pe_int)))
      (pss_cons (ps_set (i := 3) nd rfl (.inl rfl) (pe_op op_add pe_int (pe_op op_fdivN (pv 1) (pe_callB (call_max2 rfl) (by rfl) T.max (by decide +kernel)
          (pa_cons pe_int (pa_cons (pe_callB call_len (by rfl) T.len (by decide +kernel) (pa_cons (pv 2) pa_nil)) pa_nil))))))
      (pss_cons (ps_set (i := 4) nd rfl (.inl rfl) (pe_lst pa_nil))
      (pss_cons (ps_for PassesOwn.never rfl (pi_list (pv 2)) (pg_name (i := 5) nd rfl (.inl rfl))
        (pss_one (ps_for PassesOwn.never rfl (pi_list (pe_call GR hr (by rfl) T.row FR.kp bR .nil pass0 (pa_cons (pv 5) (pa_cons (pv 3) pa_nil)))) (pg_name (i := 6) nd rfl (.inl rfl))
          (pss_one (ps_expr (pe_bm PySem.F.plainAttrs_list PySem.F.slot_list_append PySem.F.type_list_append mt_append (pv 4) (pa_cons (pv 6) pa_nil)))))))
      (pss_cons (ps_while PassesOwn.never (pt_cmpR op_lt (pe_callB call_len (by rfl) T.len (by decide +kernel) (pa_cons (pv 4) pa_nil)) (pv 1) (nomark _))
        (pss_one (ps_expr (pe_bm PySem.F.plainAttrs_list PySem.F.slot_list_append PySem.F.type_list_append mt_append (pv 4) (pa_cons pe_int pa_nil)))))
      (pss_one (ps_ret (pe_slice sl_list (pv 4) po_none (po_some (pv 1))))))))), ?_⟩
    refine ⟨_, rfl, _, rfl, a, _, rfl, hS, fun c nc => ?_⟩
    rw [cut_all _ (by rw [List.length_map]; exact hx)]
    have s1 : Same H (upd H c (.lst (xs.map V.int))) := same_upd nc
    refine ⟨_, rfl, _, rfl, _, _, rfl, .inl ⟨_, SqL.of upd_same, rfl⟩, _, _, rfl, _, _, rfl, rfl, ?_, ?_⟩
    · constructor
      · rw [List.length_map]
        split <;> omega
      · rw [List.length_map]
        split <;> omega
    refine ⟨_, _, rfl, rfl, ?_⟩
    dsimp only
    obtain ⟨e, he, hle⟩ := each_nat m (List.map V.int xs).length hm
    rw [he]
    refine ⟨Nat.zero_le _, fun b nb => ?_⟩
    have s2 : Same (upd H c (.lst (xs.map V.int))) (upd (upd H c (.lst (xs.map V.int))) b (.lst [])) := same_upd nb
    have nbc : c ≠ b := ne_of_none upd_same nb
    have nb0 : H b = none := s1.free nb
    -- for cell in cells
    refine ⟨_, rfl, c, rfl, ⟨_, SqL.of (s2 _ _ upd_same)⟩, for_list (K := K) (a := c) (xs := xs.map V.int) (fun i σ H' => ∃ (ns : List Int) (v5 v6 : Option V), σ = [some (.ref a), some (.int m), some (.ref c), some (.int e), some (.ref b), v5, v6] ∧ Same H H' ∧ H' c = some (.lst (xs.map V.int)) ∧ H' b = some (.lst (ns.map V.int)) ∧ ns.length ≤ i * 201 ∧ Small ns)
      ⟨[], none, none, rfl, s1.trans s2, s2 _ _ upd_same, upd_same, Nat.zero_le _, Small.nil⟩ (fun i σ H' _ ⟨_, _, _, _, _, hc, _⟩ => SqL.of hc) ?_ ?_⟩
    · rintro i y σ H' hi ⟨ns, v5, v6, rfl, sm, hc, hb, hl, hs⟩
      obtain ⟨z, hz, rfl⟩ : ∃ z, xs[i]? = some z ∧ y = V.int z := by
        rw [List.getElem?_map] at hi
        cases e : xs[i]? with
        | none =>
          rw [e] at hi
          cases hi
        | some z =>
          rw [e] at hi
          exact ⟨z, rfl, (Option.some.inj hi).symm⟩
      have hil : i < xs.length := (List.getElem?_eq_some_iff.mp hz).1
      -- for number in _law_row(cell, each)
      refine ⟨_, rfl, _, rfl, z, e, rfl, by omega, fun H2 r rs s3 nr hr2 hrl hrs => ?_⟩
      refine ⟨r, rfl, ⟨_, SqL.of hr2⟩, for_list (K := K) (a := r) (xs := rs.map V.int) (fun j σ H3 => ∃ (ms : List Int) (v6 : Option V), σ = [some (.ref a), some (.int m), some (.ref c), some (.int e), some (.ref b), some (.int z), v6] ∧ Same H H3 ∧ H3 r = some (.lst (rs.map V.int)) ∧ H3 c = some (.lst (xs.map V.int)) ∧ H3 b = some (.lst (ms.map V.int)) ∧ ms.length = ns.length + j ∧ Small ms)
        ⟨ns, v6, rfl, sm.trans s3, hr2, s3 _ _ hc, s3 _ _ hb, rfl, hs⟩ (fun j σ H3 _ ⟨_, _, _, _, h, _⟩ => SqL.of h) ?_ ?_⟩
      · rintro j y σ H3 hj ⟨ms, v6, rfl, sm3, hr3, hc3, hb3, hl3, hs3⟩
        obtain ⟨n, hn, rfl⟩ : ∃ n, rs[j]? = some n ∧ y = V.int n := by
          rw [List.getElem?_map] at hj
          cases e : rs[j]? with
          | none =>
            rw [e] at hj
            cases hj
          | some z =>
            rw [e] at hj
            exact ⟨z, rfl, (Option.some.inj hj).symm⟩
        have hjl : j < rs.length := (List.getElem?_eq_some_iff.mp hn).1
        have hb3l : (ms.map V.int).length < sizeLine := by
          rw [List.length_map]
          exact small1e7 (by omega)
        have nrb : r ≠ b := fun z => by
          rw [z] at nr
          rw [nr] at hb
          cases hb
        obtain ⟨g0, g1⟩ := hrs n (List.mem_of_getElem? hn)
        walk_at "rd"
        refine ⟨ms ++ [n], _, rfl, fun d o e => ?_, by rw [upd_ne nrb]; exact hr3, by rw [upd_ne nbc]; exact hc3, ?_, ?_, hs3.snoc g0 g1⟩
        · rw [upd_ne (ne_of_none e nb0)]
          exact sm3 d o e
        · rw [upd_same, List.map_append]
          rfl
        · rw [List.length_append, hl3]
          rfl
      · rintro σ H3 ⟨ms, v6, rfl, sm3, hr3, hc3, hb3, hl3, hs3⟩
        rw [List.length_map] at hl3
        exact ⟨ms, _, _, rfl, sm3, hc3, hb3, by rw [Nat.succ_mul]; omega, hs3⟩
    · rintro σ H' ⟨ns, v5, v6, rfl, sm, hc, hb, hl, hs⟩
      rw [List.length_map] at hl
      -- while len(numbers) < many
      refine while_by (fun σ H' => ∃ ns : List Int, σ = [some (.ref a), some (.int m), some (.ref c), some (.int e), some (.ref b), v5, v6] ∧ Same H H' ∧ H' b = some (.lst (ns.map V.int)) ∧ Small ns) (fun _ H' => m - lenAt H' b)
        ⟨ns, rfl, sm, hb, hs⟩ ?_ ?_
      · rintro σ H' ⟨ns, rfl, sm, hb, hs⟩
        refine ⟨_, rfl, _, _, rfl, .inl ⟨_, SqL.of hb, rfl⟩, _, rfl, _, _, rfl, rfl, _, rfl, ?_⟩
        rw [List.length_map]
        refine ite2 (fun hlt => ?_) (fun hlt => ?_)
        · have hlt' : ns.length < m := by
            have := of_decide_eq_true hlt
            omega
          have hbl : (ns.map V.int).length < sizeLine := by
            rw [List.length_map]
            exact small1e7 (by omega)
          walk_at "rd"
          refine ⟨⟨ns ++ [0], rfl, fun d o e => ?_, ?_, hs.snoc (by decide) (by decide)⟩, ?_⟩
          · rw [upd_ne (ne_of_none e nb0)]
            exact sm d o e
          · rw [upd_same, List.map_append]
            rfl
          · rw [lenAt_of upd_same, lenAt_of hb, List.length_append, List.length_map]
            show m - (ns.length + 1) < m - ns.length
            omega
        · have hge : m ≤ ns.length := by
            have : ¬ ((ns.length : Int) < (m : Int)) := fun z => hlt (decide_eq_true z)
            omega
          refine ⟨_, rfl, _, rfl, _, rfl, b, _, rfl, SqL.of hb, fun p np => ?_⟩
          rw [cut_to, ← List.map_take]
          refine q _ p (ns.take m) (fun d o e => ?_) (sm.free np) upd_same (by rw [List.length_take]; omega) (fun n hn => hs n (List.mem_of_mem_take hn))
          rw [upd_ne (ne_of_none (sm d o e) np)]
          exact sm d o e
      · rintro σ H Q Q' h ⟨v, e1, x, n, e2, l, u, e3, i, j, ei, ej, k, ek, q⟩
        exact ⟨v, e1, x, n, e2, l, u, e3, i, j, ei, ej, k, ek, h _ _ q⟩
end

/-! ### houses: their helpers -/
section
open GxR NdefX PySem.Spec PyProof.Rows
variable {P : Program} {w : World} {K : PySem.W.Frag} {mg : Str → Option Value} {base : Heap}
def longN (n : Int) : Bool := decide (1 ≤ n) && decide (n ≤ 40)
/-- what the top has left for them -/
structure HouseTop (mg : Str → Option Value) : Prop where
  all : mg "all" = none
  len : mg "len" = none
  sum : mg "sum" = none
  list : mg "list" = none
  sorted : mg "sorted" = none
  range : mg "range" = none
  longest : ∃ t, mg "LONGEST" = some (.int 40 t)
  stretches : ∃ t, mg "MOST_STRETCHES" = some (.int 2 t)
  mostGaps : ∃ t, mg "MOST_GAPS" = some (.int 11 t)
  mostClosed : ∃ t, mg "MOST_CLOSED" = some (.int 200 t)
def spLong (K : PySem.W.Frag) (T : Addr) : Sp := fun vs H Q _ => ∃ (l : Addr) (ns : List Int), vs = [.ref l] ∧ SqL K H l (ns.map V.int) ∧ TabG H T ∧
  ∀ H', Tabbed T H H' → Q (.bl (ns.all longN)) H'
theorem ok_long {f c T : Addr} {fd : FuncData} (F : FunC K "_are_long" "_are_long" s__are_long f c fd) (Z : HouseTop mg) (TB : TabB base mg c T) : FnOk P w K mg base CX0 3 f fd ["numbers"] (spLong K T) := by
  refine F.ok sc__are_long (fun vs H Q E h => ?_) (fun A outer s H vs Q E hr h => ?_)
  · obtain ⟨l, ns, rfl, _⟩ := h
    rfl
  · obtain ⟨l, ns, rfl, hl, ht, q⟩ := h
    obtain ⟨t, hlong⟩ := Z.longest
    refine ⟨_, pss_one (ps_ret (pe_allG (k := 1) (N := ["number"]) (fr := [none]) (g := gName 0) hr (by rfl) Z.all (by decide +kernel) TB rfl (gsc_by (outer := defScope s__are_long) rfl rfl (by decide +kernel)) (gfr_by (outer := defScope s__are_long) (XN := ["numbers", "number"]) rfl rfl (by decide +kernel)) (pi_list (pv 0))
      (fun B s0 H0 cd fp rB => ⟨pg_name (i := 0) (show (["number"] : List Str).Nodup by decide) rfl (.inl rfl), pe_chain op_le op_le pe_int (pv 0) (pe_glob (v := .int 40) rfl hlong ⟨_, rfl⟩)⟩) (fun _ => rfl))), ?_⟩
    refine ⟨_, rfl, l, rfl, ⟨_, hl⟩, ht, fun H2 t2 => ?_⟩
    have hl2 : SqL K H2 l (ns.map V.int) := (Tabbed.kp t2 ht).seq hl
    refine for_list (K := K) (a := l) (xs := ns.map V.int) (fun i σ H' => (∃ z, σ = [z]) ∧ H' = H2 ∧ (ns.take i).all longN = true) ?_ ?_ ?_ ?_
    · exact ⟨⟨none, rfl⟩, rfl, rfl⟩
    · rintro i σ H' _ ⟨_, rfl, _⟩
      exact hl2
    · rintro i x σ H' hx ⟨⟨z, rfl⟩, rfl, hp⟩
      rw [List.getElem?_map] at hx
      cases hn : ns[i]? with
      | none => rw [hn] at hx; cases hx
      | some n =>
        rw [hn] at hx
        cases hx
        have et : ns.take (i + 1) = ns.take i ++ [n] := by rw [List.take_add_one, hn]; rfl
        have fals : longN n = false → ns.all longN = false := fun e => by
          rw [Bool.eq_false_iff]
          intro z
          rw [List.all_eq_true] at z
          rw [z n (List.mem_of_getElem? hn)] at e
          cases e
        refine ⟨_, rfl, _, _, rfl, rfl, _, rfl, ?_⟩
        refine ite2 (fun h1 => ?_) (fun h1 => ?_)
        · refine ⟨_, _, rfl, rfl, _, rfl, ?_⟩
          refine ite2 (fun h2 => ?_) (fun h2 => ?_)
          · have e : longN n = false := by
              unfold longN
              rw [h2, Bool.and_false]
            have z := q H' t2
            rw [fals e] at z
            exact z
          · refine ⟨⟨_, rfl⟩, rfl, ?_⟩
            have e2 : decide (n ≤ 40) = true := by simpa using h2
            rw [et, List.all_append, hp]
            show (true && (longN n && true)) = true
            unfold longN
            rw [h1, e2]
            rfl
        · refine ⟨_, rfl, ?_⟩
          rw [if_pos rfl]
          have e : longN n = false := by
            unfold longN
            rw [show decide (1 ≤ n) = false by simpa using h1]
            rfl
          have z := q H' t2
          rw [fals e] at z
          exact z
    · rintro σ H' ⟨_, rfl, hp⟩
      rw [List.length_map, List.take_length] at hp
      have z := q H' t2
      rw [hp] at z
      exact z
end

/-! ### houses: cross heights, links -/
section
open GxR NdefX PySem.Spec PyProof.Rows
variable {P : Program} {w : World} {K : PySem.W.Frag} {mg : Str → Option Value} {base : Heap}
def crossN (ns : List Int) : List Int := (List.range (ns.length + 1)).map fun k => (ns.take k).sum
theorem atI_last {α : Type} (xs : List α) (x : α) : atI (xs ++ [x]) (-1) = some x := by
  unfold atI ixN
  rw [if_neg (by decide), List.length_append]
  have h : (-(1 : Int) : Int) + ((xs.length + [x].length : Nat) : Int) = (xs.length : Int) := by
    show (-1 : Int) + ((xs.length + 1 : Nat) : Int) = _
    omega
  split
  · show (xs ++ [x])[(-1 + ((xs.length + [x].length : Nat) : Int)).toNat]? = some x
    rw [h]
    simp
  · rename_i z
    exact absurd (by show -((xs.length + 1 : Nat) : Int) ≤ -1; omega) z
def spCross (K : PySem.W.Frag) : Sp := fun vs H Q _ => ∃ (l : Addr) (ns : List Int), vs = [.ref l] ∧ SqL K H l (ns.map V.int) ∧ ns.length ≤ 1000 ∧
  ∀ (H' : Hp) (p : Addr), Same H H' → H p = none → H' p = some (.lst ((crossN ns).map V.int)) → Q (.ref p) H'
theorem ok_cross {f : Addr} {fd : FuncData} (F : Fun K "_cross_heights" "_cross_heights" s__cross_heights f fd) : FnOk P w K mg base CX0 2 f fd ["lengths"] (spCross K) := by
  refine F.ok sc__cross_heights (fun vs H Q E h => ?_) (fun cdv A outer s H vs Q E hr h => ?_)
  · obtain ⟨l, ns, rfl, _⟩ := h
    rfl
  · obtain ⟨l, ns, rfl, hl, hn, q⟩ := h
    have nd := sc__cross_heights.nd
    refine ⟨_, (pss_cons (ps_set (i := 1) nd rfl (.inl rfl) (pe_lst (pa_cons pe_int pa_nil)))
      (pss_cons (ps_for PassesOwn.never rfl (pi_list (pv 0)) (pg_name (i := 2) nd rfl (.inl rfl)) (pss_one (ps_expr (pe_bm PySem.F.plainAttrs_list PySem.F.slot_list_append PySem.F.type_list_append mt_append (pv 1) (pa_cons (pe_op op_add (pe_ix ix_list (pv 1) (pe_un un_neg pe_int) (fun _ _ => rfl)) (pv 2)) pa_nil)))))
      (pss_one (ps_ret (pv 1))))), ?_⟩
    refine ⟨by decide, fun r nr => ?_⟩
    have sR : ∀ o, Same H (upd H r o) := fun o => same_upd nr
    refine ⟨_, rfl, l, rfl, ⟨_, (sR _).seq hl⟩, ?_⟩
    refine for_list (K := K) (a := l) (xs := ns.map V.int) (fun i σ H' => (∃ z, σ = [some (.ref l), some (.ref r), z]) ∧ H' = upd H r (.lst (((List.range (i + 1)).map fun k => (ns.take k).sum).map V.int))) ?_ ?_ ?_ ?_
    · exact ⟨⟨none, rfl⟩, rfl⟩
    · rintro i σ H' _ ⟨_, rfl⟩
      exact (sR _).seq hl
    · rintro i x σ H' hx ⟨⟨z, rfl⟩, rfl⟩
      rw [List.getElem?_map] at hx
      cases hi : ns[i]? with
      | none => rw [hi] at hx; cases hx
      | some n =>
        rw [hi] at hx
        cases hx
        have lt := (List.getElem?_eq_some_iff.mp hi).1
        have et : ns.take (i + 1) = ns.take i ++ [n] := by rw [List.take_add_one, hi]; rfl
        have er : ((List.range (i + 1)).map fun k => (ns.take k).sum).map V.int = (((List.range i).map fun k => (ns.take k).sum).map V.int) ++ [V.int (ns.take i).sum] := by
          rw [List.range_succ, List.map_append, List.map_append]
          rfl
        refine ⟨_, rfl, ?_⟩
        refine And.intro (Or.inl ⟨rfl, _, SqL.of upd_same⟩) ?_
        refine ⟨_, rfl, _, rfl, r, _, -1, _, rfl, rfl, SqL.of upd_same, by rw [er]; exact atI_last _ _, _, rfl, _, _, rfl, rfl, ?_⟩
        refine ⟨r, _, _, rfl, rfl, upd_same, ?_, ⟨_, rfl⟩, ?_⟩
        · rw [List.length_map, List.length_map, List.length_range, sizeLine_eq]
          omega
        · rw [upd_upd, List.range_succ (n := i + 1), List.map_append, List.map_append]
          show upd H r (.lst (_ ++ [V.int ((ns.take i).sum + n)])) = upd H r (.lst (_ ++ [V.int (ns.take (i + 1)).sum]))
          rw [et, List.sum_append]
          simp
    · rintro σ H' ⟨⟨z, rfl⟩, rfl⟩
      refine ⟨_, rfl, ?_⟩
      rw [List.length_map]
      exact q _ r (sR _) nr upd_same
end

/-! ### houses: what stands in one -/
section
open GxR NdefX PySem.Spec PyProof.Rows
variable {P : Program} {w : World} {K : PySem.W.Frag} {mg : Str → Option Value} {base : Heap}
def hf (l g c t d : V) : List (Str × V) := putF "_closed" d (putF "_top" t (putF "_crosses" c (putF "_gaps" g (putF "_lengths" l []))))
theorem hk1 : ¬ (("_lengths" : Str) = "_gaps") := by decide +kernel
theorem hk2 : ¬ (("_lengths" : Str) = "_crosses") := by decide +kernel
theorem hk3 : ¬ (("_lengths" : Str) = "_top") := by decide +kernel
theorem hk4 : ¬ (("_lengths" : Str) = "_closed") := by decide +kernel
theorem hk5 : ¬ (("_gaps" : Str) = "_crosses") := by decide +kernel
theorem hk6 : ¬ (("_gaps" : Str) = "_top") := by decide +kernel
theorem hk7 : ¬ (("_gaps" : Str) = "_closed") := by decide +kernel
theorem hk8 : ¬ (("_crosses" : Str) = "_top") := by decide +kernel
theorem hk9 : ¬ (("_crosses" : Str) = "_closed") := by decide +kernel
theorem hk10 : ¬ (("_top" : Str) = "_closed") := by decide +kernel
section
variable (l g c t d : V)
theorem hf_lengths : (hf l g c t d).lookup ("_lengths" : Str) = some l := by
  unfold hf
  rw [lookup_putF, if_neg hk4, lookup_putF, if_neg hk3, lookup_putF, if_neg hk2, lookup_putF, if_neg hk1, lookup_putF, if_pos rfl]
theorem hf_gaps : (hf l g c t d).lookup ("_gaps" : Str) = some g := by
  unfold hf
  rw [lookup_putF, if_neg hk7, lookup_putF, if_neg hk6, lookup_putF, if_neg hk5, lookup_putF, if_pos rfl]
theorem hf_crosses : (hf l g c t d).lookup ("_crosses" : Str) = some c := by
  unfold hf
  rw [lookup_putF, if_neg hk9, lookup_putF, if_neg hk8, lookup_putF, if_pos rfl]
theorem hf_top : (hf l g c t d).lookup ("_top" : Str) = some t := by
  unfold hf
  rw [lookup_putF, if_neg hk10, lookup_putF, if_pos rfl]
theorem hf_closed : (hf l g c t d).lookup ("_closed" : Str) = some d := by
  unfold hf
  rw [lookup_putF, if_pos rfl]
theorem hf_no {m : Str} (h1 : ¬ m = "_lengths") (h2 : ¬ m = "_gaps") (h3 : ¬ m = "_crosses") (h4 : ¬ m = "_top") (h5 : ¬ m = "_closed") : (hf l g c t d).lookup m = none := by
  unfold hf
  rw [lookup_putF, if_neg h5, lookup_putF, if_neg h4, lookup_putF, if_neg h3, lookup_putF, if_neg h2, lookup_putF, if_neg h1]
  rfl
end
/-- a link's key -/
def lk (x : Str) (a h : Int) : Tk := [.inr x, .inl a, .inl h]
/-- it is one of the house -/
def isLk (ls gs : List Int) (x : Str) (a h : Int) : Bool :=
  if x = "up" then (decide (0 ≤ a) && decide (a ≤ gs.length)) && (decide (0 ≤ h) && decide (h < ls.sum))
  else decide (x = "over") && ((decide (0 ≤ a) && decide (a < gs.length)) && decide (h ∈ crossN ls))
/-- the fields that do not tell the closed links -/
def PartAt (C : Addr) (H : Hp) (p : Addr) (ls gs : List Int) : Prop := ∃ (dx l g c : Addr) (d : V), H p = some (.ins C dx (hf (.ref l) (.ref g) (.ref c) (.int ls.sum) d)) ∧
  H l = some (.lst (ls.map V.int)) ∧ H g = some (.lst (gs.map V.int)) ∧ H c = some (.lst ((crossN ls).map V.int))
theorem PartAt.kp {C : Addr} {H H' : Hp} {p : Addr} {ls gs : List Int} (h : PartAt C H p ls gs) (k : Kp H H') : PartAt C H' p ls gs := by
  obtain ⟨dx, l, g, c, d, h1, h2, h3, h4⟩ := h
  exact ⟨dx, l, g, c, d, k.ins h1, k.lst h2, k.lst h3, k.lst h4⟩
structure HouseTxt (K : PySem.W.Frag) (mg : Str → Option Value) (C : Addr) : Prop where
  cl : Cls K C
  nL : NoAttr K C "_lengths"
  nG : NoAttr K C "_gaps"
  nX : NoAttr K C "_crosses"
  nT : NoAttr K C "_top"
  nC : NoAttr K C "_closed"
theorem inV_ints (x : Int) (ns : List Int) : inV (.int x) (ns.map V.int) = decide (x ∈ ns) := by
  unfold inV
  induction ns with
  | nil => simp
  | cons n ns ih =>
    rw [List.map_cons, List.any_cons, ih]
    have e : eqV (.int n) (.int x) = decide (n = x) := by rfl
    rw [e]
    by_cases h : n = x
    · subst h; simp
    · have h2 : ¬ x = n := fun z => h z.symm
      simp [h, h2]
theorem flat_ints (ns : List Int) : (ns.map V.int).all flatV = true := by
  rw [List.all_eq_true]
  intro x hx
  obtain ⟨n, _, rfl⟩ := List.mem_map.mp hx
  rfl
/-- the reading of te hands out v and changes nothing -/
def Tells (te : TE) (σ : L2.St) (H : Hp) (v : V) : Prop := ∀ Q : VK, Q v H → te σ H Q
theorem tells_chain {tb tc : TE} {σ : L2.St} {H : Hp} {i0 j n : Int} {f : Int → Int → Bool} (hb : Tells tb σ H (.int j)) (hc : Tells tc σ H (.int n)) :
    Tells (tChain (rI0 fun i j => V.bl (decide (i ≤ j))) (rI0 fun i j => V.bl (f i j)) (tC (.int i0)) tb tc) σ H (.bl (decide (i0 ≤ j) && f j n)) := fun Q q => by
  refine hb _ ⟨_, _, rfl, rfl, _, rfl, ?_⟩
  refine ite2 (fun h => ?_) (fun h => ?_)
  · refine hc _ ⟨_, _, rfl, rfl, ?_⟩
    rw [h, Bool.true_and] at q
    exact q
  · rw [show decide (i0 ≤ j) = false by simpa using h, Bool.false_and] at q
    exact q
theorem tells_and {ta tb : TE} {σ : L2.St} {H : Hp} {a b : Bool} (ha : Tells ta σ H (.bl a)) (hb : Tells tb σ H (.bl b)) : Tells (tAndV ta tb) σ H (.bl (a && b)) := fun Q q => by
  refine ha _ ⟨_, rfl, ?_⟩
  cases a with
  | true => exact hb _ q
  | false => exact q
def spLink (C : Addr) : Sp := fun vs H Q _ => ∃ (p : Addr) (v : V) (ls gs : List Int) (x : Str) (a h : Int), vs = [.ref p, v] ∧ PartAt C H p ls gs ∧ Kr H v (lk x a h) ∧ Q (.bl (isLk ls gs x a h)) H
theorem ok_link {f C : Addr} {fd : FuncData} (F : Fun K "is_link" "House.is_link" s_House_is_link f fd) (Z : HouseTop mg) (T : HouseTxt K mg C) : FnOk P w K mg base CX0 1 f fd ["self", "link"] (spLink C) := by
  refine F.ok sc_House_is_link (fun vs H Q E h => ?_) (fun cdv A outer s H vs Q E hr h => ?_)
  · obtain ⟨p, v, ls, gs, x, a, h, rfl, _⟩ := h
    rfl
  · obtain ⟨p, v, ls, gs, x, a, h, rfl, ⟨dx, l, g, c, d, h1, h2, h3, h4⟩, ⟨t, rfl, ht⟩, q⟩ := h
    have nd := sc_House_is_link.nd
    refine ⟨_, (pss_cons (ps_asg (pv 1) (pg_tup rfl (pgs_cons (pg_name (i := 2) nd rfl (.inl rfl)) (pgs_cons (pg_name (i := 3) nd rfl (.inl rfl)) (pgs_cons (pg_name (i := 4) nd rfl (.inl rfl)) pgs_nil)))))
      (pss_cons (ps_if (pt_cmpR op_eq (pv 2) pe_str (nomark _)) (pss_one (ps_ret (pe_and (pe_chain op_le op_le pe_int (pv 3) (pe_callB call_len (by rfl) Z.len (by decide +kernel) (pa_cons (pe_fld (pv 0) rfl) pa_nil))) (pe_one (pe_chain op_le op_lt pe_int (pv 4) (pe_fld (pv 0) rfl)))))) pss_nil)
      (pss_one (ps_ret (pe_and (pe_cmpR op_eq (pv 2) pe_str (nomark _)) (pe_and (pe_chain op_le op_lt pe_int (pv 3) (pe_callB call_len (by rfl) Z.len (by decide +kernel) (pa_cons (pe_fld (pv 0) rfl) pa_nil))) (pe_one (pe_cmpR op_in_seq (pv 4) (pe_fld (pv 0) rfl) (by rfl))))))))), ?_⟩
    refine ⟨_, rfl, t, _, rfl, SqT.of ht, rfl, _, _, rfl, _, _, rfl, _, _, rfl, rfl, ?_⟩
    have var : ∀ {σ : L2.St} {i : Nat} {v : V}, σ[i]? = some (some v) → Tells (tVar i) σ H v := fun e Q q => ⟨_, e, q⟩
    have fld : ∀ {σ : L2.St} {f : Str} {v : V}, σ[0]? = some (some (V.ref p)) → NoAttr K C f → (hf (.ref l) (.ref g) (.ref c) (.int ls.sum) d).lookup f = some v → Tells (tFld K (tVar 0) f) σ H v := fun e n z Q q =>
      ⟨_, e, p, C, dx, _, _, rfl, h1, T.cl, n, z, q⟩
    have cnt : ∀ {σ : L2.St}, σ[0]? = some (some (V.ref p)) → Tells (tCB (fun xs H1 Q => ∃ x n, xs = [x] ∧ LenV K x H1 n ∧ Q (V.int (n : Nat)) H1) (tCons (tFld K (tVar 0) "_gaps") tNil)) σ H (.int gs.length) := fun e Q q =>
      fld e T.nG (hf_gaps _ _ _ _ _) _ ⟨_, _, rfl, .inl ⟨_, SqL.of h3, rfl⟩, by rw [List.length_map]; exact q⟩
    refine ⟨_, rfl, rfl, _, rfl, ?_⟩
    refine ite2 (fun hc => ?_) (fun hc => ?_)
    · have hx : x = "up" := V.str.inj (of_decide_eq_true hc)
      refine tells_and (tells_chain (f := fun i j => decide (i ≤ j)) (var rfl) (cnt rfl)) (tells_chain (f := fun i j => decide (i < j)) (var rfl) (fld rfl T.nT (hf_top _ _ _ _ _))) _ ?_
      unfold isLk at q
      rw [if_pos hx] at q
      exact q
    · have hx : ¬ x = "up" := fun z => by
        rw [z] at hc
        exact hc (decide_eq_true rfl)
      have eqq : Tells (tOp rEq (tVar 2) (tC (V.str "over"))) [some (.ref p), some (.ref t), some (.str x), some (.int a), some (.int h)] H (.bl (decide (x = "over"))) := fun Q q =>
        ⟨_, rfl, rfl, by rw [show decide (V.str x = V.str "over") = decide (x = "over") by simp]; exact q⟩
      have inn : Tells (tOp (rIn K false) (tVar 4) (tFld K (tVar 0) "_crosses")) [some (.ref p), some (.ref t), some (.str x), some (.int a), some (.int h)] H (.bl (decide (h ∈ crossN ls))) := fun Q q =>
        ⟨_, rfl, fld rfl T.nX (hf_crosses _ _ _ _ _) _ ⟨c, _, rfl, .inl (SqL.of h4), rfl, flat_ints _, by rw [inV_ints]; exact q⟩⟩
      refine tells_and eqq (tells_and (tells_chain (f := fun i j => decide (i < j)) (var rfl) (cnt rfl)) inn) _ ?_
      unfold isLk at q
      rw [if_neg hx] at q
      exact q
end

/-! ### houses: made -/
section
open GxR NdefX PySem.Spec PyProof.Rows
variable {P : Program} {w : World} {K : PySem.W.Frag} {mg : Str → Option Value} {base : Heap}
theorem Room.units0 {k : Nat} {A : Around} (r : Room k A) : A.units < cLine := by
  have := r.un
  omega
/-- all but what is at p is as it was, tables aside -/
structure KpB (p : Addr) (H H' : Hp) : Prop where
  at_ : ∀ b o, H b = some o → b ≠ p → (∀ ps, o ≠ .tbl ps) → H' b = some o
  tab : ∀ P, TabG H P → TabG H' P
section
variable {p : Addr} {H H1 H2 : Hp}
theorem KpB.refl : KpB p H H := ⟨fun _ _ e _ _ => e, fun _ t => t⟩
theorem KpB.kp (k : KpB p H H1) (m : Kp H1 H2) : KpB p H H2 := ⟨fun b o e n t => m.at_ b o (k.at_ b o e n t) t, fun P t => m.tab P (k.tab P t)⟩
theorem KpB.new {r : Addr} {o : HO} (k : KpB p H H1) (n : H1 r = none) : KpB p H (upd H1 r o) := k.kp (kpS (same_upd n))
theorem KpB.put {C dx : Addr} {fs gs : List (Str × V)} (k : KpB p H H1) (hp : H1 p = some (.ins C dx fs)) : KpB p H (upd H1 p (.ins C dx gs)) :=
  ⟨fun b o e n t => by rw [upd_ne n]; exact k.at_ b o e n t, fun P t => by
    obtain ⟨ps, e, t'⟩ := k.tab P t
    exact ⟨ps, by rw [upd_ne (ne_of hp e fun z => nomatch z).symm]; exact e, t'⟩⟩
end
/-- a new object is laid, then a field of p is set -/
theorem stepF {p r C dx : Addr} {fs gs : List (Str × V)} {H H2 : Hp} {o : HO} (kb : KpB p H H2) (hp : H2 p = some (.ins C dx fs)) (n : H2 r = none) :
    ∃ H3, upd (upd H2 r o) p (.ins C dx gs) = H3 ∧ KpB p H H3 ∧ H3 p = some (.ins C dx gs) ∧ H3 r = some o ∧ (∀ b u, H2 b = some u → b ≠ p → H3 b = some u) ∧ ∀ b, H3 b = none → H2 b = none := by
  have pr : p ≠ r := ne_of_none hp n
  refine ⟨_, rfl, (kb.new n).put (fs := fs) (by rw [upd_ne pr]; exact hp), upd_same, by rw [upd_ne pr.symm, upd_same], fun b u e h => ?_, fun b e => ?_⟩
  · rw [upd_ne h, upd_ne (ne_of_none e n)]
    exact e
  · cases q : H2 b with
    | none => rfl
    | some u =>
      by_cases z : b = p
      · rw [z, upd_same] at e
        cases e
      · rw [upd_ne z, upd_ne (ne_of_none q n), q] at e
        cases e
theorem stepP {p C dx : Addr} {fs gs : List (Str × V)} {H H2 : Hp} (kb : KpB p H H2) (hp : H2 p = some (.ins C dx fs)) :
    ∃ H3, upd H2 p (.ins C dx gs) = H3 ∧ KpB p H H3 ∧ H3 p = some (.ins C dx gs) ∧ (∀ b u, H2 b = some u → b ≠ p → H3 b = some u) ∧ ∀ b, H3 b = none → H2 b = none := by
  refine ⟨_, rfl, kb.put hp, upd_same, fun b u e h => by rw [upd_ne h]; exact e, fun b e => ?_⟩
  by_cases z : b = p
  · rw [z, upd_same] at e
    cases e
  · rw [upd_ne z] at e
    exact e
theorem lenF {f : Str} {v : V} {fs : List (Str × V)} {n : Nat} (h : fs.length < n) : (putF f v fs).length < n + 1 := by
  have q := length_putF f v fs
  omega
theorem seqP {K : PySem.W.Frag} {p C dx a : Addr} {fs : List (Str × V)} {H H2 : Hp} {xs : List V} (hp : H p = some (.ins C dx fs)) (k : ∀ b u, H b = some u → b ≠ p → H2 b = some u) (h : SqL K H a xs) : SqL K H2 a xs := by
  rcases h with (h | ⟨o, h⟩) | h
  · exact .inl (.inl (k _ _ h (ne_of hp h fun z => nomatch z).symm))
  · exact .inl (.inr ⟨o, k _ _ h (ne_of hp h fun z => nomatch z).symm⟩)
  · exact .inr h
theorem krsP {p C dx : Addr} {fs : List (Str × V)} {H H2 : Hp} {xs : List V} {ks : List Tk} (hp : H p = some (.ins C dx fs)) (k : ∀ b u, H b = some u → b ≠ p → H2 b = some u) (h : Krs H xs ks) : Krs H2 xs ks := by
  induction h with
  | nil => exact .nil
  | cons a _ ih =>
    obtain ⟨t, rfl, e⟩ := a
    exact .cons ⟨t, rfl, k _ _ e (ne_of hp e fun z => nomatch z).symm⟩ ih
/-- what the house's keys are -/
def kOf (cs : List (Str × Int × Int)) : List Tk := cs.map fun c => lk c.1 c.2.1 c.2.2
def Valid (ls gs : List Int) (cs : List (Str × Int × Int)) : Prop := ((1 ≤ ls.length ∧ ls.length ≤ 2) ∧ ls.all longN = true) ∧ (gs.length ≤ 11 ∧ gs.all longN = true) ∧ cs.length ≤ 200 ∧ (kOf cs).Nodup ∧ ∀ c ∈ cs, isLk ls gs c.1 c.2.1 c.2.2 = true
/-- a house stands at p -/
def HouseAt (C : Addr) (H : Hp) (p : Addr) (ls gs : List Int) (cs : List (Str × Int × Int)) : Prop := Valid ls gs cs ∧ ∃ dx l g c d : Addr, H p = some (.ins C dx (hf (.ref l) (.ref g) (.ref c) (.int ls.sum) (.ref d))) ∧
  H l = some (.lst (ls.map V.int)) ∧ H g = some (.lst (gs.map V.int)) ∧ H c = some (.lst ((crossN ls).map V.int)) ∧ H d = some (.dT ((kOf cs).map fun k => (k, V.bl true)))
structure ErrTxt (K : PySem.W.Frag) (mg : Str → Option Value) (CI : Addr) (x : Str) : Prop where
  gI : mg x = some (.ref CI)
  kI : PySem.W.keepIn K (.ref CI) = true
  xI : PySem.W.excIn K CI [.type "ValueError", .type "Exception", .type "BaseException", .type "object"] "ValueError.__new__" = true
  bI : PySem.W.subIn K (.ref CI) (.type "BaseException") = some true
  tI : PySem.W.typeIn K (.ref CI) = some (.type "type")
/-- no list stands there -/
def NoLst (H : Hp) (b : Addr) : Prop := ∀ zs, H b ≠ some (.lst zs)
theorem Kp.noLst {H H' : Hp} {b : Addr} (k : Kp H H') (n : H' b = none) : NoLst H b := fun zs e => by
  rcases k.free n with z | ⟨ps, z⟩
  · rw [z] at e
    cases e
  · rw [z] at e
    cases e
def spHouse (K : PySem.W.Frag) (C CI TL TI : Addr) : Sp := fun vs H Q E => ∃ (p dx l g c : Addr) (ls gs : List Int) (xs : List V) (cs : List (Str × Int × Int)), vs = [.ref p, .ref l, .ref g, .ref c] ∧ H p = some (.ins C dx []) ∧
  SqL K H l (ls.map V.int) ∧ SqL K H g (gs.map V.int) ∧ SqL K H c xs ∧ Krs H xs (kOf cs) ∧ ls.length ≤ 1000 ∧ gs.length ≤ 1000 ∧ cs.length ≤ 1000 ∧ TabG H TL ∧ TabG H TI ∧
  (Valid ls gs cs → ∀ H', HouseAt C H' p ls gs cs → KpB p H H' → (∀ (dx l g c : Addr) (t d : V), H' p = some (.ins C dx (hf (.ref l) (.ref g) (.ref c) t d)) → NoLst H l ∧ NoLst H g ∧ NoLst H c) → Q .non H') ∧
  (¬ Valid ls gs cs → ∀ H', KpB p H H' → E (.ref CI) none H')
theorem ok_house {f cI TI C CI fL fA cA TL fX : Addr} {fd fdL fdA fdX : FuncData} (F : FunC K "__init__" "House.__init__" s_House___init__ f cI fd) (TB : TabB base mg cI TI) (Z : HouseTop mg) (T : HouseTxt K mg C) (U : ErrTxt K mg CI "InvalidHouse")
    (FL : Fun K "is_link" "House.is_link" s_House_is_link fL fdL) (bL : Binds K fdL ["self", "link"] []) (mL : Meth K C "is_link" fL)
    (FA : FunC K "_are_long" "_are_long" s__are_long fA cA fdA) (TBA : TabB base mg cA TL) (bA : Binds K fdA ["numbers"] []) (gA : mg "_are_long" = some (.ref fA))
    (FX : Fun K "_cross_heights" "_cross_heights" s__cross_heights fX fdX) (bX : Binds K fdX ["lengths"] []) (gX : mg "_cross_heights" = some (.ref fX)) :
    FnOk P w K mg base (L2.CX P w) 5 f fd ["self", "lengths", "gaps", "closed"] (spHouse K C CI TL TI) := by
  have GL : FnOk P w K mg base CX0 1 fL fdL ["self", "link"] (spLink C) := ok_link FL Z T
  have GA : FnOk P w K mg base CX0 3 fA fdA ["numbers"] (spLong K TL) := ok_long FA Z TBA
  have GX : FnOk P w K mg base CX0 2 fX fdX ["lengths"] (spCross K) := ok_cross FX
  refine F.okX sc_House___init__ (fun vs H Q E h => ?_) (fun A outer s H vs Q E hr h => ?_)
  · obtain ⟨p, dx, l, g, c, ls, gs, xs, cs, rfl, _⟩ := h
    rfl
  · obtain ⟨p, dx, l, g, c, ls, gs, xs, cs, rfl, hp, hl, hg, hc, hx, bl, bg, bc, tL, tI, q, e⟩ := h
    obtain ⟨_, hStr⟩ := Z.stretches
    obtain ⟨_, hGap⟩ := Z.mostGaps
    obtain ⟨_, hClo⟩ := Z.mostClosed
    have nd := sc_House___init__.nd
    have hxl := hx.len
    refine ⟨_, (pss_cons (ps_if (PW.pt (pw_or (pt_not (pt_chain op_le op_le pe_int (pe_callB call_len (by rfl) Z.len (by decide +kernel) (pa_cons (pv 1) pa_nil)) (pe_glob (v := .int 2) rfl hStr ⟨_, rfl⟩))) (pw_or1 (pt_not (pt_val (pe_call GA (by exact hr.mono (by decide)) (by rfl) gA FA.kp bA .nil pass0 (pa_cons (pv 1) pa_nil))))))) (pss_one (ps_raise rfl (takes_of rfl rfl rfl rfl) (pmk_own PySem.F.excBase_ValueError U.xI U.gI U.kI (raises_own U.bI U.tI) rfl))) pss_nil)
      (pss_cons (ps_if (PW.pt (pw_or (pt_cmpR op_gt (pe_callB call_len (by rfl) Z.len (by decide +kernel) (pa_cons (pv 2) pa_nil)) (pe_glob (v := .int 11) rfl hGap ⟨_, rfl⟩) (nomark _)) (pw_or1 (pt_not (pt_val (pe_call GA (by exact hr.mono (by decide)) (by rfl) gA FA.kp bA .nil pass0 (pa_cons (pv 2) pa_nil))))))) (pss_one (ps_raise rfl (takes_of rfl rfl rfl rfl) (pmk_own PySem.F.excBase_ValueError U.xI U.gI U.kI (raises_own U.bI U.tI) rfl))) pss_nil)
      (pss_cons (ps_fld (pv 0) (pe_callTy call_list_of (by rfl) Z.list (by decide +kernel) (pa_cons (pv 1) pa_nil)) rfl)
      (pss_cons (ps_fld (pv 0) (pe_callTy call_list_of (by rfl) Z.list (by decide +kernel) (pa_cons (pv 2) pa_nil)) rfl)
      (pss_cons (ps_fld (pv 0) (pe_call GX (by exact hr.mono (by decide)) (by rfl) gX FX.kp bX .nil pass0 (pa_cons (pv 1) pa_nil)) rfl)
      (pss_cons (ps_fld (pv 0) (pe_callB (cr_sum rfl) (by rfl) Z.sum (by decide +kernel) (pa_cons (pv 1) pa_nil)) rfl)
      (pss_cons (ps_fld (pv 0) (pe_dcT (own := [("link", 4)]) (g := gName 4) rfl (by exact hr.units0) nd (pi_list (pv 3)) (blkOk_by (N := ["self", "lengths", "gaps", "closed", "link"]) (sc := defScope s_House___init__) (by decide +kernel)) (fun _ _ _ _ _ => ⟨pg_name (i := 4) nd rfl (.inl rfl), pv 4, pe_bl⟩)) rfl)
      (pss_cons (ps_if (PW.pt (pw_or (pt_cmpR op_gt (pe_callB call_len (by rfl) Z.len (by decide +kernel) (pa_cons (pv 3) pa_nil)) (pe_glob (v := .int 200) rfl hClo ⟨_, rfl⟩) (nomark _)) (pw_or1 (pt_cmpR op_lt (pe_callB call_len_dT (by rfl) Z.len (by decide +kernel) (pa_cons (pe_fld (pv 0) rfl) pa_nil)) (pe_callB call_len (by rfl) Z.len (by decide +kernel) (pa_cons (pv 3) pa_nil)) (nomark _))))) (pss_one (ps_raise rfl (takes_of rfl rfl rfl rfl) (pmk_own PySem.F.excBase_ValueError U.xI U.gI U.kI (raises_own U.bI U.tI) rfl))) pss_nil)
      (pss_one (ps_if (pt_not (pt_val (pe_allG (k := 3) (N := ["link", "self"]) (fr := [none, some 0]) (g := gName 0) (by exact hr) (by rfl) Z.all (by decide +kernel) TB rfl (gsc_by (outer := defScope s_House___init__) rfl rfl (by decide +kernel)) (gfr_by (outer := defScope s_House___init__) (XN := ["self", "lengths", "gaps", "closed", "link"]) rfl rfl (by decide +kernel)) (pi_list (pv 3)) (fun B s0 H0 cd fp rB => ⟨pg_name (i := 0) (show (["link", "self"] : List Str).Nodup by decide) rfl (.inl rfl), (pe_meth (pv 1) T.cl mL GL (by exact rB.mono (by decide)) bL .nil pass0 (pa_cons (pv 0) pa_nil))⟩) (fun _ => rfl)))) (pss_one (ps_raise rfl (takes_of rfl rfl rfl rfl) (pmk_own PySem.F.excBase_ValueError U.xI U.gI U.kI (raises_own U.bI U.tI) rfl))) pss_nil)))))))))), ?_⟩
    have bad : ∀ {H' : Hp}, ¬ Valid ls gs cs → KpB p H H' → E (.ref CI) none H' := fun {H'} n k => e n H' k
    refine (tells_chain (f := fun i j => decide (i ≤ j)) (j := (ls.length : Int)) (n := 2) (fun Q q => ⟨_, rfl, _, _, rfl, .inl ⟨_, hl, rfl⟩, by rw [List.length_map]; exact q⟩) (fun Q q => q)) _ ⟨_, rfl, ?_⟩
    refine ite2 (fun h1 => ?_) (fun h1 => ?_)
    · exact bad (fun v => by
        have v1 := v.1.1
        simp at h1
        omega) KpB.refl
    refine ⟨_, rfl, l, ls, rfl, hl, tL, fun H1 t1 => ⟨_, rfl, ?_⟩⟩
    have k1 : Kp H H1 := Tabbed.kp t1 tL
    refine ite2 (fun h2 => ?_) (fun h2 => ?_)
    · exact bad (fun v => by
        rw [v.1.2] at h2
        cases h2) (KpB.refl.kp k1)
    have v1 : (1 ≤ ls.length ∧ ls.length ≤ 2) ∧ ls.all longN = true := ⟨by simp at h1; omega, by simpa using h2⟩
    refine ⟨_, rfl, _, _, rfl, .inl ⟨_, k1.seq hg, rfl⟩, _, _, rfl, rfl, _, rfl, ?_⟩
    refine ite2 (fun h3 => ?_) (fun h3 => ?_)
    · exact bad (fun v => by
        have v2 := v.2.1.1
        simp at h3
        omega) (KpB.refl.kp k1)
    refine ⟨_, rfl, g, gs, rfl, k1.seq hg, k1.tab _ tL, fun H2 t2 => ⟨_, rfl, ?_⟩⟩
    have k2 : Kp H H2 := k1.trans (Tabbed.kp t2 (k1.tab _ tL))
    refine ite2 (fun h4 => ?_) (fun h4 => ?_)
    · exact bad (fun v => by
        rw [v.2.1.2] at h4
        cases h4) (KpB.refl.kp k2)
    have v2 : gs.length ≤ 11 ∧ gs.all longN = true := ⟨by simp at h3; omega, by simpa using h4⟩
    have kb2 : KpB p H H2 := KpB.refl.kp k2
    have hp2 := k2.ins hp
    -- self._lengths
    refine ⟨_, rfl, l, _, rfl, .inl (k2.seq hl), fun r1 n1 => ⟨_, rfl, p, C, dx, [], rfl, by rw [upd_ne (ne_of_none hp2 n1)]; exact hp2, T.cl, T.nL, by show 0 < 1000; decide, ?_⟩⟩
    obtain ⟨H3, e3, kb3, hp3, g3, s3, f3⟩ := stepF (o := .lst (ls.map V.int)) (gs := putF "_lengths" (.ref r1) []) kb2 hp2 n1
    rw [e3]
    have l3 := seqP hp2 s3 (k2.seq hl)
    have q3 := seqP hp2 s3 (k2.seq hg)
    have c3 := seqP hp2 s3 (k2.seq hc)
    have x3 := krsP hp2 s3 (hx.kp k2)
    -- self._gaps
    refine ⟨_, rfl, g, _, rfl, .inl q3, fun r2 n2 => ⟨_, rfl, p, C, dx, _, rfl, by rw [upd_ne (ne_of_none hp3 n2)]; exact hp3, T.cl, T.nG, by show 1 < 1000; decide, ?_⟩⟩
    obtain ⟨H4, e4, kb4, hp4, g4, s4, f4⟩ := stepF (o := .lst (gs.map V.int)) (gs := putF "_gaps" (.ref r2) (putF "_lengths" (.ref r1) [])) kb3 hp3 n2
    rw [e4]
    have l4 := seqP hp3 s4 l3
    have c4 := seqP hp3 s4 c3
    have x4 := krsP hp3 s4 x3
    have gL4 := s4 _ _ g3 (ne_of hp3 g3 fun z => nomatch z).symm
    have len0 : ([] : List (Str × V)).length < 1 := by decide
    -- self._crosses
    refine ⟨_, rfl, l, ls, rfl, l4, bl, fun H5 r3 sm5 n3 g5 => ⟨_, rfl, p, C, dx, _, rfl, sm5 _ _ hp4, T.cl, T.nX, Nat.lt_of_lt_of_le (lenF (lenF len0)) (by decide), ?_⟩⟩
    obtain ⟨H6, e6, kb6, hp6, s6, f6⟩ := stepP (gs := putF "_crosses" (.ref r3) (putF "_gaps" (.ref r2) (putF "_lengths" (.ref r1) []))) (kb4.kp (kpS sm5)) (sm5 _ _ hp4)
    rw [e6]
    have hp5 := sm5 _ _ hp4
    have l6 := seqP hp5 s6 (sm5.seq l4)
    have c6 := seqP hp5 s6 (sm5.seq c4)
    have x6 := krsP hp5 s6 (x4.same sm5)
    have gL6 := s6 _ _ (sm5 _ _ gL4) (ne_of hp5 (sm5 _ _ gL4) fun z => nomatch z).symm
    have gG6 := s6 _ _ (sm5 _ _ g4) (ne_of hp5 (sm5 _ _ g4) fun z => nomatch z).symm
    have gX6 := s6 _ _ g5 (ne_of hp5 g5 fun z => nomatch z).symm
    -- self._top
    refine ⟨_, rfl, l, ls, rfl, l6, _, rfl, p, C, dx, _, rfl, hp6, T.cl, T.nT, Nat.lt_of_lt_of_le (lenF (lenF (lenF len0))) (by decide), ?_⟩
    obtain ⟨H7, e7, kb7, hp7, s7, f7⟩ := stepP (gs := putF "_top" (.int ls.sum) (putF "_crosses" (.ref r3) (putF "_gaps" (.ref r2) (putF "_lengths" (.ref r1) [])))) kb6 hp6
    rw [e7]
    have c7 := seqP hp6 s7 c6
    have x7 := krsP hp6 s7 x6
    have gL7 := s7 _ _ gL6 (ne_of hp6 gL6 fun z => nomatch z).symm
    have gG7 := s7 _ _ gG6 (ne_of hp6 gG6 fun z => nomatch z).symm
    have gX7 := s7 _ _ gX6 (ne_of hp6 gX6 fun z => nomatch z).symm
    -- self._closed
    refine ⟨_, rfl, c, rfl, ⟨_, c7⟩, fun D nD => ?_⟩
    have sD : ∀ o, Same H7 (upd H7 D o) := fun o => same_upd nD
    refine dcT_list (K := K) (a := c) (xs := xs) (fun i H' => H' = upd H7 D (.dT (ded ((kOf cs).take i)))) rfl ?_ ?_ ?_
    · rintro i H' _ rfl
      exact (sD _).seq c7
    · rintro i x H' hi rfl
      obtain ⟨y, hy, t, rfl, ht⟩ := (x7.same (sD (.dT (ded ((kOf cs).take i))))).at hi
      refine ⟨rfl, _, rfl, t, _, y, rfl, ht, upd_same, ?_, ?_⟩
      · have z1 := ded_le ((kOf cs).take i)
        have z2 : ((kOf cs).take i).length ≤ (kOf cs).length := List.length_take_le' _ _
        have z3 : (kOf cs).length = cs.length := List.length_map _
        rw [sizeLine_eq]
        omega
      · rw [upd_upd, List.take_add_one, hy]
        show _ = upd H7 D (.dT (ded ((kOf cs).take i ++ [y])))
        rw [ded_snoc]
    · rintro H' rfl
      rw [hxl, List.take_length]
      refine ⟨_, rfl, p, C, dx, _, rfl, sD _ _ _ hp7, T.cl, T.nC, Nat.lt_of_lt_of_le (lenF (lenF (lenF (lenF len0)))) (by decide), ?_⟩
      obtain ⟨H8, e8, kb8, hp8, g8, s8, f8⟩ := stepF (o := .dT (ded (kOf cs))) (gs := hf (.ref r1) (.ref r2) (.ref r3) (.int ls.sum) (.ref D)) kb7 hp7 nD
      have e8' : upd (upd H7 D (.dT (ded (kOf cs)))) p (.ins C dx (putF "_closed" (.ref D) (putF "_top" (.int ls.sum) (putF "_crosses" (.ref r3) (putF "_gaps" (.ref r2) (putF "_lengths" (.ref r1) [])))))) = H8 := e8
      rw [e8']
      have c8 := seqP hp7 s8 c7
      have x8 := krsP hp7 s8 x7
      have gL8 := s8 _ _ gL7 (ne_of hp7 gL7 fun z => nomatch z).symm
      have gG8 := s8 _ _ gG7 (ne_of hp7 gG7 fun z => nomatch z).symm
      have gX8 := s8 _ _ gX7 (ne_of hp7 gX7 fun z => nomatch z).symm
      have kl : (kOf cs).length = cs.length := List.length_map _
      -- too many, or one twice
      refine ⟨_, rfl, _, _, rfl, .inl ⟨_, c8, rfl⟩, _, _, rfl, rfl, _, rfl, ?_⟩
      refine ite2 (fun h5 => ?_) (fun h5 => ?_)
      · exact bad (fun v => by
          have v3 := v.2.2.1
          simp at h5
          omega) kb8
      have v3 : cs.length ≤ 200 := by
        simp at h5
        omega
      refine ⟨_, rfl, p, C, dx, _, _, rfl, hp8, T.cl, T.nC, hf_closed _ _ _ _ _, D, _, rfl, g8, _, rfl, _, _, rfl, .inl ⟨_, c8, rfl⟩, _, _, rfl, rfl, _, rfl, ?_⟩
      refine ite2 (fun h6 => ?_) (fun h6 => ?_)
      · exact bad (fun v => by
          rw [(ded_eq (kOf cs)).1 v.2.2.2.1, List.length_map] at h6
          have z := of_decide_eq_true h6
          omega) kb8
      have v4 : (kOf cs).Nodup := Decidable.byContradiction fun n => h6 (decide_eq_true (by
        have z := (ded_eq (kOf cs)).2 n
        omega))
      -- each is a link
      have tab8 : TabG H8 TI := kb8.tab _ tI
      refine ⟨_, rfl, c, rfl, ⟨_, c8⟩, tab8, fun H9 t9 => ?_⟩
      have k9 : Kp H8 H9 := Tabbed.kp t9 tab8
      have kb9 : KpB p H H9 := kb8.kp k9
      have hp9 := k9.ins hp8
      have x9 := x8.kp k9
      have part : PartAt C H9 p ls gs := ⟨dx, r1, r2, r3, _, hp9, k9.lst gL8, k9.lst gG8, k9.lst gX8⟩
      refine for_list (K := K) (a := c) (xs := xs) (fun i σ H' => (∃ z, σ = [z, some (.ref p)]) ∧ H' = H9 ∧ ∀ c ∈ cs.take i, isLk ls gs c.1 c.2.1 c.2.2 = true) ?_ ?_ ?_ ?_
      · exact ⟨⟨none, rfl⟩, rfl, fun c z => by simp at z⟩
      · rintro i σ H' _ ⟨_, rfl, _⟩
        exact k9.seq c8
      · rintro i x H0 H' hi ⟨⟨z, rfl⟩, rfl, hall⟩
        obtain ⟨y, hy, hk⟩ := x9.at hi
        unfold kOf at hy
        rw [List.getElem?_map] at hy
        cases hci : cs[i]? with
        | none => rw [hci] at hy; cases hy
        | some ci =>
          rw [hci] at hy
          cases hy
          refine ⟨_, rfl, p, dx, _, rfl, hp9, hf_no _ _ _ _ _ (by decide +kernel) (by decide +kernel) (by decide +kernel) (by decide +kernel) (by decide +kernel), _, rfl, p, x, ls, gs, ci.1, ci.2.1, ci.2.2, rfl, part, hk, _, rfl, ?_⟩
          refine ite2 (fun h7 => ?_) (fun h7 => ?_)
          · refine ⟨_, rfl, ?_⟩
            exact bad (fun v => by
              rw [v.2.2.2.2 ci (List.mem_of_getElem? hci)] at h7
              cases h7) kb9
          · refine ⟨⟨_, rfl⟩, rfl, fun c' hc' => ?_⟩
            rw [List.take_add_one, hci] at hc'
            rcases List.mem_append.mp hc' with z1 | z1
            · exact hall c' z1
            · have z2 : c' = ci := by simpa using z1
              rw [z2]
              simpa using h7
      · rintro σ H' ⟨⟨z, rfl⟩, rfl, hall⟩
        rw [hxl, kl, List.take_length] at hall
        have va : Valid ls gs cs := ⟨v1, v2, v3, v4, hall⟩
        refine ⟨_, rfl, ?_⟩
        refine q va H' ⟨va, dx, r1, r2, r3, D, hp9, k9.lst gL8, k9.lst gG8, k9.lst gX8, ?_⟩ kb9 (fun dx' l' g' c' t' d' z => ?_)
        · rw [← (ded_eq (kOf cs)).1 v4]
          exact k9.dT g8
        · rw [hp9] at z
          have z2 := Option.some.inj z
          injection z2 with _ _ z3
          have e1 := hf_lengths (.ref r1) (.ref r2) (.ref r3) (.int ls.sum) (.ref D)
          have e2 := hf_gaps (.ref r1) (.ref r2) (.ref r3) (.int ls.sum) (.ref D)
          have e3' := hf_crosses (.ref r1) (.ref r2) (.ref r3) (.int ls.sum) (.ref D)
          rw [z3, hf_lengths] at e1
          rw [z3, hf_gaps] at e2
          rw [z3, hf_crosses] at e3'
          obtain rfl : l' = r1 := V.ref.inj (Option.some.inj e1)
          obtain rfl : g' = r2 := V.ref.inj (Option.some.inj e2)
          obtain rfl : c' = r3 := V.ref.inj (Option.some.inj e3')
          exact ⟨Kp.noLst k2 n1, Kp.noLst k2 (f3 _ n2), Kp.noLst k2 (f3 _ (f4 _ n3))⟩
end

/-! ### houses: what they tell -/
section
open GxR NdefX PySem.Spec PyProof.Rows
variable {P : Program} {w : World} {K : PySem.W.Frag} {mg : Str → Option Value} {base : Heap}
theorem HouseAt.kp {C : Addr} {H H' : Hp} {p : Addr} {ls gs : List Int} {cs : List (Str × Int × Int)} (h : HouseAt C H p ls gs cs) (k : Kp H H') : HouseAt C H' p ls gs cs := by
  obtain ⟨v, dx, l, g, c, d, h1, h2, h3, h4, h5⟩ := h
  exact ⟨v, dx, l, g, c, d, k.ins h1, k.lst h2, k.lst h3, k.lst h4, k.dT h5⟩
theorem HouseAt.part {C : Addr} {H : Hp} {p : Addr} {ls gs : List Int} {cs : List (Str × Int × Int)} (h : HouseAt C H p ls gs cs) : PartAt C H p ls gs := by
  obtain ⟨v, dx, l, g, c, d, h1, h2, h3, h4, h5⟩ := h
  exact ⟨dx, l, g, c, _, h1, h2, h3, h4⟩
theorem fit_kOf (cs : List (Str × Int × Int)) : Fit (kOf cs) := ⟨[true, false, false], by decide, fun k hk => by
  obtain ⟨c, _, rfl⟩ := List.mem_map.mp hk
  rfl⟩
/-- a list of numbers of the house's own, handed out anew -/
def spNums (C : Addr) (f : List Int → List Int → List Int) : Sp := fun vs H Q _ => ∃ (p : Addr) (ls gs : List Int) (cs : List (Str × Int × Int)), vs = [.ref p] ∧ HouseAt C H p ls gs cs ∧
  ∀ r, H r = none → Q (.ref r) (upd H r (.lst ((f ls gs).map V.int)))
def spNum (C : Addr) (f : List Int → List Int → Int) : Sp := fun vs H Q _ => ∃ (p : Addr) (ls gs : List Int) (cs : List (Str × Int × Int)), vs = [.ref p] ∧ HouseAt C H p ls gs cs ∧ Q (.int (f ls gs)) H
def spClosed (C : Addr) : Sp := fun vs H Q _ => ∃ (p : Addr) (ls gs : List Int) (cs : List (Str × Int × Int)), vs = [.ref p] ∧ HouseAt C H p ls gs cs ∧
  ∀ (r : Addr) (ys : List V), H r = none → Krs H ys (sortK (kOf cs)) → Q (.ref r) (upd H r (.lst ys))
theorem ok_lengths {f C : Addr} {fd : FuncData} (F : Fun K "lengths" "House.lengths" s_House_lengths f fd) (Z : HouseTop mg) (T : HouseTxt K mg C) : FnOk P w K mg base CX0 1 f fd ["self"] (spNums C (fun ls _ => ls)) := by
  refine F.ok sc_House_lengths (fun vs H Q E h => ?_) (fun cdv A outer s H vs Q E hr h => ?_)
  · obtain ⟨p, ls, gs, cs, rfl, _⟩ := h
    rfl
  · obtain ⟨p, ls, gs, cs, rfl, ⟨_, dx, l, g, c, d, h1, h2, h3, h4, h5⟩, q⟩ := h
    exact ⟨_, (pss_one (ps_ret (pe_callTy call_list_of (by rfl) Z.list (by decide +kernel) (pa_cons (pe_fld (pv 0) rfl) pa_nil)))), _, rfl, p, C, dx, _, _, rfl, h1, T.cl, T.nL, hf_lengths _ _ _ _ _, l, _, rfl, .inl (SqL.of h2), q⟩
theorem ok_gaps {f C : Addr} {fd : FuncData} (F : Fun K "gaps" "House.gaps" s_House_gaps f fd) (Z : HouseTop mg) (T : HouseTxt K mg C) : FnOk P w K mg base CX0 1 f fd ["self"] (spNums C (fun _ gs => gs)) := by
  refine F.ok sc_House_gaps (fun vs H Q E h => ?_) (fun cdv A outer s H vs Q E hr h => ?_)
  · obtain ⟨p, ls, gs, cs, rfl, _⟩ := h
    rfl
  · obtain ⟨p, ls, gs, cs, rfl, ⟨_, dx, l, g, c, d, h1, h2, h3, h4, h5⟩, q⟩ := h
    exact ⟨_, (pss_one (ps_ret (pe_callTy call_list_of (by rfl) Z.list (by decide +kernel) (pa_cons (pe_fld (pv 0) rfl) pa_nil)))), _, rfl, p, C, dx, _, _, rfl, h1, T.cl, T.nG, hf_gaps _ _ _ _ _, g, _, rfl, .inl (SqL.of h3), q⟩
theorem ok_crosses {f C : Addr} {fd : FuncData} (F : Fun K "crosses" "House.crosses" s_House_crosses f fd) (Z : HouseTop mg) (T : HouseTxt K mg C) : FnOk P w K mg base CX0 1 f fd ["self"] (spNums C (fun ls _ => crossN ls)) := by
  refine F.ok sc_House_crosses (fun vs H Q E h => ?_) (fun cdv A outer s H vs Q E hr h => ?_)
  · obtain ⟨p, ls, gs, cs, rfl, _⟩ := h
    rfl
  · obtain ⟨p, ls, gs, cs, rfl, ⟨_, dx, l, g, c, d, h1, h2, h3, h4, h5⟩, q⟩ := h
    exact ⟨_, (pss_one (ps_ret (pe_callTy call_list_of (by rfl) Z.list (by decide +kernel) (pa_cons (pe_fld (pv 0) rfl) pa_nil)))), _, rfl, p, C, dx, _, _, rfl, h1, T.cl, T.nX, hf_crosses _ _ _ _ _, c, _, rfl, .inl (SqL.of h4), q⟩


theorem ok_closed {f C : Addr} {fd : FuncData} (F : Fun K "closed" "House.closed" s_House_closed f fd) (Z : HouseTop mg) (T : HouseTxt K mg C) : FnOk P w K mg base CX0 2 f fd ["self"] (spClosed C) := by
  refine F.ok sc_House_closed (fun vs H Q E h => ?_) (fun cdv A outer s H vs Q E hr h => ?_)
  · obtain ⟨p, ls, gs, cs, rfl, _⟩ := h
    rfl
  · obtain ⟨p, ls, gs, cs, rfl, ⟨_, dx, l, g, c, d, h1, h2, h3, h4, h5⟩, q⟩ := h
    have ek : ((kOf cs).map fun k => (k, V.bl true)).map (·.1) = kOf cs := by
      rw [List.map_map]
      exact List.map_id _
    refine ⟨_, (pss_one (ps_ret (pe_callB (call_sortDT rfl (by exact hr.units)) (by rfl) Z.sorted (by decide +kernel) (pa_cons (pe_fld (pv 0) rfl) pa_nil)))), _, rfl, p, C, dx, _, _, rfl, h1, T.cl, T.nC, hf_closed _ _ _ _ _, d, _, rfl, .inl h5, by rw [ek]; exact fit_kOf cs, fun r ys nr hy => ?_⟩
    rw [ek] at hy
    exact q r ys nr hy
end

/-! ### drawn houses -/
section
open GxR NdefX PySem.Spec PyProof.Rows
variable {P : Program} {w : World} {K : PySem.W.Frag} {mg : Str → Option Value} {base : Heap}
theorem room65 {k : Nat} {A : Around} (r : Room k A) : A.units + 65 < cLine := by
  have := r.un
  omega
structure LawTop (mg : Str → Option Value) : Prop where
  int : mg "int" = none
  len : mg "len" = none
  sum : mg "sum" = none
  max : mg "max" = none
  range : mg "range" = none
/-! #### what readings tell -/
section
variable {σ : L2.St} {H : Hp} {ta tb : TE} {i j : Int}
theorem Tells.go {te : TE} {v : V} {Q : VK} (h : Tells te σ H v) (q : Q v H) : te σ H Q := h Q q
theorem go_rng {te : TE} {j : Int} {R : It → Hp → Prop} (h : Tells te σ H (.int j)) (h0 : -(2 ^ 62) ≤ j) (h1 : j < 2 ^ 62) (q : R (Itr 0 j.toNat) H) : iRng1 (tCons te tNil) σ H R := h _ ⟨_, rfl, h0, h1, q⟩
theorem tells_var {n : Nat} {v : V} (e : σ[n]? = some (some v)) : Tells (tVar n) σ H v := fun Q q => ⟨_, e, q⟩
theorem tells_c {v : V} : Tells (tC v) σ H v := fun Q q => q
theorem tells_I {C : Int → Int → Prop} {g : Int → Int → V} (ha : Tells ta σ H (.int i)) (hb : Tells tb σ H (.int j)) (h : C i j) : Tells (tOp (rI C g) ta tb) σ H (g i j) := fun Q q => ha _ (hb _ ⟨_, _, rfl, rfl, h, q⟩)
theorem tells_I0 {g : Int → Int → V} (ha : Tells ta σ H (.int i)) (hb : Tells tb σ H (.int j)) : Tells (tOp (rI0 g) ta tb) σ H (g i j) := fun Q q => ha _ (hb _ ⟨_, _, rfl, rfl, q⟩)
theorem tells_int (ha : Tells ta σ H (.int i)) : Tells (tCB (fun xs H Q => (∃ i, xs = [.int i] ∧ Q (.int i) H) ∨ ∃ k, xs = [.bl k] ∧ Q (.int (if k then 1 else 0)) H) (tCons ta tNil)) σ H (.int i) := fun Q q => ha _ (.inl ⟨_, rfl, q⟩)
def nth (ns : List Int) (i : Int) : Int := (ns[i.toNat]?).getD 0
theorem nth_small {ns : List Int} (h : Small ns) (i : Int) : 0 ≤ nth ns i ∧ nth ns i < 1009 := by
  unfold nth
  cases e : ns[i.toNat]? with
  | none => decide
  | some n => exact h n (List.mem_of_getElem? e)
theorem atI_nth {ns : List Int} {i : Int} (h0 : 0 ≤ i) (h1 : i < ns.length) : atI (ns.map V.int) i = some (V.int (nth ns i)) := by
  have e : ((i.toNat : Nat) : Int) = i := Int.toNat_of_nonneg h0
  have lt : i.toNat < ns.length := by omega
  have z : atI (ns.map V.int) ((i.toNat : Nat) : Int) = some (V.int (nth ns i)) := by
    refine atI_nat ?_
    unfold nth
    rw [List.getElem?_map, List.getElem?_eq_getElem lt]
    rfl
  rw [e] at z
  exact z
theorem tells_ix {l : Addr} {ns : List Int} (ha : Tells ta σ H (.ref l)) (hb : Tells tb σ H (.int i)) (hl : SqL K H l (ns.map V.int)) (h0 : 0 ≤ i) (h1 : i < ns.length) : Tells (tOp (rIxL K) ta tb) σ H (.int (nth ns i)) := fun Q q => ha _ (hb _ ⟨l, _, i, _, rfl, rfl, hl, atI_nth h0 h1, q⟩)
theorem tells_len {l : Addr} {xs : List V} (ha : Tells ta σ H (.ref l)) (hl : SqL K H l xs) : Tells (tCB (fun xs H1 Q => ∃ x n, xs = [x] ∧ LenV K x H1 n ∧ Q (V.int (n : Nat)) H1) (tCons ta tNil)) σ H (.int xs.length) := fun Q q => ha _ ⟨_, _, rfl, .inl ⟨_, hl, rfl⟩, q⟩
theorem tells_sum {l : Addr} {ns : List Int} (ha : Tells ta σ H (.ref l)) (hl : SqL K H l (ns.map V.int)) : Tells (tCB (rSum K) (tCons ta tNil)) σ H (.int ns.sum) := fun Q q => ha _ ⟨_, _, rfl, hl, q⟩
end
theorem ok_lk {x : Str} (h : PyData.canLay0 (.str x) = true) (a b : Int) : okk (lk x a b) = true := by
  show (PyData.canLay0 (.str x) && (true && (true && true))) = true
  rw [h]
  rfl

theorem pick4 {z : Int} (h0 : 0 ≤ z) (h4 : z < 4) : ∃ mo : Int, atI [V.int 4, V.int 9, V.int 12, V.int 40] z = some (.int mo) ∧ 4 ≤ mo ∧ mo ≤ 40 := by
  have : z = 0 ∨ z = 1 ∨ z = 2 ∨ z = 3 := by omega
  rcases this with rfl | rfl | rfl | rfl
  · exact ⟨4, rfl, by decide, by decide⟩
  · exact ⟨9, rfl, by decide, by decide⟩
  · exact ⟨12, rfl, by decide, by decide⟩
  · exact ⟨40, rfl, by decide, by decide⟩
/-- numbers from 1 to 40 -/
def Lens (ls : List Int) : Prop := ∀ x ∈ ls, 1 ≤ x ∧ x ≤ 40
theorem Lens.all {ls : List Int} (h : Lens ls) : ls.all longN = true := List.all_eq_true.mpr fun x hx => by
  have q := h x hx
  unfold longN
  rw [decide_eq_true q.1, decide_eq_true q.2]
  rfl
theorem Lens.snoc {ls : List Int} (h : Lens ls) {x : Int} (h1 : 1 ≤ x) (h2 : x ≤ 40) : Lens (ls ++ [x]) := fun y hy => by
  rcases List.mem_append.mp hy with z | z
  · exact h y z
  · rw [List.mem_singleton.mp z]
    exact ⟨h1, h2⟩
theorem Lens.pos {ls : List Int} (h : Lens ls) : ∀ k, 0 ≤ (ls.take k).sum := by
  intro k
  have all : ∀ xs : List Int, (∀ x ∈ xs, 1 ≤ x ∧ x ≤ 40) → 0 ≤ xs.sum := by
    intro xs
    induction xs with
    | nil => intro _; decide
    | cons x xs ih =>
      intro q
      have q1 := q x List.mem_cons_self
      have q2 := ih fun y hy => q y (List.mem_cons_of_mem _ hy)
      rw [List.sum_cons]
      omega
  exact all _ fun x hx => h x (List.mem_of_mem_take hx)
theorem Lens.pos1 {ls : List Int} (h : Lens ls) (hl : 1 ≤ ls.length) : 1 ≤ ls.sum := by
  cases ls with
  | nil => simp at hl
  | cons x ls =>
    have q1 := h x List.mem_cons_self
    have q2 := Lens.pos (ls := ls) (fun y hy => h y (List.mem_cons_of_mem _ hy)) ls.length
    rw [List.take_length] at q2
    rw [List.sum_cons]
    omega
theorem made {H : Hp} {a : Addr} {o : HO} (h : H a = none) : ∃ H', upd H a o = H' ∧ Same H H' ∧ H' a = some o := ⟨_, rfl, same_upd h, upd_same⟩
def spParts (K : PySem.W.Frag) : Sp := fun vs H Q _ => ∃ (n : Addr) (ns : List Int) (a : Nat), vs = [.ref n, .int (a : Int)] ∧ SqL K H n (ns.map V.int) ∧ Small ns ∧ a + 24 ≤ ns.length ∧
  ∀ (H' : Hp) (p l g c : Addr) (ls gs : List Int) (xs : List V) (cs : List (Str × Int × Int)), Same H H' → H p = none → H' p = some (.tup [.ref l, .ref g, .ref c]) → H l = none → H g = none → H c = none →
    H' l = some (.lst (ls.map V.int)) → H' g = some (.lst (gs.map V.int)) → H' c = some (.lst xs) → Krs H' xs (kOf cs) → Valid ls gs cs → gs.length ≤ 4 → cs.length ≤ 6 → Q (.ref p) H'
theorem ok_parts {f : Addr} {fd : FuncData} (F : Fun K "_law_parts" "_law_parts" s__law_parts f fd) (Z : LawTop mg) : FnOk P w K mg base CX0 1 f fd ["numbers", "at"] (spParts K) := by
  refine F.ok sc__law_parts (fun vs H Q E h => ?_) (fun cdv A outer s H vs Q E hr h => ?_)
  · obtain ⟨n, ns, a, rfl, _⟩ := h
    rfl
  · obtain ⟨n, ns, a, rfl, hn, hs, ha, q⟩ := h
    have nd := sc__law_parts.nd
    have num : ∀ {σ : L2.St} {H' : Hp} {te : TE} {i : Int}, Same H H' → σ[0]? = some (some (V.ref n)) → Tells te σ H' (.int i) → 0 ≤ i → i < ns.length →
        Tells (tCB (fun xs H Q => (∃ i, xs = [.int i] ∧ Q (.int i) H) ∨ ∃ k, xs = [.bl k] ∧ Q (.int (if k then 1 else 0)) H) (tCons (tOp (rIxL K) (tVar 0) te) tNil)) σ H' (.int (nth ns i)) :=
      fun k e t h0 h1 => tells_int (tells_ix (tells_var e) t (k.seq hn) h0 h1)
    refine ⟨_, (pss_cons (ps_set (i := 2) nd rfl (.inr rfl) (pe_ix ix_list (pe_lst (pa_cons pe_int (pa_cons pe_int (pa_cons pe_int (pa_cons pe_int pa_nil))))) (pe_op op_mod (pe_callTy call_int1 (by rfl) Z.int (by decide +kernel) (pa_cons (pe_ix ix_list (pv 0) (pv 1) (fun _ _ => rfl)) pa_nil)) pe_int) (fun _ _ => rfl)))
      (pss_cons (ps_setLc (i := 3) (own := [("k", 6)]) (g := gName 6) (tt := _) rfl nd rfl rfl rfl (pi_range1 rfl Z.range (pa_cons (pe_op op_add pe_int (pe_op op_mod (pe_op op_fdiv (pe_callTy call_int1 (by rfl) Z.int (by decide +kernel) (pa_cons (pe_ix ix_list (pv 0) (pv 1) (fun _ _ => rfl)) pa_nil)) pe_int) pe_int)) pa_nil)) (blkOk_by (N := ["numbers", "at", "most", "lengths", "gaps", "closed", "k", "aisle", "spot", "link"]) (sc := defScope s__law_parts) (by decide +kernel)) (fun _ _ _ _ _ => pg_name (i := 6) nd rfl (Or.inl rfl)) (fun _ _ _ _ _ => pts_nil) (fun _ _ _ _ _ => (pe_op op_add pe_int (pe_op op_mod (pe_callTy call_int1 (by rfl) Z.int (by decide +kernel) (pa_cons (pe_ix (r := rIxL K) ix_list (pv 0) (pe_op op_add (pe_op op_add (pv 1) pe_int) (pv 6)) (fun _ _ => rfl)) pa_nil)) (pv 2)))))
      (pss_cons (ps_setLc (i := 4) (own := [("k", 6)]) (g := gName 6) (tt := _) rfl nd rfl rfl rfl (pi_range1 rfl Z.range (pa_cons (pe_op op_mod (pe_op op_fdiv (pe_callTy call_int1 (by rfl) Z.int (by decide +kernel) (pa_cons (pe_ix ix_list (pv 0) (pv 1) (fun _ _ => rfl)) pa_nil)) pe_int) pe_int) pa_nil)) (blkOk_by (N := ["numbers", "at", "most", "lengths", "gaps", "closed", "k", "aisle", "spot", "link"]) (sc := defScope s__law_parts) (by decide +kernel)) (fun _ _ _ _ _ => pg_name (i := 6) nd rfl (Or.inl rfl)) (fun _ _ _ _ _ => pts_nil) (fun _ _ _ _ _ => (pe_op op_add pe_int (pe_op op_mod (pe_callTy call_int1 (by rfl) Z.int (by decide +kernel) (pa_cons (pe_ix (r := rIxL K) ix_list (pv 0) (pe_op op_add (pe_op op_add (pv 1) pe_int) (pv 6)) (fun _ _ => rfl)) pa_nil)) (pv 2)))))
      (pss_cons (ps_set (i := 5) nd rfl (.inl rfl) (pe_lst pa_nil))
      (pss_cons (ps_for PassesOwn.never rfl (pi_range1 rfl Z.range (pa_cons (pe_callB (call_max2 rfl) (by rfl) Z.max (by decide +kernel) (pa_cons pe_int (pa_cons (pe_op op_sub (pe_op op_mod (pe_callTy call_int1 (by rfl) Z.int (by decide +kernel) (pa_cons (pe_ix ix_list (pv 0) (pe_op op_add (pv 1) pe_int) (fun _ _ => rfl)) pa_nil)) pe_int) pe_int) pa_nil))) pa_nil)) (pg_name (i := 6) nd rfl (.inl rfl)) (pss_cons (ps_set (i := 7) nd rfl (.inl rfl) (pe_op op_mod (pe_callTy call_int1 (by rfl) Z.int (by decide +kernel) (pa_cons (pe_ix ix_list (pv 0) (pe_op op_add (pe_op op_add (pv 1) pe_int) (pe_op op_mul pe_int (pv 6))) (fun _ _ => rfl)) pa_nil)) (pe_op op_add (pe_callB call_len (by rfl) Z.len (by decide +kernel) (pa_cons (pv 4) pa_nil)) pe_int)))
      (pss_cons (ps_set (i := 8) nd rfl (.inl rfl) (pe_callTy call_int1 (by rfl) Z.int (by decide +kernel) (pa_cons (pe_ix ix_list (pv 0) (pe_op op_add (pe_op op_add (pv 1) pe_int) (pe_op op_mul pe_int (pv 6))) (fun _ _ => rfl)) pa_nil)))
      (pss_cons (ps_set (i := 9) nd rfl (.inl rfl) (pe_tup (pa_cons pe_str (pa_cons (pv 7) (pa_cons (pe_op op_mod (pe_op op_fdiv (pv 8) pe_int) (pe_callB (cr_sum rfl) (by rfl) Z.sum (by decide +kernel) (pa_cons (pv 3) pa_nil))) pa_nil)))))
      (pss_cons (ps_if (PW.pt (pw_and (pt_cmpR op_eq (pe_op op_mod (pe_callTy call_int1 (by rfl) Z.int (by decide +kernel) (pa_cons (pv 8) pa_nil)) pe_int) pe_int (nomark _)) (pw_and1 (pt_cmpR op_lt (pv 7) (pe_callB call_len (by rfl) Z.len (by decide +kernel) (pa_cons (pv 4) pa_nil)) (nomark _))))) (pss_one (ps_set (i := 9) nd rfl (.inl rfl) (pe_tup (pa_cons pe_str (pa_cons (pv 7) (pa_cons (pe_callB (cr_sum rfl) (by rfl) Z.sum (by decide +kernel) (pa_cons (pe_slice sl_list (pv 3) po_none (po_some (pe_op op_mod (pe_op op_fdiv (pv 8) pe_int) (pe_op op_add (pe_callB call_len (by rfl) Z.len (by decide +kernel) (pa_cons (pv 3) pa_nil)) pe_int)))) pa_nil)) pa_nil)))))) pss_nil)
      (pss_one (ps_if (pt_cmpR (op_notInD (room65 hr)) (pv 9) (pv 5) (by rfl)) (pss_one (ps_expr (pe_bm PySem.F.plainAttrs_list PySem.F.slot_list_append PySem.F.type_list_append mt_append (pv 5) (pa_cons (pv 9) pa_nil)))) pss_nil)))))))
      (pss_one (ps_ret (pe_tup (pa_cons (pv 3) (pa_cons (pv 4) (pa_cons (pv 5) pa_nil))))))))))), ?_⟩
    have a0 : (0 : Int) ≤ (a : Int) := Int.natCast_nonneg a
    have sm := nth_small hs
    have at_ : ∀ {i : Int}, 0 ≤ i → i < ns.length → atI (ns.map V.int) i = some (V.int (nth ns i)) := fun h0 h1 => atI_nth h0 h1
    refine ⟨by show 4 ≤ sizeLine; decide, fun m nm => ?_⟩
    obtain ⟨H1, e1, k1, g1⟩ := made (o := .lst [V.int 4, V.int 9, V.int 12, V.int 40]) nm
    obtain ⟨mo, hmo, mo1, mo2⟩ := pick4 (z := nth ns a % 4) (Int.emod_nonneg _ (by decide)) (Int.emod_lt_of_pos _ (by decide))
    refine Tells.go (tells_I (num (same_upd nm) rfl (tells_var rfl) a0 (by omega)) tells_c (by decide)) ⟨m, _, _, _, rfl, rfl, SqL.of upd_same, hmo, ?_⟩
    have e1' : upd H m (.lst [V.int 4, V.int 9, V.int 12, V.int 40]) = H1 := e1
    rw [e1']
    -- lengths
    have d0 := sm a
    have m1 := Int.emod_nonneg (nth ns a / 4) (show (2 : Int) ≠ 0 by decide)
    have m2 := Int.emod_lt_of_pos (nth ns a / 4) (show (0 : Int) < 2 by decide)
    refine ⟨_, rfl, _, rfl, n, _, _, _, rfl, rfl, k1.seq hn, at_ a0 (by omega), .inl ⟨_, rfl, _, _, rfl, rfl, ⟨by decide, by decide⟩, _, _, rfl, rfl, (by show (0 : Int) < 2; decide), _, _, rfl, rfl, _, rfl, by omega, by omega, fun D nD => ?_⟩⟩
    refine lc_range (lo := 0) (n := (1 + nth ns a / 4 % 2).toNat) (fun i H' => ∃ ls : List Int, H' = upd H1 D (.lst (ls.map V.int)) ∧ ls.length = i ∧ Lens ls) ?_ ?_ ?_
    · exact ⟨[], rfl, rfl, fun x z => nomatch z⟩
    · rintro i H' hi ⟨ls, rfl, hll, hL⟩
      have z0 := sm (a + 1 + (0 + (i : Int)))
      have z1 := Int.emod_nonneg (nth ns (a + 1 + (0 + (i : Int)))) (show mo ≠ 0 by omega)
      have z2 := Int.emod_lt_of_pos (nth ns (a + 1 + (0 + (i : Int)))) (show 0 < mo by omega)
      refine ⟨rfl, ?_⟩
      refine ⟨_, rfl, _, rfl, _, _, rfl, rfl, _, rfl, _, _, rfl, rfl, n, _, _, _, rfl, rfl, (k1.trans (same_upd nD)).seq hn, at_ (by omega) (by omega), .inl ⟨_, rfl, _, rfl, _, _, rfl, rfl, (by show 0 < mo; omega), _, _, rfl, rfl, _, upd_same, ?_, ls ++ [1 + nth ns (a + 1 + (0 + (i : Int))) % mo], ?_, ?_, hL.snoc (by omega) (by omega)⟩⟩
      · rw [List.length_map, sizeLine_eq]
        omega
      · rw [upd_upd, List.map_append]
        rfl
      · rw [List.length_append, hll]
        rfl
    · rintro H' ⟨ls, rfl, hll, hL⟩
      have hl2 : 1 ≤ ls.length ∧ ls.length ≤ 2 := by omega
      obtain ⟨H2, e2, k2', g2⟩ := made (o := .lst (ls.map V.int)) nD
      have nH : H D = none := k1.free nD
      have k2 : Same H H2 := k1.trans k2'
      rw [e2]
      -- gaps
      refine ⟨_, rfl, _, rfl, n, _, _, _, rfl, rfl, k2.seq hn, at_ a0 (by omega), .inl ⟨_, rfl, _, _, rfl, rfl, ⟨by decide, by decide⟩, _, _, rfl, rfl, (by show (0 : Int) < 5; decide), _, rfl, by omega, by omega, fun G nG => ?_⟩⟩
      have n1 := Int.emod_nonneg (nth ns a / 8) (show (5 : Int) ≠ 0 by decide)
      have n2 := Int.emod_lt_of_pos (nth ns a / 8) (show (0 : Int) < 5 by decide)
      refine lc_range (lo := 0) (n := (nth ns a / 8 % 5).toNat) (fun i H' => ∃ gs : List Int, H' = upd H2 G (.lst (gs.map V.int)) ∧ gs.length = i ∧ Lens gs) ?_ ?_ ?_
      · exact ⟨[], rfl, rfl, fun x z => nomatch z⟩
      · rintro i H' hi ⟨gs, rfl, hgl, hG⟩
        have z0 := sm (a + 3 + (0 + (i : Int)))
        have z1 := Int.emod_nonneg (nth ns (a + 3 + (0 + (i : Int)))) (show mo ≠ 0 by omega)
        have z2 := Int.emod_lt_of_pos (nth ns (a + 3 + (0 + (i : Int)))) (show 0 < mo by omega)
        refine ⟨rfl, ?_⟩
        refine ⟨_, rfl, _, rfl, _, _, rfl, rfl, _, rfl, _, _, rfl, rfl, n, _, _, _, rfl, rfl, (k2.trans (same_upd nG)).seq hn, at_ (by omega) (by omega), .inl ⟨_, rfl, _, rfl, _, _, rfl, rfl, (by show 0 < mo; omega), _, _, rfl, rfl, _, upd_same, ?_, gs ++ [1 + nth ns (a + 3 + (0 + (i : Int))) % mo], ?_, ?_, hG.snoc (by omega) (by omega)⟩⟩
        · rw [List.length_map, sizeLine_eq]
          omega
        · rw [upd_upd, List.map_append]
          rfl
        · rw [List.length_append, hgl]
          rfl
      · rintro H' ⟨gs, rfl, hgl, hG⟩
        have hg4 : gs.length ≤ 4 := by omega
        obtain ⟨H3, e3, k3', g3⟩ := made (o := .lst (gs.map V.int)) nG
        have k3 : Same H H3 := k2.trans k3'
        have nG0 : H G = none := k2.free nG
        rw [e3]
        -- closed
        refine ⟨Nat.zero_le _, fun c nc => ?_⟩
        have nc0 : H c = none := k3.free nc
        have gl3 := k3' _ _ g2
        have sc : ∀ o, Same H3 (upd H3 c o) := fun o => same_upd nc
        have y0 := sm (a + 7)
        refine ⟨_, rfl, _, rfl, _, _, rfl, rfl, n, _, _, _, rfl, rfl, (k3.trans (sc _)).seq hn, at_ (by omega) (by omega), .inl ⟨_, rfl, _, _, rfl, rfl, (by show (0 : Int) < 10; decide), _, _, rfl, rfl, _, _, rfl, _, rfl, ?_, ?_, ?_⟩⟩
        · split <;> omega
        · split <;> omega
        have big : (if nth ns (a + 7) % 10 - 3 > 0 then nth ns (a + 7) % 10 - 3 else 0).toNat ≤ 6 := by
          have w1 := Int.emod_lt_of_pos (nth ns (a + 7)) (show (0 : Int) < 10 by decide)
          split <;> omega
        have hsum := hL.pos1 hl2.1
        refine for_range (lo := 0) (n := (if nth ns (a + 7) % 10 - 3 > 0 then nth ns (a + 7) % 10 - 3 else 0).toNat) (fun i σ H' => ∃ (vk va vs vl : Option V) (xs : List V) (cs : List (Str × Int × Int)),
          σ = [some (.ref n), some (.int (a : Int)), some (.int mo), some (.ref D), some (.ref G), some (.ref c), vk, va, vs, vl] ∧ Same H3 H' ∧ H' c = some (.lst xs) ∧ Krs H' xs (kOf cs) ∧ (kOf cs).Nodup ∧
            (∀ d ∈ cs, isLk ls gs d.1 d.2.1 d.2.2 = true ∧ okk (lk d.1 d.2.1 d.2.2) = true) ∧ cs.length ≤ i) ?_ ?_ ?_
        · exact ⟨none, none, none, none, [], [], rfl, sc _, upd_same, .nil, .nil, (fun d z => nomatch z), Nat.zero_le _⟩
        · rintro i σ H' hi ⟨vk, va, vs, vl, xs, cs, rfl, k', hc, hx, hnd, hlk, hle⟩
          have gD := k' _ _ gl3
          have gG := k' _ _ g3
          have hn' := (k3.trans k').seq hn
          have y8 := sm (a + 8 + 2 * (0 + (i : Int)))
          have y9 := sm (a + 9 + 2 * (0 + (i : Int)))
          refine ⟨_, rfl, _, rfl, _, _, rfl, rfl, _, rfl, _, _, rfl, rfl, .inl ⟨by decide, by decide⟩, _, _, rfl, rfl, n, _, _, _, rfl, rfl, hn', at_ (by omega) (by omega), .inl ⟨_, rfl, _, rfl, _, _, rfl, .inl ⟨_, SqL.of gG, rfl⟩, _, _, rfl, rfl, _, _, rfl, rfl, (by show (0 : Int) < _; omega), ?_⟩⟩
          refine ⟨_, rfl, _, rfl, _, _, rfl, rfl, _, rfl, _, _, rfl, rfl, .inl ⟨by decide, by decide⟩, _, _, rfl, rfl, n, _, _, _, rfl, rfl, hn', at_ (by omega) (by omega), .inl ⟨_, rfl, ?_⟩⟩
          refine ⟨_, rfl, _, rfl, _, _, rfl, rfl, ⟨by decide, by decide⟩, _, rfl, D, ls, rfl, SqL.of gD, _, _, rfl, rfl, (by show (0 : Int) < _; omega), (by show 3 ≤ sizeLine; decide), fun t1 nt1 => ?_⟩
          obtain ⟨H4, e4, k4, g4⟩ := made (o := .tup [V.str "up", V.int (nth ns (a + 8 + 2 * (0 + (i : Int))) % ((gs.map V.int).length + 1)), V.int ((nth ns (a + 9 + 2 * (0 + (i : Int)))) / 3 % ls.sum)]) nt1
          have e4' : upd H' t1 (.tup [V.str "up", V.int (nth ns (a + 8 + 2 * (0 + (i : Int))) % ((gs.map V.int).length + 1)), V.int ((nth ns (a + 9 + 2 * (0 + (i : Int)))) / 3 % ls.sum)]) = H4 := e4
          have gl : ((gs.map V.int).length : Int) = gs.length := by rw [List.length_map]
          have ab0 := Int.emod_nonneg (nth ns (a + 8 + 2 * (0 + (i : Int)))) (show ((gs.map V.int).length + 1 : Int) ≠ 0 by omega)
          have ab1 := Int.emod_lt_of_pos (nth ns (a + 8 + 2 * (0 + (i : Int)))) (show (0 : Int) < (gs.map V.int).length + 1 by omega)
          have hb0 := Int.emod_nonneg ((nth ns (a + 9 + 2 * (0 + (i : Int)))) / 3) (show ls.sum ≠ 0 by omega)
          have hb1 := Int.emod_lt_of_pos ((nth ns (a + 9 + 2 * (0 + (i : Int)))) / 3) (show (0 : Int) < ls.sum by omega)
          have hup : isLk ls gs "up" (nth ns (a + 8 + 2 * (0 + (i : Int))) % ((gs.map V.int).length + 1)) ((nth ns (a + 9 + 2 * (0 + (i : Int)))) / 3 % ls.sum) = true := by
            unfold isLk
            rw [if_pos rfl, decide_eq_true ab0, decide_eq_true (show (nth ns (a + 8 + 2 * (0 + (i : Int))) % ((gs.map V.int).length + 1)) ≤ (gs.length : Int) by omega), decide_eq_true hb0, decide_eq_true hb1]
            rfl
          have okup : okk (lk "up" (nth ns (a + 8 + 2 * (0 + (i : Int))) % ((gs.map V.int).length + 1)) ((nth ns (a + 9 + 2 * (0 + (i : Int)))) / 3 % ls.sum)) = true := ok_lk (by decide +kernel) _ _
          refine ⟨_, rfl, .inl ⟨_, rfl, _, _, rfl, rfl, (by show (0 : Int) < 3; decide), rfl, _, rfl, ?_⟩⟩
          rw [e4']
          have gG4 := k4 _ _ gG
          have gD4 := k4 _ _ gD
          refine ite2 (fun hb1 => ?_) (fun hb1 => ?_)
          · refine ⟨_, rfl, _, rfl, _, _, rfl, .inl ⟨_, SqL.of gG4, rfl⟩, _, _, rfl, rfl, _, rfl, ?_⟩
            refine ite2 (fun hb2 => ?_) (fun hb2 => ?_)
            · have jb0 := Int.emod_nonneg (nth ns (a + 9 + 2 * (0 + (i : Int))) / 3) (show ((ls.map V.int).length + 1 : Int) ≠ 0 by omega)
              have jb1 := Int.emod_lt_of_pos (nth ns (a + 9 + 2 * (0 + (i : Int))) / 3) (show (0 : Int) < (ls.map V.int).length + 1 by omega)
              obtain ⟨j, hj⟩ : ∃ j : Nat, nth ns (a + 9 + 2 * (0 + (i : Int))) / 3 % ((ls.map V.int).length + 1) = (j : Int) := ⟨_, (Int.toNat_of_nonneg jb0).symm⟩
              have jle : j ≤ ls.length := by
                rw [hj, List.length_map] at jb1
                omega
              refine ⟨_, rfl, _, rfl, _, rfl, _, _, rfl, rfl, ⟨by decide, by decide⟩, _, rfl, _, _, rfl, .inl ⟨_, SqL.of gD4, rfl⟩, _, _, rfl, rfl, _, _, rfl, rfl, (by show (0 : Int) < _; omega), _, rfl, D, _, rfl, SqL.of gD4, fun p np => ?_⟩
              have ecut : cutV (ls.map V.int) none (some (nth ns (a + 9 + 2 * (0 + (i : Int))) / 3 % ((ls.map V.int).length + 1))) = (ls.take j).map V.int := by
                rw [hj, cut_to, List.map_take]
              obtain ⟨H5, e5, k5, g5⟩ := made (o := .lst ((ls.take j).map V.int)) np
              have e5' : upd H4 p (.lst (cutV (ls.map V.int) none (some (nth ns (a + 9 + 2 * (0 + (i : Int))) / 3 % ((ls.map V.int).length + 1))))) = H5 := by
                rw [ecut]
                exact e5
              refine ⟨p, ls.take j, rfl, ?_, (by show 3 ≤ sizeLine; decide), fun t2 nt2 => ?_⟩
              · have z : (upd H4 p (.lst (cutV (ls.map V.int) none (some (nth ns (a + 9 + 2 * (0 + (i : Int))) / 3 % ((ls.map V.int).length + 1)))))) p = some (.lst ((ls.take j).map V.int)) := by
                  rw [e5']
                  exact g5
                exact SqL.of z
              have nt2' : H5 t2 = none := by
                rw [← e5']
                exact nt2
              obtain ⟨H6, e6, k6', g6⟩ := made (o := .tup [V.str "over", V.int (nth ns (a + 8 + 2 * (0 + (i : Int))) % ((gs.map V.int).length + 1)), V.int (ls.take j).sum]) nt2'
              have e6' : upd (upd H4 p (.lst (cutV (ls.map V.int) none (some (nth ns (a + 9 + 2 * (0 + (i : Int))) / 3 % ((ls.map V.int).length + 1)))))) t2 (.tup [V.str "over", V.int (nth ns (a + 8 + 2 * (0 + (i : Int))) % ((gs.map V.int).length + 1)), V.int (ls.take j).sum]) = H6 := by
                rw [e5']
                exact e6
              have k6 : Same H' H6 := (k4.trans k5).trans k6'
              have hov : isLk ls gs "over" (nth ns (a + 8 + 2 * (0 + (i : Int))) % ((gs.map V.int).length + 1)) (ls.take j).sum = true := by
                have lt := of_decide_eq_true hb2
                unfold isLk
                rw [if_neg (by decide), decide_eq_true ab0, decide_eq_true (show (nth ns (a + 8 + 2 * (0 + (i : Int))) % ((gs.map V.int).length + 1)) < (gs.length : Int) by omega)]
                have mem : (ls.take j).sum ∈ crossN ls := List.mem_map.mpr ⟨j, List.mem_range.mpr (by omega), rfl⟩
                rw [decide_eq_true mem]
                rfl
              have okov : okk (lk "over" (nth ns (a + 8 + 2 * (0 + (i : Int))) % ((gs.map V.int).length + 1)) (ls.take j).sum) = true := ok_lk (by decide +kernel) _ _
              rw [e6']
              have hcT := k6 _ _ hc
              have hxT := hx.same k6
              have kAll := k'.trans k6
              have hkr : Kr H6 (.ref t2) (lk "over" (nth ns (a + 8 + 2 * (0 + (i : Int))) % ((gs.map V.int).length + 1)) ((ls.take j).sum)) := ⟨t2, rfl, g6⟩
              refine ⟨_, rfl, _, rfl, dK (lk "over" (nth ns (a + 8 + 2 * (0 + (i : Int))) % ((gs.map V.int).length + 1)) ((ls.take j).sum)), (kOf cs).map dK, hkr.dp, hxT.dl (SqL.of hcT), sh_dK okov, sh_dKs (fun k hk => ?_), _, rfl, ?_⟩
              · obtain ⟨d, hd, rfl⟩ := List.mem_map.mp hk
                exact (hlk d hd).2
              rw [any_dK]
              refine ite2 (fun hin => ?_) (fun hin => ?_)
              · have hni : lk "over" (nth ns (a + 8 + 2 * (0 + (i : Int))) % ((gs.map V.int).length + 1)) ((ls.take j).sum) ∉ kOf cs := fun z => by
                  rw [decide_eq_true z] at hin
                  cases hin
                refine ⟨_, rfl, ?_⟩
                refine And.intro (Or.inl ⟨rfl, _, SqL.of hcT⟩) ?_
                have hxl := hx.len
                have hkl : (kOf cs).length = cs.length := List.length_map _
                refine ⟨_, rfl, c, xs, _, rfl, rfl, hcT, by rw [sizeLine_eq]; omega, ?_⟩
                refine ⟨_, _, _, _, xs ++ [.ref t2], cs ++ [(("over" : Str), (nth ns (a + 8 + 2 * (0 + (i : Int))) % ((gs.map V.int).length + 1)), ((ls.take j).sum))], rfl, fun b u e => ?_, upd_same, ?_, ?_, ?_, ?_⟩
                · rw [upd_ne (ne_of_none e nc)]
                  exact kAll b u e
                · have z : kOf (cs ++ [(("over" : Str), (nth ns (a + 8 + 2 * (0 + (i : Int))) % ((gs.map V.int).length + 1)), ((ls.take j).sum))]) = kOf cs ++ [lk "over" (nth ns (a + 8 + 2 * (0 + (i : Int))) % ((gs.map V.int).length + 1)) ((ls.take j).sum)] := by
                    unfold kOf
                    rw [List.map_append]
                    rfl
                  rw [z]
                  exact (hxT.over hcT).snoc (hkr.over hcT)
                · have z : kOf (cs ++ [(("over" : Str), (nth ns (a + 8 + 2 * (0 + (i : Int))) % ((gs.map V.int).length + 1)), ((ls.take j).sum))]) = kOf cs ++ [lk "over" (nth ns (a + 8 + 2 * (0 + (i : Int))) % ((gs.map V.int).length + 1)) ((ls.take j).sum)] := by
                    unfold kOf
                    rw [List.map_append]
                    rfl
                  rw [z]
                  exact List.nodup_append.mpr ⟨hnd, by simp, fun y hy y' hy' e => hni (by rw [List.mem_singleton.mp hy'] at e; rw [← e]; exact hy)⟩
                · intro d hd
                  rcases List.mem_append.mp hd with z | z
                  · exact hlk d z
                  · rw [List.mem_singleton.mp z]
                    exact ⟨hov, okov⟩
                · rw [List.length_append]
                  show cs.length + 1 ≤ i + 1
                  omega
              · exact ⟨_, _, _, _, xs, cs, rfl, kAll, hcT, hxT, hnd, hlk, by omega⟩
            · refine ?_
              have hcT := k4 _ _ hc
              have hxT := hx.same k4
              have kAll := k'.trans k4
              have hkr : Kr H4 (.ref t1) (lk "up" (nth ns (a + 8 + 2 * (0 + (i : Int))) % ((gs.map V.int).length + 1)) ((nth ns (a + 9 + 2 * (0 + (i : Int)))) / 3 % ls.sum)) := ⟨t1, rfl, g4⟩
              refine ⟨_, rfl, _, rfl, dK (lk "up" (nth ns (a + 8 + 2 * (0 + (i : Int))) % ((gs.map V.int).length + 1)) ((nth ns (a + 9 + 2 * (0 + (i : Int)))) / 3 % ls.sum)), (kOf cs).map dK, hkr.dp, hxT.dl (SqL.of hcT), sh_dK okup, sh_dKs (fun k hk => ?_), _, rfl, ?_⟩
              · obtain ⟨d, hd, rfl⟩ := List.mem_map.mp hk
                exact (hlk d hd).2
              rw [any_dK]
              refine ite2 (fun hin => ?_) (fun hin => ?_)
              · have hni : lk "up" (nth ns (a + 8 + 2 * (0 + (i : Int))) % ((gs.map V.int).length + 1)) ((nth ns (a + 9 + 2 * (0 + (i : Int)))) / 3 % ls.sum) ∉ kOf cs := fun z => by
                  rw [decide_eq_true z] at hin
                  cases hin
                refine ⟨_, rfl, ?_⟩
                refine And.intro (Or.inl ⟨rfl, _, SqL.of hcT⟩) ?_
                have hxl := hx.len
                have hkl : (kOf cs).length = cs.length := List.length_map _
                refine ⟨_, rfl, c, xs, _, rfl, rfl, hcT, by rw [sizeLine_eq]; omega, ?_⟩
                refine ⟨_, _, _, _, xs ++ [.ref t1], cs ++ [(("up" : Str), (nth ns (a + 8 + 2 * (0 + (i : Int))) % ((gs.map V.int).length + 1)), ((nth ns (a + 9 + 2 * (0 + (i : Int)))) / 3 % ls.sum))], rfl, fun b u e => ?_, upd_same, ?_, ?_, ?_, ?_⟩
                · rw [upd_ne (ne_of_none e nc)]
                  exact kAll b u e
                · have z : kOf (cs ++ [(("up" : Str), (nth ns (a + 8 + 2 * (0 + (i : Int))) % ((gs.map V.int).length + 1)), ((nth ns (a + 9 + 2 * (0 + (i : Int)))) / 3 % ls.sum))]) = kOf cs ++ [lk "up" (nth ns (a + 8 + 2 * (0 + (i : Int))) % ((gs.map V.int).length + 1)) ((nth ns (a + 9 + 2 * (0 + (i : Int)))) / 3 % ls.sum)] := by
                    unfold kOf
                    rw [List.map_append]
                    rfl
                  rw [z]
                  exact (hxT.over hcT).snoc (hkr.over hcT)
                · have z : kOf (cs ++ [(("up" : Str), (nth ns (a + 8 + 2 * (0 + (i : Int))) % ((gs.map V.int).length + 1)), ((nth ns (a + 9 + 2 * (0 + (i : Int)))) / 3 % ls.sum))]) = kOf cs ++ [lk "up" (nth ns (a + 8 + 2 * (0 + (i : Int))) % ((gs.map V.int).length + 1)) ((nth ns (a + 9 + 2 * (0 + (i : Int)))) / 3 % ls.sum)] := by
                    unfold kOf
                    rw [List.map_append]
                    rfl
                  rw [z]
                  exact List.nodup_append.mpr ⟨hnd, by simp, fun y hy y' hy' e => hni (by rw [List.mem_singleton.mp hy'] at e; rw [← e]; exact hy)⟩
                · intro d hd
                  rcases List.mem_append.mp hd with z | z
                  · exact hlk d z
                  · rw [List.mem_singleton.mp z]
                    exact ⟨hup, okup⟩
                · rw [List.length_append]
                  show cs.length + 1 ≤ i + 1
                  omega
              · exact ⟨_, _, _, _, xs, cs, rfl, kAll, hcT, hxT, hnd, hlk, by omega⟩
          · refine ?_
            have hcT := k4 _ _ hc
            have hxT := hx.same k4
            have kAll := k'.trans k4
            have hkr : Kr H4 (.ref t1) (lk "up" (nth ns (a + 8 + 2 * (0 + (i : Int))) % ((gs.map V.int).length + 1)) ((nth ns (a + 9 + 2 * (0 + (i : Int)))) / 3 % ls.sum)) := ⟨t1, rfl, g4⟩
            refine ⟨_, rfl, _, rfl, dK (lk "up" (nth ns (a + 8 + 2 * (0 + (i : Int))) % ((gs.map V.int).length + 1)) ((nth ns (a + 9 + 2 * (0 + (i : Int)))) / 3 % ls.sum)), (kOf cs).map dK, hkr.dp, hxT.dl (SqL.of hcT), sh_dK okup, sh_dKs (fun k hk => ?_), _, rfl, ?_⟩
            · obtain ⟨d, hd, rfl⟩ := List.mem_map.mp hk
              exact (hlk d hd).2
            rw [any_dK]
            refine ite2 (fun hin => ?_) (fun hin => ?_)
            · have hni : lk "up" (nth ns (a + 8 + 2 * (0 + (i : Int))) % ((gs.map V.int).length + 1)) ((nth ns (a + 9 + 2 * (0 + (i : Int)))) / 3 % ls.sum) ∉ kOf cs := fun z => by
                rw [decide_eq_true z] at hin
                cases hin
              refine ⟨_, rfl, ?_⟩
              refine And.intro (Or.inl ⟨rfl, _, SqL.of hcT⟩) ?_
              have hxl := hx.len
              have hkl : (kOf cs).length = cs.length := List.length_map _
              refine ⟨_, rfl, c, xs, _, rfl, rfl, hcT, by rw [sizeLine_eq]; omega, ?_⟩
              refine ⟨_, _, _, _, xs ++ [.ref t1], cs ++ [(("up" : Str), (nth ns (a + 8 + 2 * (0 + (i : Int))) % ((gs.map V.int).length + 1)), ((nth ns (a + 9 + 2 * (0 + (i : Int)))) / 3 % ls.sum))], rfl, fun b u e => ?_, upd_same, ?_, ?_, ?_, ?_⟩
              · rw [upd_ne (ne_of_none e nc)]
                exact kAll b u e
              · have z : kOf (cs ++ [(("up" : Str), (nth ns (a + 8 + 2 * (0 + (i : Int))) % ((gs.map V.int).length + 1)), ((nth ns (a + 9 + 2 * (0 + (i : Int)))) / 3 % ls.sum))]) = kOf cs ++ [lk "up" (nth ns (a + 8 + 2 * (0 + (i : Int))) % ((gs.map V.int).length + 1)) ((nth ns (a + 9 + 2 * (0 + (i : Int)))) / 3 % ls.sum)] := by
                  unfold kOf
                  rw [List.map_append]
                  rfl
                rw [z]
                exact (hxT.over hcT).snoc (hkr.over hcT)
              · have z : kOf (cs ++ [(("up" : Str), (nth ns (a + 8 + 2 * (0 + (i : Int))) % ((gs.map V.int).length + 1)), ((nth ns (a + 9 + 2 * (0 + (i : Int)))) / 3 % ls.sum))]) = kOf cs ++ [lk "up" (nth ns (a + 8 + 2 * (0 + (i : Int))) % ((gs.map V.int).length + 1)) ((nth ns (a + 9 + 2 * (0 + (i : Int)))) / 3 % ls.sum)] := by
                  unfold kOf
                  rw [List.map_append]
                  rfl
                rw [z]
                exact List.nodup_append.mpr ⟨hnd, by simp, fun y hy y' hy' e => hni (by rw [List.mem_singleton.mp hy'] at e; rw [← e]; exact hy)⟩
              · intro d hd
                rcases List.mem_append.mp hd with z | z
                · exact hlk d z
                · rw [List.mem_singleton.mp z]
                  exact ⟨hup, okup⟩
              · rw [List.length_append]
                show cs.length + 1 ≤ i + 1
                omega
            · exact ⟨_, _, _, _, xs, cs, rfl, kAll, hcT, hxT, hnd, hlk, by omega⟩
        · rintro σ H' ⟨vk, va, vs, vl, xs, cs, rfl, k', hc, hx, hnd, hlk, hle⟩
          refine ⟨_, rfl, _, rfl, _, rfl, (by show 3 ≤ sizeLine; decide), fun t nt => ?_⟩
          have st : Same H' (upd H' t (.tup [.ref D, .ref G, .ref c])) := same_upd nt
          refine q _ t D G c ls gs xs cs ((k3.trans k').trans st) ((k3.trans k').free nt) upd_same nH nG0 nc0 (st _ _ (k' _ _ gl3)) (st _ _ (k' _ _ g3)) (st _ _ hc) (hx.same st) ⟨⟨hl2, hL.all⟩, ⟨by omega, hG.all⟩, by omega, hnd, fun d hd => (hlk d hd).1⟩ hg4 (by omega)
end

section
open GxR NdefX PySem.Spec PyProof.Rows
variable {P : Program} {w : World} {K : PySem.W.Frag} {mg : Str → Option Value} {base : Heap}
/-- behind a new object: all but it is as it was -/
theorem mkKp {H H' : Hp} {x dx : Addr} {o u : HO} (n : H x = none) (m : H dx = none) (k : KpB x (upd (upd H dx u) x o) H') : Kp H H' := by
  have step : ∀ b z, H b = some z → (upd (upd H dx u) x o) b = some z := fun b z e => by
    rw [upd_ne (ne_of_none e n), upd_ne (ne_of_none e m)]
    exact e
  exact ⟨fun b z e t => k.at_ b z (step b z e) (ne_of_none e n) t, fun P ⟨ps, e, t⟩ => k.tab P ⟨ps, step _ _ e, t⟩⟩
structure PropD (P : Program) (w : World) (K : PySem.W.Frag) (mg : Str → Option Value) (base : Heap) (C : Addr) (k : Nat) (x : Str) (sp : Sp) where
  f : Addr
  p : Addr
  fd : FuncData
  h : PropOf K C x p f
  G : FnOk P w K mg base CX0 k f fd ["self"] sp
  b : Binds K fd ["self"] []
structure MethD (P : Program) (w : World) (K : PySem.W.Frag) (mg : Str → Option Value) (base : Heap) (C : Addr) (k : Nat) (x : Str) (ps : List Str) (sp : Sp) where
  f : Addr
  fd : FuncData
  m : Meth K C x f
  G : FnOk P w K mg base CX0 k f fd ps sp
  b : Binds K fd ps []
structure TopD (P : Program) (w : World) (K : PySem.W.Frag) (mg : Str → Option Value) (base : Heap) (k : Nat) (x : Str) (ps : List Str) (sp : Sp) where
  f : Addr
  fd : FuncData
  G : FnOk P w K mg base CX0 k f fd ps sp
  b : Binds K fd ps []
  g : mg x = some (.ref f)
  kp : PySem.W.keepIn K (.ref f) = true
theorem Lens.pos2 {ls : List Int} (h : Lens ls) : 0 ≤ ls.sum := by
  have q := h.pos ls.length
  rw [List.take_length] at q
  exact q
theorem Lens.le {ls : List Int} (h : Lens ls) (k : Nat) : (ls.take k).sum ≤ ls.sum := by
  have e : ls.sum = (ls.take k).sum + (ls.drop k).sum := by
    rw [← List.sum_append, List.take_append_drop]
  have q : Lens (ls.drop k) := fun x hx => h x (List.mem_of_mem_drop hx)
  have z := q.pos2
  omega
theorem Lens.top {ls : List Int} (h : Lens ls) (hl : ls.length ≤ 2) : ls.sum ≤ 80 := by
  match ls, h, hl with
  | [], _, _ => decide
  | [x], h, _ =>
    have := h x (by simp)
    simp
    omega
  | [x, y], h, _ =>
    have := h x (by simp)
    have := h y (by simp)
    simp
    omega
  | _ :: _ :: _ :: _, _, hl => simp at hl
theorem Lens.cross {ls : List Int} (h : Lens ls) {y : Int} (hy : y ∈ crossN ls) : 0 ≤ y ∧ y ≤ ls.sum := by
  unfold crossN at hy
  obtain ⟨k, _, rfl⟩ := List.mem_map.mp hy
  exact ⟨h.pos k, h.le k⟩
def dN (ns : List Int) : PyData := .list (ns.map PyData.int)
theorem eqvAll_N : ∀ a b : List Int, PyData.eqvAll (a.map PyData.int) (b.map PyData.int) = decide (a = b)
  | [], [] => by simp [PyData.eqvAll]
  | [], _ :: _ => by simp [PyData.eqvAll]
  | _ :: _, [] => by simp [PyData.eqvAll]
  | p :: ps, q :: qs => by
    simp only [List.map_cons, PyData.eqvAll, eqv_int, eqvAll_N ps qs, List.cons.injEq]
    by_cases h1 : p = q <;> by_cases h2 : ps = qs <;> simp [h1, h2]
theorem eqv_dN (a b : List Int) : PyData.eqv (dN a) (dN b) = decide (a = b) := by
  unfold dN
  rw [PyData.eqv, eqvAll_N]
theorem dp_ns {H : Hp} : ∀ ns : List Int, DpAll K H (ns.map V.int) (ns.map PyData.int)
  | [] => .nil
  | n :: ns => .cons (.int n) (dp_ns ns)
theorem dp_dN {H : Hp} {a : Addr} {ns : List Int} (h : SqL K H a (ns.map V.int)) : Dp K H (.ref a) (dN ns) := .lst h (dp_ns ns)
theorem lay_N : ∀ ns : List Int, PyData.canLayAll0 (ns.map PyData.int) = true
  | [] => rfl
  | _ :: ns => by
    show (true && PyData.canLayAll0 (ns.map PyData.int)) = true
    rw [lay_N ns]
    rfl
theorem depth_N : ∀ ns : List Int, PyData.depthAll (ns.map PyData.int) = 0
  | [] => rfl
  | _ :: ns => by
    show max 0 (PyData.depthAll (ns.map PyData.int)) = 0
    rw [depth_N ns]
    rfl
def d3 (ls gs : List Int) (ks : List Tk) : PyData := .list [dN ls, dN gs, dKs ks]
def d4 (ls gs : List Int) (ks : List Tk) (ns : List Int) : PyData := .list [dN ls, dN gs, dKs ks, dN ns]
theorem eqv_d3 (ls gs : List Int) (ks : List Tk) : PyData.eqv (d3 ls gs ks) (d3 ls gs ks) = true := by
  show PyData.eqvAll [dN ls, dN gs, dKs ks] [dN ls, dN gs, dKs ks] = true
  simp only [PyData.eqvAll, eqv_dN, eqv_dKs, decide_true, Bool.and_true]
theorem eqv_d4 (ls gs : List Int) (ks : List Tk) (ns : List Int) : PyData.eqv (d4 ls gs ks ns) (d4 ls gs ks ns) = true := by
  show PyData.eqvAll [dN ls, dN gs, dKs ks, dN ns] [dN ls, dN gs, dKs ks, dN ns] = true
  simp only [PyData.eqvAll, eqv_dN, eqv_dKs, decide_true, Bool.and_true]
theorem sh_d3 {ls gs : List Int} {ks : List Tk} (h : ∀ k ∈ ks, okk k = true) : SeqAt.shaped (d3 ls gs ks) = true := by
  have e : PyData.canLay0 (d3 ls gs ks) = true := by
    show (PyData.canLayAll0 (ls.map PyData.int) && (PyData.canLayAll0 (gs.map PyData.int) && (PyData.canLayAll0 (ks.map dK) && true))) = true
    rw [lay_N, lay_N, lay_dKs ks h]
    rfl
  unfold SeqAt.shaped
  rw [e]
  refine decide_eq_true ?_
  have q := depth_dKs ks
  show max (PyData.depthAll (ls.map PyData.int) + 1) (max (PyData.depthAll (gs.map PyData.int) + 1) (max (PyData.depthAll (ks.map dK) + 1) 0)) + 1 ≤ 64
  rw [depth_N, depth_N]
  omega
theorem sh_d4 {ls gs ns : List Int} {ks : List Tk} (h : ∀ k ∈ ks, okk k = true) : SeqAt.shaped (d4 ls gs ks ns) = true := by
  have e : PyData.canLay0 (d4 ls gs ks ns) = true := by
    show (PyData.canLayAll0 (ls.map PyData.int) && (PyData.canLayAll0 (gs.map PyData.int) && (PyData.canLayAll0 (ks.map dK) && (PyData.canLayAll0 (ns.map PyData.int) && true)))) = true
    rw [lay_N, lay_N, lay_N, lay_dKs ks h]
    rfl
  unfold SeqAt.shaped
  rw [e]
  refine decide_eq_true ?_
  have q := depth_dKs ks
  show max (PyData.depthAll (ls.map PyData.int) + 1) (max (PyData.depthAll (gs.map PyData.int) + 1) (max (PyData.depthAll (ks.map dK) + 1) (max (PyData.depthAll (ns.map PyData.int) + 1) 0))) + 1 ≤ 64
  rw [depth_N, depth_N, depth_N]
  omega
theorem okk_valid {ls gs : List Int} {cs : List (Str × Int × Int)} (v : Valid ls gs cs) : ∀ k ∈ kOf cs, okk k = true := fun k hk => by
  obtain ⟨c, hc, rfl⟩ := List.mem_map.mp hk
  have q := v.2.2.2.2 c hc
  refine ok_lk ?_ _ _
  unfold isLk at q
  by_cases h1 : c.1 = "up"
  · rw [h1]
    decide +kernel
  · rw [if_neg h1] at q
    have h2 : c.1 = "over" := by
      simp only [Bool.and_eq_true, decide_eq_true_eq] at q
      exact q.1
    rw [h2]
    decide +kernel
theorem Kp.putNew {H H' : Hp} {r : Addr} {o : HO} (k : Kp H H') (n : H r = none) : Kp H (upd H' r o) :=
  ⟨fun b u e t => by rw [upd_ne (ne_of_none e n)]; exact k.at_ b u e t, fun P h => by
    obtain ⟨ps, e, t⟩ := k.tab P h
    obtain ⟨qs, e0, _⟩ := h
    exact ⟨ps, by rw [upd_ne (ne_of_none e0 n)]; exact e, t⟩⟩
theorem Kp.putL {H Ha : Hp} {r : Addr} {zs ws : List V} (k : Kp H Ha) (n : NoLst H r) (e : Ha r = some (.lst zs)) : Kp H (upd Ha r (.lst ws)) :=
  ⟨fun b u eb t => by
    have q := k.at_ b u eb t
    by_cases z : b = r
    · rw [z, e] at q
      rw [z] at eb
      exact (n zs (eb.trans q.symm)).elim
    · rw [upd_ne z]
      exact q, fun P h => by
    obtain ⟨ps, q, t⟩ := k.tab P h
    exact ⟨ps, by rw [upd_ne (ne_of e q fun z => nomatch z).symm]; exact q, t⟩⟩
theorem Room.units1 {k : Nat} {A : Around} (r : Room k A) : A.units + 1 < cLine := by
  have := r.un
  omega
theorem val_closed {ls gs : List Int} {cs : List (Str × Int × Int)} (v : Valid ls gs cs) (k : Tk) : (valV ((kOf cs).map fun k => (k, V.bl true)) k).isSome = decide (k ∈ kOf cs) := by
  rw [← (ded_eq (kOf cs)).1 v.2.2.2.1]
  exact ded_mem _ _
theorem Valid.lens {ls gs : List Int} {cs : List (Str × Int × Int)} (v : Valid ls gs cs) : Lens ls := fun x hx => by
  have z := List.all_eq_true.mp v.1.2 x hx
  unfold longN at z
  rw [Bool.and_eq_true, decide_eq_true_eq, decide_eq_true_eq] at z
  exact z
def spClosedQ (C : Addr) : Sp := fun vs H Q _ => ∃ (p : Addr) (v : V) (ls gs : List Int) (cs : List (Str × Int × Int)) (k : Tk), vs = [.ref p, v] ∧ HouseAt C H p ls gs cs ∧ Kr H v k ∧ Q (.bl (decide (k ∈ kOf cs))) H
theorem ok_is_closed {f C : Addr} {fd : FuncData} (F : Fun K "is_closed" "House.is_closed" s_House_is_closed f fd) (T : HouseTxt K mg C) : FnOk P w K mg base CX0 1 f fd ["self", "link"] (spClosedQ C) := by
  refine F.ok sc_House_is_closed (fun vs H Q E h => ?_) (fun cdv A outer s H vs Q E hr h => ?_)
  · obtain ⟨p, v, ls, gs, cs, k, rfl, _⟩ := h
    rfl
  · obtain ⟨p, v, ls, gs, cs, k, rfl, hH, ⟨t, rfl, ht⟩, q⟩ := h
    obtain ⟨va, dx, l, g, c, d, h1, h2, h3, h4, h5⟩ := id hH
    refine ⟨_, (pss_one (ps_ret (pe_cmp (pc_din (by exact Room.units1 hr) (pv 1) (pe_fld (pv 0) rfl))))), ?_⟩
    refine ⟨_, rfl, _, rfl, p, C, dx, _, _, rfl, h1, T.cl, T.nC, hf_closed _ _ _ _ _, d, _, rfl, DGet.t h5 ht, ?_⟩
    rw [val_closed va]
    exact q
end

section
open GxR NdefX PySem.Spec PyProof.Rows
variable {P : Program} {w : World} {K : PySem.W.Frag} {mg : Str → Option Value} {base : Heap}
theorem raised {H : Hp} {a d C : Addr} {f : Str} {v : V} (ha : H a = none) (hd : (upd H a (exo a C none)) d = none) (hne : d ≠ a) :
    (upd (upd (upd H a (exo a C none)) d (exd d [(f, v)])) a (exo a C (some d))) a = some (exo a C (some d)) ∧ (upd (upd (upd H a (exo a C none)) d (exd d [(f, v)])) a (exo a C (some d))) d = some (exd d [(f, v)]) ∧ H d = none ∧
    Same H (upd (del (upd (upd (upd H a (exo a C none)) d (exd d [(f, v)])) a (exo a C (some d))) a) d (.xd [(f, v)])) := by
  have hdn : H d = none := by
    rw [upd_ne hne] at hd
    exact hd
  refine ⟨upd_same, by rw [upd_ne hne, upd_same], hdn, fun b o e => ?_⟩
  have h1 : b ≠ a := ne_of_none e ha
  have h2 : b ≠ d := ne_of_none e hdn
  rw [upd_ne h2, del_ne h1, upd_ne h1, upd_ne h2, upd_ne h1]
  exact e
end
/-! ### notation -/
section
open GxR NdefX PySem.Spec PyProof.Rows
variable {P : Program} {w : World} {K : PySem.W.Frag} {mg : Str → Option Value} {base : Heap}
/-- a line's codes -/
def rowL (hd : List Nat) (ns : List Int) : List Nat := TL.joinL [32] (hd :: ns.map dg)
/-- names of built-ins that no def hides, a constant -/
structure NoteTop (mg : Str → Option Value) : Prop where
  str : mg "str" = none
  len : mg "len" = none
  all : mg "all" = none
  int : mg "int" = none
  range : mg "range" = none
  digits : ∃ t, mg "MOST_DIGITS" = some (.int 4 t)
/-- the error of notation -/
structure NotTxt (K : PySem.W.Frag) (mg : Str → Option Value) (CN fN : Addr) : Prop where
  g : mg "InvalidNotation" = some (.ref CN)
  o : OexC K CN
  n : PySem.W.findIn K (.ref CN) "line" = some none
  i : PySem.W.findIn K (.ref CN) "__init__" = some (some (.ref fN))
  y : PySem.W.typeIn K (.ref fN) = some (.type "function")
theorem ok_notinit {f C : Addr} {fd : FuncData} (F : Fun K "__init__" "InvalidNotation.__init__" s_InvalidNotation___init__ f fd) : FnOk P w K mg base CX0 1 f fd ["self", "line"] (spXI K C "line") := by
  refine F.ok sc_InvalidNotation___init__ (fun vs H Q E h => ?_) (fun cdv A outer s H vs Q E hr h => ?_)
  · obtain ⟨a, v, rfl, _⟩ := h
    rfl
  · obtain ⟨a, v, rfl, T, hno, ha, q⟩ := h
    exact ⟨_, pss_one (ps_ost (pv 0) (pv 1)), v, rfl, _, rfl, a, C, rfl, T, hno, .inl ⟨ha, q⟩⟩
theorem sp_S : (" " : Str) = S [32] := by decide +kernel
theorem nl_S : ("\n" : Str) = S [10] := by decide +kernel
theorem co_S : (":" : Str) = S [58] := by decide +kernel
theorem ze_S : ("0" : Str) = S [48] := by decide +kernel
theorem small_log {n : Int} (h0 : 0 ≤ n) (h1 : n < 100000) : n.natAbs.log2 < 1920 := by
  by_cases h : n.natAbs = 0
  · rw [h]
    decide
  · rw [Nat.log2_lt h]
    have h2 : n.natAbs < 2 ^ 17 := by omega
    exact Nat.lt_of_lt_of_le h2 (Nat.pow_le_pow_right (by decide) (by decide))
def spRowT : Sp := fun vs H Q _ => ∃ (hd : List Nat) (t : Addr) (ns : List Int), vs = [.str (S hd), .ref t] ∧ H t = some (.tup (ns.map V.int)) ∧ (∀ n ∈ ns, 0 ≤ n ∧ n < 100000) ∧ hd.length ≤ 1000 ∧ ns.length ≤ 1000 ∧
  ∀ H', Same H H' → Q (.str (S (rowL hd ns))) H'
theorem ok_rowT {f : Addr} {fd : FuncData} (F : Fun K "_row" "_row" s__row f fd) (T : NoteTop mg) : FnOk P w K mg base CX0 1 f fd ["head", "numbers"] spRowT := by
  refine F.ok sc__row (fun vs H Q E h => ?_) (fun cdv A outer s H vs Q E hr h => ?_)
  · obtain ⟨hd, t, ns, rfl, _⟩ := h
    rfl
  · obtain ⟨hd, t, ns, rfl, ht, hb, hl1, hl2, q⟩ := h
    have nd := sc__row.nd
    refine ⟨_, (pss_one (ps_ret (pe_join pe_str (pe_op op_cat (pe_lst (pa_cons (pv 0) pa_nil)) (pe_lc (own := [("number", 2)]) (g := gName 2) (tt := tYes) rfl nd (pi_tup (pv 1)) (blkOk_by (N := ["head", "numbers", "number"]) (sc := defScope s__row) (by decide +kernel)) (fun _ _ _ _ _ => pg_name (i := 2) nd rfl (Or.inl rfl)) (fun _ _ _ _ _ => pts_nil) (fun _ _ _ _ _ => (pe_callTy call_str_int (by rfl) T.str (by decide +kernel) (pa_cons (pv 2) pa_nil)))))))), ?_⟩
    refine ⟨⟨_, rfl⟩, _, rfl, (by show 1 ≤ sizeLine; decide), fun m nm => ?_⟩
    obtain ⟨H1, e1, k1, g1⟩ := made (o := .lst [.str (S hd)]) nm
    rw [e1]
    refine ⟨_, rfl, t, rfl, ⟨_, SqT.of (k1 _ _ ht)⟩, fun D hD => ?_⟩
    have hz : 100000 < sizeLine := by decide
    refine lc_tup (K := K) (a := t) (xs := ns.map V.int) (fun i H' => Same H1 H' ∧ H' D = some (.lst ((((ns.take i).map dg).map S).map V.str))) ?_ ?_ ?_ ?_
    · exact ⟨same_upd hD, upd_same⟩
    · rintro i H' _ ⟨k, _⟩
      exact SqT.of (k _ _ (k1 _ _ ht))
    · rintro i x H' hx ⟨k, hd'⟩
      rw [List.getElem?_map] at hx
      cases hn : ns[i]? with
      | none => rw [hn] at hx; cases hx
      | some n =>
        rw [hn] at hx
        cases hx
        obtain ⟨b0, b1⟩ := hb n (List.mem_of_getElem? hn)
        have hil : i < ns.length := (List.getElem?_eq_some_iff.mp hn).1
        refine ⟨rfl, _, rfl, _, rfl, small_log b0 b1, _, hd', ?_, ?_, ?_⟩
        · rw [List.length_map, List.length_map, List.length_map, List.length_take]
          omega
        · intro b o e
          rw [upd_ne (ne_of_none e hD)]
          exact k b o e
        · rw [upd_same, show (toString n : Str) = S (dg n) from dg_str b0, List.take_add_one, hn]
          simp only [List.map_append, Option.toList, List.map_cons, List.map_nil]
    · rintro H2 ⟨k2, g2⟩
      rw [List.length_map, List.take_length] at g2
      refine ⟨_, _, _, _, rfl, rfl, k2 _ _ g1, g2, ?_, fun p np => ?_⟩
      · rw [List.length_map, List.length_map, List.length_map]
        show 1 + ns.length ≤ sizeLine
        omega
      obtain ⟨H3, e3, k3, g3⟩ := made (o := .lst ([.str (S hd)] ++ (((ns.map dg).map S).map V.str))) np
      rw [e3]
      refine ⟨_, p, (hd :: ns.map dg).map S, rfl, rfl, .inl (SqL.of g3), ?_, ?_⟩
      · have hs : ∀ y ∈ hd :: ns.map dg, y.length ≤ 1000 := fun y hy => by
          rcases List.mem_cons.mp hy with rfl | hy
          · exact hl1
          · obtain ⟨n, hn, rfl⟩ := List.mem_map.mp hy
            have := dg_len (n := n) (k := 5) (by decide) (by have := (hb n hn).2; omega)
            omega
        have z := sum_len hs
        have e : (hd :: ns.map dg).length = ns.length + 1 := by rw [List.length_cons, List.length_map]
        rw [List.length_map, e, show (" " : Str).length = 1 from rfl]
        rw [e] at z
        omega
      · rw [sp_S, join_S]
        exact q H3 ((k1.trans k2).trans k3)
def spIsNum : Sp := fun vs H Q _ => ∃ z : Str, vs = [.str z] ∧ z.length ≤ 1000000 ∧ Q (.bl (isNum z)) H
theorem ok_isnum {f : Addr} {fd : FuncData} (F : Fun K "is_number" "is_number" s_is_number f fd) (T : NoteTop mg) : FnOk P w K mg base CX0 1 f fd ["word"] spIsNum := by
  refine F.ok sc_is_number (fun vs H Q E h => ?_) (fun cdv A outer s H vs Q E hr h => ?_)
  · obtain ⟨z, rfl, _⟩ := h
    rfl
  · obtain ⟨z, rfl, hz, q⟩ := h
    obtain ⟨t, hdig⟩ := T.digits
    have hz' : z.length ≤ sizeLine := by
      rw [sizeLine_eq]
      omega
    refine ⟨_, (pss_cons (ps_if (PW.pt (pw_or (pt_not (pt_val (pe_m0 PySem.F.slot_str_isdigit PySem.F.type_str_isdigit mt_isdigit (pv 0)))) (pw_or1 (pt_cmpR op_gt (pe_callB call_len_str (by rfl) T.len (by decide +kernel) (pa_cons (pv 0) pa_nil)) (pe_glob (v := .int 4) rfl hdig ⟨_, rfl⟩) (nomark _))))) (pss_one (ps_ret pe_bl)) pss_nil)
      (pss_one (ps_ret (pe_or (pe_cmpR op_eq (pv 0) pe_str (nomark _)) (pe_one (pe_not (pe_m1 PySem.F.slot_str_startswith PySem.F.type_str_startswith mt_startswith (pv 0) pe_str))))))), ?_⟩
    refine ⟨_, rfl, ⟨_, rfl⟩, _, rfl, rfl, trivial, _, rfl, ?_⟩
    unfold isNum at q
    cases h1 : Txt.isdigit z with
    | false =>
      rw [h1] at q
      exact q
    | true =>
      rw [h1] at q
      refine iteF ?_
      refine ⟨_, rfl, _, rfl, hz', _, _, rfl, rfl, _, rfl, ?_⟩
      refine ite2 (fun hc => ?_) (fun hc => ?_)
      · have : ¬ z.length ≤ 4 := by
          have := of_decide_eq_true hc
          omega
        rw [decide_eq_false this] at q
        exact q
      · have : z.length ≤ 4 := by
          have : ¬ ((z.length : Int) > 4) := fun y => hc (decide_eq_true y)
          omega
        rw [decide_eq_true this] at q
        refine ⟨_, rfl, rfl, _, rfl, ?_⟩
        have e : decide (V.str z = V.str ("0" : Str)) = decide (z = S [48]) := by
          rw [ze_S]
          by_cases h : z = S [48]
          · rw [h, decide_eq_true rfl, decide_eq_true rfl]
          · rw [decide_eq_false h, decide_eq_false fun y => h (V.str.inj y)]
        rw [e]
        cases h2 : decide (z = S [48]) with
        | true =>
          rw [h2] at q
          exact iteT q
        | false =>
          rw [h2] at q
          refine iteF ?_
          refine ⟨_, rfl, ⟨_, rfl⟩, _, _, rfl, rfl, _, rfl, ?_⟩
          rw [ze_S]
          exact q
/-- raises the error of notation with this number of a line -/
def RaisesN (CN : Addr) (k : Int) (H : Hp) (E : XK) : Prop := ∀ (H' : Hp) (d : Addr), Kp H H' → H' d = some (.xd [("line", .int k)]) → E (.ref CN) (some d) H'
def spWNums (K : PySem.W.Frag) (T CN : Addr) : Sp := fun vs H Q E => ∃ (l : Addr) (ws : List Str) (k : Int), vs = [.ref l, .int k] ∧ SqL K H l (ws.map V.str) ∧ (∀ z ∈ ws, z.length ≤ 1000000 ∧ asc z) ∧ ws.length ≤ 1000000 ∧ TabG H T ∧
  (ws.all isNum = true → ∀ (H' : Hp) (r : Addr), Kp H H' → H' r = some (.lst ((ws.map numV).map V.int)) → Q (.ref r) H') ∧ (ws.all isNum = false → RaisesN CN k H E)
theorem ok_nums {f c T0 CN fN fI : Addr} {fd fdN fdI : FuncData} (F : FunC K "_numbers_of" "_numbers_of" s__numbers_of f c fd) (T : NoteTop mg) (TB : TabB base mg c T0) (U : NotTxt K mg CN fI) (GI : FnOk P w K mg base CX0 1 fI fdI ["self", "line"] (spXI K CN "line")) (bI : Binds K fdI ["self", "line"] [])
    (FN : Fun K "is_number" "is_number" s_is_number fN fdN) (GN : FnOk P w K mg base CX0 1 fN fdN ["word"] spIsNum) (bN : Binds K fdN ["word"] []) (gN : mg "is_number" = some (.ref fN)) : FnOk P w K mg base (L2.CX P w) 4 f fd ["words", "number"] (spWNums K T0 CN) := by
  refine F.okX sc__numbers_of (fun vs H Q E h => ?_) (fun A outer s H vs Q E hr h => ?_)
  · obtain ⟨l, ws, k, rfl, _⟩ := h
    rfl
  · obtain ⟨l, ws, k, rfl, hl, hw, hwl, ht, q1, q2⟩ := h
    have nd := sc__numbers_of.nd
    refine ⟨_, (pss_cons (ps_if (pt_not (pt_val (pe_allG (k := 2) (N := ["word"]) (fr := [none]) (g := gName 0) (by exact hr.mono (by decide)) (by rfl) T.all (by decide +kernel) TB rfl (gsc_by (outer := defScope s__numbers_of) rfl rfl (by decide +kernel)) (gfr_by (outer := defScope s__numbers_of) (XN := ["words", "number", "word"]) rfl rfl (by decide +kernel)) (pi_list (pv 0)) (fun B s0 H0 cd fp rB => ⟨pg_name (i := 0) (show (["word"] : List Str).Nodup by decide) rfl (.inl rfl), (pe_call GN (by exact rB.mono (by decide)) (by rfl) gN FN.kp bN .nil pass0 (pa_cons (pv 0) pa_nil))⟩) (fun _ => rfl)))) (pss_one (ps_raise rfl (takes_of rfl rfl rfl rfl) (pmk_oex U.o U.i U.y GI (by exact hr.mono (by decide)) bI .nil pass0 (by rfl) U.g (pa_cons (pv 1) pa_nil)))) pss_nil)
      (pss_one (ps_ret (pe_lc (own := [("word", 2)]) (g := gName 2) (tt := tYes) rfl nd (pi_list (pv 0)) (blkOk_by (N := ["words", "number", "word"]) (sc := defScope s__numbers_of) (by decide +kernel)) (fun _ _ _ _ _ => pg_name (i := 2) nd rfl (Or.inl rfl)) (fun _ _ _ _ _ => pts_nil) (fun _ _ _ _ _ => (pe_callTy call_int_str (by rfl) T.int (by decide +kernel) (pa_cons (pv 2) pa_nil))))))), ?_⟩
    refine ⟨_, rfl, l, rfl, ⟨_, hl⟩, ht, fun H2 t2 => ?_⟩
    have k2 : Kp H H2 := Tabbed.kp t2 ht
    have hl2 : SqL K H2 l (ws.map V.str) := k2.seq hl
    refine for_list (K := K) (a := l) (xs := ws.map V.str) (fun i σ H' => (∃ z, σ = [z]) ∧ H' = H2 ∧ (ws.take i).all isNum = true) ?_ ?_ ?_ ?_
    · exact ⟨⟨none, rfl⟩, rfl, rfl⟩
    · rintro i σ H' _ ⟨_, rfl, _⟩
      exact hl2
    · rintro i x σ H' hx ⟨⟨z, rfl⟩, rfl, hp⟩
      rw [List.getElem?_map] at hx
      cases hn : ws[i]? with
      | none => rw [hn] at hx; cases hx
      | some y =>
        rw [hn] at hx
        cases hx
        have hy := hw y (List.mem_of_getElem? hn)
        have et : ws.take (i + 1) = ws.take i ++ [y] := by rw [List.take_add_one, hn]; rfl
        refine ⟨_, rfl, _, rfl, hy.1, _, rfl, ?_⟩
        refine ite2 (fun h7 => ?_) (fun h7 => ?_)
        · have hi : isNum y = false := by simpa using h7
          have e : ws.all isNum = false := by
            rw [Bool.eq_false_iff]
            intro z
            rw [List.all_eq_true] at z
            rw [z y (List.mem_of_getElem? hn)] at hi
            cases hi
          refine ⟨_, rfl, ?_⟩
          refine iteT ?_
          refine ⟨_, rfl, by show 1 ≤ 1000; decide, fun a na => ⟨a, .int k, rfl, U.o, U.n, upd_same, fun dd hd hne => ⟨rfl, dd, [("line", .int k)], ?_⟩⟩⟩
          obtain ⟨g1, g2, g3, g4⟩ := raised (f := "line") (v := .int k) na hd hne
          exact ⟨g1, g2, g3, q2 e _ dd (k2.trans (kpS g4)) upd_same⟩
        · have hi : isNum y = true := by simpa using h7
          refine ⟨⟨_, rfl⟩, rfl, ?_⟩
          rw [et, List.all_append, hp, List.all_cons, hi]
          rfl
    · rintro σ H' ⟨_, rfl, hp⟩
      rw [List.length_map, List.take_length] at hp
      refine ⟨_, rfl, ?_⟩
      refine iteF ?_
      refine ⟨_, rfl, l, rfl, ⟨_, hl2⟩, fun D hD => ?_⟩
      refine lc_list (K := K) (a := l) (xs := ws.map V.str) (fun i H1 => Same H' H1 ∧ H1 D = some (.lst (((ws.take i).map numV).map V.int))) ?_ ?_ ?_ ?_
      · exact ⟨same_upd hD, upd_same⟩
      · rintro i H1 _ ⟨k1, _⟩
        exact k1.seq hl2
      · rintro i x H1 hx ⟨k1, hd⟩
        rw [List.getElem?_map] at hx
        cases hn : ws[i]? with
        | none => rw [hn] at hx; cases hx
        | some y =>
          rw [hn] at hx
          cases hx
          have hy := hw y (List.mem_of_getElem? hn)
          have hil : i < ws.length := (List.getElem?_eq_some_iff.mp hn).1
          rw [List.all_eq_true] at hp
          obtain ⟨n1, n2⟩ := isNum_int hy.2 (hp y (List.mem_of_getElem? hn))
          refine ⟨rfl, _, rfl, _, _, rfl, n1, n2, _, hd, ?_, ?_, ?_⟩
          · rw [List.length_map, List.length_map, List.length_take, sizeLine_eq]
            omega
          · intro b o e
            rw [upd_ne (ne_of_none e hD)]
            exact k1 b o e
          · rw [upd_same, List.take_add_one, hn]
            simp only [List.map_append, Option.toList, List.map_cons, List.map_nil]
      · rintro H1 ⟨k1, g1⟩
        rw [List.length_map, List.take_length] at g1
        exact q1 hp H1 D (k2.trans (kpS k1)) g1
end

/-! ### notation: places, tasks, walks -/
section
open GxR NdefX PySem.Spec PyProof.Rows
variable {P : Program} {w : World} {K : PySem.W.Frag} {mg : Str → Option Value} {base : Heap}
/-- the numbers that a line writes behind these words -/
def numsIn (ls : List Str) (n : Nat) (hd : List Str) : Option (List Int) :=
  if ls.length < n then none else
    if (Txt.split (ls.getD (n - 1) Str.empty) (S [32])).take hd.length = hd ∧ ((Txt.split (ls.getD (n - 1) Str.empty) (S [32])).drop hd.length).all isNum = true then
      some (((Txt.split (ls.getD (n - 1) Str.empty) (S [32])).drop hd.length).map numV) else none
/-- what all lines keep -/
def LinesOk (ls : List Str) : Prop := ls.length ≤ 100000 ∧ ∀ z ∈ ls, z.length ≤ 900000 ∧ asc z
theorem note_raised {H : Hp} {CN fI : Addr} (U : NotTxt K mg CN fI) {k : Int} {E : XK} (q : RaisesN CN k H E) {H0 : Hp} (k0 : Kp H H0) : ∀ y, H0 y = none → ∃ a v, [V.ref y, .int k] = [.ref a, v] ∧ OexC K CN ∧ PySem.W.findIn K (.ref CN) "line" = some none ∧ (upd H0 y (exo y CN none)) a = some (exo a CN none) ∧
    ∀ dx, (upd H0 y (exo y CN none)) dx = none → dx ≠ a → V.non = .non ∧ ∃ d fs, (upd (upd (upd H0 y (exo y CN none)) dx (exd dx [("line", v)])) a (exo a CN (some dx))) y = some (exo y CN (some d)) ∧ (upd (upd (upd H0 y (exo y CN none)) dx (exd dx [("line", v)])) a (exo a CN (some dx))) d = some (exd d fs) ∧ H0 d = none ∧
      E (.ref CN) (some d) (upd (del (upd (upd (upd H0 y (exo y CN none)) dx (exd dx [("line", v)])) a (exo a CN (some dx))) y) d (.xd fs)) := fun y ny => by
  refine ⟨y, .int k, rfl, U.o, U.n, upd_same, fun dd hd hne => ⟨rfl, dd, [("line", .int k)], ?_⟩⟩
  obtain ⟨g1, g2, g3, g4⟩ := raised (f := "line") (v := .int k) ny hd hne
  exact ⟨g1, g2, g3, q _ dd (k0.trans (kpS g4)) upd_same⟩
def spIn (K : PySem.W.Frag) (T CN : Addr) : Sp := fun vs H Q E => ∃ (l h : Addr) (ls hd : List Str) (n : Nat), vs = [.ref l, .int n, .ref h] ∧ SqL K H l (ls.map V.str) ∧ SqL K H h (hd.map V.str) ∧ LinesOk ls ∧ 1 ≤ n ∧ n ≤ 1000000 ∧ hd.length ≤ 1000 ∧ (∀ x ∈ hd, asc x) ∧ TabG H T ∧
  (∀ ns, numsIn ls n hd = some ns → ∀ (H' : Hp) (r : Addr), Kp H H' → H' r = some (.lst (ns.map V.int)) → Q (.ref r) H') ∧ (numsIn ls n hd = none → RaisesN CN n H E)
theorem ok_in {f T0 CN fN fI : Addr} {fd fdN fdI : FuncData} (F : Fun K "_numbers_in" "_numbers_in" s__numbers_in f fd) (T : NoteTop mg) (U : NotTxt K mg CN fI) (GI : FnOk P w K mg base CX0 1 fI fdI ["self", "line"] (spXI K CN "line")) (bI : Binds K fdI ["self", "line"] [])
    (FNk : PySem.W.keepIn K (.ref fN) = true) (GN : FnOk P w K mg base (L2.CX P w) 4 fN fdN ["words", "number"] (spWNums K T0 CN)) (bN : Binds K fdN ["words", "number"] []) (gN : mg "_numbers_of" = some (.ref fN)) : FnOk P w K mg base (L2.CX P w) 5 f fd ["lines", "number", "head"] (spIn K T0 CN) := by
  refine F.okX sc__numbers_in (fun vs H Q E h => ?_) (fun cdv A outer s H vs Q E hr h => ?_)
  · obtain ⟨l, h, ls, hd, n, rfl, _⟩ := h
    rfl
  · obtain ⟨l, h, ls, hd, n, rfl, hl, hh, hls, hn1, hn2, hhd, hha, ht, q1, q2⟩ := h
    have nd := sc__numbers_in.nd
    have hz : 1000000 < sizeLine := by decide
    refine ⟨_, (pss_cons (ps_if (pt_cmpR op_gt (pv 1) (pe_callB call_len (by rfl) T.len (by decide +kernel) (pa_cons (pv 0) pa_nil)) (nomark _)) (pss_one (ps_raise rfl (takes_of rfl rfl rfl rfl) (pmk_oex U.o U.i U.y GI (by exact hr.mono (by decide)) bI .nil pass0 (by rfl) U.g (pa_cons (pv 1) pa_nil)))) pss_nil)
      (pss_cons (ps_set (i := 3) nd rfl (.inl rfl) (pe_split (pe_ix ix_list (pv 0) (pe_op op_sub (pv 1) pe_int) (fun _ _ => rfl)) pe_str))
      (pss_cons (ps_if (pt_cmpR (r := rNeD K) (op_neD (by exact hr.units)) (pe_slice sl_list (pv 3) po_none (po_some (pe_callB call_len (by rfl) T.len (by decide +kernel) (pa_cons (pv 2) pa_nil)))) (pv 2) (nomark _)) (pss_one (ps_raise rfl (takes_of rfl rfl rfl rfl) (pmk_oex U.o U.i U.y GI (by exact hr.mono (by decide)) bI .nil pass0 (by rfl) U.g (pa_cons (pv 1) pa_nil)))) pss_nil)
      (pss_one (ps_ret (pe_call GN (by exact hr.mono (by decide)) (by rfl) gN FNk bN .nil (passes_call (takes_of rfl rfl rfl rfl) fun _ _ _ _ h => h) (pa_cons (pe_slice sl_list (pv 3) (po_some (pe_callB call_len (by rfl) T.len (by decide +kernel) (pa_cons (pv 2) pa_nil))) po_none) (pa_cons (pv 1) pa_nil)))))))), ?_⟩
    refine ⟨_, rfl, _, rfl, _, _, rfl, .inl ⟨_, hl, rfl⟩, _, _, rfl, rfl, _, rfl, ?_⟩
    unfold numsIn at q1 q2
    refine ite2 (fun hc => ?_) (fun hc => ?_)
    · have hc' := of_decide_eq_true hc
      rw [List.length_map] at hc'
      rw [if_pos (show ls.length < n by omega)] at q2
      exact ⟨_, rfl, by show 1 ≤ 1000; decide, note_raised U (q2 rfl) (Kp.refl H)⟩
    have hle : ¬ ls.length < n := fun z => hc (decide_eq_true (by rw [List.length_map]; omega))
    rw [if_neg hle] at q1 q2
    obtain ⟨ln, hln⟩ : ∃ z, ls[n - 1]? = some z := ⟨_, List.getElem?_eq_getElem (by omega)⟩
    have hget : ls.getD (n - 1) Str.empty = ln := by
      rw [List.getD_eq_getElem?_getD, hln]
      rfl
    rw [hget] at q1 q2
    obtain ⟨hll, hla⟩ := hls.2 ln (List.mem_of_getElem? hln)
    -- words = lines[number - 1].split(" ")
    refine ⟨_, rfl, _, rfl, _, _, rfl, rfl, ?_⟩
    refine ⟨l, _, _, .str ln, rfl, rfl, hl, ?_, ⟨_, rfl⟩, _, _, rfl, rfl, rfl, ?_, fun m nm => ?_⟩
    · rw [show (n : Int) - 1 = ((n - 1 : Nat) : Int) by omega]
      exact atI_nat (by rw [List.getElem?_map, hln]; rfl)
    · omega
    obtain ⟨H1, e1, k1, g1⟩ := made (o := .lst ((Txt.split ln (S [32])).map V.str)) nm
    rw [sp_S, e1]
    generalize hws : Txt.split ln (S [32]) = ws at *
    have hw : ∀ z ∈ ws, z.length ≤ 900000 ∧ asc z := fun z hz2 => by
      rw [← hws] at hz2
      exact ⟨Nat.le_trans (part_short hz2) hll, asc_split (by decide) hla hz2⟩
    have hwl : ws.length ≤ 1000000 := by
      have := split_le ln (S [32])
      rw [hws] at this
      omega
    -- words[:len(head)] != head
    refine ⟨_, rfl, _, rfl, _, _, rfl, .inl ⟨_, k1.seq hh, rfl⟩, _, rfl, m, _, rfl, SqL.of g1, fun c nc => ?_⟩
    rw [List.length_map, cut_to, ← List.map_take]
    obtain ⟨H2, e2, k2, g2⟩ := made (o := .lst ((ws.take hd.length).map V.str)) nc
    rw [e2]
    have k12 := k1.trans k2
    refine ⟨_, rfl, dS (ws.take hd.length), dS hd, dp_S (SqL.of g2), dp_S (k12.seq hh), sh_dS (fun z hz2 => (hw z (List.mem_of_mem_take hz2)).2), sh_dS hha, _, rfl, ?_⟩
    rw [eqv_dS]
    by_cases he : ws.take hd.length = hd
    · rw [decide_eq_true he]
      refine iteF ?_
      refine ⟨_, rfl, _, rfl, _, _, rfl, .inl ⟨_, k12.seq hh, rfl⟩, _, rfl, m, _, rfl, SqL.of (k2 _ _ g1), fun c2 nc2 => ?_⟩
      rw [List.length_map, cut_from, ← List.map_drop]
      obtain ⟨H3, e3, k3, g3⟩ := made (o := .lst ((ws.drop hd.length).map V.str)) nc2
      rw [e3]
      have k13 := k12.trans k3
      refine ⟨_, rfl, c2, ws.drop hd.length, n, rfl, SqL.of g3, fun z hz2 => ?_, ?_, (kpS k13).tab _ ht, fun ha H4 r k4 g4 => ?_, fun ha H4 d k4 g4 => ?_⟩
      · obtain ⟨x, y⟩ := hw z (List.mem_of_mem_drop hz2)
        exact ⟨by omega, y⟩
      · rw [List.length_drop]
        omega
      · exact q1 _ (if_pos ⟨he, ha⟩) H4 r ((kpS k13).trans k4) g4
      · exact q2 (if_neg fun z => by rw [ha] at z; cases z.2) H4 d ((kpS k13).trans k4) g4
    · rw [decide_eq_false he]
      refine iteT ?_
      exact ⟨_, rfl, by show 1 ≤ 1000; decide, note_raised U (q2 (if_neg fun z => he z.1)) (kpS k12)⟩
end

/-! ### houses, written -/
section
open GxR NdefX PySem.Spec PyProof.Rows
variable {P : Program} {w : World} {K : PySem.W.Frag} {mg : Str → Option Value} {base : Heap}
def spRowL (K : PySem.W.Frag) : Sp := fun vs H Q _ => ∃ (hd : List Nat) (t : Addr) (ns : List Int), vs = [.str (S hd), .ref t] ∧ SqL K H t (ns.map V.int) ∧ (∀ n ∈ ns, 0 ≤ n ∧ n < 100000) ∧ hd.length ≤ 1000 ∧ ns.length ≤ 1000 ∧
  ∀ H', Same H H' → Q (.str (S (rowL hd ns))) H'
theorem ok_rowL {f : Addr} {fd : FuncData} (F : Fun K "_row" "_row" s__row f fd) (T : NoteTop mg) : FnOk P w K mg base CX0 1 f fd ["head", "numbers"] (spRowL K) := by
  refine F.ok sc__row (fun vs H Q E h => ?_) (fun cdv A outer s H vs Q E hr h => ?_)
  · obtain ⟨hd, t, ns, rfl, _⟩ := h
    rfl
  · obtain ⟨hd, t, ns, rfl, ht, hb, hl1, hl2, q⟩ := h
    have nd := sc__row.nd
    refine ⟨_, (pss_one (ps_ret (pe_join pe_str (pe_op op_cat (pe_lst (pa_cons (pv 0) pa_nil)) (pe_lc (own := [("number", 2)]) (g := gName 2) (tt := tYes) rfl nd (pi_list (pv 1)) (blkOk_by (N := ["head", "numbers", "number"]) (sc := defScope s__row) (by decide +kernel)) (fun _ _ _ _ _ => pg_name (i := 2) nd rfl (Or.inl rfl)) (fun _ _ _ _ _ => pts_nil) (fun _ _ _ _ _ => (pe_callTy call_str_int (by rfl) T.str (by decide +kernel) (pa_cons (pv 2) pa_nil)))))))), ?_⟩
    refine ⟨⟨_, rfl⟩, _, rfl, (by show 1 ≤ sizeLine; decide), fun m nm => ?_⟩
    obtain ⟨H1, e1, k1, g1⟩ := made (o := .lst [.str (S hd)]) nm
    rw [e1]
    refine ⟨_, rfl, t, rfl, ⟨_, k1.seq ht⟩, fun D hD => ?_⟩
    have hz : 100000 < sizeLine := by decide
    refine lc_list (K := K) (a := t) (xs := ns.map V.int) (fun i H' => Same H1 H' ∧ H' D = some (.lst ((((ns.take i).map dg).map S).map V.str))) ?_ ?_ ?_ ?_
    · exact ⟨same_upd hD, upd_same⟩
    · rintro i H' _ ⟨k, _⟩
      exact k.seq (k1.seq ht)
    · rintro i x H' hx ⟨k, hd'⟩
      rw [List.getElem?_map] at hx
      cases hn : ns[i]? with
      | none => rw [hn] at hx; cases hx
      | some n =>
        rw [hn] at hx
        cases hx
        obtain ⟨b0, b1⟩ := hb n (List.mem_of_getElem? hn)
        have hil : i < ns.length := (List.getElem?_eq_some_iff.mp hn).1
        refine ⟨rfl, _, rfl, _, rfl, small_log b0 b1, _, hd', ?_, ?_, ?_⟩
        · rw [List.length_map, List.length_map, List.length_map, List.length_take]
          omega
        · intro b o e
          rw [upd_ne (ne_of_none e hD)]
          exact k b o e
        · rw [upd_same, show (toString n : Str) = S (dg n) from dg_str b0, List.take_add_one, hn]
          simp only [List.map_append, Option.toList, List.map_cons, List.map_nil]
    · rintro H2 ⟨k2, g2⟩
      rw [List.length_map, List.take_length] at g2
      refine ⟨_, _, _, _, rfl, rfl, k2 _ _ g1, g2, ?_, fun p np => ?_⟩
      · rw [List.length_map, List.length_map, List.length_map]
        show 1 + ns.length ≤ sizeLine
        omega
      obtain ⟨H3, e3, k3, g3⟩ := made (o := .lst ([.str (S hd)] ++ (((ns.map dg).map S).map V.str))) np
      rw [e3]
      refine ⟨_, p, (hd :: ns.map dg).map S, rfl, rfl, .inl (SqL.of g3), ?_, ?_⟩
      · have hs : ∀ y ∈ hd :: ns.map dg, y.length ≤ 1000 := fun y hy => by
          rcases List.mem_cons.mp hy with rfl | hy
          · exact hl1
          · obtain ⟨n, hn, rfl⟩ := List.mem_map.mp hy
            have := dg_len (n := n) (k := 5) (by decide) (by have := (hb n hn).2; omega)
            omega
        have z := sum_len hs
        have e : (hd :: ns.map dg).length = ns.length + 1 := by rw [List.length_cons, List.length_map]
        rw [List.length_map, e, show (" " : Str).length = 1 from rfl]
        rw [e] at z
        omega
      · rw [sp_S, join_S]
        exact q H3 ((k1.trans k2).trans k3)
def wdL (x : Str) : List Nat := if x = "up" then [117, 112] else [111, 118, 101, 114]
/-- "closed " -/
def clW : List Nat := [99, 108, 111, 115, 101, 100]
def lenW : List Nat := [108, 101, 110, 103, 116, 104, 115]
def gapW : List Nat := [103, 97, 112, 115]
/-- the codes of a closed link's line -/
def clL (c : Str × Int × Int) : List Nat := rowL (clW ++ [32] ++ wdL c.1) [c.2.1, c.2.2]
def rowsH (ls gs : List Int) (cs : List (Str × Int × Int)) : List (List Nat) := rowL lenW ls :: rowL gapW gs :: cs.map clL
def houseL (ls gs : List Int) (cs : List (Str × Int × Int)) : List Nat := TL.joinL [10] (rowsH ls gs cs)
/-- links in ascending order -/
def sortC (cs : List (Str × Int × Int)) : List (Str × Int × Int) := cs.mergeSort fun a b => leK (lk a.1 a.2.1 a.2.2) (lk b.1 b.2.1 b.2.2)
theorem kOf_sortC (cs : List (Str × Int × Int)) : kOf (sortC cs) = sortK (kOf cs) := List.map_mergeSort fun a _ b _ => rfl
theorem sortC_perm (cs : List (Str × Int × Int)) : (sortC cs).Perm cs := List.mergeSort_perm _ _
/-- what a link of a house keeps -/
def okC (c : Str × Int × Int) : Prop := (c.1 = "up" ∨ c.1 = "over") ∧ 0 ≤ c.2.1 ∧ c.2.1 < 1000 ∧ 0 ≤ c.2.2 ∧ c.2.2 < 1000
theorem valid_lens {ls gs : List Int} {cs : List (Str × Int × Int)} (v : Valid ls gs cs) : (∀ n ∈ ls, 1 ≤ n ∧ n ≤ 40) ∧ ∀ n ∈ gs, 1 ≤ n ∧ n ≤ 40 := by
  refine ⟨v.lens, fun x hx => ?_⟩
  have z := List.all_eq_true.mp v.2.1.2 x hx
  unfold longN at z
  rw [Bool.and_eq_true, decide_eq_true_eq, decide_eq_true_eq] at z
  exact z
theorem valid_okC {ls gs : List Int} {cs : List (Str × Int × Int)} (v : Valid ls gs cs) {c : Str × Int × Int} (hc : c ∈ cs) : okC c := by
  have e := v.2.2.2.2 c hc
  have hL := v.lens
  have h2 := v.1.1.2
  have hg := v.2.1.1
  have t80 := hL.top h2
  obtain ⟨x, a, h⟩ := c
  unfold isLk at e
  by_cases hx : x = "up"
  · rw [if_pos hx] at e
    simp only [Bool.and_eq_true, decide_eq_true_eq] at e
    obtain ⟨⟨e1, e2⟩, e3, e4⟩ := e
    exact ⟨.inl hx, e1, by show a < 1000; omega, e3, by show h < 1000; omega⟩
  · rw [if_neg hx] at e
    simp only [Bool.and_eq_true, decide_eq_true_eq] at e
    obtain ⟨e0, ⟨e1, e2⟩, e3⟩ := e
    have c12 := hL.cross e3
    exact ⟨.inr e0, e1, by show a < 1000; omega, c12.1, by show h < 1000; omega⟩
theorem cl_S {x : Str} (h : x = "up" ∨ x = "over") : ("closed " : Str) ++ x = S (clW ++ [32] ++ wdL x) := by
  rcases h with rfl | rfl <;> decide +kernel
theorem rowL_len {hd : List Nat} {ns : List Int} (h1 : hd.length ≤ 20) (h2 : ∀ n ∈ ns, 0 ≤ n ∧ n < 100000) (h3 : ns.length ≤ 20) : (rowL hd ns).length ≤ 1000 := by
  unfold rowL
  have z := joinL_len (sep := [32]) (m := 20) (by decide) (ps := hd :: ns.map dg) fun y hy => by
    rcases List.mem_cons.mp hy with rfl | hy
    · exact h1
    · obtain ⟨n, hn, rfl⟩ := List.mem_map.mp hy
      have := dg_len (n := n) (k := 5) (by decide) (by have := (h2 n hn).2; omega)
      omega
  rw [List.length_cons, List.length_map] at z
  omega
theorem okC.nums {c : Str × Int × Int} (h : okC c) : ∀ n ∈ [c.2.1, c.2.2], 0 ≤ n ∧ n < 100000 := fun n hn => by
  obtain ⟨_, a, b, d, e⟩ := h
  rcases List.mem_cons.mp hn with rfl | hn
  · omega
  · rw [List.mem_singleton] at hn
    omega
theorem wdL_len (x : Str) : (wdL x).length ≤ 4 := by
  unfold wdL
  split <;> decide
theorem head_len (x : Str) : (clW ++ [32] ++ wdL x).length ≤ 20 := by
  have := wdL_len x
  rw [List.length_append]
  show 7 + (wdL x).length ≤ 20
  omega
theorem rowsH_len {ls gs : List Int} {cs : List (Str × Int × Int)} (h1 : ∀ n ∈ ls, 1 ≤ n ∧ n ≤ 40) (h2 : ∀ n ∈ gs, 1 ≤ n ∧ n ≤ 40) (l1 : ls.length ≤ 2) (l2 : gs.length ≤ 11) (h3 : ∀ c ∈ cs, okC c) : ∀ y ∈ rowsH ls gs cs, y.length ≤ 1000 := fun y hy => by
  rcases List.mem_cons.mp hy with rfl | hy
  · exact rowL_len (by decide) (fun n hn => by have := h1 n hn; omega) (by omega)
  · rcases List.mem_cons.mp hy with rfl | hy
    · exact rowL_len (by decide) (fun n hn => by have := h2 n hn; omega) (by omega)
    · obtain ⟨c, hc, rfl⟩ := List.mem_map.mp hy
      exact rowL_len (head_len _) (h3 c hc).nums (by show 2 ≤ 20; decide)
theorem rowsH_sum {ls gs : List Int} {cs : List (Str × Int × Int)} (h1 : ∀ n ∈ ls, 1 ≤ n ∧ n ≤ 40) (h2 : ∀ n ∈ gs, 1 ≤ n ∧ n ≤ 40) (l1 : ls.length ≤ 2) (l2 : gs.length ≤ 11) (h3 : ∀ c ∈ cs, okC c) (l3 : cs.length ≤ 200) : (((rowsH ls gs cs).map S).map (·.length)).sum + ((rowsH ls gs cs).map S).length * ("\n" : Str).length ≤ 16777216 := by
  have z := sum_len (rowsH_len h1 h2 l1 l2 h3)
  have e : (rowsH ls gs cs).length = cs.length + 2 := by
    unfold rowsH
    rw [List.length_cons, List.length_cons, List.length_map]
  rw [List.length_map, e, show ("\n" : Str).length = 1 from rfl]
  rw [e] at z
  omega
theorem lens_S : ("lengths" : Str) = S lenW := by decide +kernel
theorem gaps_S : ("gaps" : Str) = S gapW := by decide +kernel
def tCl : TE := fun σ H Q => tJs [tC (.str "closed "), tFmt (tVar 2)] Str.empty σ H fun out H1 => Q (.str out) H1
def spFH (C : Addr) : Sp := fun vs H Q _ => ∃ (p : Addr) (ls gs : List Int) (cs : List (Str × Int × Int)), vs = [.ref p] ∧ HouseAt C H p ls gs cs ∧ ∀ H', Same H H' → Q (.str (S (houseL ls gs (sortC cs)))) H'
/-- all but the one at L stays -/
def Bt (L : Addr) (H H' : Hp) : Prop := ∀ b o, H b = some o → b ≠ L → H' b = some o
theorem Bt.refl (L : Addr) (H : Hp) : Bt L H H := fun _ _ e _ => e
theorem Bt.same {L : Addr} {H H1 H2 : Hp} (a : Bt L H H1) (b : Same H1 H2) : Bt L H H2 := fun c o e n => b c o (a c o e n)
theorem Bt.put {L : Addr} {H H1 : Hp} {u : HO} (a : Bt L H H1) : Bt L H (upd H1 L u) := fun c o e n => by
  rw [upd_ne n]
  exact a c o e n
theorem ok_fh {f fR C : Addr} {fd fdR : FuncData} (F : Fun K "format_house" "format_house" s_format_house f fd) (T : HouseTxt K mg C) (FRk : PySem.W.keepIn K (.ref fR) = true) (GR : FnOk P w K mg base CX0 1 fR fdR ["head", "numbers"] (spRowL K)) (bR : Binds K fdR ["head", "numbers"] []) (gR : mg "_row" = some (.ref fR))
    (pL : PropD P w K mg base C 1 "lengths" (spNums C fun ls _ => ls)) (pG : PropD P w K mg base C 1 "gaps" (spNums C fun _ gs => gs)) (pC : PropD P w K mg base C 2 "closed" (spClosed C)) : FnOk P w K mg base CX0 4 f fd ["house"] (spFH C) := by
  refine F.ok sc_format_house (fun vs H Q E h => ?_) (fun cdv A outer s H vs Q E hr h => ?_)
  · obtain ⟨p, ls, gs, cs, rfl, _⟩ := h
    rfl
  · obtain ⟨p, ls, gs, cs, rfl, hH, q⟩ := h
    obtain ⟨va, dx, r1, r2, r3, r4, h1, _⟩ := id hH
    have nd := sc_format_house.nd
    have hline : 1000000 < sizeLine := by decide
    obtain ⟨b1, b2⟩ := valid_lens va
    have l1 := va.1.1.2
    have l2 := va.2.1.1
    have l3 := va.2.2.1
    refine ⟨_, (pss_cons (ps_set (i := 1) nd rfl (.inl rfl) (pe_lst (pa_cons (pe_call GR (by exact hr.mono (by decide)) (by rfl) gR FRk bR .nil pass0 (pa_cons pe_str (pa_cons (pe_prop (pv 0) T.cl pL.h pL.G (by exact hr.mono (by decide)) pL.b .nil pass0 rfl) pa_nil))) (pa_cons (pe_call GR (by exact hr.mono (by decide)) (by rfl) gR FRk bR .nil pass0 (pa_cons pe_str (pa_cons (pe_prop (pv 0) T.cl pG.h pG.G (by exact hr.mono (by decide)) pG.b .nil pass0 rfl) pa_nil))) pa_nil))))
      (pss_cons (ps_for PassesOwn.never rfl (pi_list (pe_prop (pv 0) T.cl pC.h pC.G (by exact hr.mono (by decide)) pC.b .nil pass0 rfl)) (pg_tup rfl (pgs_cons (pg_name (i := 2) nd rfl (.inl rfl)) (pgs_cons (pg_name (i := 3) nd rfl (.inl rfl)) (pgs_cons (pg_name (i := 4) nd rfl (.inl rfl)) pgs_nil)))) (pss_one (ps_expr (pe_bm PySem.F.plainAttrs_list PySem.F.slot_list_append PySem.F.type_list_append mt_append (pv 1) (pa_cons (pe_call GR (by exact hr.mono (by decide)) (by rfl) gR FRk bR .nil pass0 (pa_cons (pe_joined (PJ.cons pe_str (PJ.cons (pe_fmt (pv 2)) PJ.nil))) (pa_cons (pe_lst (pa_cons (pv 3) (pa_cons (pv 4) pa_nil))) pa_nil))) pa_nil)))))
      (pss_one (ps_ret (pe_join pe_str (pv 1)))))), ?_⟩
    refine ⟨_, rfl, p, dx, _, rfl, h1, p, ls, gs, cs, rfl, hH, fun m1 n1 => ?_⟩
    obtain ⟨H1, e1, k1, g1⟩ := made (o := .lst (ls.map V.int)) n1
    rw [e1]
    refine ⟨lenW, m1, ls, (by rw [lens_S]; rfl), SqL.of g1, (fun n hn => by have := b1 n hn; omega), (by decide), (by omega), fun H2 k2 => ?_⟩
    have k02 := k1.trans k2
    refine ⟨_, rfl, p, dx, _, rfl, k02 _ _ h1, p, ls, gs, cs, rfl, hH.kp (kpS k02), fun m2 n2 => ?_⟩
    obtain ⟨H3, e3, k3, g3⟩ := made (o := .lst (gs.map V.int)) n2
    rw [e3]
    refine ⟨gapW, m2, gs, (by rw [gaps_S]; rfl), SqL.of g3, (fun n hn => by have := b2 n hn; omega), (by decide), (by omega), fun H4 k4 => ?_⟩
    have k04 := (k02.trans k3).trans k4
    refine ⟨(by show 2 ≤ sizeLine; decide), fun L nL => ?_⟩
    have kL : Same H4 (upd H4 L (.lst [.str (S (rowL lenW ls)), .str (S (rowL gapW gs))])) := same_upd nL
    have k05 := k04.trans kL
    have gL5 : (upd H4 L (.lst [.str (S (rowL lenW ls)), .str (S (rowL gapW gs))])) L = some (.lst [.str (S (rowL lenW ls)), .str (S (rowL gapW gs))]) := upd_same
    generalize upd H4 L (.lst [.str (S (rowL lenW ls)), .str (S (rowL gapW gs))]) = H5 at *
    refine ⟨_, rfl, p, dx, _, rfl, k05 _ _ h1, p, ls, gs, cs, rfl, hH.kp (kpS k05), fun r ys nr hys => ?_⟩
    obtain ⟨H6, e6, k6, g6⟩ := made (o := .lst ys) nr
    rw [e6]
    rw [← kOf_sortC] at hys
    have hysl : ys.length = (sortC cs).length := hys.len.trans (List.length_map _)
    have gL6 := k6 _ _ gL5
    have scl : (sortC cs).length = cs.length := (sortC_perm cs).length_eq
    have oks : ∀ c ∈ sortC cs, okC c := fun c hc => valid_okC va ((sortC_perm cs).mem_iff.mp hc)
    refine ⟨r, rfl, ⟨_, SqL.of g6⟩, ?_⟩
    have rL : r ≠ L := fun z => by
      rw [z, gL5] at nr
      cases nr
    refine for_list (K := K) (a := r) (xs := ys) (fun i σ H' => ∃ (v2 v3 v4 : Option V), σ = [some (.ref p), some (.ref L), v2, v3, v4] ∧ Bt L H6 H' ∧ H' L = some (.lst ((rowsH ls gs ((sortC cs).take i)).map fun y => V.str (S y)))) ?_ ?_ ?_ ?_
    · exact ⟨none, none, none, rfl, Bt.refl _ _, gL6⟩
    · rintro i σ H' _ ⟨_, _, _, _, bt, hl⟩
      exact SqL.of (bt _ _ g6 rL)
    · rintro i x σ H' hx ⟨v2, v3, v4, rfl, bt, hl⟩
      obtain ⟨kk, hkk, t, rfl, ht0⟩ := (hys.same k6).at hx
      unfold kOf at hkk
      rw [List.getElem?_map] at hkk
      cases hc : (sortC cs)[i]? with
      | none => rw [hc] at hkk; cases hkk
      | some c =>
        rw [hc] at hkk
        cases hkk
        have ht := bt _ _ ht0 fun z => by
          rw [z, gL6] at ht0
          cases ht0
        have okc := oks c (List.mem_of_getElem? hc)
        have il : i < (sortC cs).length := (List.getElem?_eq_some_iff.mp hc).1
        have tk : (sortC cs).take (i + 1) = (sortC cs).take i ++ [c] := by
          rw [List.take_add_one, hc]
          rfl
        have wlen : c.1.length ≤ 4 := by
          rcases okc.1 with e | e <;> rw [e] <;> decide
        have hw := cl_S okc.1
        refine ⟨t, _, rfl, SqT.of ht, rfl, _, _, rfl, _, _, rfl, _, _, rfl, rfl, ?_⟩
        refine ⟨_, rfl, .inl ⟨rfl, _, SqL.of hl⟩, ?_⟩
        have ew : Str.empty ++ ("closed " : Str) ++ c.1 = S (clW ++ [32] ++ wdL c.1) := by
          rw [← hw]
          rcases okc.1 with e | e <;> rw [e] <;> decide +kernel
        have hl20 := head_len c.1
        refine ⟨_, rfl, by decide, _, rfl, .inl ⟨c.1, rfl, by omega, c.1, rfl, ?_, ?_⟩⟩
        · rw [ew, S_len]
          omega
        refine ⟨_, rfl, _, rfl, (by show 2 ≤ sizeLine; decide), fun m nm => ?_⟩
        obtain ⟨H7, e7, k7, g7⟩ := made (o := .lst ([c.2.1, c.2.2].map V.int)) nm
        have e7' : upd H' m (.lst [kV (.inl c.2.1), kV (.inl c.2.2)]) = H7 := e7
        rw [e7']
        refine ⟨clW ++ [32] ++ wdL c.1, m, [c.2.1, c.2.2], (by rw [ew]; rfl), SqL.of g7, okc.nums, by omega, (by show 2 ≤ 1000; decide), fun H8 k8 => ?_⟩
        have hl8 := k8 _ _ (k7 _ _ hl)
        refine ⟨L, _, _, rfl, rfl, hl8, ?_, ?_⟩
        · rw [List.length_map]
          unfold rowsH
          rw [List.length_cons, List.length_cons, List.length_map, List.length_take]
          omega
        refine ⟨_, _, _, rfl, ((bt.same k7).same k8).put, ?_⟩
        rw [upd_same, tk]
        unfold rowsH
        rw [List.map_append, List.map_cons, List.map_cons, List.map_cons, List.map_cons, List.map_append]
        rfl
    · rintro σ H' ⟨v2, v3, v4, rfl, bt, hl⟩
      have kF : Same H H' := fun b o e => bt _ _ (k6 _ _ (k05 b o e)) fun z => by
        have z2 := k04 b o e
        rw [z, nL] at z2
        cases z2
      rw [show ys.length = (sortC cs).length from hysl, List.take_length] at hl
      refine ⟨⟨_, rfl⟩, _, rfl, _, L, (rowsH ls gs (sortC cs)).map S, rfl, rfl, .inl (SqL.of (by rw [List.map_map]; exact hl)), rowsH_sum b1 b2 l1 l2 oks (by omega), ?_⟩
      rw [nl_S, join_S]
      exact q H' kF
end

/-! ### a link more, the same house -/
section
open GxR NdefX PySem.Spec PyProof.Rows
variable {P : Program} {w : World} {K : PySem.W.Frag} {mg : Str → Option Value} {base : Heap}
/-- what is needed to make houses -/
structure MakeH (P : Program) (w : World) (K : PySem.W.Frag) (mg : Str → Option Value) (base : Heap) where
  C : Addr
  CI : Addr
  TL : Addr
  TI : Addr
  fI : Addr
  fdI : FuncData
  M : Mk K C fI
  GI : FnOk P w K mg base (L2.CX P w) 5 fI fdI ["self", "lengths", "gaps", "closed"] (spHouse K C CI TL TI)
  bI : Binds K fdI ["self", "lengths", "gaps", "closed"] []
  mgC : mg "House" = some (.ref C)
def spWC (C TL TI : Addr) : Sp := fun vs H Q _ => ∃ (p : Addr) (v : V) (ls gs : List Int) (cs : List (Str × Int × Int)) (c : Str × Int × Int), vs = [.ref p, v] ∧ HouseAt C H p ls gs cs ∧ Kr H v (lk c.1 c.2.1 c.2.2) ∧ isLk ls gs c.1 c.2.1 c.2.2 = true ∧ lk c.1 c.2.1 c.2.2 ∉ kOf cs ∧ cs.length < 200 ∧ TabG H TL ∧ TabG H TI ∧
  ∀ (H' : Hp) (r : Addr), Kp H H' → HouseAt C H' r ls gs (sortC cs ++ [c]) → Q (.ref r) H'
theorem kOf_snoc1 (cs : List (Str × Int × Int)) (c : Str × Int × Int) : kOf (cs ++ [c]) = kOf cs ++ [lk c.1 c.2.1 c.2.2] := by
  unfold kOf
  rw [List.map_append]
  rfl
theorem valid_more {ls gs : List Int} {cs : List (Str × Int × Int)} {c : Str × Int × Int} (va : Valid ls gs cs) (h1 : isLk ls gs c.1 c.2.1 c.2.2 = true) (h2 : lk c.1 c.2.1 c.2.2 ∉ kOf cs) (h3 : cs.length < 200) : Valid ls gs (sortC cs ++ [c]) := by
  obtain ⟨v1, v2, v3, v4, v5⟩ := va
  refine ⟨v1, v2, ?_, ?_, fun x hx => ?_⟩
  · rw [List.length_append, (sortC_perm cs).length_eq]
    show cs.length + 1 ≤ 200
    omega
  · rw [kOf_snoc1, kOf_sortC]
    refine List.nodup_append.mpr ⟨(sortK_perm _).nodup_iff.mpr v4, by simp, fun y hy y' hy' e => h2 ?_⟩
    rw [List.mem_singleton.mp hy'] at e
    rw [← e]
    exact (sortK_perm _).mem_iff.mp hy
  · rcases List.mem_append.mp hx with z | z
    · exact v5 x ((sortC_perm cs).mem_iff.mp z)
    · rw [List.mem_singleton.mp z]
      exact h1
theorem ok_wc {f fL fC CL CT : Addr} {fd fdL fdC : FuncData} (F : Fun K "with_closed" "House.with_closed" s_House_with_closed f fd) (Y : HouseTop mg) (Z : MakeH P w K mg base) (T : HouseTxt K mg Z.C) (U : ErrTxt K mg CL "InvalidLink") (U2 : ErrTxt K mg CT "TooLarge")
    (GL : FnOk P w K mg base CX0 1 fL fdL ["self", "link"] (spLink Z.C)) (bL : Binds K fdL ["self", "link"] []) (mL : Meth K Z.C "is_link" fL) (GC : FnOk P w K mg base CX0 1 fC fdC ["self", "link"] (spClosedQ Z.C)) (bC : Binds K fdC ["self", "link"] []) (mC : Meth K Z.C "is_closed" fC)
    (pC : PropD P w K mg base Z.C 2 "closed" (spClosed Z.C)) : FnOk P w K mg base (L2.CX P w) 7 f fd ["self", "link"] (spWC Z.C Z.TL Z.TI) := by
  refine F.okX sc_House_with_closed (fun vs H Q E h => ?_) (fun cdv A outer s H vs Q E hr h => ?_)
  · obtain ⟨p, v, ls, gs, cs, c, rfl, _⟩ := h
    rfl
  · obtain ⟨p, v, ls, gs, cs, c, rfl, hH, hv, hlk, hnot, h200, tL, tI, q⟩ := h
    obtain ⟨va, dx, r1, r2, r3, r4, h1, h2, h3, h4, h5⟩ := id hH
    have nd := sc_House_with_closed.nd
    obtain ⟨_, hClo⟩ := Y.mostClosed
    have l1 := va.1.1.2
    have l2 := va.2.1.1
    refine ⟨_, (pss_cons (ps_if (PW.pt (pw_or (pt_not (pt_val (pe_meth (pv 0) T.cl mL GL (by exact hr.mono (by decide)) bL .nil pass0 (pa_cons (pv 1) pa_nil)))) (pw_or1 (pt_val (pe_meth (pv 0) T.cl mC GC (by exact hr.mono (by decide)) bC .nil pass0 (pa_cons (pv 1) pa_nil)))))) (pss_one (ps_raise rfl (takes_of rfl rfl rfl rfl) (pmk_own PySem.F.excBase_ValueError U.xI U.gI U.kI (raises_own U.bI U.tI) rfl))) pss_nil)
      (pss_cons (ps_if (pt_cmpR op_ge (pe_callB call_len_dT (by rfl) Y.len (by decide +kernel) (pa_cons (pe_fld (pv 0) rfl) pa_nil)) (pe_glob (v := .int 200) rfl hClo ⟨_, rfl⟩) (nomark _)) (pss_one (ps_raise rfl (takes_of rfl rfl rfl rfl) (pmk_own PySem.F.excBase_ValueError U2.xI U2.gI U2.kI (raises_own U2.bI U2.tI) rfl))) pss_nil)
      (pss_one (ps_ret (pe_make Z.M Z.GI (by exact hr.mono (by decide)) (by rfl) Z.mgC Z.bI .nil (passes_call (takes_of rfl rfl rfl rfl) fun _ _ _ _ h => h) (pa_cons (pe_fld (pv 0) rfl) (pa_cons (pe_fld (pv 0) rfl) (pa_cons (pe_op op_cat (pe_prop (pv 0) T.cl pC.h pC.G (by exact hr.mono (by decide)) pC.b .nil pass0 rfl) (pe_lst (pa_cons (pv 1) pa_nil))) pa_nil)))))))), ?_⟩
    refine ⟨_, rfl, p, dx, _, rfl, h1, hf_no _ _ _ _ _ (by decide +kernel) (by decide +kernel) (by decide +kernel) (by decide +kernel) (by decide +kernel), _, rfl, p, v, ls, gs, c.1, c.2.1, c.2.2, rfl, hH.part, hv, _, rfl, ?_⟩
    rw [hlk]
    refine iteF ?_
    refine ⟨_, rfl, p, dx, _, rfl, h1, hf_no _ _ _ _ _ (by decide +kernel) (by decide +kernel) (by decide +kernel) (by decide +kernel) (by decide +kernel), _, rfl, p, v, ls, gs, cs, _, rfl, hH, hv, _, rfl, ?_⟩
    rw [decide_eq_false hnot]
    refine iteF ?_
    refine ⟨_, rfl, p, Z.C, dx, _, _, rfl, h1, T.cl, T.nC, hf_closed _ _ _ _ _, r4, _, rfl, h5, ?_⟩
    rw [List.length_map, show (kOf cs).length = cs.length from List.length_map _]
    refine ⟨_, _, rfl, rfl, _, rfl, ?_⟩
    rw [decide_eq_false (by omega)]
    refine iteF ?_
    refine ⟨_, rfl, p, Z.C, dx, _, _, rfl, h1, T.cl, T.nL, hf_lengths _ _ _ _ _, ?_⟩
    refine ⟨_, rfl, p, Z.C, dx, _, _, rfl, h1, T.cl, T.nG, hf_gaps _ _ _ _ _, ?_⟩
    refine ⟨_, rfl, p, dx, _, rfl, h1, p, ls, gs, cs, rfl, hH, fun m1 ys n1 hys => ?_⟩
    obtain ⟨H1, e1, k1, g1⟩ := made (o := .lst ys) n1
    rw [e1]
    refine ⟨_, rfl, (by show 1 ≤ sizeLine; decide), fun m2 n2 => ?_⟩
    obtain ⟨H2, e2, k2, g2⟩ := made (o := .lst [v]) n2
    rw [e2]
    rw [← kOf_sortC] at hys
    have scl : (sortC cs).length = cs.length := (sortC_perm cs).length_eq
    have hysl : ys.length = (sortC cs).length := hys.len.trans (List.length_map _)
    have hline : 1000000 < sizeLine := by decide
    refine ⟨m1, m2, ys, [v], rfl, rfl, k2 _ _ g1, g2, (by show ys.length + 1 ≤ sizeLine; omega), fun m3 n3 => ?_⟩
    obtain ⟨H3, e3, k3, g3⟩ := made (o := .lst (ys ++ [v])) n3
    rw [e3]
    have k03 := (k1.trans k2).trans k3
    intro x dx2 nx ndx ne
    have kM : Same H3 (upd (upd H3 dx2 (.own x)) x (.ins Z.C dx2 [])) := fun b z e => by
      rw [upd_ne (ne_of_none e nx), upd_ne (ne_of_none e ndx)]
      exact e
    have kA := k03.trans kM
    have hk3 : Krs H3 (ys ++ [v]) (kOf (sortC cs ++ [c])) := by
      rw [kOf_snoc1]
      exact (hys.same k03).snoc (hv.same k03)
    have vm := valid_more va hlk hnot h200
    refine ⟨x, dx2, r1, r2, m3, ls, gs, _, sortC cs ++ [c], rfl, upd_same, SqL.of (kA _ _ h2), SqL.of (kA _ _ h3), SqL.of (kM _ _ g3), hk3.same kM, by omega, by omega, by have := vm.2.2.1; omega, (kpS kA).tab _ tL, (kpS kA).tab _ tI, fun _ H4 hH4 k0 _ => ⟨rfl, ?_⟩, fun nv => absurd vm nv⟩
    exact q H4 x ((kpS k03).trans (mkKp nx ndx k0)) hH4
def spSameH (C : Addr) : Sp := fun vs H Q _ => ∃ (p r : Addr) (ls gs : List Int) (cs cs' : List (Str × Int × Int)), vs = [.ref p, .ref r] ∧ HouseAt C H p ls gs cs ∧ HouseAt C H r ls gs cs' ∧ sortK (kOf cs) = sortK (kOf cs') ∧ ∀ H', Same H H' → Q (.bl true) H'
def t3 (ls gs : List Int) (ks : List Tk) : PyData := .tuple [dN ls, dN gs, dKs ks]
theorem eqv_t3 (ls gs : List Int) (ks : List Tk) : PyData.eqv (t3 ls gs ks) (t3 ls gs ks) = true := by
  show PyData.eqvAll [dN ls, dN gs, dKs ks] [dN ls, dN gs, dKs ks] = true
  simp only [PyData.eqvAll, eqv_dN, eqv_dKs, decide_true, Bool.and_true]
theorem sh_t3 {ls gs : List Int} {ks : List Tk} (h : ∀ k ∈ ks, okk k = true) : SeqAt.shaped (t3 ls gs ks) = true := sh_d3 h
theorem ok_sameH {f C : Addr} {fd : FuncData} (F : Fun K "same_as" "House.same_as" s_House_same_as f fd) (T : HouseTxt K mg C) (pL : PropD P w K mg base C 1 "lengths" (spNums C fun ls _ => ls)) (pG : PropD P w K mg base C 1 "gaps" (spNums C fun _ gs => gs)) (pC : PropD P w K mg base C 2 "closed" (spClosed C)) :
    FnOk P w K mg base CX0 4 f fd ["self", "other"] (spSameH C) := by
  refine F.ok sc_House_same_as (fun vs H Q E h => ?_) (fun cdv A outer s H vs Q E hr h => ?_)
  · obtain ⟨p, r, ls, gs, cs, cs', rfl, _⟩ := h
    rfl
  · obtain ⟨p, r, ls, gs, cs, cs', rfl, hH, hR, hk, q⟩ := h
    obtain ⟨va, dx, _, _, _, _, h1, _⟩ := id hH
    obtain ⟨va', dx', _, _, _, _, h1', _⟩ := id hR
    have nd := sc_House_same_as.nd
    refine ⟨_, (pss_one (ps_ret (pe_cmpR (op_eqD (by exact hr.units)) (pe_tup (pa_cons (pe_prop (pv 0) T.cl pL.h pL.G (by exact hr.mono (by decide)) pL.b .nil pass0 rfl) (pa_cons (pe_prop (pv 0) T.cl pG.h pG.G (by exact hr.mono (by decide)) pG.b .nil pass0 rfl) (pa_cons (pe_prop (pv 0) T.cl pC.h pC.G (by exact hr.mono (by decide)) pC.b .nil pass0 rfl) pa_nil)))) (pe_tup (pa_cons (pe_prop (pv 1) T.cl pL.h pL.G (by exact hr.mono (by decide)) pL.b .nil pass0 rfl) (pa_cons (pe_prop (pv 1) T.cl pG.h pG.G (by exact hr.mono (by decide)) pG.b .nil pass0 rfl) (pa_cons (pe_prop (pv 1) T.cl pC.h pC.G (by exact hr.mono (by decide)) pC.b .nil pass0 rfl) pa_nil)))) (nomark _)))), ?_⟩
    refine ⟨_, rfl, p, dx, _, rfl, h1, p, ls, gs, cs, rfl, hH, fun m1 n1 => ?_⟩
    obtain ⟨H1, e1, k1, g1⟩ := made (o := .lst (ls.map V.int)) n1
    rw [e1]
    refine ⟨_, rfl, p, dx, _, rfl, k1 _ _ h1, p, ls, gs, cs, rfl, hH.kp (kpS k1), fun m2 n2 => ?_⟩
    obtain ⟨H2, e2, k2, g2⟩ := made (o := .lst (gs.map V.int)) n2
    rw [e2]
    have k02 := k1.trans k2
    refine ⟨_, rfl, p, dx, _, rfl, k02 _ _ h1, p, ls, gs, cs, rfl, hH.kp (kpS k02), fun m3 ys n3 hys => ?_⟩
    obtain ⟨H3, e3, k3, g3⟩ := made (o := .lst ys) n3
    rw [e3]
    refine ⟨(by show 3 ≤ sizeLine; decide), fun t nt => ?_⟩
    obtain ⟨H4, e4, k4, g4⟩ := made (o := .tup [V.ref m1, .ref m2, .ref m3]) nt
    rw [e4]
    have k04 := (k02.trans k3).trans k4
    refine ⟨_, rfl, r, dx', _, rfl, k04 _ _ h1', r, ls, gs, cs', rfl, hR.kp (kpS k04), fun m5 n5 => ?_⟩
    obtain ⟨H5, e5, k5, g5⟩ := made (o := .lst (ls.map V.int)) n5
    rw [e5]
    have k05 := k04.trans k5
    refine ⟨_, rfl, r, dx', _, rfl, k05 _ _ h1', r, ls, gs, cs', rfl, hR.kp (kpS k05), fun m6 n6 => ?_⟩
    obtain ⟨H6, e6, k6, g6⟩ := made (o := .lst (gs.map V.int)) n6
    rw [e6]
    have k06 := k05.trans k6
    refine ⟨_, rfl, r, dx', _, rfl, k06 _ _ h1', r, ls, gs, cs', rfl, hR.kp (kpS k06), fun m7 zs n7 hzs => ?_⟩
    obtain ⟨H7, e7, k7, g7⟩ := made (o := .lst zs) n7
    rw [e7]
    refine ⟨(by show 3 ≤ sizeLine; decide), fun t' nt' => ?_⟩
    obtain ⟨H8, e8, k8, g8⟩ := made (o := .tup [V.ref m5, .ref m6, .ref m7]) nt'
    rw [e8]
    have k48 := ((k5.trans k6).trans k7).trans k8
    have k38 := k4.trans k48
    have hok : ∀ k ∈ sortK (kOf cs), okk k = true := fun k hk => okk_valid va k ((sortK_perm _).mem_iff.mp hk)
    have hys8 := (hys.same k3).same k38
    have hzs8 := (hzs.same k7).same k8
    rw [← hk] at hzs8
    refine ⟨t3 ls gs (sortK (kOf cs)), t3 ls gs (sortK (kOf cs)), .tup (SqT.of (k48 _ _ g4)) (.cons (dp_dN (SqL.of ((k2.trans (k3.trans k38)) _ _ g1))) (.cons (dp_dN (SqL.of ((k3.trans k38) _ _ g2))) (.cons (hys8.dl (SqL.of (k38 _ _ g3))) .nil))),
      .tup (SqT.of g8) (.cons (dp_dN (SqL.of (((k6.trans k7).trans k8) _ _ g5))) (.cons (dp_dN (SqL.of ((k7.trans k8) _ _ g6))) (.cons (hzs8.dl (SqL.of (k8 _ _ g7))) .nil))), sh_t3 hok, sh_t3 hok, ?_⟩
    rw [eqv_t3]
    exact q H8 (k04.trans k48)
end

/-! ### houses, read -/
section
open GxR NdefX PySem.Spec PyProof.Rows
variable {P : Program} {w : World} {K : PySem.W.Frag} {mg : Str → Option Value} {base : Heap}
theorem row_free {c : Nat} (h32 : c ≠ 32) (hd : ∀ n, c ∉ dg n) {w : List Nat} {ns : List Int} (hw : c ∉ w) : c ∉ rowL w ns := fun h => by
  rcases mem_joinL h with z | ⟨y, hy, z⟩
  · exact h32 (List.mem_singleton.mp z)
  · rcases List.mem_cons.mp hy with rfl | hy
    · exact hw z
    · obtain ⟨n, _, rfl⟩ := List.mem_map.mp hy
      exact hd n z
theorem row_asc {w : List Nat} {ns : List Int} (hw : ∀ c ∈ w, c < 128) : ∀ c ∈ rowL w ns, c < 128 := fun c h => by
  rcases mem_joinL h with z | ⟨y, hy, z⟩
  · rw [List.mem_singleton.mp z]
    decide
  · rcases List.mem_cons.mp hy with rfl | hy
    · exact hw c z
    · obtain ⟨n, _, rfl⟩ := List.mem_map.mp hy
      have := dg_digit c z
      omega
theorem dg32 (n : Int) : 32 ∉ dg n := TL.numL_free (by decide)
theorem dg10 (n : Int) : 10 ∉ dg n := TL.numL_free (by decide)
theorem split_row {w : List Nat} {ns : List Int} (hw : 32 ∉ w) : Txt.split (S (rowL w ns)) (S [32]) = (w :: ns.map dg).map S := by
  refine split_joinL (by decide) (by simp) fun y hy => ?_
  rcases List.mem_cons.mp hy with rfl | hy
  · exact hw
  · obtain ⟨n, _, rfl⟩ := List.mem_map.mp hy
    exact dg32 n
theorem all_num {ns : List Int} (h : ∀ n ∈ ns, 0 ≤ n ∧ n < 10000) : ((ns.map dg).map S).all isNum = true ∧ ((ns.map dg).map S).map numV = ns := by
  refine ⟨List.all_eq_true.mpr fun x hx => ?_, ?_⟩
  · obtain ⟨y, hy, rfl⟩ := List.mem_map.mp hx
    obtain ⟨n, hn, rfl⟩ := List.mem_map.mp hy
    exact (isNum_dg (h n hn).1 (h n hn).2).1
  · rw [List.map_map, List.map_map]
    refine (List.map_congr_left (g := id) fun n hn => ?_).trans (List.map_id _)
    exact (isNum_dg (h n hn).1 (h n hn).2).2
theorem get_line {ls : List Str} {n : Nat} {z : Str} (hn : ls[n - 1]? = some z) : ls.getD (n - 1) Str.empty = z := by
  rw [List.getD_eq_getElem?_getD, hn]
  rfl
theorem nums_row {ls : List Str} {n : Nat} {w : List Nat} {ns : List Int} (hw : 32 ∉ w) (h : ∀ n ∈ ns, 0 ≤ n ∧ n < 10000) (h1 : 1 ≤ n) (hn : ls[n - 1]? = some (S (rowL w ns))) : numsIn ls n [S w] = some ns := by
  have hlt := (List.getElem?_eq_some_iff.mp hn).1
  obtain ⟨a1, a2⟩ := all_num h
  unfold numsIn
  rw [if_neg (by omega), get_line hn, split_row hw]
  show (if [S w] = [S w] ∧ ((ns.map dg).map S).all isNum = true then some (((ns.map dg).map S).map numV) else none) = _
  rw [a1, a2, if_pos ⟨rfl, rfl⟩]
theorem clL_eq (c : Str × Int × Int) : clL c = TL.joinL [32] [clW, wdL c.1, dg c.2.1, dg c.2.2] := by
  show (clW ++ [32] ++ wdL c.1) ++ ([32] ++ (dg c.2.1 ++ ([32] ++ dg c.2.2))) = clW ++ ([32] ++ (wdL c.1 ++ ([32] ++ (dg c.2.1 ++ ([32] ++ dg c.2.2)))))
  simp only [List.append_assoc]
theorem wdL_free {c : Nat} (h : c ≤ 32) (x : Str) : c ∉ wdL x := fun m => by
  have z : ∀ y ∈ wdL x, 32 < y := by
    unfold wdL
    split <;> decide
  have := z c m
  omega
theorem nums_cl {ls : List Str} {n : Nat} {c : Str × Int × Int} (hc : okC c) (h1 : 1 ≤ n) (hn : ls[n - 1]? = some (S (clL c))) : numsIn ls n [S clW, S (wdL c.1)] = some [c.2.1, c.2.2] := by
  have hlt := (List.getElem?_eq_some_iff.mp hn).1
  have hs : Txt.split (S (clL c)) (S [32]) = [S clW, S (wdL c.1), S (dg c.2.1), S (dg c.2.2)] := by
    rw [clL_eq]
    refine split_joinL (by decide) (by simp) fun y hy => ?_
    simp only [List.mem_cons, List.mem_nil_iff, or_false] at hy
    rcases hy with rfl | rfl | rfl | rfl
    · decide
    · exact wdL_free (by decide) _
    · exact dg32 _
    · exact dg32 _
  obtain ⟨_, a0, a1, b0, b1⟩ := hc
  obtain ⟨na, va⟩ := isNum_dg a0 (by omega)
  obtain ⟨nb, vb⟩ := isNum_dg b0 (by omega)
  unfold numsIn
  rw [if_neg (by omega), get_line hn, hs]
  show (if [S clW, S (wdL c.1)] = [S clW, S (wdL c.1)] ∧ (isNum (S (dg c.2.1)) && (isNum (S (dg c.2.2)) && true)) = true then some [numV (S (dg c.2.1)), numV (S (dg c.2.2))] else none) = _
  rw [na, nb, va, vb, if_pos ⟨rfl, rfl⟩]
theorem over_S : ("closed over" : Str) = S (clW ++ [32] ++ [111, 118, 101, 114]) := by decide +kernel
/-- which of the two words a line has -/
theorem starts_cl {c : Str × Int × Int} (hc : okC c) : Txt.startswith (S (clL c)) ("closed over" : Str) = decide (c.1 = "over") := by
  rw [over_S, starts_S]
  obtain ⟨h, _⟩ := hc
  have e : clL c = (clW ++ [32] ++ wdL c.1) ++ ([32] ++ (dg c.2.1 ++ ([32] ++ dg c.2.2))) := rfl
  rw [e]
  rcases h with h | h <;> rw [h]
  · rw [decide_eq_false (by decide +kernel)]
    show (([99, 108, 111, 115, 101, 100, 32, 117, 112, 32] ++ (dg c.2.1 ++ ([32] ++ dg c.2.2))).take 11 == [99, 108, 111, 115, 101, 100, 32, 111, 118, 101, 114]) = false
    rfl
  · rw [decide_eq_true rfl]
    show (([99, 108, 111, 115, 101, 100, 32, 111, 118, 101, 114] ++ ([32] ++ (dg c.2.1 ++ ([32] ++ dg c.2.2)))).take 11 == [99, 108, 111, 115, 101, 100, 32, 111, 118, 101, 114]) = true
    rfl
theorem word_S {x : Str} (h : x = "up" ∨ x = "over") : x = S (wdL x) ∧ (if x = "over" then ("over" : Str) else "up") = x := by
  rcases h with rfl | rfl
  · exact ⟨by decide +kernel, if_neg (by decide +kernel)⟩
  · exact ⟨by decide +kernel, if_pos rfl⟩
theorem clw_S : ("closed" : Str) = S clW := by decide +kernel
/-- the lines of a house's text -/
theorem lines_house {ls gs : List Int} {cs : List (Str × Int × Int)} (va : Valid ls gs cs) :
    (S (houseL ls gs cs)).length ≤ 900000 ∧ asc (S (houseL ls gs cs)) ∧ Txt.split (S (houseL ls gs cs)) (S [10]) = (rowsH ls gs cs).map S ∧ LinesOk ((rowsH ls gs cs).map S) := by
  obtain ⟨b1, b2⟩ := valid_lens va
  have l1 := va.1.1.2
  have l2 := va.2.1.1
  have l3 := va.2.2.1
  have b3 : ∀ c ∈ cs, okC c := fun c hc => valid_okC va hc
  have e : (rowsH ls gs cs).length = cs.length + 2 := by
    unfold rowsH
    rw [List.length_cons, List.length_cons, List.length_map]
  have hlen := rowsH_len b1 b2 l1 l2 b3
  have hasc : ∀ y ∈ rowsH ls gs cs, ∀ c ∈ y, c < 128 := fun y hy => by
    rcases List.mem_cons.mp hy with rfl | hy
    · exact row_asc (by decide)
    · rcases List.mem_cons.mp hy with rfl | hy
      · exact row_asc (by decide)
      · obtain ⟨c, hc, rfl⟩ := List.mem_map.mp hy
        refine row_asc ?_
        have z : ∀ y ∈ wdL c.1, y < 128 := by
          unfold wdL
          split <;> decide
        intro d hd
        rcases List.mem_append.mp hd with m | m
        · exact (show ∀ d ∈ clW ++ [32], d < 128 by decide) d m
        · exact z d m
  have hfree : ∀ y ∈ rowsH ls gs cs, 10 ∉ y := fun y hy => by
    rcases List.mem_cons.mp hy with rfl | hy
    · exact row_free (by decide) dg10 (by decide)
    · rcases List.mem_cons.mp hy with rfl | hy
      · exact row_free (by decide) dg10 (by decide)
      · obtain ⟨c, hc, rfl⟩ := List.mem_map.mp hy
        refine row_free (by decide) dg10 fun m => ?_
        rcases List.mem_append.mp m with m | m
        · exact absurd m (by decide)
        · exact wdL_free (by decide) _ m
  refine ⟨?_, fun c hc => ?_, split_joinL (by decide) (by simp [rowsH]) hfree, ?_, fun z hz => ?_⟩
  · rw [S_len]
    have z := joinL_len (sep := [10]) (m := 1000) (by decide) hlen
    rw [e] at z
    unfold houseL
    omega
  · have hc' : c ∈ houseL ls gs cs := hc
    rcases mem_joinL hc' with z | ⟨y, hy, z⟩
    · rw [List.mem_singleton.mp z]
      decide
    · exact hasc y hy c z
  · rw [List.length_map, e]
    omega
  · obtain ⟨y, hy, rfl⟩ := List.mem_map.mp hz
    have := hlen y hy
    exact ⟨by rw [S_len]; omega, hasc y hy⟩
def spHO (K : PySem.W.Frag) (C TL TI : Addr) : Sp := fun vs H Q _ => ∃ (l g : Addr) (ls gs : List Int) (k : Int), vs = [.ref l, .ref g, .int k] ∧ SqL K H l (ls.map V.int) ∧ SqL K H g (gs.map V.int) ∧ Valid ls gs [] ∧ TabG H TL ∧ TabG H TI ∧
  ∀ (H' : Hp) (r : Addr), Kp H H' → HouseAt C H' r ls gs [] → Q (.ref r) H'
theorem ok_ho {f : Addr} {fd : FuncData} (F : Fun K "_house_of" "_house_of" s__house_of f fd) (Z : MakeH P w K mg base) : FnOk P w K mg base CX0 7 f fd ["lengths", "gaps", "number"] (spHO K Z.C Z.TL Z.TI) := by
  refine F.ok sc__house_of (fun vs H Q E h => ?_) (fun cdv A outer s H vs Q E hr h => ?_)
  · obtain ⟨l, g, ls, gs, k, rfl, _⟩ := h
    rfl
  · obtain ⟨l, g, ls, gs, k, rfl, hl, hg, va, tL, tI, q⟩ := h
    have nd := sc__house_of.nd
    have l1 := va.1.1.2
    have l2 := va.2.1.1
    refine ⟨_, (pss_one (ps_try_thru0 (pss_one (ps_ret (pe_make Z.M Z.GI (by exact hr.mono (by decide)) (by rfl) Z.mgC Z.bI .nil (passes_call takes0 fun _ _ _ _ h => h) (pa_cons (pv 0) (pa_cons (pv 1) (pa_cons (pe_lst pa_nil) pa_nil)))))))), ?_⟩
    refine ⟨_, rfl, _, rfl, Nat.zero_le _, fun m nm => ?_⟩
    obtain ⟨H3, e3, k3, g3⟩ := made (o := .lst []) nm
    rw [e3]
    intro x dx2 nx ndx ne
    have kM : Same H3 (upd (upd H3 dx2 (.own x)) x (.ins Z.C dx2 [])) := fun b z e => by
      rw [upd_ne (ne_of_none e nx), upd_ne (ne_of_none e ndx)]
      exact e
    have kA := k3.trans kM
    refine ⟨x, dx2, l, g, m, ls, gs, [], [], rfl, upd_same, kA.seq hl, kA.seq hg, SqL.of (kM _ _ g3), .nil, by omega, by omega, Nat.zero_le _, (kpS kA).tab _ tL, (kpS kA).tab _ tI, fun _ H4 hH4 k0 _ => ⟨rfl, ?_⟩, fun nv => absurd va nv⟩
    exact q H4 x ((kpS k3).trans (mkKp nx ndx k0)) hH4
def spHL (K : PySem.W.Frag) (T0 C TL TI : Addr) : Sp := fun vs H Q _ => ∃ (p l : Addr) (ls gs : List Int) (cs : List (Str × Int × Int)) (lns : List Str) (n : Nat) (c : Str × Int × Int), vs = [.ref p, .ref l, .int n] ∧ HouseAt C H p ls gs cs ∧ SqL K H l (lns.map V.str) ∧ LinesOk lns ∧ 1 ≤ n ∧ n ≤ 1000000 ∧ TabG H T0 ∧ TabG H TL ∧ TabG H TI ∧
  lns[n - 1]? = some (S (clL c)) ∧ okC c ∧ isLk ls gs c.1 c.2.1 c.2.2 = true ∧ lk c.1 c.2.1 c.2.2 ∉ kOf cs ∧ cs.length < 200 ∧ ∀ (H' : Hp) (r : Addr), Kp H H' → HouseAt C H' r ls gs (sortC cs ++ [c]) → Q (.ref r) H'
theorem ok_hl {f fN fI fW T0 C CN TL TI : Addr} {fd fdN fdI fdW : FuncData} (F : Fun K "_house_with_line" "_house_with_line" s__house_with_line f fd) (T : NoteTop mg) (TH : HouseTxt K mg C) (U : NotTxt K mg CN fI) (GI : FnOk P w K mg base CX0 1 fI fdI ["self", "line"] (spXI K CN "line")) (bI : Binds K fdI ["self", "line"] [])
    (FNk : PySem.W.keepIn K (.ref fN) = true) (GN : FnOk P w K mg base (L2.CX P w) 5 fN fdN ["lines", "number", "head"] (spIn K T0 CN)) (bN : Binds K fdN ["lines", "number", "head"] []) (gN : mg "_numbers_in" = some (.ref fN))
    (mW : Meth K C "with_closed" fW) (GW : FnOk P w K mg base (L2.CX P w) 7 fW fdW ["self", "link"] (spWC C TL TI)) (bW : Binds K fdW ["self", "link"] []) : FnOk P w K mg base (L2.CX P w) 9 f fd ["house", "lines", "number"] (spHL K T0 C TL TI) := by
  refine F.okX sc__house_with_line (fun vs H Q E h => ?_) (fun cdv A outer s H vs Q E hr h => ?_)
  · obtain ⟨p, l, ls, gs, cs, lns, n, c, rfl, _⟩ := h
    rfl
  · obtain ⟨p, l, ls, gs, cs, lns, n, c, rfl, hH, hl, hls, hn1, hn2, t0, tL, tI, hln, okc, hlk, hnot, h200, q⟩ := h
    have nd := sc__house_with_line.nd
    obtain ⟨w1, w2⟩ := word_S okc.1
    refine ⟨_, (pss_cons (ps_set (i := 3) nd rfl (.inl rfl) (pe_ifExp (pt_val (pe_m1 PySem.F.slot_str_startswith PySem.F.type_str_startswith mt_startswith (pe_ix ix_list (pv 1) (pe_op op_sub (pv 2) pe_int) (fun _ _ => rfl)) pe_str)) pe_str pe_str))
      (pss_cons (ps_set (i := 4) nd rfl (.inl rfl) (pe_call GN (by exact hr.mono (by decide)) (by rfl) gN FNk bN .nil (passes_call (takes_of rfl rfl rfl rfl) fun _ _ _ _ h => h) (pa_cons (pv 1) (pa_cons (pv 2) (pa_cons (pe_lst (pa_cons pe_str (pa_cons (pv 3) pa_nil))) pa_nil)))))
      (pss_cons (ps_if (pt_cmpR op_ne (pe_callB call_len (by rfl) T.len (by decide +kernel) (pa_cons (pv 4) pa_nil)) pe_int (nomark _)) (pss_one (ps_raise rfl (takes_of rfl rfl rfl rfl) (pmk_oex U.o U.i U.y GI (by exact hr.mono (by decide)) bI .nil pass0 (by rfl) U.g (pa_cons (pv 2) pa_nil)))) pss_nil)
      (pss_one (ps_try_thru0 (pss_one (ps_ret (pe_meth (pv 0) TH.cl mW GW (by exact hr.mono (by decide)) bW .nil (passes_call takes0 fun _ _ _ _ h => h) (pa_cons (pe_tup (pa_cons (pv 3) (pa_cons (pe_ix ix_list (pv 4) pe_int (fun _ _ => rfl)) (pa_cons (pe_ix ix_list (pv 4) pe_int (fun _ _ => rfl)) pa_nil)))) pa_nil))))))))), ?_⟩
    refine ⟨_, rfl, _, rfl, _, _, rfl, rfl, l, _, _, .str (S (clL c)), rfl, rfl, hl, ?_, ⟨_, rfl⟩, _, _, rfl, rfl, _, rfl, ?_⟩
    · rw [show (n : Int) - 1 = ((n - 1 : Nat) : Int) by omega]
      exact atI_nat (by rw [List.getElem?_map, hln]; rfl)
    rw [starts_cl okc]
    have go : ∀ {σ : L2.St} {K1 : VK}, K1 (.str c.1) H → (if decide (c.1 = "over") = true then tC (.str "over") σ H K1 else tC (.str "up") σ H K1) := fun {σ K1} g => by
      by_cases h : c.1 = "over"
      · rw [if_pos (decide_eq_true h)]
        show K1 (.str "over") H
        rw [← h]
        exact g
      · rw [if_neg (fun z => h (of_decide_eq_true z))]
        show K1 (.str "up") H
        have : c.1 = "up" := okc.1.elim id fun z => absurd z h
        rw [← this]
        exact g
    refine go ?_
    refine ⟨_, rfl, _, rfl, _, rfl, (by show 2 ≤ sizeLine; decide), fun m nm => ?_⟩
    obtain ⟨H1, e1, k1, g1⟩ := made (o := .lst ([S clW, S (wdL c.1)].map V.str)) nm
    have e1' : upd H m (.lst [V.str "closed", .str c.1]) = H1 := by
      rw [← e1, clw_S]
      show upd H m (.lst [V.str (S clW), .str c.1]) = upd H m (.lst [V.str (S clW), .str (S (wdL c.1))])
      rw [← w1]
    rw [e1']
    have aw : ∀ x ∈ [S clW, S (wdL c.1)], asc x := fun x hx => by
      simp only [List.mem_cons, List.mem_nil_iff, or_false] at hx
      rcases hx with rfl | rfl
      · exact asc_S (by decide)
      · refine asc_S ?_
        unfold wdL
        split <;> decide
    refine ⟨l, m, lns, [S clW, S (wdL c.1)], n, rfl, k1.seq hl, SqL.of g1, hls, hn1, hn2, (by show 2 ≤ 1000; decide), aw, (kpS k1).tab _ t0, fun ns hns H2 r k2 gr => ?_, fun hno => ?_⟩
    rotate_left
    · rw [nums_cl okc hn1 hln] at hno
      cases hno
    rw [nums_cl okc hn1 hln] at hns
    obtain rfl := Option.some.inj hns
    have k02 := (kpS k1).trans k2
    refine ⟨_, rfl, _, _, rfl, .inl ⟨_, SqL.of gr, rfl⟩, rfl, _, rfl, ?_⟩
    refine iteF ?_
    obtain ⟨va, dx, _, _, _, _, h1, _⟩ := id (hH.kp k02)
    refine ⟨_, rfl, p, dx, _, rfl, h1, hf_no _ _ _ _ _ (by decide +kernel) (by decide +kernel) (by decide +kernel) (by decide +kernel) (by decide +kernel), ?_⟩
    refine ⟨_, rfl, _, rfl, r, _, _, _, rfl, rfl, SqL.of gr, rfl, _, rfl, r, _, _, _, rfl, rfl, SqL.of gr, rfl, (by show 3 ≤ sizeLine; decide), fun t nt => ?_⟩
    obtain ⟨H3, e3, k3, g3⟩ := made (o := .tup ((lk c.1 c.2.1 c.2.2).map kV)) nt
    have e3' : upd H2 t (.tup [V.str c.1, .int c.2.1, .int c.2.2]) = H3 := e3
    rw [e3']
    have k03 := k02.trans (kpS k3)
    exact ⟨p, .ref t, ls, gs, cs, c, rfl, hH.kp k03, ⟨t, rfl, g3⟩, hlk, hnot, h200, k03.tab _ tL, k03.tab _ tI, fun H4 r4 k4 hr4 => q H4 r4 (k03.trans k4) hr4⟩
def spPH (C T0 TL TI : Addr) : Sp := fun vs H Q _ => ∃ (ls gs : List Int) (cs : List (Str × Int × Int)), vs = [.str (S (houseL ls gs cs))] ∧ Valid ls gs cs ∧ TabG H T0 ∧ TabG H TL ∧ TabG H TI ∧
  ∀ (H' : Hp) (r : Addr) (cs' : List (Str × Int × Int)), Kp H H' → HouseAt C H' r ls gs cs' → cs'.Perm cs → Q (.ref r) H'
theorem ok_ph {f fN fO fL T0 C CN TL TI : Addr} {fd fdN fdO fdL : FuncData} (F : Fun K "parse_house" "parse_house" s_parse_house f fd) (T : NoteTop mg)
    (FNk : PySem.W.keepIn K (.ref fN) = true) (GN : FnOk P w K mg base (L2.CX P w) 5 fN fdN ["lines", "number", "head"] (spIn K T0 CN)) (bN : Binds K fdN ["lines", "number", "head"] []) (gN : mg "_numbers_in" = some (.ref fN))
    (FOk : PySem.W.keepIn K (.ref fO) = true) (GO : FnOk P w K mg base CX0 7 fO fdO ["lengths", "gaps", "number"] (spHO K C TL TI)) (bO : Binds K fdO ["lengths", "gaps", "number"] []) (gO : mg "_house_of" = some (.ref fO))
    (FLk : PySem.W.keepIn K (.ref fL) = true) (GL : FnOk P w K mg base (L2.CX P w) 9 fL fdL ["house", "lines", "number"] (spHL K T0 C TL TI)) (bL : Binds K fdL ["house", "lines", "number"] []) (gL : mg "_house_with_line" = some (.ref fL)) : FnOk P w K mg base CX0 10 f fd ["text"] (spPH C T0 TL TI) := by
  refine F.ok sc_parse_house (fun vs H Q E h => ?_) (fun cdv A outer s H vs Q E hr h => ?_)
  · obtain ⟨ls, gs, cs, rfl, _⟩ := h
    rfl
  · obtain ⟨ls, gs, cs, rfl, va, t0, tL, tI, q⟩ := h
    have nd := sc_parse_house.nd
    have hline : 1000000 < sizeLine := by decide
    obtain ⟨z1, z2, z3, z4⟩ := lines_house va
    obtain ⟨b1, b2⟩ := valid_lens va
    have hnd := va.2.2.2.1
    have h200 := va.2.2.1
    have v0 : Valid ls gs [] := ⟨va.1, va.2.1, Nat.zero_le _, .nil, fun _ z => nomatch z⟩
    have v00 : Valid ls [] [] := ⟨va.1, ⟨Nat.zero_le _, rfl⟩, Nat.zero_le _, .nil, fun _ z => nomatch z⟩
    have rl : ((rowsH ls gs cs).map S).length = cs.length + 2 := by
      unfold rowsH
      rw [List.length_map, List.length_cons, List.length_cons, List.length_map]
    refine ⟨_, (pss_cons (ps_set (i := 1) nd rfl (.inl rfl) (pe_split (pv 0) pe_str))
      (pss_cons (ps_set (i := 2) nd rfl (.inl rfl) (pe_call GN (by exact hr.mono (by decide)) (by rfl) gN FNk bN .nil (passes_call takes0 fun _ _ _ _ h => h) (pa_cons (pv 1) (pa_cons pe_int (pa_cons (pe_lst (pa_cons pe_str pa_nil)) pa_nil)))))
      (pss_cons (ps_expr (pe_call GO (by exact hr.mono (by decide)) (by rfl) gO FOk bO .nil pass0 (pa_cons (pv 2) (pa_cons (pe_lst pa_nil) (pa_cons pe_int pa_nil)))))
      (pss_cons (ps_set (i := 3) nd rfl (.inl rfl) (pe_call GN (by exact hr.mono (by decide)) (by rfl) gN FNk bN .nil (passes_call takes0 fun _ _ _ _ h => h) (pa_cons (pv 1) (pa_cons pe_int (pa_cons (pe_lst (pa_cons pe_str pa_nil)) pa_nil)))))
      (pss_cons (ps_set (i := 4) nd rfl (.inl rfl) (pe_call GO (by exact hr.mono (by decide)) (by rfl) gO FOk bO .nil pass0 (pa_cons (pv 2) (pa_cons (pv 3) (pa_cons pe_int pa_nil)))))
      (pss_cons (ps_for PassesOwn.never rfl (pi_range2 rfl T.range (pa_cons pe_int (pa_cons (pe_op op_add (pe_callB call_len (by rfl) T.len (by decide +kernel) (pa_cons (pv 1) pa_nil)) pe_int) pa_nil))) (pg_name (i := 5) nd rfl (.inl rfl)) (pss_one (ps_set (i := 4) nd rfl (.inl rfl) (pe_call GL (by exact hr.mono (by decide)) (by rfl) gL FLk bL .nil (passes_call takes0 fun _ _ _ _ h => h) (pa_cons (pv 4) (pa_cons (pv 1) (pa_cons (pv 5) pa_nil)))))))
      (pss_one (ps_ret (pv 4))))))))), ?_⟩
    refine ⟨_, rfl, ⟨_, rfl⟩, _, _, rfl, rfl, rfl, (by omega), fun m nm => ?_⟩
    rw [nl_S, z3]
    obtain ⟨H1, e1, k1, g1⟩ := made (o := .lst (((rowsH ls gs cs).map S).map V.str)) nm
    rw [e1]
    have n1 := nums_row (ls := (rowsH ls gs cs).map S) (n := 1) (w := lenW) (ns := ls) (by decide) (fun n hn => by have := b1 n hn; omega) (by decide) rfl
    have n2 := nums_row (ls := (rowsH ls gs cs).map S) (n := 2) (w := gapW) (ns := gs) (by decide) (fun n hn => by have := b2 n hn; omega) (by decide) rfl
    have n3 : ∀ i c, cs[i]? = some c → ((rowsH ls gs cs).map S)[3 + i - 1]? = some (S (clL c)) := fun i c hc => by
      rw [show 3 + i - 1 = i + 2 by omega]
      show ((cs.map clL).map S)[i]? = _
      rw [List.getElem?_map, List.getElem?_map, hc]
      rfl
    generalize (rowsH ls gs cs).map S = lns at *
    -- the lengths
    refine ⟨_, rfl, (by show 1 ≤ sizeLine; decide), fun a1 na1 => ?_⟩
    obtain ⟨H2, e2, k2, g2⟩ := made (o := .lst ([S lenW].map V.str)) na1
    have e2' : upd H1 a1 (.lst [V.str "lengths"]) = H2 := by
      rw [← e2, lens_S]
      rfl
    rw [e2']
    refine ⟨m, a1, lns, [S lenW], 1, rfl, SqL.of (k2 _ _ g1), SqL.of g2, z4, by decide, by decide, (by show 1 ≤ 1000; decide), (fun x hx => by rw [List.mem_singleton.mp hx]; exact asc_S (by decide)), (kpS (k1.trans k2)).tab _ t0, fun ns hns H3 rl3 k3 gl3 => ?_, fun hno => ?_⟩
    rotate_left
    · rw [n1] at hno
      cases hno
    rw [n1] at hns
    obtain rfl := Option.some.inj hns
    have k03 := (kpS (k1.trans k2)).trans k3
    -- tried alone
    refine ⟨_, rfl, Nat.zero_le _, fun a2 na2 => ?_⟩
    obtain ⟨H4, e4, k4, g4⟩ := made (o := .lst (([] : List Int).map V.int)) na2
    have e4' : upd H3 a2 (.lst []) = H4 := e4
    rw [e4']
    have k04 := k03.trans (kpS k4)
    refine ⟨rl3, a2, ls, [], 1, rfl, SqL.of (k4 _ _ gl3), SqL.of g4, v00, k04.tab _ tL, k04.tab _ tI, fun H5 r5 k5 _ => ?_⟩
    have k05 := k04.trans k5
    have k15 := (((kpS k2).trans k3).trans (kpS k4)).trans k5
    -- the gaps
    refine ⟨_, rfl, (by show 1 ≤ sizeLine; decide), fun a3 na3 => ?_⟩
    obtain ⟨H6, e6, k6, g6⟩ := made (o := .lst ([S gapW].map V.str)) na3
    have e6' : upd H5 a3 (.lst [V.str "gaps"]) = H6 := by
      rw [← e6, gaps_S]
      rfl
    rw [e6']
    have k06 := k05.trans (kpS k6)
    refine ⟨m, a3, lns, [S gapW], 2, rfl, SqL.of (k6 _ _ (k15.lst g1)), SqL.of g6, z4, by decide, by decide, (by show 1 ≤ 1000; decide), (fun x hx => by rw [List.mem_singleton.mp hx]; exact asc_S (by decide)), k06.tab _ t0, fun ns hns H7 rl7 k7 gl7 => ?_, fun hno => ?_⟩
    rotate_left
    · rw [n2] at hno
      cases hno
    rw [n2] at hns
    obtain rfl := Option.some.inj hns
    have k07 := k06.trans k7
    have k37 := (((kpS k4).trans k5).trans (kpS k6)).trans k7
    refine ⟨_, rfl, _, rfl, rl3, rl7, ls, gs, 2, rfl, SqL.of (k37.lst gl3), SqL.of gl7, v0, k07.tab _ tL, k07.tab _ tI, fun H8 r8 k8 hr8 => ?_⟩
    have k08 := k07.trans k8
    have g8 : H8 m = some (.lst (lns.map V.str)) := (((kpS k6).trans k7).trans k8).lst (k15.lst g1)
    refine ⟨_, rfl, _, _, rfl, .inl ⟨_, SqL.of g8, rfl⟩, _, _, rfl, rfl, 3, _, rfl, ?_, ?_⟩
    · rw [List.length_map]
      omega
    rw [List.length_map, show ((lns.length : Int) + 1 - 3).toNat = cs.length by omega]
    refine for_range (lo := 3) (n := cs.length) (fun i σ H' => ∃ (r : Addr) (acc : List (Str × Int × Int)) (v5 : Option V), σ = [some (.str (S (houseL ls gs cs))), some (.ref m), some (.ref rl3), some (.ref rl7), some (.ref r), v5] ∧ Kp H8 H' ∧ HouseAt C H' r ls gs acc ∧ acc.Perm (cs.take i)) ?_ ?_ ?_
    · exact ⟨r8, [], none, rfl, Kp.refl _, hr8, .nil⟩
    · rintro i σ H' hi ⟨r, acc, v5, rfl, k, hA, hp⟩
      obtain ⟨c, hc⟩ : ∃ c, cs[i]? = some c := ⟨_, List.getElem?_eq_getElem hi⟩
      have cm := List.mem_of_getElem? hc
      have tk : cs.take (i + 1) = cs.take i ++ [c] := by
        rw [List.take_add_one, hc]
        rfl
      have k0 := k08.trans k
      have al := hp.length_eq
      rw [List.length_take] at al
      have hnot : lk c.1 c.2.1 c.2.2 ∉ kOf acc := fun z => by
        have z2 : lk c.1 c.2.1 c.2.2 ∈ kOf (cs.take i) := (hp.map fun c => lk c.1 c.2.1 c.2.2).mem_iff.mp z
        have z3 : (kOf (cs.take (i + 1))).Nodup := by
          unfold kOf
          rw [List.map_take]
          exact (List.take_sublist _ _).nodup hnd
        rw [tk, kOf_snoc1] at z3
        exact (List.nodup_append.mp z3).2.2 _ z2 _ List.mem_cons_self rfl
      refine ⟨_, rfl, _, rfl, _, rfl, r, m, ls, gs, acc, lns, 3 + i, c, ?_, hA, SqL.of (k.lst g8), z4, by omega, by omega, k0.tab _ t0, k0.tab _ tL, k0.tab _ tI, n3 i c hc, valid_okC va cm, va.2.2.2.2 c cm, hnot, by omega, fun H9 r9 k9 hr9 => ?_⟩
      · rw [show ((3 + i : Nat) : Int) = 3 + (i : Int) by omega]
        rfl
      · refine ⟨r9, _, _, rfl, k.trans k9, hr9, ?_⟩
        rw [tk]
        exact ((sortC_perm acc).trans hp).append_right [c]
    · rintro σ H' ⟨r, acc, v5, rfl, k, hA, hp⟩
      rw [List.take_length] at hp
      exact ⟨_, rfl, q H' r acc (k08.trans k) hA hp⟩
end

/-! ### lines, the law -/
section
open GxR NdefX PySem.Spec PyProof.Rows
variable {P : Program} {w : World} {K : PySem.W.Frag} {mg : Str → Option Value} {base : Heap}
theorem cl_facts {c : Str × Int × Int} (h : okC c) : ("closed " : Str).length + c.1.length ≤ sizeLine ∧ (("closed " : Str) ++ c.1).length + (" " : Str).length ≤ sizeLine ∧ (("closed " : Str) ++ c.1 ++ (" " : Str)).length + (toString c.2.1 : Str).length ≤ sizeLine ∧
    (("closed " : Str) ++ c.1 ++ (" " : Str) ++ (toString c.2.1 : Str)).length + (" " : Str).length ≤ sizeLine ∧ (("closed " : Str) ++ c.1 ++ (" " : Str) ++ (toString c.2.1 : Str) ++ (" " : Str)).length + (toString c.2.2 : Str).length ≤ sizeLine ∧
    ("closed " : Str) ++ c.1 ++ (" " : Str) ++ (toString c.2.1 : Str) ++ (" " : Str) ++ (toString c.2.2 : Str) = S (clL c) := by
  obtain ⟨hx, a0, a1, b0, b1⟩ := h
  have hline : 1000000 < sizeLine := by decide
  have la := dg_len (n := c.2.1) (k := 5) (by decide) (by omega)
  have lb := dg_len (n := c.2.2) (k := 5) (by decide) (by omega)
  have hw := head_len c.1
  have lc : c.1.length ≤ 4 := by rcases hx with e | e <;> rw [e] <;> decide
  refine ⟨by show 7 + c.1.length ≤ sizeLine; omega, ?_⟩
  rw [cl_S hx, show (toString c.2.1 : Str) = S (dg c.2.1) from dg_str a0, show (toString c.2.2 : Str) = S (dg c.2.2) from dg_str b0, sp_S]
  simp only [S_cat, S_len, List.length_append, List.length_cons, List.length_nil] at *
  refine ⟨by omega, by omega, by omega, by omega, congrArg S ?_⟩
  show clW ++ [32] ++ wdL c.1 ++ [32] ++ dg c.2.1 ++ [32] ++ dg c.2.2 = (clW ++ [32] ++ wdL c.1) ++ ([32] ++ (dg c.2.1 ++ ([32] ++ dg c.2.2)))
  simp only [List.append_assoc]
/-- what a row of the law is: numbers and links of a house -/
def spLL (K : PySem.W.Frag) : Sp := fun vs H Q _ => ∃ (l g c : Addr) (ls gs : List Int) (xs : List V) (cs : List (Str × Int × Int)), vs = [.ref l, .ref g, .ref c] ∧ SqL K H l (ls.map V.int) ∧ SqL K H g (gs.map V.int) ∧ SqL K H c xs ∧ Krs H xs (kOf cs) ∧ (∀ n ∈ ls, 1 ≤ n ∧ n ≤ 40) ∧ (∀ n ∈ gs, 1 ≤ n ∧ n ≤ 40) ∧ ls.length ≤ 2 ∧ gs.length ≤ 11 ∧ (∀ c ∈ cs, okC c) ∧ cs.length ≤ 200 ∧
  ∀ (H' : Hp) (r : Addr), Same H H' → H' r = some (.lst (((rowsH ls gs cs).map S).map V.str)) → Q (.ref r) H'
theorem ok_ll {f : Addr} {fd : FuncData} (F : Fun K "_law_lines" "_law_lines" s__law_lines f fd) (T : NoteTop mg) : FnOk P w K mg base CX0 1 f fd ["lengths", "gaps", "closed"] (spLL K) := by
  refine F.ok sc__law_lines (fun vs H Q E h => ?_) (fun cdv A outer s H vs Q E hr h => ?_)
  · obtain ⟨l, g, c, ls, gs, xs, cs, rfl, _⟩ := h
    rfl
  · obtain ⟨l, g, c, ls, gs, xs, cs, rfl, hl, hg, hc, hx, b1, b2, l1, l2, b3, l3, q⟩ := h
    have nd := sc__law_lines.nd
    have hline : 1000000 < sizeLine := by decide
    refine ⟨_, (pss_cons (ps_set (i := 3) nd rfl (.inl rfl) (pe_lst (pa_cons (pe_join pe_str (pe_op op_cat (pe_lst (pa_cons pe_str pa_nil)) (pe_lc (own := [("number", 4)]) (g := gName 4) (tt := tYes) rfl nd (pi_list (pv 0)) (blkOk_by (N := ["lengths", "gaps", "closed", "lines", "number", "link"]) (sc := defScope s__law_lines) (by decide +kernel)) (fun _ _ _ _ _ => pg_name (i := 4) nd rfl (Or.inl rfl)) (fun _ _ _ _ _ => pts_nil) (fun _ _ _ _ _ => (pe_callTy call_str_int (by rfl) T.str (by decide +kernel) (pa_cons (pv 4) pa_nil)))))) (pa_cons (pe_join pe_str (pe_op op_cat (pe_lst (pa_cons pe_str pa_nil)) (pe_lc (own := [("number", 4)]) (g := gName 4) (tt := tYes) rfl nd (pi_list (pv 1)) (blkOk_by (N := ["lengths", "gaps", "closed", "lines", "number", "link"]) (sc := defScope s__law_lines) (by decide +kernel)) (fun _ _ _ _ _ => pg_name (i := 4) nd rfl (Or.inl rfl)) (fun _ _ _ _ _ => pts_nil) (fun _ _ _ _ _ => (pe_callTy call_str_int (by rfl) T.str (by decide +kernel) (pa_cons (pv 4) pa_nil)))))) pa_nil))))
      (pss_one (ps_ret (pe_op op_cat (pv 3) (pe_lc (own := [("link", 5)]) (g := gName 5) (tt := tYes) rfl nd (pi_list (pv 2)) (blkOk_by (N := ["lengths", "gaps", "closed", "lines", "number", "link"]) (sc := defScope s__law_lines) (by decide +kernel)) (fun _ _ _ _ _ => pg_name (i := 5) nd rfl (Or.inl rfl)) (fun _ _ _ _ _ => pts_nil) (fun _ _ _ _ _ => (pe_op op_add_str (pe_op op_add_str (pe_op op_add_str (pe_op op_add_str (pe_op op_add_str pe_str (pe_ix (r := rIxT K) ix_tup (pv 5) pe_int (fun _ _ => rfl))) pe_str) (pe_callTy call_str_int (by rfl) T.str (by decide +kernel) (pa_cons (pe_ix (r := rIxT K) ix_tup (pv 5) pe_int (fun _ _ => rfl)) pa_nil))) pe_str) (pe_callTy call_str_int (by rfl) T.str (by decide +kernel) (pa_cons (pe_ix (r := rIxT K) ix_tup (pv 5) pe_int (fun _ _ => rfl)) pa_nil))))))))), ?_⟩
    refine ⟨⟨_, rfl⟩, (by show 1 ≤ sizeLine; decide), fun m1 nm1 => ?_⟩
    obtain ⟨A1, ea1, ka1, ga1⟩ := made (o := .lst [.str (S lenW)]) nm1
    have ew1 : upd H m1 (.lst [.str "lengths"]) = A1 := by rw [← ea1, lens_S]
    rw [ew1]
    refine ⟨_, rfl, l, rfl, ⟨_, ka1.seq hl⟩, fun D hD => ?_⟩
    refine lc_list (K := K) (a := l) (xs := ls.map V.int) (fun i H' => Same A1 H' ∧ H' D = some (.lst ((((ls.take i).map dg).map S).map V.str))) ?_ ?_ ?_ ?_
    · exact ⟨same_upd hD, upd_same⟩
    · rintro i H' _ ⟨k, _⟩
      exact k.seq (ka1.seq hl)
    · rintro i x H' hx ⟨k, hd'⟩
      rw [List.getElem?_map] at hx
      cases hn : ls[i]? with
      | none => rw [hn] at hx; cases hx
      | some n =>
        rw [hn] at hx
        cases hx
        have bn := b1 n (List.mem_of_getElem? hn)
        have hil : i < ls.length := (List.getElem?_eq_some_iff.mp hn).1
        refine ⟨rfl, _, rfl, _, rfl, small_log (by omega) (by omega), _, hd', ?_, ?_, ?_⟩
        · rw [List.length_map, List.length_map, List.length_map, List.length_take]
          omega
        · intro b o e
          rw [upd_ne (ne_of_none e hD)]
          exact k b o e
        · rw [upd_same, show (toString n : Str) = S (dg n) from dg_str (by omega), List.take_add_one, hn]
          simp only [List.map_append, Option.toList, List.map_cons, List.map_nil]
    rintro B1 ⟨kb1, gb1⟩
    rw [List.length_map, List.take_length] at gb1
    refine ⟨_, _, _, _, rfl, rfl, kb1 _ _ ga1, gb1, ?_, fun p1 np1 => ?_⟩
    · rw [List.length_map, List.length_map, List.length_map]
      show 1 + ls.length ≤ sizeLine
      omega
    obtain ⟨H1, ec1, kc1, gc1⟩ := made (o := .lst ([.str (S lenW)] ++ (((ls.map dg).map S).map V.str))) np1
    rw [ec1]
    refine ⟨_, p1, (lenW :: ls.map dg).map S, rfl, rfl, .inl (SqL.of gc1), ?_, ?_⟩
    · have hs : ∀ y ∈ lenW :: ls.map dg, y.length ≤ 1000 := fun y hy => by
        rcases List.mem_cons.mp hy with rfl | hy
        · decide
        · obtain ⟨n, hn, rfl⟩ := List.mem_map.mp hy
          have := dg_len (n := n) (k := 5) (by decide) (by have := (b1 n hn).2; omega)
          omega
      have z := sum_len hs
      have e : (lenW :: ls.map dg).length = ls.length + 1 := by rw [List.length_cons, List.length_map]
      rw [List.length_map, e, show (" " : Str).length = 1 from rfl]
      rw [e] at z
      omega
    rw [show Txt.join (" " : Str) ((lenW :: ls.map dg).map S) = S (rowL lenW ls) from by rw [sp_S, join_S]; rfl]
    have kH1 := (ka1.trans kb1).trans kc1
    refine ⟨⟨_, rfl⟩, (by show 1 ≤ sizeLine; decide), fun m2 nm2 => ?_⟩
    obtain ⟨A2, ea2, ka2, ga2⟩ := made (o := .lst [.str (S gapW)]) nm2
    have ew2 : upd H1 m2 (.lst [.str "gaps"]) = A2 := by rw [← ea2, gaps_S]
    rw [ew2]
    refine ⟨_, rfl, g, rfl, ⟨_, ka2.seq (kH1.seq hg)⟩, fun D hD => ?_⟩
    refine lc_list (K := K) (a := g) (xs := gs.map V.int) (fun i H' => Same A2 H' ∧ H' D = some (.lst ((((gs.take i).map dg).map S).map V.str))) ?_ ?_ ?_ ?_
    · exact ⟨same_upd hD, upd_same⟩
    · rintro i H' _ ⟨k, _⟩
      exact k.seq (ka2.seq (kH1.seq hg))
    · rintro i x H' hx ⟨k, hd'⟩
      rw [List.getElem?_map] at hx
      cases hn : gs[i]? with
      | none => rw [hn] at hx; cases hx
      | some n =>
        rw [hn] at hx
        cases hx
        have bn := b2 n (List.mem_of_getElem? hn)
        have hil : i < gs.length := (List.getElem?_eq_some_iff.mp hn).1
        refine ⟨rfl, _, rfl, _, rfl, small_log (by omega) (by omega), _, hd', ?_, ?_, ?_⟩
        · rw [List.length_map, List.length_map, List.length_map, List.length_take]
          omega
        · intro b o e
          rw [upd_ne (ne_of_none e hD)]
          exact k b o e
        · rw [upd_same, show (toString n : Str) = S (dg n) from dg_str (by omega), List.take_add_one, hn]
          simp only [List.map_append, Option.toList, List.map_cons, List.map_nil]
    rintro B2 ⟨kb2, gb2⟩
    rw [List.length_map, List.take_length] at gb2
    refine ⟨_, _, _, _, rfl, rfl, kb2 _ _ ga2, gb2, ?_, fun p2 np2 => ?_⟩
    · rw [List.length_map, List.length_map, List.length_map]
      show 1 + gs.length ≤ sizeLine
      omega
    obtain ⟨H2, ec2, kc2, gc2⟩ := made (o := .lst ([.str (S gapW)] ++ (((gs.map dg).map S).map V.str))) np2
    rw [ec2]
    refine ⟨_, p2, (gapW :: gs.map dg).map S, rfl, rfl, .inl (SqL.of gc2), ?_, ?_⟩
    · have hs : ∀ y ∈ gapW :: gs.map dg, y.length ≤ 1000 := fun y hy => by
        rcases List.mem_cons.mp hy with rfl | hy
        · decide
        · obtain ⟨n, hn, rfl⟩ := List.mem_map.mp hy
          have := dg_len (n := n) (k := 5) (by decide) (by have := (b2 n hn).2; omega)
          omega
      have z := sum_len hs
      have e : (gapW :: gs.map dg).length = gs.length + 1 := by rw [List.length_cons, List.length_map]
      rw [List.length_map, e, show (" " : Str).length = 1 from rfl]
      rw [e] at z
      omega
    rw [show Txt.join (" " : Str) ((gapW :: gs.map dg).map S) = S (rowL gapW gs) from by rw [sp_S, join_S]; rfl]
    have kH2 := (ka2.trans kb2).trans kc2
    have k02 := kH1.trans kH2
    refine ⟨(by show 2 ≤ sizeLine; decide), fun L nL => ?_⟩
    obtain ⟨H3, e3, k3, g3⟩ := made (o := .lst [.str (S (rowL lenW ls)), .str (S (rowL gapW gs))]) nL
    rw [e3]
    have k03 := k02.trans k3
    have hxl : xs.length = cs.length := hx.len.trans (List.length_map _)
    refine ⟨_, rfl, _, rfl, c, rfl, ⟨_, k03.seq hc⟩, fun D hD => ?_⟩
    refine lc_list (K := K) (a := c) (xs := xs) (fun i H' => Same H3 H' ∧ H' D = some (.lst ((((cs.take i).map clL).map S).map V.str))) ?_ ?_ ?_ ?_
    · exact ⟨same_upd hD, upd_same⟩
    · rintro i H' _ ⟨k, _⟩
      exact k.seq (k03.seq hc)
    · rintro i x H' hi ⟨k, hd⟩
      obtain ⟨kk, hkk, t, rfl, ht⟩ := (hx.same (k03.trans k)).at hi
      unfold kOf at hkk
      rw [List.getElem?_map] at hkk
      cases hcc : cs[i]? with
      | none => rw [hcc] at hkk; cases hkk
      | some d =>
        rw [hcc] at hkk
        cases hkk
        have okd := b3 d (List.mem_of_getElem? hcc)
        have il : i < cs.length := (List.getElem?_eq_some_iff.mp hcc).1
        obtain ⟨f1, f2, f3, f4, f5, f6⟩ := cl_facts okd
        obtain ⟨_, a0, a1, c0, c1⟩ := okd
        refine ⟨rfl, _, rfl, t, _, _, _, rfl, rfl, SqT.of ht, rfl, _, _, rfl, rfl, f1, _, _, rfl, rfl, f2, _, rfl, t, _, _, _, rfl, rfl, SqT.of ht, rfl, _, rfl, small_log a0 (by omega), _, _, rfl, rfl, f3, _, _, rfl, rfl, f4, _, rfl, t, _, _, _, rfl, rfl, SqT.of ht, rfl, _, rfl, small_log c0 (by omega), _, _, rfl, rfl, f5, ?_⟩
        rw [f6]
        refine ⟨_, hd, ?_, ?_, ?_⟩
        · rw [List.length_map, List.length_map, List.length_map, List.length_take]
          omega
        · intro b o e
          rw [upd_ne (ne_of_none e hD)]
          exact k b o e
        · rw [upd_same, List.take_add_one, hcc]
          simp only [List.map_append, Option.toList, List.map_cons, List.map_nil]
    rintro H4 ⟨k4, g4⟩
    rw [hxl, List.take_length] at g4
    refine ⟨L, D, _, _, rfl, rfl, k4 _ _ g3, g4, ?_, fun r nr => ?_⟩
    · rw [List.length_map, List.length_map, List.length_map]
      show 2 + cs.length ≤ sizeLine
      omega
    obtain ⟨H5, e5, k5, g5⟩ := made (o := .lst (((rowsH ls gs cs).map S).map V.str)) nr
    have e5' : upd H4 r (.lst ([.str (S (rowL lenW ls)), .str (S (rowL gapW gs))] ++ ((cs.map clL).map S).map V.str)) = H5 := e5
    rw [e5']
    exact q H5 r ((k03.trans k4).trans k5) g5
end

/-! ### one order -/
section
open GxR NdefX PySem.Spec PyProof.Rows
variable {P : Program} {w : World} {K : PySem.W.Frag} {mg : Str → Option Value} {base : Heap}
theorem perm_uniq {α : Type} {le : α → α → Bool} : ∀ {a b : List α}, a.Perm b → a.Pairwise (fun x y => le x y = true) → b.Pairwise (fun x y => le x y = true) → (∀ x ∈ a, ∀ y ∈ a, le x y = true → le y x = true → x = y) → a = b
  | [], b, h, _, _, _ => h.nil_eq
  | p :: a, [], h, _, _, _ => absurd h.length_eq (by simp)
  | p :: a, q :: b, h, ha, hb, an => by
    have e : p = q := by
      rcases List.mem_cons.mp (h.mem_iff.mp List.mem_cons_self) with e | m
      · exact e
      · have mq := h.mem_iff.mpr List.mem_cons_self
        rcases List.mem_cons.mp mq with e | m'
        · exact e.symm
        · exact an p List.mem_cons_self q mq (List.rel_of_pairwise_cons ha m') (List.rel_of_pairwise_cons hb m)
    subst e
    rw [perm_uniq ((List.perm_cons p).mp h) ha.of_cons hb.of_cons fun x hx y hy => an x (List.mem_cons_of_mem _ hx) y (List.mem_cons_of_mem _ hy)]
theorem leK_total : PySem.W.TotalLe leK := PySem.W.sortLe_total _ false _
theorem sortK_pw (ks : List Tk) : (sortK ks).Pairwise fun x y => leK x y = true := List.pairwise_mergeSort leK_total.trans (fun a b => by have z := leK_total.total a b; rw [Bool.or_eq_true]; exact z) ks
theorem lt_lk_same (x : Str) (a h b k : Int) : PySem.W.dataLt (dK (lk x a h)) (dK (lk x b k)) = decide (a < b ∨ (a = b ∧ h < k)) := by
  show PySem.W.dataLt (.tuple [.str x, .int a, .int h]) (.tuple [.str x, .int b, .int k]) = _
  rw [PySem.W.dataLt_tuple, PySem.W.dataLt_all_yes (by simp [PySem.W.alike]) (by simp [PyData.eqv]), ← PySem.W.dataLt_tuple]
  exact PySem.W.dataLt_ii _ _ _ _
theorem lt_lk_no {x y : Str} (ne : ¬ x = y) (a h b k : Int) : PySem.W.dataLt (dK (lk x a h)) (dK (lk y b k)) = decide (x.cps.toList < y.cps.toList) := by
  show PySem.W.dataLt (.tuple [.str x, .int a, .int h]) (.tuple [.str y, .int b, .int k]) = _
  rw [PySem.W.dataLt_tuple, PySem.W.dataLt_all_no (by simp [PySem.W.alike]) (by rw [eqv_str]; exact decide_eq_false ne), PySem.W.dataLt_str]
theorem leK_anti {c d : Str × Int × Int} (hc : okC c) (hd : okC d) (h1 : leK (lk c.1 c.2.1 c.2.2) (lk d.1 d.2.1 d.2.2) = true) (h2 : leK (lk d.1 d.2.1 d.2.2) (lk c.1 c.2.1 c.2.2) = true) : c = d := by
  have z1 : (!PySem.W.dataLt (dK (lk d.1 d.2.1 d.2.2)) (dK (lk c.1 c.2.1 c.2.2))) = true := h1
  have z2 : (!PySem.W.dataLt (dK (lk c.1 c.2.1 c.2.2)) (dK (lk d.1 d.2.1 d.2.2))) = true := h2
  obtain ⟨x, a, h⟩ := c
  obtain ⟨y, b, k⟩ := d
  dsimp only at z1 z2 hc hd
  by_cases e : x = y
  · subst e
    rw [lt_lk_same] at z1 z2
    simp only [Bool.not_eq_true', decide_eq_false_iff_not] at z1 z2
    have e1 : a = b := by omega
    have e2 : h = k := by omega
    rw [e1, e2]
  · rw [lt_lk_no (fun z => e z.symm)] at z1
    rw [lt_lk_no e] at z2
    rcases hc.1 with e1 | e1 <;> rcases hd.1 with e2 | e2
    · exact absurd (e1.trans e2.symm) e
    · have e1' : x = "up" := e1
      have e2' : y = "over" := e2
      rw [e1', e2'] at z1
      exact absurd z1 (by decide +kernel)
    · have e1' : x = "over" := e1
      have e2' : y = "up" := e2
      rw [e1', e2'] at z2
      exact absurd z2 (by decide +kernel)
    · exact absurd (e1.trans e2.symm) e
theorem sortK_congr {a b : List (Str × Int × Int)} (h : a.Perm b) (ok : ∀ c ∈ a, okC c) : sortK (kOf a) = sortK (kOf b) := by
  have hk : (kOf a).Perm (kOf b) := h.map _
  refine perm_uniq (((sortK_perm _).trans hk).trans (sortK_perm _).symm) (sortK_pw _) (sortK_pw _) fun x hx y hy h1 h2 => ?_
  obtain ⟨c, hc, rfl⟩ := List.mem_map.mp ((sortK_perm _).mem_iff.mp hx)
  obtain ⟨d, hd, rfl⟩ := List.mem_map.mp ((sortK_perm _).mem_iff.mp hy)
  rw [leK_anti (ok c hc) (ok d hd) h1 h2]
theorem sortC_congr {a b : List (Str × Int × Int)} (h : a.Perm b) (ok : ∀ c ∈ a, okC c) : sortC a = sortC b := by
  have pw : ∀ l : List (Str × Int × Int), (sortC l).Pairwise fun a b => leK (lk a.1 a.2.1 a.2.2) (lk b.1 b.2.1 b.2.2) = true := fun l => by
    refine List.pairwise_mergeSort (le := fun a b : Str × Int × Int => leK (lk a.1 a.2.1 a.2.2) (lk b.1 b.2.1 b.2.2)) (fun x y z => leK_total.trans _ _ _) (fun x y => ?_) l
    have z := leK_total.total (lk x.1 x.2.1 x.2.2) (lk y.1 y.2.1 y.2.2)
    rw [Bool.or_eq_true]
    exact z
  refine perm_uniq (le := fun a b : Str × Int × Int => leK (lk a.1 a.2.1 a.2.2) (lk b.1 b.2.1 b.2.2)) (((sortC_perm _).trans h).trans (sortC_perm _).symm) (pw a) (pw b) fun x hx y hy h1 h2 => ?_
  exact leK_anti (ok x ((sortC_perm _).mem_iff.mp hx)) (ok y ((sortC_perm _).mem_iff.mp hy)) h1 h2
theorem Krs.rev {H : Hp} {vs : List V} {ks : List Tk} (h : Krs H vs ks) : Krs H vs.reverse ks.reverse := by
  induction h with
  | nil => exact .nil
  | cons a _ ih => rw [List.reverse_cons, List.reverse_cons]; exact ih.snoc a
end

/-! ### the law -/
section
open GxR NdefX PySem.Spec PyProof.Rows
variable {P : Program} {w : World} {K : PySem.W.Frag} {mg : Str → Option Value} {base : Heap}
structure LawH (P : Program) (w : World) (K : PySem.W.Frag) (mg : Str → Option Value) (base : Heap) where
  Z : MakeH P w K mg base
  cl : Cls K Z.C
  T0 : Addr
  fS : Addr
  fdS : FuncData
  mS : Meth K Z.C "same_as" fS
  GS : FnOk P w K mg base CX0 4 fS fdS ["self", "other"] (spSameH Z.C)
  bS : Binds K fdS ["self", "other"] []
  pC : PropD P w K mg base Z.C 2 "closed" (spClosed Z.C)
  Nu : TopD P w K mg base 2 "_law_numbers" ["script", "many"] (spNumbers K)
  Pa : TopD P w K mg base 1 "_law_parts" ["numbers", "at"] (spParts K)
  Ll : TopD P w K mg base 1 "_law_lines" ["lengths", "gaps", "closed"] (spLL K)
  Fh : TopD P w K mg base 4 "format_house" ["house"] (spFH Z.C)
  Ph : TopD P w K mg base 10 "parse_house" ["text"] (spPH Z.C T0 Z.TL Z.TI)
  sorted : mg "sorted" = none
abbrev NLaw : List Str := ["script", "numbers", "rows", "lengths", "gaps", "closed", "house", "text", "some", "again"]
/-- a row of parts -/
def RowH (H : Hp) (v : V) : Prop := ∃ (t l g c : Addr) (ls gs : List Int) (xs : List V) (cs : List (Str × Int × Int)), v = .ref t ∧ H t = some (.tup [.ref l, .ref g, .ref c]) ∧ H l = some (.lst (ls.map V.int)) ∧ H g = some (.lst (gs.map V.int)) ∧ H c = some (.lst xs) ∧ Krs H xs (kOf cs) ∧ Valid ls gs cs
theorem RowH.same {H H' : Hp} {v : V} (h : RowH H v) (k : Same H H') : RowH H' v := by
  obtain ⟨t, l, g, c, ls, gs, xs, cs, e, h1, h2, h3, h4, h5, h6⟩ := h
  exact ⟨t, l, g, c, ls, gs, xs, cs, e, k _ _ h1, k _ _ h2, k _ _ h3, k _ _ h4, h5.same k, h6⟩
theorem valid_a : Valid [40, 40] (List.replicate 11 40) [("up", 11, 79), ("over", 10, 80), ("over", 0, 40)] := by
  refine ⟨⟨⟨by decide, by decide⟩, by decide⟩, ⟨by decide, by decide⟩, by decide, by decide +kernel, fun c hc => ?_⟩
  simp only [List.mem_cons, List.mem_nil_iff, or_false] at hc
  rcases hc with rfl | rfl | rfl <;> decide +kernel
theorem valid_b : Valid [1] [] [] := ⟨⟨⟨by decide, by decide⟩, by decide⟩, ⟨by decide, by decide⟩, by decide, .nil, fun _ z => nomatch z⟩
theorem text_join {ls gs : List Int} {cs : List (Str × Int × Int)} : Txt.join ("\n" : Str) ((rowsH ls gs cs).map S) = S (houseL ls gs cs) := by
  rw [nl_S, join_S]
  rfl
theorem valid_perm {ls gs : List Int} {cs ds : List (Str × Int × Int)} (va : Valid ls gs cs) (h : ds.Perm cs) : Valid ls gs ds := by
  obtain ⟨v1, v2, v3, v4, v5⟩ := va
  exact ⟨v1, v2, by rw [h.length_eq]; exact v3, (List.Perm.map (fun c : Str × Int × Int => lk c.1 c.2.1 c.2.2) h).nodup_iff.mpr v4, fun c hc => v5 c (h.mem_iff.mp hc)⟩
def spLaw (K : PySem.W.Frag) (T0 TL TI : Addr) : Sp := fun vs H Q _ => ∃ (a : Addr) (ns : List Int), vs = [.ref a] ∧ SqL K H a (ns.map V.int) ∧ ns.length ≤ 63 ∧ TabG H T0 ∧ TabG H TL ∧ TabG H TI ∧ ∀ H', Q (.bl true) H'
theorem ok_law {f : Addr} {fd : FuncData} (F : Fun K "law" "law" s_law f fd) (Z : LawH P w K mg base) : FnOk P w K mg base CX0 11 f fd ["script"] (spLaw K Z.T0 Z.Z.TL Z.Z.TI) := by
  refine F.ok sc_law (fun vs H Q E h => ?_) (fun cdv A outer s H vs Q E hr h => ?_)
  · obtain ⟨a, xs, rfl, _⟩ := h
    rfl
  · obtain ⟨a0, sc, rfl, hS, hlen, t0, tL, tI, q⟩ := h
    have nd : NLaw.Nodup := sc_law.nd
    have hline : 1000000 < sizeLine := by decide
    refine ⟨_, (pss_cons (ps_set (i := 1) nd rfl (.inl rfl) (pe_call Z.Nu.G (by exact hr.mono (by decide)) (by rfl) Z.Nu.g Z.Nu.kp Z.Nu.b .nil pass0 (pa_cons (pv 0) (pa_cons pe_int pa_nil))))
      (pss_cons (ps_set (i := 2) nd rfl (.inl rfl) (pe_lst (pa_cons (pe_call Z.Pa.G (by exact hr.mono (by decide)) (by rfl) Z.Pa.g Z.Pa.kp Z.Pa.b .nil pass0 (pa_cons (pv 1) (pa_cons pe_int pa_nil))) (pa_cons (pe_tup (pa_cons (pe_lst (pa_cons pe_int (pa_cons pe_int pa_nil))) (pa_cons (pe_op op_rep (pe_lst (pa_cons pe_int pa_nil)) pe_int) (pa_cons (pe_lst (pa_cons (pe_tup (pa_cons pe_str (pa_cons pe_int (pa_cons pe_int pa_nil)))) (pa_cons (pe_tup (pa_cons pe_str (pa_cons pe_int (pa_cons pe_int pa_nil)))) (pa_cons (pe_tup (pa_cons pe_str (pa_cons pe_int (pa_cons pe_int pa_nil)))) pa_nil)))) pa_nil)))) (pa_cons (pe_tup (pa_cons (pe_lst (pa_cons pe_int pa_nil)) (pa_cons (pe_lst pa_nil) (pa_cons (pe_lst pa_nil) pa_nil)))) pa_nil)))))
      (pss_cons (ps_for PassesOwn.never rfl (pi_list (pv 2)) (pg_tup rfl (pgs_cons (pg_name (i := 3) nd rfl (.inl rfl)) (pgs_cons (pg_name (i := 4) nd rfl (.inl rfl)) (pgs_cons (pg_name (i := 5) nd rfl (.inl rfl)) pgs_nil)))) (pss_cons (ps_set (i := 6) nd rfl (.inl rfl) (pe_make Z.Z.M Z.Z.GI (by exact hr.mono (by decide)) (by rfl) Z.Z.mgC Z.Z.bI .nil (passes_call takes0 fun _ _ _ _ h => h) (pa_cons (pv 3) (pa_cons (pv 4) (pa_cons (pv 5) pa_nil)))))
      (pss_cons (ps_set (i := 7) nd rfl (.inl rfl) (pe_join pe_str (pe_call Z.Ll.G (by exact hr.mono (by decide)) (by rfl) Z.Ll.g Z.Ll.kp Z.Ll.b .nil pass0 (pa_cons (pv 3) (pa_cons (pv 4) (pa_cons (pe_callB (call_sortK (by exact hr.units)) (by rfl) Z.sorted (by decide +kernel) (pa_cons (pv 5) pa_nil)) pa_nil))))))
      (pss_cons (ps_if (pt_cmpR op_ne (pe_call Z.Fh.G (by exact hr.mono (by decide)) (by rfl) Z.Fh.g Z.Fh.kp Z.Fh.b .nil pass0 (pa_cons (pv 6) pa_nil)) (pv 7) (nomark _)) (pss_one (ps_ret pe_bl)) pss_nil)
      (pss_one (ps_for PassesOwn.never rfl (pi_list (pe_lst (pa_cons (pe_callB (call_sortK (by exact hr.units)) (by rfl) Z.sorted (by decide +kernel) (pa_cons (pv 5) pa_nil)) (pa_cons (pv 5) (pa_cons (pe_revL (pv 5)) pa_nil))))) (pg_name (i := 8) nd rfl (.inl rfl)) (pss_cons (ps_set (i := 9) nd rfl (.inl rfl) (pe_call Z.Ph.G (by exact hr.mono (by decide)) (by rfl) Z.Ph.g Z.Ph.kp Z.Ph.b .nil pass0 (pa_cons (pe_join pe_str (pe_call Z.Ll.G (by exact hr.mono (by decide)) (by rfl) Z.Ll.g Z.Ll.kp Z.Ll.b .nil pass0 (pa_cons (pv 3) (pa_cons (pv 4) (pa_cons (pv 8) pa_nil))))) pa_nil)))
      (pss_one (ps_if (PW.pt (pw_or (pt_cmpR op_notBl (pe_meth (pv 9) Z.cl Z.mS Z.GS (by exact hr.mono (by decide)) Z.bS .nil pass0 (pa_cons (pv 6) pa_nil)) pe_bl (nomark _)) (pw_or (pt_cmpR op_ne (pe_call Z.Fh.G (by exact hr.mono (by decide)) (by rfl) Z.Fh.g Z.Fh.kp Z.Fh.b .nil pass0 (pa_cons (pv 9) pa_nil)) (pv 7) (nomark _)) (pw_or1 (pt_cmpR (op_neD (by exact hr.units)) (pe_prop (pv 9) Z.cl Z.pC.h Z.pC.G (by exact hr.mono (by decide)) Z.pC.b .nil pass0 rfl) (pe_callB (call_sortK (by exact hr.units)) (by rfl) Z.sorted (by decide +kernel) (pa_cons (pv 5) pa_nil)) (nomark _)))))) (pss_one (ps_ret pe_bl)) pss_nil)))))))))
      (pss_one (ps_ret pe_bl))))), ?_⟩
    refine ⟨_, rfl, a0, sc, 30, rfl, hS, hlen, by decide, fun H1 p ns k1 np hp hln hs => ?_⟩
    refine ⟨_, rfl, p, ns, 0, rfl, SqL.of hp, hs, by omega, fun H2 pa l g c ls gs xs cs k2 _ hpa _ _ _ hl hg hc hx va _ _ => ?_⟩
    have r1 : RowH H2 (.ref pa) := ⟨pa, l, g, c, ls, gs, xs, cs, rfl, hpa, hl, hg, hc, hx, va⟩
    -- the second row
    refine ⟨(by show 2 ≤ sizeLine; decide), fun l3 n3 => ?_⟩
    obtain ⟨A3, e3, k3, g3⟩ := made (o := .lst ([(40 : Int), 40].map V.int)) n3
    have e3' : upd H2 l3 (.lst [V.int 40, V.int 40]) = A3 := e3
    rw [e3']
    refine ⟨(by show 1 ≤ sizeLine; decide), fun l4 n4 => ?_⟩
    obtain ⟨A4, e4, k4, g4⟩ := made (o := .lst [V.int 40]) n4
    rw [e4]
    refine ⟨l4, 11, [V.int 40], rfl, rfl, g4, by decide, by decide, by decide, fun l5 n5 => ?_⟩
    obtain ⟨A5, e5, k5, g5⟩ := made (o := .lst ((List.replicate 11 (40 : Int)).map V.int)) n5
    have e5' : upd A4 l5 (.lst (List.replicate (11 : Int).toNat [V.int 40]).flatten) = A5 := e5
    rw [e5']
    refine ⟨(by show 3 ≤ sizeLine; decide), fun t1 m1 => ?_⟩
    obtain ⟨A6, e6, k6, g6⟩ := made (o := .tup [V.str "up", V.int 11, V.int 79]) m1
    rw [e6]
    refine ⟨(by show 3 ≤ sizeLine; decide), fun t2 m2 => ?_⟩
    obtain ⟨A7, e7, k7, g7⟩ := made (o := .tup [V.str "over", V.int 10, V.int 80]) m2
    rw [e7]
    refine ⟨(by show 3 ≤ sizeLine; decide), fun t3 m3 => ?_⟩
    obtain ⟨A8, e8, k8, g8⟩ := made (o := .tup [V.str "over", V.int 0, V.int 40]) m3
    rw [e8]
    refine ⟨(by show 3 ≤ sizeLine; decide), fun l9 n9 => ?_⟩
    obtain ⟨A9, e9, k9, g9⟩ := made (o := .lst [V.ref t1, V.ref t2, V.ref t3]) n9
    rw [e9]
    refine ⟨(by show 3 ≤ sizeLine; decide), fun tA nA => ?_⟩
    obtain ⟨A10, e10, k10, g10⟩ := made (o := .tup [V.ref l3, V.ref l5, V.ref l9]) nA
    rw [e10]
    have j9 := k10
    have j8 := k9.trans j9
    have j7 := k8.trans j8
    have j6 := k7.trans j7
    have j5 := k6.trans j6
    have j4 := k5.trans j5
    have j3 := k4.trans j4
    have r2 : RowH A10 (.ref tA) := ⟨tA, l3, l5, l9, [40, 40], List.replicate 11 40, _, [("up", 11, 79), ("over", 10, 80), ("over", 0, 40)], rfl, g10, j3 _ _ g3, j5 _ _ g5, j9 _ _ g9, .cons ⟨t1, rfl, j6 _ _ g6⟩ (.cons ⟨t2, rfl, j7 _ _ g7⟩ (.cons ⟨t3, rfl, j8 _ _ g8⟩ .nil)), valid_a⟩
    have kA := k3.trans j3
    -- the third row
    refine ⟨(by show 1 ≤ sizeLine; decide), fun l6 n6 => ?_⟩
    obtain ⟨A11, e11, k11, g11⟩ := made (o := .lst ([(1 : Int)].map V.int)) n6
    have e11' : upd A10 l6 (.lst [V.int 1]) = A11 := e11
    rw [e11']
    refine ⟨Nat.zero_le _, fun l7 n7 => ?_⟩
    obtain ⟨A12, e12, k12, g12⟩ := made (o := .lst (([] : List Int).map V.int)) n7
    have e12' : upd A11 l7 (.lst []) = A12 := e12
    rw [e12']
    refine ⟨Nat.zero_le _, fun l8 n8 => ?_⟩
    obtain ⟨A13, e13, k13, g13⟩ := made (o := .lst []) n8
    rw [e13]
    refine ⟨(by show 3 ≤ sizeLine; decide), fun tB nB => ?_⟩
    obtain ⟨A14, e14, k14, g14⟩ := made (o := .tup [V.ref l6, V.ref l7, V.ref l8]) nB
    rw [e14]
    have r3 : RowH A14 (.ref tB) := ⟨tB, l6, l7, l8, [1], [], [], [], rfl, g14, ((k12.trans k13).trans k14) _ _ g11, (k13.trans k14) _ _ g12, k14 _ _ g13, .nil, valid_b⟩
    have kB := ((k11.trans k12).trans k13).trans k14
    refine ⟨(by show 3 ≤ sizeLine; decide), fun R nR => ?_⟩
    obtain ⟨B, eB, kR, gR⟩ := made (o := .lst [V.ref pa, V.ref tA, V.ref tB]) nR
    rw [eB]
    have rows : ∀ x ∈ [V.ref pa, V.ref tA, V.ref tB], RowH B x := fun x hx' => by
      simp only [List.mem_cons, List.mem_nil_iff, or_false] at hx'
      rcases hx' with rfl | rfl | rfl
      · exact r1.same ((kA.trans kB).trans kR)
      · exact r2.same (kB.trans kR)
      · exact r3.same kR
    have tabs : ∀ {X}, TabG H X → TabG B X := fun {X} h => (kpS (((k1.trans k2).trans (kA.trans kB)).trans kR)).tab _ h
    have t0B := tabs t0
    have tLB := tabs tL
    have tIB := tabs tI
    clear tabs r1 r2 r3 j3 j4 j5 j6 j7 j8 j9 kA kB g3 g4 g5 g6 g7 g8 g9 g10 g11 g12 g13 g14 hx va hpa hl hg hc k3 k4 k5 k6 k7 k8 k9 k10 k11 k12 k13 k14
    refine ⟨_, rfl, R, rfl, ⟨_, SqL.of gR⟩, ?_⟩
    refine for_list (K := K) (a := R) (xs := [V.ref pa, V.ref tA, V.ref tB]) (fun i σ H' => ∃ (v3 v4 v5 v6 v7 v8 v9 : Option V), σ = [some (.ref a0), some (.ref p), some (.ref R), v3, v4, v5, v6, v7, v8, v9] ∧ Kp B H') ?_ ?_ ?_ ?_
    · exact ⟨_, _, _, _, _, _, _, rfl, Kp.refl _⟩
    · rintro i σ H' _ ⟨_, _, _, _, _, _, _, _, k⟩
      exact SqL.of (k.lst gR)
    · rintro i x σ H' hi ⟨v3, v4, v5, v6, v7, v8, v9, rfl, kk⟩
      obtain ⟨t, l, g, c, ls, gs, xs, cs, rfl, h1, h2, h3, h4, h5, va⟩ := rows x (List.mem_of_getElem? hi)
      have g1 := kk.tup h1
      have g2 := kk.lst h2
      have g3 := kk.lst h3
      have g4 := kk.lst h4
      have gx := h5.kp kk
      obtain ⟨b1, b2⟩ := valid_lens va
      have w1 := va.1.1.2
      have w2 := va.2.1.1
      have w3 := va.2.2.1
      have okc : ∀ c ∈ cs, okC c := fun c hc => valid_okC va hc
      have xl : xs.length = cs.length := gx.len.trans (List.length_map _)
      refine ⟨t, _, rfl, SqT.of g1, rfl, _, _, rfl, _, _, rfl, _, _, rfl, rfl, ?_⟩
      -- the house
      refine ⟨_, rfl, _, rfl, _, rfl, fun x dx nx ndx ne => ?_⟩
      have kM : Same H' (upd (upd H' dx (.own x)) x (.ins Z.Z.C dx [])) := fun b z e => by
        rw [upd_ne (ne_of_none e nx), upd_ne (ne_of_none e ndx)]
        exact e
      refine ⟨x, dx, l, g, c, ls, gs, xs, cs, rfl, upd_same, SqL.of (kM _ _ g2), SqL.of (kM _ _ g3), SqL.of (kM _ _ g4), gx.same kM, by omega, by omega, by omega, (kk.trans (kpS kM)).tab _ tLB, (kk.trans (kpS kM)).tab _ tIB, fun _ C1 hH kb _ => ⟨rfl, ?_⟩, fun nv => absurd va nv⟩
      have c1 : Kp H' C1 := mkKp nx ndx kb
      have u2 := c1.lst g2
      have u3 := c1.lst g3
      have u4 := c1.lst g4
      have ux := gx.kp c1
      have kk1 := kk.trans c1
      -- the text
      refine ⟨⟨_, rfl⟩, _, rfl, _, rfl, _, rfl, c, xs, kOf cs, rfl, SqL.of u4, ux, fit_kOf cs, fun m ys nm hys => ?_⟩
      obtain ⟨C2, ec2, c2, gm⟩ := made (o := .lst ys) nm
      rw [ec2]
      rw [← kOf_sortC] at hys
      have sp := sortC_perm cs
      have oks : ∀ c ∈ sortC cs, okC c := fun c hc => okc c (sp.mem_iff.mp hc)
      have sl := sp.length_eq
      refine ⟨l, g, m, ls, gs, ys, sortC cs, rfl, SqL.of (c2 _ _ u2), SqL.of (c2 _ _ u3), SqL.of gm, hys.same c2, b1, b2, w1, w2, oks, by omega, fun C3 r3 c3 gr3 => ?_⟩
      refine ⟨_, r3, (rowsH ls gs (sortC cs)).map S, rfl, rfl, .inl (SqL.of gr3), rowsH_sum b1 b2 w1 w2 oks (by omega), ?_⟩
      rw [text_join]
      have c13 := c2.trans c3
      -- written the same
      refine ⟨_, rfl, x, ls, gs, cs, rfl, hH.kp (kpS c13), fun C4 c4 => ?_⟩
      refine ⟨_, rfl, rfl, _, rfl, ?_⟩
      rw [decide_eq_true rfl]
      refine iteF ?_
      have c14 := c13.trans c4
      -- three orders
      refine ⟨_, rfl, c, xs, kOf cs, rfl, SqL.of (c14 _ _ u4), ux.same c14, fit_kOf cs, fun m1 ys1 nm1 hys1 => ?_⟩
      obtain ⟨C5, ec5, c5, gm1⟩ := made (o := .lst ys1) nm1
      rw [ec5]
      rw [← kOf_sortC] at hys1
      have c15 := c14.trans c5
      refine ⟨_, rfl, _, rfl, c, xs, rfl, SqL.of (c15 _ _ u4), fun m2 nm2 => ?_⟩
      obtain ⟨C6, ec6, c6, gm2⟩ := made (o := .lst xs.reverse) nm2
      rw [ec6]
      refine ⟨(by show 3 ≤ sizeLine; decide), fun sl3 nsl => ?_⟩
      obtain ⟨C7, ec7, c7, gsl⟩ := made (o := .lst [V.ref m1, V.ref c, V.ref m2]) nsl
      rw [ec7]
      have c17 := (c15.trans c6).trans c7
      have kk7 := kk1.trans (kpS c17)
      have each : ∀ y ∈ [V.ref m1, V.ref c, V.ref m2], ∃ (r : Addr) (zs : List V) (ds : List (Str × Int × Int)), y = .ref r ∧ C7 r = some (.lst zs) ∧ Krs C7 zs (kOf ds) ∧ ds.Perm cs := fun y hy => by
        simp only [List.mem_cons, List.mem_nil_iff, or_false] at hy
        rcases hy with rfl | rfl | rfl
        · exact ⟨m1, ys1, sortC cs, rfl, (c6.trans c7) _ _ gm1, hys1.same ((c5.trans c6).trans c7), sp⟩
        · exact ⟨c, xs, cs, rfl, c17 _ _ u4, ux.same c17, .refl _⟩
        · refine ⟨m2, xs.reverse, cs.reverse, rfl, c7 _ _ gm2, ?_, List.reverse_perm cs⟩
          have e : kOf cs.reverse = (kOf cs).reverse := List.map_reverse ..
          rw [e]
          exact (ux.same c17).rev
      have v2 := c17 _ _ u2
      have v3' := c17 _ _ u3
      have v4' := c17 _ _ u4
      have vx := ux.same c17
      have vH := hH.kp (kpS c17)
      clear hys hys1 ec2 ec5 ec6 ec7 eB c14 c15 c13 c2 c3 c4 c5 c6 c7 gm gm1 gm2 gr3
      refine ⟨sl3, rfl, ⟨_, SqL.of gsl⟩, ?_⟩
      refine for_list (K := K) (a := sl3) (xs := [V.ref m1, V.ref c, V.ref m2]) (fun i σ H' => ∃ (v8 v9 : Option V), σ = [some (.ref a0), some (.ref p), some (.ref R), some (.ref l), some (.ref g), some (.ref c), some (.ref x), some (.str (S (houseL ls gs (sortC cs)))), v8, v9] ∧ Kp C7 H') ?_ ?_ ?_ ?_
      · exact ⟨_, _, rfl, Kp.refl _⟩
      · rintro i σ H' _ ⟨_, _, _, k⟩
        exact SqL.of (k.lst gsl)
      · rintro i y σ H' hy ⟨v8, v9, rfl, k7⟩
        obtain ⟨r, zs, ds, rfl, hr0, hz0, perm⟩ := each y (List.mem_of_getElem? hy)
        have vd := valid_perm va perm
        have okd : ∀ c ∈ ds, okC c := fun c hc => valid_okC vd hc
        refine ⟨⟨_, rfl⟩, _, rfl, _, rfl, _, rfl, l, g, r, ls, gs, zs, ds, rfl, SqL.of (k7.lst v2), SqL.of (k7.lst v3'), SqL.of (k7.lst hr0), hz0.kp k7, b1, b2, w1, w2, okd, vd.2.2.1, fun D1 r1 d1 gr1 => ?_⟩
        refine ⟨_, r1, (rowsH ls gs ds).map S, rfl, rfl, .inl (SqL.of gr1), rowsH_sum b1 b2 w1 w2 okd vd.2.2.1, ?_⟩
        have kD := k7.trans (kpS d1)
        have kBD := kk7.trans kD
        refine ⟨ls, gs, ds, (by show [V.str (Txt.join ("\n" : Str) _)] = _; rw [text_join]), vd, kBD.tab _ t0B, kBD.tab _ tLB, kBD.tab _ tIB, fun D2 ag cs' d2 hag hp' => ?_⟩
        have pc : cs'.Perm cs := hp'.trans perm
        have vc := valid_perm va pc
        have ok' : ∀ c ∈ cs', okC c := fun c hc => valid_okC vc hc
        have kD2 := kD.trans d2
        obtain ⟨_, dxa, _, _, _, _, a1, _⟩ := id hag
        refine ⟨_, rfl, ag, dxa, _, rfl, a1, hf_no _ _ _ _ _ (by decide +kernel) (by decide +kernel) (by decide +kernel) (by decide +kernel) (by decide +kernel), _, rfl, ag, x, ls, gs, cs', cs, rfl, hag, vH.kp kD2, sortK_congr pc ok', fun D3 d3 => ?_⟩
        refine ⟨_, _, rfl, rfl, _, rfl, ?_⟩
        refine iteF ?_
        refine ⟨_, rfl, ag, ls, gs, cs', rfl, hag.kp (kpS d3), fun D4 d4 => ?_⟩
        refine ⟨_, rfl, rfl, _, rfl, ?_⟩
        rw [sortC_congr pc ok', decide_eq_true rfl]
        refine iteF ?_
        have d24 := d3.trans d4
        refine ⟨_, rfl, ag, dxa, _, rfl, d24 _ _ a1, ag, ls, gs, cs', rfl, hag.kp (kpS d24), fun m5 ys5 n5 hys5 => ?_⟩
        obtain ⟨D5, e5, d5, g5⟩ := made (o := .lst ys5) n5
        rw [e5]
        have k75 := kD2.trans (kpS (d24.trans d5))
        refine ⟨_, rfl, c, xs, kOf cs, rfl, SqL.of (k75.lst v4'), vx.kp k75, fit_kOf cs, fun m6 ys6 n6 hys6 => ?_⟩
        obtain ⟨D6, e6, d6, g6⟩ := made (o := .lst ys6) n6
        rw [e6]
        have oks5 : ∀ k ∈ sortK (kOf cs), okk k = true := fun k hk => okk_valid va k ((sortK_perm _).mem_iff.mp hk)
        rw [sortK_congr pc ok'] at hys5
        refine ⟨_, _, ((hys5.same d5).same d6).dl (SqL.of (d6 _ _ g5)), (hys6.same d6).dl (SqL.of g6), sh_dKs oks5, sh_dKs oks5, _, rfl, ?_⟩
        rw [eqv_dKs, decide_eq_true rfl]
        refine iteF ?_
        exact ⟨_, _, rfl, k75.trans (kpS d6)⟩
      · rintro σ H'' ⟨v8, v9, rfl, k7⟩
        exact ⟨_, _, _, _, _, _, _, rfl, kk7.trans k7⟩
    · rintro σ H' ⟨_, _, _, _, _, _, _, rfl, _⟩
      exact q H'
end

/-! ### the end -/
section
open GxR NdefX PySem.Spec PyProof.Rows
/-! ### what the top has left -/
theorem all_mk {l : PySem.W.OpenLaw} {w : World} {K : PySem.W.Frag} {h : Heap} {mg : Str → Option Value} {fa : Addr} {TI TL T0 : Addr} (X : K.In h) (G : h.Ns mainGlobals mg) (hfa : mg "law" = some (.ref fa))
    {C : Addr}
    {CI : Addr}
    {CL : Addr}
    {CTL : Addr}
    {Pe : Addr}
    {CN : Addr}
    {nm0 qn0 : Str} {N0 : Addr} {bs0 : List Value} {sn0 : List Str} {sb0 : List Value} {ab0 : Bool} {co0 : Option Bool} {dd0 : Option Addr} {ma0 mb0 mc0 md0 me0 : Option Value}
    {f_iCN : Addr}
    {od_iCN an_iCN : Option Addr} {sl_iCN : Array (Option Value)} {oc_iCN kV_iCN dc_iCN pm_iCN cd_iCN ct_iCN : Value}
    {tk1 tk2 tk3 tk4 tk5 : Tok}
    {f_ini : Addr}
    {c8_ini : Addr}
    {od_ini an_ini : Option Addr} {sl_ini : Array (Option Value)} {oc_ini kV_ini dc_ini pm_ini ct_ini : Value}
    {f_al : Addr}
    {c8_al : Addr}
    {od_al an_al : Option Addr} {sl_al : Array (Option Value)} {oc_al kV_al dc_al pm_al ct_al : Value}
    {f_nof : Addr}
    {c8_nof : Addr}
    {od_nof an_nof : Option Addr} {sl_nof : Array (Option Value)} {oc_nof kV_nof dc_nof pm_nof ct_nof : Value}
    {p_lengths : Addr}
    {r_lengths : List Value}
    {f_lengths : Addr}
    {od_lengths an_lengths : Option Addr} {sl_lengths : Array (Option Value)} {oc_lengths kV_lengths dc_lengths pm_lengths cd_lengths ct_lengths : Value}
    {p_gaps : Addr}
    {r_gaps : List Value}
    {f_gaps : Addr}
    {od_gaps an_gaps : Option Addr} {sl_gaps : Array (Option Value)} {oc_gaps kV_gaps dc_gaps pm_gaps cd_gaps ct_gaps : Value}
    {p_closed : Addr}
    {r_closed : List Value}
    {f_closed : Addr}
    {od_closed an_closed : Option Addr} {sl_closed : Array (Option Value)} {oc_closed kV_closed dc_closed pm_closed cd_closed ct_closed : Value}
    {f_ilk : Addr}
    {od_ilk an_ilk : Option Addr} {sl_ilk : Array (Option Value)} {oc_ilk kV_ilk dc_ilk pm_ilk cd_ilk ct_ilk : Value}
    {f_icl : Addr}
    {od_icl an_icl : Option Addr} {sl_icl : Array (Option Value)} {oc_icl kV_icl dc_icl pm_icl cd_icl ct_icl : Value}
    {f_wcl : Addr}
    {od_wcl an_wcl : Option Addr} {sl_wcl : Array (Option Value)} {oc_wcl kV_wcl dc_wcl pm_wcl cd_wcl ct_wcl : Value}
    {f_sam : Addr}
    {od_sam an_sam : Option Addr} {sl_sam : Array (Option Value)} {oc_sam kV_sam dc_sam pm_sam cd_sam ct_sam : Value}
    {f_cross : Addr}
    {od_cross an_cross : Option Addr} {sl_cross : Array (Option Value)} {oc_cross kV_cross dc_cross pm_cross cd_cross ct_cross : Value}
    {f_fho : Addr}
    {od_fho an_fho : Option Addr} {sl_fho : Array (Option Value)} {oc_fho kV_fho dc_fho pm_fho cd_fho ct_fho : Value}
    {f_pho : Addr}
    {od_pho an_pho : Option Addr} {sl_pho : Array (Option Value)} {oc_pho kV_pho dc_pho pm_pho cd_pho ct_pho : Value}
    {f_ro : Addr}
    {od_ro an_ro : Option Addr} {sl_ro : Array (Option Value)} {oc_ro kV_ro dc_ro pm_ro cd_ro ct_ro : Value}
    {f_isn : Addr}
    {od_isn an_isn : Option Addr} {sl_isn : Array (Option Value)} {oc_isn kV_isn dc_isn pm_isn cd_isn ct_isn : Value}
    {f_nin : Addr}
    {od_nin an_nin : Option Addr} {sl_nin : Array (Option Value)} {oc_nin kV_nin dc_nin pm_nin cd_nin ct_nin : Value}
    {f_hof : Addr}
    {od_hof an_hof : Option Addr} {sl_hof : Array (Option Value)} {oc_hof kV_hof dc_hof pm_hof cd_hof ct_hof : Value}
    {f_hwl : Addr}
    {od_hwl an_hwl : Option Addr} {sl_hwl : Array (Option Value)} {oc_hwl kV_hwl dc_hwl pm_hwl cd_hwl ct_hwl : Value}
    {f_row : Addr}
    {od_row an_row : Option Addr} {sl_row : Array (Option Value)} {oc_row kV_row dc_row pm_row cd_row ct_row : Value}
    {f_num : Addr}
    {od_num an_num : Option Addr} {sl_num : Array (Option Value)} {oc_num kV_num dc_num pm_num cd_num ct_num : Value}
    {f_pa : Addr}
    {od_pa an_pa : Option Addr} {sl_pa : Array (Option Value)} {oc_pa kV_pa dc_pa pm_pa cd_pa ct_pa : Value}
    {f_lli : Addr}
    {od_lli an_lli : Option Addr} {sl_lli : Array (Option Value)} {oc_lli kV_lli dc_lli pm_lli cd_lli ct_lli : Value}
    {f_law : Addr}
    {od_law an_law : Option Addr} {sl_law : Array (Option Value)} {oc_law kV_law dc_law pm_law cd_law ct_law : Value}
    (a_C : PySem.W.nsIn K mainGlobals "House" = some (some (.ref C)))
    (pg_C : PySem.W.plainGet K C Str.empty = true)
    (hd_C : PySem.W.hasDictIn K C = true)
    (po_C : PySem.W.plainOver K C = true)
    (sa_C : PySem.W.findIn K (.ref C) "__setattr__" = some (some (.builtin "object.__setattr__")))
    (mk_C : PySem.W.makesIn K C = true)
    (kc_C : PySem.W.keepIn K (.ref C) = true)
    (nplengths : PySem.W.findIn K (.ref C) "_lengths" = some none)
    (npgaps : PySem.W.findIn K (.ref C) "_gaps" = some none)
    (npcrosses : PySem.W.findIn K (.ref C) "_crosses" = some none)
    (nptop : PySem.W.findIn K (.ref C) "_top" = some none)
    (npclosed : PySem.W.findIn K (.ref C) "_closed" = some none)
    (a_CI : PySem.W.nsIn K mainGlobals "InvalidHouse" = some (some (.ref CI)))
    (kpCI : PySem.W.keepIn K (.ref CI) = true)
    (exCI : PySem.W.excIn K CI [.type "ValueError", .type "Exception", .type "BaseException", .type "object"] "ValueError.__new__" = true)
    (sbCI : PySem.W.subIn K (.ref CI) (.type "BaseException") = some true)
    (tyCI : PySem.W.typeIn K (.ref CI) = some (.type "type"))
    (a_CL : PySem.W.nsIn K mainGlobals "InvalidLink" = some (some (.ref CL)))
    (kpCL : PySem.W.keepIn K (.ref CL) = true)
    (exCL : PySem.W.excIn K CL [.type "ValueError", .type "Exception", .type "BaseException", .type "object"] "ValueError.__new__" = true)
    (sbCL : PySem.W.subIn K (.ref CL) (.type "BaseException") = some true)
    (tyCL : PySem.W.typeIn K (.ref CL) = some (.type "type"))
    (a_CTL : PySem.W.nsIn K mainGlobals "TooLarge" = some (some (.ref CTL)))
    (kpCTL : PySem.W.keepIn K (.ref CTL) = true)
    (exCTL : PySem.W.excIn K CTL [.type "ValueError", .type "Exception", .type "BaseException", .type "object"] "ValueError.__new__" = true)
    (sbCTL : PySem.W.subIn K (.ref CTL) (.type "BaseException") = some true)
    (tyCTL : PySem.W.typeIn K (.ref CTL) = some (.type "type"))
    (a_Pe : PySem.W.nsIn K mainGlobals "PickError" = some (some (.ref Pe)))
    (a_CN : PySem.W.nsIn K mainGlobals "InvalidNotation" = some (some (.ref CN)))
    (kpCN : PySem.W.keepIn K (.ref CN) = true)
    (sbCN : PySem.W.subIn K (.ref CN) (.type "BaseException") = some true)
    (tyCN : PySem.W.typeIn K (.ref CN) = some (.type "type"))
    (xlCN : K.lookup CN = some (excClassObj nm0 qn0 CN N0 bs0 [.ref Pe, .type "ValueError", .type "Exception", .type "BaseException", .type "object"] true sn0 sb0 ab0 co0 dd0 ma0 mb0 mc0 md0 me0 "ValueError.__new__"))
    (saCN : PySem.W.findIn K (.ref CN) "__setattr__" = some (some (.builtin "object.__setattr__")))
    (noCN : PySem.W.findIn K (.ref CN) "line" = some none)
    (a_iCN : PySem.W.findIn K (.ref CN) "__init__" = some (some (.ref f_iCN)))
    (tiCN : PySem.W.typeIn K (.ref f_iCN) = some (.type "function"))
    (l_iCN : K.lookup f_iCN = some ⟨oc_iCN, od_iCN, .func (PySem.W.fnOf "__init__" "InvalidNotation.__init__" (defArgs s_InvalidNotation___init__) (defBody s_InvalidNotation___init__) (defScope s_InvalidNotation___init__) .none kV_iCN dc_iCN pm_iCN an_iCN cd_iCN ct_iCN), sl_iCN⟩)
    (c_iCN : PySem.W.codeIn K cd_iCN "InvalidNotation.__init__" = true)
    (k_iCN : PySem.W.keepIn K (.ref f_iCN) = true)
    (cL : PySem.W.nsIn K mainGlobals "LONGEST" = some (some (.int 40 tk1)))
    (cS : PySem.W.nsIn K mainGlobals "MOST_STRETCHES" = some (some (.int 2 tk2)))
    (cG : PySem.W.nsIn K mainGlobals "MOST_GAPS" = some (some (.int 11 tk3)))
    (cC : PySem.W.nsIn K mainGlobals "MOST_CLOSED" = some (some (.int 200 tk4)))
    (digi : PySem.W.nsIn K mainGlobals "MOST_DIGITS" = some (some (.int 4 tk5)))
    (a_ini : PySem.W.findIn K (.ref C) "__init__" = some (some (.ref f_ini)))
    (i_ini : PySem.W.isFn K (.ref f_ini) = true)
    (l_ini : K.lookup f_ini = some ⟨oc_ini, od_ini, .func (PySem.W.fnOf "__init__" "House.__init__" (defArgs s_House___init__) (defBody s_House___init__) (defScope s_House___init__) .none kV_ini dc_ini pm_ini an_ini (.ref c8_ini) ct_ini), sl_ini⟩)
    (c_ini : PySem.W.codeIn K (.ref c8_ini) "House.__init__" = true)
    (k_ini : PySem.W.keepIn K (.ref f_ini) = true)
    (a_al : PySem.W.nsIn K mainGlobals "_are_long" = some (some (.ref f_al)))
    (l_al : K.lookup f_al = some ⟨oc_al, od_al, .func (PySem.W.fnOf "_are_long" "_are_long" (defArgs s__are_long) (defBody s__are_long) (defScope s__are_long) .none kV_al dc_al pm_al an_al (.ref c8_al) ct_al), sl_al⟩)
    (c_al : PySem.W.codeIn K (.ref c8_al) "_are_long" = true)
    (k_al : PySem.W.keepIn K (.ref f_al) = true)
    (a_nof : PySem.W.nsIn K mainGlobals "_numbers_of" = some (some (.ref f_nof)))
    (l_nof : K.lookup f_nof = some ⟨oc_nof, od_nof, .func (PySem.W.fnOf "_numbers_of" "_numbers_of" (defArgs s__numbers_of) (defBody s__numbers_of) (defScope s__numbers_of) .none kV_nof dc_nof pm_nof an_nof (.ref c8_nof) ct_nof), sl_nof⟩)
    (c_nof : PySem.W.codeIn K (.ref c8_nof) "_numbers_of" = true)
    (k_nof : PySem.W.keepIn K (.ref f_nof) = true)
    (pa_lengths : PySem.W.findIn K (.ref C) "lengths" = some (some (.ref p_lengths)))
    (pg_lengths : PySem.W.specialIn K (.ref p_lengths) "__get__" = some (some (.builtin "property.__get__")))
    (pt_lengths : PySem.W.takesIn K (.ref p_lengths) = some true)
    (pr_lengths : PySem.W.recIn K p_lengths "property" = some (.ref f_lengths :: r_lengths))
    (l_lengths : K.lookup f_lengths = some ⟨oc_lengths, od_lengths, .func (PySem.W.fnOf "lengths" "House.lengths" (defArgs s_House_lengths) (defBody s_House_lengths) (defScope s_House_lengths) .none kV_lengths dc_lengths pm_lengths an_lengths cd_lengths ct_lengths), sl_lengths⟩)
    (c_lengths : PySem.W.codeIn K cd_lengths "House.lengths" = true)
    (k_lengths : PySem.W.keepIn K (.ref f_lengths) = true)
    (pa_gaps : PySem.W.findIn K (.ref C) "gaps" = some (some (.ref p_gaps)))
    (pg_gaps : PySem.W.specialIn K (.ref p_gaps) "__get__" = some (some (.builtin "property.__get__")))
    (pt_gaps : PySem.W.takesIn K (.ref p_gaps) = some true)
    (pr_gaps : PySem.W.recIn K p_gaps "property" = some (.ref f_gaps :: r_gaps))
    (l_gaps : K.lookup f_gaps = some ⟨oc_gaps, od_gaps, .func (PySem.W.fnOf "gaps" "House.gaps" (defArgs s_House_gaps) (defBody s_House_gaps) (defScope s_House_gaps) .none kV_gaps dc_gaps pm_gaps an_gaps cd_gaps ct_gaps), sl_gaps⟩)
    (c_gaps : PySem.W.codeIn K cd_gaps "House.gaps" = true)
    (k_gaps : PySem.W.keepIn K (.ref f_gaps) = true)
    (pa_closed : PySem.W.findIn K (.ref C) "closed" = some (some (.ref p_closed)))
    (pg_closed : PySem.W.specialIn K (.ref p_closed) "__get__" = some (some (.builtin "property.__get__")))
    (pt_closed : PySem.W.takesIn K (.ref p_closed) = some true)
    (pr_closed : PySem.W.recIn K p_closed "property" = some (.ref f_closed :: r_closed))
    (l_closed : K.lookup f_closed = some ⟨oc_closed, od_closed, .func (PySem.W.fnOf "closed" "House.closed" (defArgs s_House_closed) (defBody s_House_closed) (defScope s_House_closed) .none kV_closed dc_closed pm_closed an_closed cd_closed ct_closed), sl_closed⟩)
    (c_closed : PySem.W.codeIn K cd_closed "House.closed" = true)
    (k_closed : PySem.W.keepIn K (.ref f_closed) = true)
    (a_ilk : PySem.W.findIn K (.ref C) "is_link" = some (some (.ref f_ilk)))
    (i_ilk : PySem.W.isFn K (.ref f_ilk) = true)
    (l_ilk : K.lookup f_ilk = some ⟨oc_ilk, od_ilk, .func (PySem.W.fnOf "is_link" "House.is_link" (defArgs s_House_is_link) (defBody s_House_is_link) (defScope s_House_is_link) .none kV_ilk dc_ilk pm_ilk an_ilk cd_ilk ct_ilk), sl_ilk⟩)
    (c_ilk : PySem.W.codeIn K cd_ilk "House.is_link" = true)
    (k_ilk : PySem.W.keepIn K (.ref f_ilk) = true)
    (a_icl : PySem.W.findIn K (.ref C) "is_closed" = some (some (.ref f_icl)))
    (i_icl : PySem.W.isFn K (.ref f_icl) = true)
    (l_icl : K.lookup f_icl = some ⟨oc_icl, od_icl, .func (PySem.W.fnOf "is_closed" "House.is_closed" (defArgs s_House_is_closed) (defBody s_House_is_closed) (defScope s_House_is_closed) .none kV_icl dc_icl pm_icl an_icl cd_icl ct_icl), sl_icl⟩)
    (c_icl : PySem.W.codeIn K cd_icl "House.is_closed" = true)
    (k_icl : PySem.W.keepIn K (.ref f_icl) = true)
    (a_wcl : PySem.W.findIn K (.ref C) "with_closed" = some (some (.ref f_wcl)))
    (i_wcl : PySem.W.isFn K (.ref f_wcl) = true)
    (l_wcl : K.lookup f_wcl = some ⟨oc_wcl, od_wcl, .func (PySem.W.fnOf "with_closed" "House.with_closed" (defArgs s_House_with_closed) (defBody s_House_with_closed) (defScope s_House_with_closed) .none kV_wcl dc_wcl pm_wcl an_wcl cd_wcl ct_wcl), sl_wcl⟩)
    (c_wcl : PySem.W.codeIn K cd_wcl "House.with_closed" = true)
    (k_wcl : PySem.W.keepIn K (.ref f_wcl) = true)
    (a_sam : PySem.W.findIn K (.ref C) "same_as" = some (some (.ref f_sam)))
    (i_sam : PySem.W.isFn K (.ref f_sam) = true)
    (l_sam : K.lookup f_sam = some ⟨oc_sam, od_sam, .func (PySem.W.fnOf "same_as" "House.same_as" (defArgs s_House_same_as) (defBody s_House_same_as) (defScope s_House_same_as) .none kV_sam dc_sam pm_sam an_sam cd_sam ct_sam), sl_sam⟩)
    (c_sam : PySem.W.codeIn K cd_sam "House.same_as" = true)
    (k_sam : PySem.W.keepIn K (.ref f_sam) = true)
    (a_cross : PySem.W.nsIn K mainGlobals "_cross_heights" = some (some (.ref f_cross)))
    (l_cross : K.lookup f_cross = some ⟨oc_cross, od_cross, .func (PySem.W.fnOf "_cross_heights" "_cross_heights" (defArgs s__cross_heights) (defBody s__cross_heights) (defScope s__cross_heights) .none kV_cross dc_cross pm_cross an_cross cd_cross ct_cross), sl_cross⟩)
    (c_cross : PySem.W.codeIn K cd_cross "_cross_heights" = true)
    (k_cross : PySem.W.keepIn K (.ref f_cross) = true)
    (a_fho : PySem.W.nsIn K mainGlobals "format_house" = some (some (.ref f_fho)))
    (l_fho : K.lookup f_fho = some ⟨oc_fho, od_fho, .func (PySem.W.fnOf "format_house" "format_house" (defArgs s_format_house) (defBody s_format_house) (defScope s_format_house) .none kV_fho dc_fho pm_fho an_fho cd_fho ct_fho), sl_fho⟩)
    (c_fho : PySem.W.codeIn K cd_fho "format_house" = true)
    (k_fho : PySem.W.keepIn K (.ref f_fho) = true)
    (a_pho : PySem.W.nsIn K mainGlobals "parse_house" = some (some (.ref f_pho)))
    (l_pho : K.lookup f_pho = some ⟨oc_pho, od_pho, .func (PySem.W.fnOf "parse_house" "parse_house" (defArgs s_parse_house) (defBody s_parse_house) (defScope s_parse_house) .none kV_pho dc_pho pm_pho an_pho cd_pho ct_pho), sl_pho⟩)
    (c_pho : PySem.W.codeIn K cd_pho "parse_house" = true)
    (k_pho : PySem.W.keepIn K (.ref f_pho) = true)
    (a_ro : PySem.W.nsIn K mainGlobals "_row" = some (some (.ref f_ro)))
    (l_ro : K.lookup f_ro = some ⟨oc_ro, od_ro, .func (PySem.W.fnOf "_row" "_row" (defArgs s__row) (defBody s__row) (defScope s__row) .none kV_ro dc_ro pm_ro an_ro cd_ro ct_ro), sl_ro⟩)
    (c_ro : PySem.W.codeIn K cd_ro "_row" = true)
    (k_ro : PySem.W.keepIn K (.ref f_ro) = true)
    (a_isn : PySem.W.nsIn K mainGlobals "is_number" = some (some (.ref f_isn)))
    (l_isn : K.lookup f_isn = some ⟨oc_isn, od_isn, .func (PySem.W.fnOf "is_number" "is_number" (defArgs s_is_number) (defBody s_is_number) (defScope s_is_number) .none kV_isn dc_isn pm_isn an_isn cd_isn ct_isn), sl_isn⟩)
    (c_isn : PySem.W.codeIn K cd_isn "is_number" = true)
    (k_isn : PySem.W.keepIn K (.ref f_isn) = true)
    (a_nin : PySem.W.nsIn K mainGlobals "_numbers_in" = some (some (.ref f_nin)))
    (l_nin : K.lookup f_nin = some ⟨oc_nin, od_nin, .func (PySem.W.fnOf "_numbers_in" "_numbers_in" (defArgs s__numbers_in) (defBody s__numbers_in) (defScope s__numbers_in) .none kV_nin dc_nin pm_nin an_nin cd_nin ct_nin), sl_nin⟩)
    (c_nin : PySem.W.codeIn K cd_nin "_numbers_in" = true)
    (k_nin : PySem.W.keepIn K (.ref f_nin) = true)
    (a_hof : PySem.W.nsIn K mainGlobals "_house_of" = some (some (.ref f_hof)))
    (l_hof : K.lookup f_hof = some ⟨oc_hof, od_hof, .func (PySem.W.fnOf "_house_of" "_house_of" (defArgs s__house_of) (defBody s__house_of) (defScope s__house_of) .none kV_hof dc_hof pm_hof an_hof cd_hof ct_hof), sl_hof⟩)
    (c_hof : PySem.W.codeIn K cd_hof "_house_of" = true)
    (k_hof : PySem.W.keepIn K (.ref f_hof) = true)
    (a_hwl : PySem.W.nsIn K mainGlobals "_house_with_line" = some (some (.ref f_hwl)))
    (l_hwl : K.lookup f_hwl = some ⟨oc_hwl, od_hwl, .func (PySem.W.fnOf "_house_with_line" "_house_with_line" (defArgs s__house_with_line) (defBody s__house_with_line) (defScope s__house_with_line) .none kV_hwl dc_hwl pm_hwl an_hwl cd_hwl ct_hwl), sl_hwl⟩)
    (c_hwl : PySem.W.codeIn K cd_hwl "_house_with_line" = true)
    (k_hwl : PySem.W.keepIn K (.ref f_hwl) = true)
    (a_row : PySem.W.nsIn K mainGlobals "_law_row" = some (some (.ref f_row)))
    (l_row : K.lookup f_row = some ⟨oc_row, od_row, .func (PySem.W.fnOf "_law_row" "_law_row" (defArgs s__law_row) (defBody s__law_row) (defScope s__law_row) .none kV_row dc_row pm_row an_row cd_row ct_row), sl_row⟩)
    (c_row : PySem.W.codeIn K cd_row "_law_row" = true)
    (k_row : PySem.W.keepIn K (.ref f_row) = true)
    (a_num : PySem.W.nsIn K mainGlobals "_law_numbers" = some (some (.ref f_num)))
    (l_num : K.lookup f_num = some ⟨oc_num, od_num, .func (PySem.W.fnOf "_law_numbers" "_law_numbers" (defArgs s__law_numbers) (defBody s__law_numbers) (defScope s__law_numbers) .none kV_num dc_num pm_num an_num cd_num ct_num), sl_num⟩)
    (c_num : PySem.W.codeIn K cd_num "_law_numbers" = true)
    (k_num : PySem.W.keepIn K (.ref f_num) = true)
    (a_pa : PySem.W.nsIn K mainGlobals "_law_parts" = some (some (.ref f_pa)))
    (l_pa : K.lookup f_pa = some ⟨oc_pa, od_pa, .func (PySem.W.fnOf "_law_parts" "_law_parts" (defArgs s__law_parts) (defBody s__law_parts) (defScope s__law_parts) .none kV_pa dc_pa pm_pa an_pa cd_pa ct_pa), sl_pa⟩)
    (c_pa : PySem.W.codeIn K cd_pa "_law_parts" = true)
    (k_pa : PySem.W.keepIn K (.ref f_pa) = true)
    (a_lli : PySem.W.nsIn K mainGlobals "_law_lines" = some (some (.ref f_lli)))
    (l_lli : K.lookup f_lli = some ⟨oc_lli, od_lli, .func (PySem.W.fnOf "_law_lines" "_law_lines" (defArgs s__law_lines) (defBody s__law_lines) (defScope s__law_lines) .none kV_lli dc_lli pm_lli an_lli cd_lli ct_lli), sl_lli⟩)
    (c_lli : PySem.W.codeIn K cd_lli "_law_lines" = true)
    (k_lli : PySem.W.keepIn K (.ref f_lli) = true)
    (a_law : PySem.W.nsIn K mainGlobals "law" = some (some (.ref f_law)))
    (l_law : K.lookup f_law = some ⟨oc_law, od_law, .func (PySem.W.fnOf "law" "law" (defArgs s_law) (defBody s_law) (defScope s_law) .none kV_law dc_law pm_law an_law cd_law ct_law), sl_law⟩)
    (c_law : PySem.W.codeIn K cd_law "law" = true)
    (k_law : PySem.W.keepIn K (.ref f_law) = true)
    (z_abs : PySem.W.nsIn K mainGlobals "abs" = some none)
    (z_all : PySem.W.nsIn K mainGlobals "all" = some none)
    (z_int : PySem.W.nsIn K mainGlobals "int" = some none)
    (z_len : PySem.W.nsIn K mainGlobals "len" = some none)
    (z_list : PySem.W.nsIn K mainGlobals "list" = some none)
    (z_max : PySem.W.nsIn K mainGlobals "max" = some none)
    (z_range : PySem.W.nsIn K mainGlobals "range" = some none)
    (z_sorted : PySem.W.nsIn K mainGlobals "sorted" = some none)
    (z_str : PySem.W.nsIn K mainGlobals "str" = some none)
    (z_sum : PySem.W.nsIn K mainGlobals "sum" = some none)
    : ∃ fd : FuncData, (∀ (s : Shared) (v : Value), BindsTo s fd ⟨[v], []⟩ [("script", v)]) ∧
      ∀ base : Heap, K.In base → base.Ns mainGlobals mg → TabB base mg c8_ini TI → TabB base mg c8_al TL → TabB base mg c8_nof T0 → FnOk l.prog w K mg base CX0 11 fa fd ["script"] (spLaw K T0 TL TI) := by
  have e := hfa.symm.trans (PySem.W.mg_of X G a_law)
  cases e
  have F_ini : FunC K "__init__" "House.__init__" s_House___init__ f_ini c8_ini _ := ⟨⟨_, _, _, _, _, _, _, _, rfl, l_ini, c_ini⟩, k_ini⟩
  have F_al : FunC K "_are_long" "_are_long" s__are_long f_al c8_al _ := ⟨⟨_, _, _, _, _, _, _, _, rfl, l_al, c_al⟩, k_al⟩
  have F_nof : FunC K "_numbers_of" "_numbers_of" s__numbers_of f_nof c8_nof _ := ⟨⟨_, _, _, _, _, _, _, _, rfl, l_nof, c_nof⟩, k_nof⟩
  have b_nof : Binds K _ ["words", "number"] [] := (fun_mk (st := s__numbers_of) l_nof c_nof k_nof).binds (ps := ["words", "number"]) fun _ _ _ _ _ _ us hl => match us, hl with | [_, _], _ => rfl
  have F_lengths := fun_mk (st := s_House_lengths) l_lengths c_lengths k_lengths
  have F_gaps := fun_mk (st := s_House_gaps) l_gaps c_gaps k_gaps
  have F_closed := fun_mk (st := s_House_closed) l_closed c_closed k_closed
  have F_ilk := fun_mk (st := s_House_is_link) l_ilk c_ilk k_ilk
  have F_icl := fun_mk (st := s_House_is_closed) l_icl c_icl k_icl
  have F_wcl := fun_mk (st := s_House_with_closed) l_wcl c_wcl k_wcl
  have F_sam := fun_mk (st := s_House_same_as) l_sam c_sam k_sam
  have F_cross := fun_mk (st := s__cross_heights) l_cross c_cross k_cross
  have F_fho := fun_mk (st := s_format_house) l_fho c_fho k_fho
  have F_pho := fun_mk (st := s_parse_house) l_pho c_pho k_pho
  have F_ro := fun_mk (st := s__row) l_ro c_ro k_ro
  have F_isn := fun_mk (st := s_is_number) l_isn c_isn k_isn
  have F_nin := fun_mk (st := s__numbers_in) l_nin c_nin k_nin
  have F_hof := fun_mk (st := s__house_of) l_hof c_hof k_hof
  have F_hwl := fun_mk (st := s__house_with_line) l_hwl c_hwl k_hwl
  have F_row := fun_mk (st := s__law_row) l_row c_row k_row
  have F_num := fun_mk (st := s__law_numbers) l_num c_num k_num
  have F_pa := fun_mk (st := s__law_parts) l_pa c_pa k_pa
  have F_lli := fun_mk (st := s__law_lines) l_lli c_lli k_lli
  have F_law := fun_mk (st := s_law) l_law c_law k_law
  have b_lengths := F_lengths.binds (ps := ["self"]) fun _ _ _ _ _ _ us hl => match us, hl with | [_], _ => rfl
  have b_gaps := F_gaps.binds (ps := ["self"]) fun _ _ _ _ _ _ us hl => match us, hl with | [_], _ => rfl
  have b_closed := F_closed.binds (ps := ["self"]) fun _ _ _ _ _ _ us hl => match us, hl with | [_], _ => rfl
  have b_ilk := F_ilk.binds (ps := ["self", "link"]) fun _ _ _ _ _ _ us hl => match us, hl with | [_, _], _ => rfl
  have b_icl := F_icl.binds (ps := ["self", "link"]) fun _ _ _ _ _ _ us hl => match us, hl with | [_, _], _ => rfl
  have b_wcl := F_wcl.binds (ps := ["self", "link"]) fun _ _ _ _ _ _ us hl => match us, hl with | [_, _], _ => rfl
  have b_sam := F_sam.binds (ps := ["self", "other"]) fun _ _ _ _ _ _ us hl => match us, hl with | [_, _], _ => rfl
  have b_cross := F_cross.binds (ps := ["lengths"]) fun _ _ _ _ _ _ us hl => match us, hl with | [_], _ => rfl
  have b_fho := F_fho.binds (ps := ["house"]) fun _ _ _ _ _ _ us hl => match us, hl with | [_], _ => rfl
  have b_pho := F_pho.binds (ps := ["text"]) fun _ _ _ _ _ _ us hl => match us, hl with | [_], _ => rfl
  have b_ro := F_ro.binds (ps := ["head", "numbers"]) fun _ _ _ _ _ _ us hl => match us, hl with | [_, _], _ => rfl
  have b_isn := F_isn.binds (ps := ["word"]) fun _ _ _ _ _ _ us hl => match us, hl with | [_], _ => rfl
  have b_nin := F_nin.binds (ps := ["lines", "number", "head"]) fun _ _ _ _ _ _ us hl => match us, hl with | [_, _, _], _ => rfl
  have b_hof := F_hof.binds (ps := ["lengths", "gaps", "number"]) fun _ _ _ _ _ _ us hl => match us, hl with | [_, _, _], _ => rfl
  have b_hwl := F_hwl.binds (ps := ["house", "lines", "number"]) fun _ _ _ _ _ _ us hl => match us, hl with | [_, _, _], _ => rfl
  have b_row := F_row.binds (ps := ["cell", "many"]) fun _ _ _ _ _ _ us hl => match us, hl with | [_, _], _ => rfl
  have b_num := F_num.binds (ps := ["script", "many"]) fun _ _ _ _ _ _ us hl => match us, hl with | [_, _], _ => rfl
  have b_pa := F_pa.binds (ps := ["numbers", "at"]) fun _ _ _ _ _ _ us hl => match us, hl with | [_, _], _ => rfl
  have b_lli := F_lli.binds (ps := ["lengths", "gaps", "closed"]) fun _ _ _ _ _ _ us hl => match us, hl with | [_, _, _], _ => rfl
  have b_law := F_law.binds (ps := ["script"]) fun _ _ _ _ _ _ us hl => match us, hl with | [_], _ => rfl
  have m_ilk : Meth K C "is_link" f_ilk := ⟨a_ilk, i_ilk, k_ilk⟩
  have m_icl : Meth K C "is_closed" f_icl := ⟨a_icl, i_icl, k_icl⟩
  have m_wcl : Meth K C "with_closed" f_wcl := ⟨a_wcl, i_wcl, k_wcl⟩
  have m_sam : Meth K C "same_as" f_sam := ⟨a_sam, i_sam, k_sam⟩
  have F_iCN := fun_mk (st := s_InvalidNotation___init__) l_iCN c_iCN k_iCN
  have b_iCN := F_iCN.binds (ps := ["self", "line"]) fun _ _ _ _ _ _ us hl => match us, hl with | [_, _], _ => rfl
  have o_CN : OexC K CN := ⟨⟨nm0, qn0, N0, bs0, _, sn0, sb0, ab0, co0, dd0, ma0, mb0, mc0, md0, me0, xlCN, rfl⟩, saCN, sbCN, tyCN, kpCN⟩
  have D : DrawTxt mg f_row := ⟨PySem.W.mg_none_of X G z_abs, PySem.W.mg_none_of X G z_int, PySem.W.mg_none_of X G z_range, PySem.W.mg_none_of X G z_len, PySem.W.mg_none_of X G z_max, PySem.W.mg_of X G a_row⟩
  have Y : HouseTop mg := { all := PySem.W.mg_none_of X G z_all, len := PySem.W.mg_none_of X G z_len, sum := PySem.W.mg_none_of X G z_sum, list := PySem.W.mg_none_of X G z_list, sorted := PySem.W.mg_none_of X G z_sorted, range := PySem.W.mg_none_of X G z_range, longest := ⟨tk1, PySem.W.mg_of X G cL⟩, stretches := ⟨tk2, PySem.W.mg_of X G cS⟩, mostGaps := ⟨tk3, PySem.W.mg_of X G cG⟩, mostClosed := ⟨tk4, PySem.W.mg_of X G cC⟩ }
  have T : HouseTxt K mg C := { cl := ⟨pg_C, hd_C, po_C, sa_C⟩, nL := nplengths, nG := npgaps, nX := npcrosses, nT := nptop, nC := npclosed }
  have UCI : ErrTxt K mg CI "InvalidHouse" := { gI := PySem.W.mg_of X G a_CI, kI := kpCI, xI := exCI, bI := sbCI, tI := tyCI }
  have UCL : ErrTxt K mg CL "InvalidLink" := { gI := PySem.W.mg_of X G a_CL, kI := kpCL, xI := exCL, bI := sbCL, tI := tyCL }
  have UCTL : ErrTxt K mg CTL "TooLarge" := { gI := PySem.W.mg_of X G a_CTL, kI := kpCTL, xI := exCTL, bI := sbCTL, tI := tyCTL }
  have LT : LawTop mg := { int := PySem.W.mg_none_of X G z_int, len := PySem.W.mg_none_of X G z_len, sum := PySem.W.mg_none_of X G z_sum, max := PySem.W.mg_none_of X G z_max, range := PySem.W.mg_none_of X G z_range }
  have N : NoteTop mg := { str := PySem.W.mg_none_of X G z_str, len := PySem.W.mg_none_of X G z_len, all := PySem.W.mg_none_of X G z_all, int := PySem.W.mg_none_of X G z_int, range := PySem.W.mg_none_of X G z_range, digits := ⟨tk5, PySem.W.mg_of X G digi⟩ }
  have U : NotTxt K mg CN f_iCN := { g := PySem.W.mg_of X G a_CN, o := o_CN, n := noCN, i := a_iCN, y := tiCN }
  have bI : Binds K _ ["self", "lengths", "gaps", "closed"] [] := (fun_mk (st := s_House___init__) l_ini c_ini k_ini).binds (ps := ["self", "lengths", "gaps", "closed"]) fun _ _ _ _ _ _ us hl => match us, hl with | [_, _, _, _], _ => rfl
  have bA : Binds K _ ["numbers"] [] := (fun_mk (st := s__are_long) l_al c_al k_al).binds (ps := ["numbers"]) fun _ _ _ _ _ _ us hl => match us, hl with | [_], _ => rfl
  refine ⟨PySem.W.fnOf "law" "law" (defArgs s_law) (defBody s_law) (defScope s_law) .none kV_law dc_law pm_law an_law cd_law ct_law, fun s v => .of_eq rfl, fun base _ _ TBI TBA TBN => ?_⟩
  have gLk := ok_link (P := l.prog) (w := w) (mg := mg) (base := base) F_ilk Y T
  have gCl := ok_is_closed (P := l.prog) (w := w) (mg := mg) (base := base) F_icl T
  have pL : PropD l.prog w K mg base C 1 "lengths" (spNums C fun ls _ => ls) := ⟨f_lengths, p_lengths, _, ⟨pa_lengths, pg_lengths, pt_lengths, r_lengths, pr_lengths⟩, ok_lengths F_lengths Y T, b_lengths⟩
  have pG : PropD l.prog w K mg base C 1 "gaps" (spNums C fun _ gs => gs) := ⟨f_gaps, p_gaps, _, ⟨pa_gaps, pg_gaps, pt_gaps, r_gaps, pr_gaps⟩, ok_gaps F_gaps Y T, b_gaps⟩
  have pC : PropD l.prog w K mg base C 2 "closed" (spClosed C) := ⟨f_closed, p_closed, _, ⟨pa_closed, pg_closed, pt_closed, r_closed, pr_closed⟩, ok_closed F_closed Y T, b_closed⟩
  let MH : MakeH l.prog w K mg base := { C := C, CI := CI, TL := TL, TI := TI, fI := f_ini, fdI := _, M := ⟨mk_C, a_ini, i_ini, kc_C⟩, GI := ok_house F_ini TBI Y T UCI F_ilk b_ilk m_ilk F_al TBA bA (PySem.W.mg_of X G a_al) F_cross b_cross (PySem.W.mg_of X G a_cross), bI := bI, mgC := PySem.W.mg_of X G a_C }
  have gWc := ok_wc (P := l.prog) (w := w) (mg := mg) (base := base) F_wcl Y MH T UCL UCTL gLk b_ilk m_ilk gCl b_icl m_icl pC
  have gSa := ok_sameH (P := l.prog) (w := w) (mg := mg) (base := base) F_sam T pL pG pC
  have gIN := ok_notinit (C := CN) (P := l.prog) (w := w) (mg := mg) (base := base) F_iCN
  have gNu := ok_isnum (P := l.prog) (w := w) (mg := mg) (base := base) F_isn N
  have gNo := ok_nums (P := l.prog) (w := w) (mg := mg) (base := base) F_nof N TBN U gIN b_iCN F_isn gNu b_isn (PySem.W.mg_of X G a_isn)
  have gIn := ok_in (P := l.prog) (w := w) (mg := mg) (base := base) F_nin N U gIN b_iCN k_nof gNo b_nof (PySem.W.mg_of X G a_nof)
  have gRo := ok_rowL (P := l.prog) (w := w) (mg := mg) (base := base) F_ro N
  have gFh := ok_fh (P := l.prog) (w := w) (mg := mg) (base := base) F_fho T k_ro gRo b_ro (PySem.W.mg_of X G a_ro) pL pG pC
  have gHo := ok_ho (P := l.prog) (w := w) (mg := mg) (base := base) F_hof MH
  have gHl := ok_hl (P := l.prog) (w := w) (mg := mg) (base := base) F_hwl N T U gIN b_iCN k_nin gIn b_nin (PySem.W.mg_of X G a_nin) m_wcl gWc b_wcl
  have gPh := ok_ph (P := l.prog) (w := w) (mg := mg) (base := base) F_pho N k_nin gIn b_nin (PySem.W.mg_of X G a_nin) k_hof gHo b_hof (PySem.W.mg_of X G a_hof) k_hwl gHl b_hwl (PySem.W.mg_of X G a_hwl)
  exact ok_law F_law { Z := MH, cl := T.cl, T0 := T0, fS := f_sam, fdS := _, mS := m_sam, GS := gSa, bS := b_sam, pC := pC, Nu := ⟨f_num, _, ok_numbers F_num D F_row b_row, b_num, PySem.W.mg_of X G a_num, k_num⟩, Pa := ⟨f_pa, _, ok_parts F_pa LT, b_pa, PySem.W.mg_of X G a_pa, k_pa⟩, Ll := ⟨f_lli, _, ok_ll F_lli N, b_lli, PySem.W.mg_of X G a_lli, k_lli⟩, Fh := ⟨f_fho, _, gFh, b_fho, PySem.W.mg_of X G a_fho, k_fho⟩, Ph := ⟨f_pho, _, gPh, b_pho, PySem.W.mg_of X G a_pho, k_pho⟩, sorted := PySem.W.mg_none_of X G z_sorted }
theorem tabB0 {base : Heap} {mg : Str → Option Value} {c P : Addr} (h : LamX.TabB base mg c P) : TabB base mg c P := ⟨h.code, h.bm, h.gP⟩
theorem tabG0 {H : Hp} {P : Addr} (h : H P = some (.tbl #[])) : TabG H P := ⟨#[], h, trivial⟩
theorem walk {l : PySem.W.OpenLaw} {q : Program} {loose : List Str} {XP : (Str → Option Value) → Heap → Prop} {YP : World → Heap → Prop} {d : DefRec} {K : Params → PySem.W.Frag} {cI cA cN TI TL T0 : Addr}
    (hn : l.most = some 63) (hdf : d.params.defaults = []) (hY : ∀ (w : World) (h : Heap), YP w h → (K w.params).In h) (hT : ∀ (w : World) (h : Heap), YP w h → ∀ P ∈ [TI, TL, T0], h.get? P = some (PySem.W.tabObj #[]))
    (nI : ∀ w : World, (K w.params).lookup TI = none) (nL : ∀ w : World, (K w.params).lookup TL = none) (nT : ∀ w : World, (K w.params).lookup T0 = none)
    (eI : ∀ w : World, PySem.W.codeHdIn (K w.params) cI TI = true) (eA : ∀ w : World, PySem.W.codeHdIn (K w.params) cA TL = true) (eN : ∀ w : World, PySem.W.codeHdIn (K w.params) cN T0 = true)
    (F : ∀ (w : World) (mg : Str → Option Value) (fa : Addr) (h : Heap), (K w.params).In h → h.Ns mainGlobals mg → mg d.name = some (.ref fa) →
      ∃ fd : FuncData, (∀ (s : Shared) (u : Value), BindsTo s fd ⟨[u], []⟩ [("script", u)]) ∧
        ∀ base : Heap, (K w.params).In base → base.Ns mainGlobals mg → TabB base mg cI TI → TabB base mg cA TL → TabB base mg cN T0 → FnOk l.prog w (K w.params) mg base CX0 11 fa fd ["script"] (spLaw (K w.params) T0 TL TI)) :
    PySem.W.WalkO q loose XP YP l.row.toRowW d [] (fun f vs => PySem.call f vs) := by
  refine LamX.walk_ofTs (n := 63) (k := 11) (x := "script") (CX := fun _ => CX0) hn (by decide) hdf ⟨rfl, by decide, by decide⟩ hY (fun w mg fa h Y KX G hmg => ?_) (fun _ _ _ _ _ z => z)
  obtain ⟨fd, hb, hF⟩ := F w mg fa h KX G hmg
  refine ⟨fd, [(cI, TI), (cA, TL), (cN, T0)], spLaw (K w.params) T0 TL TI, fun p hp => ?_, fun p hp => ?_, fun p hp => ?_, hb, fun H a ns hl _ hS hq => ⟨a, ns, rfl, hq, hl, tabG0 (hS (cN, T0) (by simp)), tabG0 (hS (cA, TL) (by simp)), tabG0 (hS (cI, TI) (by simp)), fun _ => rfl⟩, fun base b1 b2 T => hF base b1 b2 (tabB0 (T (cI, TI) (by simp))) (tabB0 (T (cA, TL) (by simp))) (tabB0 (T (cN, T0) (by simp)))⟩
  all_goals simp only [List.mem_cons, List.mem_nil_iff, or_false] at hp
  · rcases hp with rfl | rfl | rfl
    · exact hT w h Y _ (by simp)
    · exact hT w h Y _ (by simp)
    · exact hT w h Y _ (by simp)
  · rcases hp with rfl | rfl | rfl
    · exact nI w
    · exact nL w
    · exact nT w
  · rcases hp with rfl | rfl | rfl
    · exact PySem.W.codeHd_of_K KX (eI w)
    · exact PySem.W.codeHd_of_K KX (eA w)
    · exact PySem.W.codeHd_of_K KX (eN w)
end


end Pk
open PySem PySem.W PyProof.Rows
set_option maxRecDepth 100000 in
set_option maxHeartbeats 0 in
theorem PySem.Challenge.cw_pickaisle_k07_written_houses_and_back_holds : PySem.Challenge.rw_pickaisle_k07_written_houses_and_back.Holds := by
  w_on; o_law; o_head (kmHook hd.heap_39 [2, 3, 15, 17, 18, 20, 21, 22, 29, 30, 31, 32, 35, 42, 43, 44, 47, 54, 55, 56, 59, 66, 67, 68, 71, 78, 80, 81, 83, 84, 85, 86, 87, 97, 100, 101, 102, 104, 105, 107, 108, 109, 110, 112, 113, 115, 116, 117, 118, 120, 121, 123, 124, 125, 126, 128, 129, 131, 132, 133, 134, 136, 137, 139, 140, 141, 142, 144, 145, 147, 148, 149, 151, 152, 154, 155, 156, 158, 159, 161, 162, 163, 165, 166, 168, 169, 170, 172, 173, 175, 176, 177, 179, 180, 182, 183, 184, 186, 187, 189, 190, 191, 193, 194, 196, 197, 198, 200, 201, 203, 204, 205, 207, 208, 210, 211, 212, 214, 215, 217, 218, 219, 221, 222, 224, 225, 226, 228, 229, 231, 232, 233, 235, 236, 238, 239, 240, 241, 242, 243, 244, 247, 249, 250, 252, 253, 254, 256, 257, 259, 260, 261, 263, 264, 266, 267, 268, 270, 271, 273, 274, 275, 278, 279, 280, 282, 283, 285, 286, 287, 290, 291, 292, 294, 295, 297, 298, 299, 301, 302, 304, 305, 306, 308, 309, 311, 312, 313, 315, 316, 318, 319, 320, 322, 323, 325, 326, 327, 330, 331, 344, 347, 348, 349, 351, 352, 354, 355] (fun _ => by kernel_rfl) [98, 248, 288]); (case hw => w_witness2)
  k_fill
  refine Pk.walk (l := PySem.Challenge.rw_pickaisle_k07_written_houses_and_back) (cI := 100) (cA := 252) (cN := 290) (TI := 98) (TL := 248) (T0 := 288) rfl rfl (fun w h Y => km_in_of Y) (fun w h Y => km_tabs_of Y) (fun w => by kernel_rfl) (fun w => by kernel_rfl) (fun w => by kernel_rfl) (fun w => by kernel_rfl) (fun w => by kernel_rfl) (fun w => by kernel_rfl) ?F
  case F =>
    intro w mg fa h KX G hmg
    refine' Pk.all_mk KX G hmg ?a_C ?pg_C ?hd_C ?po_C ?sa_C ?mk_C ?kc_C ?nplengths ?npgaps ?npcrosses ?nptop ?npclosed ?a_CI ?kpCI ?exCI ?sbCI ?tyCI ?a_CL ?kpCL ?exCL ?sbCL ?tyCL ?a_CTL ?kpCTL ?exCTL ?sbCTL ?tyCTL ?a_Pe ?a_CN ?kpCN ?sbCN ?tyCN ?xlCN ?saCN ?noCN ?a_iCN ?tiCN ?l_iCN ?c_iCN ?k_iCN ?cL ?cS ?cG ?cC ?digi ?a_ini ?i_ini ?l_ini ?c_ini ?k_ini ?a_al ?l_al ?c_al ?k_al ?a_nof ?l_nof ?c_nof ?k_nof ?pa_lengths ?pg_lengths ?pt_lengths ?pr_lengths ?l_lengths ?c_lengths ?k_lengths ?pa_gaps ?pg_gaps ?pt_gaps ?pr_gaps ?l_gaps ?c_gaps ?k_gaps ?pa_closed ?pg_closed ?pt_closed ?pr_closed ?l_closed ?c_closed ?k_closed ?a_ilk ?i_ilk ?l_ilk ?c_ilk ?k_ilk ?a_icl ?i_icl ?l_icl ?c_icl ?k_icl ?a_wcl ?i_wcl ?l_wcl ?c_wcl ?k_wcl ?a_sam ?i_sam ?l_sam ?c_sam ?k_sam ?a_cross ?l_cross ?c_cross ?k_cross ?a_fho ?l_fho ?c_fho ?k_fho ?a_pho ?l_pho ?c_pho ?k_pho ?a_ro ?l_ro ?c_ro ?k_ro ?a_isn ?l_isn ?c_isn ?k_isn ?a_nin ?l_nin ?c_nin ?k_nin ?a_hof ?l_hof ?c_hof ?k_hof ?a_hwl ?l_hwl ?c_hwl ?k_hwl ?a_row ?l_row ?c_row ?k_row ?a_num ?l_num ?c_num ?k_num ?a_pa ?l_pa ?c_pa ?k_pa ?a_lli ?l_lli ?c_lli ?k_lli ?a_law ?l_law ?c_law ?k_law ?z_abs ?z_all ?z_int ?z_len ?z_list ?z_max ?z_range ?z_sorted ?z_str ?z_sum
    (case a_C => k_is)
    (case pg_C => k_is)
    (case hd_C => k_is)
    (case po_C => k_is)
    (case sa_C => k_is)
    (case mk_C => k_is)
    (case kc_C => k_is)
    (case nplengths => k_is)
    (case npgaps => k_is)
    (case npcrosses => k_is)
    (case nptop => k_is)
    (case npclosed => k_is)
    (case a_CI => k_is)
    (case kpCI => k_is)
    (case exCI => k_exc)
    (case sbCI => k_is)
    (case tyCI => k_is)
    (case a_CL => k_is)
    (case kpCL => k_is)
    (case exCL => k_exc)
    (case sbCL => k_is)
    (case tyCL => k_is)
    (case a_CTL => k_is)
    (case kpCTL => k_is)
    (case exCTL => k_exc)
    (case sbCTL => k_is)
    (case tyCTL => k_is)
    (case a_Pe => k_is)
    (case a_CN => k_is)
    (case kpCN => k_is)
    (case sbCN => k_is)
    (case tyCN => k_is)
    (case xlCN => k_is)
    (case saCN => k_is)
    (case noCN => k_is)
    (case a_iCN => k_is)
    (case tiCN => k_is)
    (case l_iCN => k_is)
    (case c_iCN => k_is)
    (case k_iCN => k_is)
    (case cL => k_is)
    (case cS => k_is)
    (case cG => k_is)
    (case cC => k_is)
    (case digi => k_is)
    (case a_ini => k_is)
    (case i_ini => k_is)
    (case l_ini => k_is)
    (case c_ini => k_is)
    (case k_ini => k_is)
    (case a_al => k_is)
    (case l_al => k_is)
    (case c_al => k_is)
    (case k_al => k_is)
    (case a_nof => k_is)
    (case l_nof => k_is)
    (case c_nof => k_is)
    (case k_nof => k_is)
    (case pa_lengths => k_is)
    (case pg_lengths => k_is)
    (case pt_lengths => k_is)
    (case pr_lengths => k_is)
    (case l_lengths => k_is)
    (case c_lengths => k_is)
    (case k_lengths => k_is)
    (case pa_gaps => k_is)
    (case pg_gaps => k_is)
    (case pt_gaps => k_is)
    (case pr_gaps => k_is)
    (case l_gaps => k_is)
    (case c_gaps => k_is)
    (case k_gaps => k_is)
    (case pa_closed => k_is)
    (case pg_closed => k_is)
    (case pt_closed => k_is)
    (case pr_closed => k_is)
    (case l_closed => k_is)
    (case c_closed => k_is)
    (case k_closed => k_is)
    (case a_ilk => k_is)
    (case i_ilk => k_is)
    (case l_ilk => k_is)
    (case c_ilk => k_is)
    (case k_ilk => k_is)
    (case a_icl => k_is)
    (case i_icl => k_is)
    (case l_icl => k_is)
    (case c_icl => k_is)
    (case k_icl => k_is)
    (case a_wcl => k_is)
    (case i_wcl => k_is)
    (case l_wcl => k_is)
    (case c_wcl => k_is)
    (case k_wcl => k_is)
    (case a_sam => k_is)
    (case i_sam => k_is)
    (case l_sam => k_is)
    (case c_sam => k_is)
    (case k_sam => k_is)
    (case a_cross => k_is)
    (case l_cross => k_is)
    (case c_cross => k_is)
    (case k_cross => k_is)
    (case a_fho => k_is)
    (case l_fho => k_is)
    (case c_fho => k_is)
    (case k_fho => k_is)
    (case a_pho => k_is)
    (case l_pho => k_is)
    (case c_pho => k_is)
    (case k_pho => k_is)
    (case a_ro => k_is)
    (case l_ro => k_is)
    (case c_ro => k_is)
    (case k_ro => k_is)
    (case a_isn => k_is)
    (case l_isn => k_is)
    (case c_isn => k_is)
    (case k_isn => k_is)
    (case a_nin => k_is)
    (case l_nin => k_is)
    (case c_nin => k_is)
    (case k_nin => k_is)
    (case a_hof => k_is)
    (case l_hof => k_is)
    (case c_hof => k_is)
    (case k_hof => k_is)
    (case a_hwl => k_is)
    (case l_hwl => k_is)
    (case c_hwl => k_is)
    (case k_hwl => k_is)
    (case a_row => k_is)
    (case l_row => k_is)
    (case c_row => k_is)
    (case k_row => k_is)
    (case a_num => k_is)
    (case l_num => k_is)
    (case c_num => k_is)
    (case k_num => k_is)
    (case a_pa => k_is)
    (case l_pa => k_is)
    (case c_pa => k_is)
    (case k_pa => k_is)
    (case a_lli => k_is)
    (case l_lli => k_is)
    (case c_lli => k_is)
    (case k_lli => k_is)
    (case a_law => k_is)
    (case l_law => k_is)
    (case c_law => k_is)
    (case k_law => k_is)
    (case z_abs => k_is)
    (case z_all => k_is)
    (case z_int => k_is)
    (case z_len => k_is)
    (case z_list => k_is)
    (case z_max => k_is)
    (case z_range => k_is)
    (case z_sorted => k_is)
    (case z_str => k_is)
    (case z_sum => k_is)


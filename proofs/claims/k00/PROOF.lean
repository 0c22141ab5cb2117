import PyProof.Rows.All
import Wide.All
import OpenK.AllK
import Wide.FinOn
import KE.KExcIs
import PyProof.StrBlock2
import HandS.ForMost
import HandS.Exc
import HandS.ExcOwn
import HandS.ExcInit
import HandS.ExcIs
import HandS.ExcField
import HandS.ExcValue
import PySem.Challenge.RW_pickaisle_k00_errors_stand_apart
set_option Elab.async false
set_option linter.all false
set_option maxRecDepth 100000
set_option maxHeartbeats 8000000
namespace Pk
open PySem L2
/-! ### errors as values -/
/-! ### errors that are held as values -/
/-- at a: an error of the class at D that is held; fs: its own attributes -/
def XvAt (H : Hp) (a D : Addr) (fs : List (Str × V)) : Prop :=
  (H a = some (ExO (.ref D) a) ∧ fs = []) ∨ ∃ d, H a = some (exo a D (some d)) ∧ H d = some (exd d fs)
theorem XvAt.same {H H' : Hp} {a D : Addr} {fs : List (Str × V)} (h : XvAt H a D fs) (k : Same H H') : XvAt H' a D fs := by
  rcases h with ⟨h, e⟩ | ⟨d, h, e⟩
  · exact .inl ⟨k _ _ h, e⟩
  · exact .inr ⟨d, k _ _ h, k _ _ e⟩
section
variable {X : Cx} {pins : List (Addr × Obj)} {σ : St} {H : Hp} {s : Shared}
theorem xv_inst {a D : Addr} {fs : List (Str × V)} (I : Inv X pins σ H s) (h : XvAt H a D fs) :
    ∃ oe od, PySem.W.InstAt s.heap a oe D od ∧ ∀ (f : Str) (v : V), fs.lookup f = some v → ∃ o u, od = some o ∧ PySem.W.lookIn f o = some (some u) ∧ RelV v u := by
  rcases h with ⟨h, rfl⟩ | ⟨d, h, e⟩
  · obtain ⟨⟨oe, vs, ho, hz, hd, h1, _⟩, _, _⟩ := I.hok a _ h
    refine ⟨oe, none, ⟨ho, hz.1, by unfold PySem.W.notCls; rw [hd], by rw [hz.2]; trivial⟩, fun f v l => ?_⟩
    cases l
  · obtain ⟨t1, ho⟩ := exo_at I.hok h
    obtain ⟨mA, hn, hr⟩ := exd_at I.hok e
    obtain ⟨od, hod, hl⟩ := lookIn_ns hn
    refine ⟨_, some od, ⟨ho, rfl, rfl, hod⟩, fun f v l => ?_⟩
    have q := hr f
    rw [l] at q
    obtain ⟨u, hu, ru⟩ := RelO.some_of q
    exact ⟨od, u, rfl, by rw [hl, hu], ru⟩
end
/-- isinstance(e, c), e an error that is held -/
def rIsV (K : PySem.W.Frag) : List V → Hp → VK → Prop := fun xs H Q => ∃ (a D : Addr) (fs : List (Str × V)) (c : V) (cv : Value) (b : Bool),
  xs = [.ref a, c] ∧ XvAt H a D fs ∧ ExcC K D ∧ (∀ u, RelV c u → u = cv) ∧ PySem.W.kitOne K (.ref D) cv = some b ∧ Q (.bl b) H
theorem call_isV {X : Cx} : CallR X (.builtin "isinstance") (rIsV X.K) := by
  intro pins s σ H xs us Q I r h
  obtain ⟨a, D, fs, c, cv, b, rfl, hx, C, hcv, e, q⟩ := h
  cases r with
  | cons rx rr =>
    cases rr with
    | cons rt rr =>
      cases rr
      cases rx
      obtain rfl := hcv _ rt
      obtain ⟨oe, od, J, _⟩ := xv_inst I hx
      have hcl : (PySem.W.clsIn X.K D).isSome = true := by
        obtain ⟨cd, hc, _⟩ := PySem.W.any_some C.hd
        rw [hc]
        rfl
      exact PySem.W.kia_one (PySem.W.kitx_exc hcl C.hg C.hk C.hs C.ha C.hn C.ht C.hm) I.kIn J e (fun z => nomatch z)
        fun tk => ⟨.bl b, H, I.kept (t' := tk) (fun _ _ z => z), rfl, q⟩
/-- e.f, e an error that is held -/
def tXvF (K : PySem.W.Frag) (n : Str) (te : TE) : TE := fun σ H Q => te σ H fun x H1 => ∃ (a C : Addr) (fs : List (Str × V)) (v : V),
  x = .ref a ∧ XvAt H1 a C fs ∧ XfC K C ∧ PySem.W.findIn K (.ref C) n = some none ∧ fs.lookup n = some v ∧ Q v H1
theorem pe_xvF {X : Cx} {e : Expr} {te : TE} {pos : Pos} {n : Str} (he : PE X e te) (hb : attributeBase e n X.env (eval e X.env) = eval e X.env := by rfl) :
    PE X (.Attribute e n pos) (tXvF X.K n te) := by
  refine ⟨fun pins s σ H Q I h => attr_of hb (thn (he.run pins s σ H _ I h) fun u s1 hh => ?_)⟩
  obtain ⟨x, H1, I1, rx, a, C, fs, v, rfl, hx, T, hno, l, q⟩ := hh
  obtain rfl : u = Value.ref a := rx
  obtain ⟨oe, od, J, hf⟩ := xv_inst I1 hx
  obtain ⟨o, u, rfl, hl, ru⟩ := hf n v l
  exact HandSPX.exc_get I1.kIn J T.ga T.gg T.exC (PySem.W.findObj_own T.hdC hno rfl hl) (handed_of ru) ⟨v, H1, I1.tok _, ru, q⟩
/-- C(e, ..) as a value, C an own class of errors whose __init__ keeps sp -/
def tMkV (C : Addr) (sp : Sp) (dvs : List V) (ta : TA) : TE := fun σ H Q => ta σ H fun vs H1 => vs.length ≤ 1000 ∧ ∀ a, H1 a = none →
  sp (.ref a :: (vs ++ dvs)) (upd H1 a (exo a C none)) (fun v H2 => v = .non ∧ Q (.ref a) H2) (fun _ _ _ => False)
section
variable {X : Cx} {e : Expr} {es : List Expr} {te : TE} {ta : TA} {p pos : Pos}
theorem pe_oexV {CX : CXT} {x : Str} {C fI : Addr} {k : Nat} {fd : FuncData} {ps : List Str} {sp : Sp} {ds : List Value} {dvs : List V} (T : OexC X.K C)
    (iC : PySem.W.findIn X.K (.ref C) "__init__" = some (some (.ref fI))) (tI : PySem.W.typeIn X.K (.ref fI) = some (.type "function"))
    (F1 : FnOk X.prog X.w X.K X.mg X.base CX k fI fd ps sp) (hr : Room (k + 1) X.A) (hb : Binds X.K fd ps ds) (hd : Vals dvs ds) (hx : Passes CX X (fun _ _ _ => False)) (hg : Gl X x) (hm : X.mg x = some (.ref C)) (ha : PA X (e :: es) ta)
    (hdb : (x == ("__debug__" : Str)) = false := by decide) (he : starEach (e :: es) X.env = (false, eval e X.env) :: starEach es X.env := by rfl) (hpl : (backTo pos (starEach es X.env)).any (·.1) = false := by rfl) :
    PE X (.Call (.Name x p) (e :: es) [] pos) (tMkV C sp dvs ta) := by
  refine ⟨fun pins s σ H Q I h => ?_⟩
  obtain ⟨nm, qn, N, bs, bm, sn, sb, ab, co, dd, k0, k1, k2, k3, k5, hC, hbm⟩ := T.cls
  refine wpAny_Call_Name_kw (ld_glob I hg hm ?_ hdb)
  refine PySem.W.callWith_K (h₀ := X.base) I.ok.mod.kin T.kC (thn (ha.run pos pins s σ H _ I h) fun us s1 hh => ?_) he hpl
  obtain ⟨vs, H1, I1, r1, hz, q1⟩ := hh
  refine ⟨I1.kIn, ?_⟩
  show wpAny _ _ (call (.ref C) us) _ _ _
  obtain ⟨hp, g, dr, tk, os⟩ := s1
  have hsz : hp.objs.size ≤ hp.objs.size + 1 := Nat.le_add_right _ 1
  have hn : H1 (hp.objs.size + 1) = none := I1.hok.fresh hsz
  have kk : ∀ b o, hp.get? b = some o → ((hp.push (PySem.W.kdv_tup us)).push (PySem.HandSPX.excO C hp.objs.size)).get? b = some o :=
    fun b o z => Heap.get?_push_of_some _ (Heap.get?_push_of_some _ z)
  have hget : ((hp.push (PySem.W.kdv_tup us)).push (PySem.HandSPX.excO C hp.objs.size)).get? (hp.objs.size + 1) = some (PySem.HandSPX.excO C hp.objs.size) := by
    heap_get
  have I2 : Inv X pins σ (upd H1 (hp.objs.size + 1) (exo (hp.objs.size + 1) C none))
      ⟨(hp.push (PySem.W.kdv_tup us)).push (PySem.HandSPX.excO C hp.objs.size), g, dr, tk, os⟩ := I1.laid (t' := tk) kk hsz (exo_ok hget)
  have r2 : Vals (V.ref (hp.objs.size + 1) :: (vs ++ dvs)) (Value.ref (hp.objs.size + 1) :: (us ++ ds)) := .cons rfl (r1.append hd)
  have hq := q1 (hp.objs.size + 1) hn
  have hl : (Value.ref (hp.objs.size + 1) :: us ++ ds).length = ps.length := by
    have z := r2.length
    rw [F1.len _ _ _ _ hq] at z
    exact z.symm
  have hus : us.length ≤ sizeLine := by
    have z := Paired.length r1
    rw [sizeLine_eq]
    omega
  refine wpAny_call (PySem.HandSPX.call_own F.excBase_ValueError (fun Y => PySem.HandSPX.refsVE_contains Y bm hbm) (I1.kIn _ _ hC)
    (PySem.W.looks_findIn I1.kIn iC) (fun self => PySem.W.bind_fn I1.kIn self tI) hus ?_)
  refine codeAny_mono (F1.run _ X.stack _ _ ⟨Value.ref (hp.objs.size + 1) :: us, []⟩ (Value.ref (hp.objs.size + 1) :: (us ++ ds)) _ _
    (fun _ _ _ => False) (hr.make C us []) (I2.env0.make C us []) (hb _ (Value.ref (hp.objs.size + 1) :: us) I2.kIn hl) r2 hq) fun r s' hq' => ?_
  cases r with
  | error er => exact hx pins σ _ _ er s' I2 hq'
  | ok fl =>
    cases fl with
    | ret u =>
      obtain ⟨v, H3, I3, rv, ev, q3⟩ := I2.after hq'
      subst ev
      exact ⟨rv, V.ref (hp.objs.size + 1), H3, I3, rfl, q3⟩
    | next => exact hq'.elim
    | brk => exact hq'.elim
    | cont => exact hq'.elim
end
/-- __init__(self, v): self.f = v, of an own class of errors -/
def spXI (K : PySem.W.Frag) (C : Addr) (f : Str) : Sp := fun vs H Q _ => ∃ (a : Addr) (v : V), vs = [.ref a, v] ∧ OexC K C ∧ PySem.W.findIn K (.ref C) f = some none ∧ H a = some (exo a C none) ∧
  ∀ dx, H dx = none → dx ≠ a → Q .non (upd (upd H dx (exd dx [(f, v)])) a (exo a C (some dx)))
/-- text * n -/
theorem op_rep_str {X : Cx} : OpR X (binaryOp .Mult) (fun x y H Q => ∃ z i, x = .str z ∧ y = .int i ∧ MulOk z i ∧ Q (.str (Txt.mul z i)) H) := by
  intro pins s σ H x y v u Q I rx ry h
  obtain ⟨z, i, rfl, rfl, hc, q⟩ := h
  obtain ⟨t, rfl⟩ := rx
  obtain ⟨t', rfl⟩ := ry
  exact SB.mul hc fun t' k => ⟨.str (Txt.mul z i), H, I.tok _, ⟨_, rfl⟩, q⟩

-- program pickaisle_k00_errors_stand_apart
def topS (i : Nat) : Stmt := PySem.Challenge.pw_pickaisle_k00_errors_stand_apart.main.body.getD i (.Pass ⟨0, 0, 0, 0⟩)
abbrev s_InvalidPlace___init__ : Stmt := inClass (topS 10) 0
theorem sc_InvalidPlace___init__ : FnScope ["self", "place"] ["self", "place"] (defScope s_InvalidPlace___init__) := ⟨rfl, rfl, rfl, by decide +kernel, rfl, by decide +kernel, by decide +kernel⟩
abbrev s_PickTaken___init__ : Stmt := inClass (topS 11) 0
theorem sc_PickTaken___init__ : FnScope ["self", "place"] ["self", "place"] (defScope s_PickTaken___init__) := ⟨rfl, rfl, rfl, by decide +kernel, rfl, by decide +kernel, by decide +kernel⟩
abbrev s_UnknownPick___init__ : Stmt := inClass (topS 12) 0
theorem sc_UnknownPick___init__ : FnScope ["self", "place"] ["self", "place"] (defScope s_UnknownPick___init__) := ⟨rfl, rfl, rfl, by decide +kernel, rfl, by decide +kernel, by decide +kernel⟩
abbrev s_Unreachable___init__ : Stmt := inClass (topS 13) 0
theorem sc_Unreachable___init__ : FnScope ["self", "place"] ["self", "place"] (defScope s_Unreachable___init__) := ⟨rfl, rfl, rfl, by decide +kernel, rfl, by decide +kernel, by decide +kernel⟩
abbrev s_InvalidWalk___init__ : Stmt := inClass (topS 14) 0
theorem sc_InvalidWalk___init__ : FnScope ["self", "number"] ["self", "number"] (defScope s_InvalidWalk___init__) := ⟨rfl, rfl, rfl, by decide +kernel, rfl, by decide +kernel, by decide +kernel⟩
abbrev s_InvalidNotation___init__ : Stmt := inClass (topS 15) 0
theorem sc_InvalidNotation___init__ : FnScope ["self", "line"] ["self", "line"] (defScope s_InvalidNotation___init__) := ⟨rfl, rfl, rfl, by decide +kernel, rfl, by decide +kernel, by decide +kernel⟩
abbrev s_NameTaken___init__ : Stmt := inClass (topS 16) 0
theorem sc_NameTaken___init__ : FnScope ["self", "name"] ["self", "name"] (defScope s_NameTaken___init__) := ⟨rfl, rfl, rfl, by decide +kernel, rfl, by decide +kernel, by decide +kernel⟩
abbrev s_UnknownName___init__ : Stmt := inClass (topS 17) 0
theorem sc_UnknownName___init__ : FnScope ["self", "name"] ["self", "name"] (defScope s_UnknownName___init__) := ⟨rfl, rfl, rfl, by decide +kernel, rfl, by decide +kernel, by decide +kernel⟩
abbrev s__law_row : Stmt := topS 19
theorem sc__law_row : FnScope ["cell", "many", "row", "rest", "state", "k"] ["cell", "many"] (defScope s__law_row) := ⟨rfl, rfl, rfl, by decide +kernel, rfl, by decide +kernel, by decide +kernel⟩
abbrev s__law_numbers : Stmt := topS 20
theorem sc__law_numbers : FnScope ["script", "many", "cells", "each", "numbers", "cell", "number"] ["script", "many"] (defScope s__law_numbers) := ⟨rfl, rfl, rfl, by decide +kernel, rfl, by decide +kernel, by decide +kernel⟩
abbrev s__law_kinds : Stmt := topS 21
theorem sc__law_kinds : FnScope ["error", "many"] ["error"] (defScope s__law_kinds) := ⟨rfl, rfl, rfl, by decide +kernel, rfl, by decide +kernel, by decide +kernel⟩
abbrev s_law : Stmt := topS 22
theorem sc_law : FnScope ["script", "numbers", "text", "place", "number", "plain", "told", "error"] ["script"] (defScope s_law) := ⟨rfl, rfl, rfl, by decide +kernel, rfl, by decide +kernel, by decide +kernel⟩

/-! ### heaps -/
theorem same_upd {H : Hp} {p : Addr} {o : HO} (h : H p = none) : Same H (upd H p o) := fun b x e => by
  rw [upd_ne (ne_of_none e h)]
  exact e
/-- a list of numbers below 1009 -/
def Small (ns : List Int) : Prop := ∀ n ∈ ns, 0 ≤ n ∧ n < 1009
theorem Small.nil : Small [] := fun _ h => nomatch h
theorem Small.snoc {ns : List Int} (h : Small ns) {n : Int} (h0 : 0 ≤ n) (h1 : n < 1009) : Small (ns ++ [n]) := fun k hk => by
  rcases List.mem_append.mp hk with z | z
  · exact h k z
  · rw [List.mem_singleton] at z
    subst z
    exact ⟨h0, h1⟩
theorem small1e7 {n : Nat} (h : n ≤ 100000) : n < sizeLine := Nat.lt_of_le_of_lt h (by decide)
section
local macro_rules | `(tactic| walk_at "rd1") => `(tactic| first
  | (refine Exists.intro _ (And.intro rfl ?_))
  | (refine ⟨_, _, rfl, rfl, ?_⟩)
  | (refine Or.inl (Exists.intro _ (And.intro rfl ?_)))
  | (refine ⟨_, _, _, rfl, rfl, by assumption, by assumption, ?_⟩)
  | (refine And.intro (Or.inl ⟨rfl, _, SqL.of (by assumption)⟩) ?_)
  | (refine And.intro (by (first | omega | (dsimp only; omega) | (constructor <;> omega) | (refine Or.inl ?_; constructor <;> omega) | (refine Or.inr ?_; constructor <;> omega) | exact ⟨by decide, by decide, by decide⟩)) ?_))
local macro_rules | `(tactic| walk_at "rd") => `(tactic| repeat walk_at "rd1")
variable {P : Program} {w : World} {K : PySem.W.Frag} {mg : Str → Option Value} {base : Heap}
/-- the names of built-ins that no def of the text hides -/
structure DrawTxt (mg : Str → Option Value) (fR : Addr) : Prop where
  abs : mg "abs" = none
  int : mg "int" = none
  range : mg "range" = none
  len : mg "len" = none
  max : mg "max" = none
  row : mg "_law_row" = some (.ref fR)
/-- a row of numbers: a new list of as many numbers as asked, each from 0 to 1008 -/
def spRow : Sp := fun vs H Q _ => ∃ (c : Int) (m : Nat), vs = [.int c, .int m] ∧ m ≤ 1000 ∧
  ∀ (H' : Hp) (p : Addr) (ns : List Int), Same H H' → H p = none → H' p = some (.lst (ns.map V.int)) → ns.length = m → Small ns → Q (.ref p) H'
theorem ok_row {f fR : Addr} {fd : FuncData} {k : Nat} (F : Fun K "_law_row" "_law_row" s__law_row f fd) (T : DrawTxt mg fR) : FnOk P w K mg base CX0 (k + 1) f fd ["cell", "many"] spRow := by
  refine F.ok sc__law_row (fun vs H Q E h => ?_) (fun cdv A outer s H vs Q E hr h => ?_)
  · obtain ⟨c, m, rfl, _⟩ := h
    rfl
  · obtain ⟨c, m, rfl, hm, q⟩ := h
    have nd := sc__law_row.nd
    refine ⟨_, pss_cons (ps_set (i := 2) nd rfl (.inl rfl) (pe_lst pa_nil))
      (pss_cons (ps_set (i := 3) nd rfl (.inl rfl) pe_int)
      (pss_cons (ps_if (pt_cmpR op_ge (pe_callB call_abs (by rfl) T.abs (by decide +kernel) (pa_cons (pv 0) pa_nil)) (pe_op op_pow pe_int pe_int) (nomark _))
          (pss_one (ps_set (i := 3) nd rfl (.inl rfl) (pe_callB call_abs (by rfl) T.abs (by decide +kernel) (pa_cons (pv 0) pa_nil)))) pss_nil)
      (pss_cons (ps_set (i := 4) nd rfl (.inl rfl) (pe_op op_mod (pe_callTy call_int1 (by rfl) T.int (by decide +kernel) (pa_cons (pe_callB call_abs (by rfl) T.abs (by decide +kernel) (pa_cons (pv 0) pa_nil)) pa_nil)) pe_int))
      (pss_cons (ps_for PassesOwn.never rfl (pi_range1 rfl T.range (pa_cons (pv 1) pa_nil)) (pg_name (i := 5) nd rfl (.inl rfl))
        (pss_cons (ps_set (i := 4) nd rfl (.inl rfl) (pe_op op_mod (pe_callTy call_int1 (by rfl) T.int (by decide +kernel)
            (pa_cons (pe_op op_add (pe_op op_mul (pe_op op_add (pv 4) pe_int) pe_int) (pe_op op_mul pe_int (pv 5))) pa_nil)) pe_int))
        (pss_one (ps_if (pt_cmpR op_gt (pv 3) pe_int (nomark _))
          (pss_cons (ps_expr (pe_bm PySem.F.plainAttrs_list PySem.F.slot_list_append PySem.F.type_list_append mt_append (pv 2)
              (pa_cons (pe_op op_mod (pe_callTy call_int1 (by rfl) T.int (by decide +kernel) (pa_cons (pv 3) pa_nil)) pe_int) pa_nil)))
            (pss_one (ps_set (i := 3) nd rfl (.inl rfl) (pe_op op_fdiv (pv 3) pe_int))))
          (pss_one (ps_expr (pe_bm PySem.F.plainAttrs_list PySem.F.slot_list_append PySem.F.type_list_append mt_append (pv 2)
              (pa_cons (pe_op op_mod (pe_callTy call_int1 (by rfl) T.int (by decide +kernel) (pa_cons (pe_op op_fdiv (pv 4) pe_int) pa_nil)) pe_int) pa_nil))))))))
      (pss_one (ps_ret (pv 2))))))), ?_⟩
    refine ⟨Nat.zero_le _, fun r nr => ?_⟩
    have s1 : Same H (upd H r (.lst [])) := same_upd nr
    walk_at "rd"
    refine ite2 (fun hc => ?_) (fun hc => ?_)
    all_goals
      walk_at "rd"
      refine for_range (lo := 0) (n := m) (fun i σ H' => ∃ (ns : List Int) (rst st : Int) (vk : Option V), σ = [some (.int c), some (.int m), some (.ref r), some (.int rst), some (.int st), vk] ∧ Same H H' ∧ H' r = some (.lst (ns.map V.int)) ∧ ns.length = i ∧ Small ns ∧ 0 ≤ st ∧ st < 2147483647)
        ⟨[], _, _, none, rfl, s1, upd_same, rfl, Small.nil, Int.emod_nonneg _ (by decide), Int.emod_lt_of_pos _ (by decide)⟩ ?_ ?_
      · rintro i σ H' hi ⟨ns, rst, st, vk, rfl, sm, hrow, hl, hs, h0, h1⟩
        have hlen : (ns.map V.int).length < sizeLine := by
          rw [List.length_map]
          exact small1e7 (by omega)
        walk_at "rd"
        refine ite2 (fun hc2 => ?_) (fun hc2 => ?_)
        · walk_at "rd"
          refine ⟨ns ++ [rst % 1009], _, _, _, rfl, fun b o e => ?_, ?_, ?_, hs.snoc (Int.emod_nonneg _ (by decide)) (Int.emod_lt_of_pos _ (by decide)), Int.emod_nonneg _ (by decide), Int.emod_lt_of_pos _ (by decide)⟩
          · rw [upd_ne (ne_of_none e nr)]
            exact sm b o e
          · rw [upd_same, List.map_append]
            rfl
          · rw [List.length_append, hl]
            rfl
        · walk_at "rd"
          refine ⟨ns ++ [((st + 1) * 48271 + 69621 * (0 + (i : Int))) % 2147483647 / 2048 % 1009], _, _, _, rfl, fun b o e => ?_, ?_, ?_, hs.snoc (Int.emod_nonneg _ (by decide)) (Int.emod_lt_of_pos _ (by decide)), Int.emod_nonneg _ (by decide), Int.emod_lt_of_pos _ (by decide)⟩
          · rw [upd_ne (ne_of_none e nr)]
            exact sm b o e
          · rw [upd_same, List.map_append]
            rfl
          · rw [List.length_append, hl]
            rfl
      · rintro σ H' ⟨ns, rst, st, vk, rfl, sm, hrow, hl, hs, h0, h1⟩
        exact ⟨_, rfl, q H' r ns sm nr hrow hl hs⟩
/-- as many numbers as asked, drawn from the script: a new list, each from 0 to 1008 -/
def spNumbers (K : PySem.W.Frag) : Sp := fun vs H Q _ => ∃ (a : Addr) (xs : List Int) (m : Nat), vs = [.ref a, .int m] ∧ SqL K H a (xs.map V.int) ∧ xs.length ≤ 63 ∧ m ≤ 200 ∧
  ∀ (H' : Hp) (p : Addr) (ns : List Int), Same H H' → H p = none → H' p = some (.lst (ns.map V.int)) → ns.length = m → Small ns → Q (.ref p) H'
theorem cut_all (xs : List V) (h : xs.length ≤ 63) : cutV xs none (some 63) = xs := by
  unfold cutV
  rw [show HT.sIx xs.length xs.length (some 63) = min 63 xs.length from HT.sIx_nat xs.length xs.length 63, HT.sIx_none, List.drop_zero, Nat.sub_zero, Nat.min_eq_right h, List.take_length]
theorem cut_to (xs : List V) (m : Nat) : cutV xs none (some (m : Int)) = xs.take m := by
  unfold cutV
  rw [HT.sIx_nat, HT.sIx_none, List.drop_zero, Nat.sub_zero]
  rcases Nat.le_total m xs.length with h | h
  · rw [Nat.min_eq_left h]
  · rw [Nat.min_eq_right h, List.take_length, List.take_of_length_le h]
def lenAt (H : Hp) (p : Addr) : Nat := match H p with
  | some (.lst xs) => xs.length
  | _ => 0
theorem lenAt_of {H : Hp} {p : Addr} {xs : List V} (h : H p = some (.lst xs)) : lenAt H p = xs.length := by
  unfold lenAt
  rw [h]
theorem each_nat (m n : Nat) (hm : m ≤ 200) : ∃ e : Nat, 1 + (m : Int).fdiv (if (n : Int) > 1 then (n : Int) else 1) = (e : Int) ∧ e ≤ 201 := by
  have hp : 0 < (if (n : Int) > 1 then (n : Int) else 1) := by split <;> omega
  have e1 : (m : Int).fdiv (if (n : Int) > 1 then (n : Int) else 1) = (m : Int) / (if (n : Int) > 1 then (n : Int) else 1) := Int.fdiv_eq_ediv_of_nonneg _ (Int.le_of_lt hp)
  have h0 : 0 ≤ (m : Int) / (if (n : Int) > 1 then (n : Int) else 1) := Int.ediv_nonneg (by omega) (Int.le_of_lt hp)
  have h1 : (m : Int) / (if (n : Int) > 1 then (n : Int) else 1) ≤ m := Int.ediv_le_self _ (by omega)
  rw [e1]
  exact ⟨(1 + (m : Int) / (if (n : Int) > 1 then (n : Int) else 1)).toNat, by omega, by omega⟩
theorem ok_numbers {f fR : Addr} {fd fdR : FuncData} (F : Fun K "_law_numbers" "_law_numbers" s__law_numbers f fd) (T : DrawTxt mg fR) (FR : Fun K "_law_row" "_law_row" s__law_row fR fdR) (bR : Binds K fdR ["cell", "many"] []) :
    FnOk P w K mg base CX0 2 f fd ["script", "many"] (spNumbers K) := by
  have GR : FnOk P w K mg base CX0 1 fR fdR ["cell", "many"] spRow := ok_row FR T
  refine F.ok sc__law_numbers (fun vs H Q E h => ?_) (fun cdv A outer s H vs Q E hr h => ?_)
  · obtain ⟨a, xs, m, rfl, _⟩ := h
    rfl
  · obtain ⟨a, xs, m, rfl, hS, hx, hm, q⟩ := h
    have nd := sc__law_numbers.nd
    refine ⟨_, pss_cons (ps_set (i := 2) nd rfl (.inl rfl) (pe_slice sl_list (pv 0) po_none (po_some pe_int)))
      (pss_cons (ps_set (i := 3) nd rfl (.inl rfl) (pe_op op_add pe_int (pe_op op_fdivN (pv 1) (pe_callB (call_max2 rfl) (by rfl) T.max (by decide +kernel)
          (pa_cons pe_int (pa_cons (pe_callB call_len (by rfl) T.len (by decide +kernel) (pa_cons (pv 2) pa_nil)) pa_nil))))))
      (pss_cons (ps_set (i := 4) nd rfl (.inl rfl) (pe_lst pa_nil))
      (pss_cons (ps_for PassesOwn.never rfl (pi_list (pv 2)) (pg_name (i := 5) nd rfl (.inl rfl))
        (pss_one (ps_for PassesOwn.never rfl (pi_list (pe_call GR hr (by rfl) T.row FR.kp bR .nil pass0 (pa_cons (pv 5) (pa_cons (pv 3) pa_nil)))) (pg_name (i := 6) nd rfl (.inl rfl))
          (pss_one (ps_expr (pe_bm PySem.F.plainAttrs_list PySem.F.slot_list_append PySem.F.type_list_append mt_append (pv 4) (pa_cons (pv 6) pa_nil)))))))
      (pss_cons (ps_while PassesOwn.never (pt_cmpR op_lt (pe_callB call_len (by rfl) T.len (by decide +kernel) (pa_cons (pv 4) pa_nil)) (pv 1) (nomark _))
        (pss_one (ps_expr (pe_bm PySem.F.plainAttrs_list PySem.F.slot_list_append PySem.F.type_list_append mt_append (pv 4) (pa_cons pe_int pa_nil)))))
      (pss_one (ps_ret (pe_slice sl_list (pv 4) po_none (po_some (pv 1))))))))), ?_⟩
    refine ⟨_, rfl, _, rfl, a, _, rfl, hS, fun c nc => ?_⟩
    rw [cut_all _ (by rw [List.length_map]; exact hx)]
    have s1 : Same H (upd H c (.lst (xs.map V.int))) := same_upd nc
    refine ⟨_, rfl, _, rfl, _, _, rfl, .inl ⟨_, SqL.of upd_same, rfl⟩, _, _, rfl, _, _, rfl, rfl, ?_, ?_⟩
    · constructor
      · rw [List.length_map]
        split <;> omega
      · rw [List.length_map]
        split <;> omega
    refine ⟨_, _, rfl, rfl, ?_⟩
    dsimp only
    obtain ⟨e, he, hle⟩ := each_nat m (List.map V.int xs).length hm
    rw [he]
    refine ⟨Nat.zero_le _, fun b nb => ?_⟩
    have s2 : Same (upd H c (.lst (xs.map V.int))) (upd (upd H c (.lst (xs.map V.int))) b (.lst [])) := same_upd nb
    have nbc : c ≠ b := ne_of_none upd_same nb
    have nb0 : H b = none := s1.free nb
    -- for cell in cells
    refine ⟨_, rfl, c, rfl, ⟨_, SqL.of (s2 _ _ upd_same)⟩, for_list (K := K) (a := c) (xs := xs.map V.int) (fun i σ H' => ∃ (ns : List Int) (v5 v6 : Option V), σ = [some (.ref a), some (.int m), some (.ref c), some (.int e), some (.ref b), v5, v6] ∧ Same H H' ∧ H' c = some (.lst (xs.map V.int)) ∧ H' b = some (.lst (ns.map V.int)) ∧ ns.length ≤ i * 201 ∧ Small ns)
      ⟨[], none, none, rfl, s1.trans s2, s2 _ _ upd_same, upd_same, Nat.zero_le _, Small.nil⟩ (fun i σ H' _ ⟨_, _, _, _, _, hc, _⟩ => SqL.of hc) ?_ ?_⟩
    · rintro i y σ H' hi ⟨ns, v5, v6, rfl, sm, hc, hb, hl, hs⟩
      obtain ⟨z, hz, rfl⟩ : ∃ z, xs[i]? = some z ∧ y = V.int z := by
        rw [List.getElem?_map] at hi
        cases e : xs[i]? with
        | none =>
          rw [e] at hi
          cases hi
        | some z =>
          rw [e] at hi
          exact ⟨z, rfl, (Option.some.inj hi).symm⟩
      have hil : i < xs.length := (List.getElem?_eq_some_iff.mp hz).1
      -- for number in _law_row(cell, each)
      refine ⟨_, rfl, _, rfl, z, e, rfl, by omega, fun H2 r rs s3 nr hr2 hrl hrs => ?_⟩
      refine ⟨r, rfl, ⟨_, SqL.of hr2⟩, for_list (K := K) (a := r) (xs := rs.map V.int) (fun j σ H3 => ∃ (ms : List Int) (v6 : Option V), σ = [some (.ref a), some (.int m), some (.ref c), some (.int e), some (.ref b), some (.int z), v6] ∧ Same H H3 ∧ H3 r = some (.lst (rs.map V.int)) ∧ H3 c = some (.lst (xs.map V.int)) ∧ H3 b = some (.lst (ms.map V.int)) ∧ ms.length = ns.length + j ∧ Small ms)
        ⟨ns, v6, rfl, sm.trans s3, hr2, s3 _ _ hc, s3 _ _ hb, rfl, hs⟩ (fun j σ H3 _ ⟨_, _, _, _, h, _⟩ => SqL.of h) ?_ ?_⟩
      · rintro j y σ H3 hj ⟨ms, v6, rfl, sm3, hr3, hc3, hb3, hl3, hs3⟩
        obtain ⟨n, hn, rfl⟩ : ∃ n, rs[j]? = some n ∧ y = V.int n := by
          rw [List.getElem?_map] at hj
          cases e : rs[j]? with
          | none =>
            rw [e] at hj
            cases hj
          | some z =>
            rw [e] at hj
            exact ⟨z, rfl, (Option.some.inj hj).symm⟩
        have hjl : j < rs.length := (List.getElem?_eq_some_iff.mp hn).1
        have hb3l : (ms.map V.int).length < sizeLine := by
          rw [List.length_map]
          exact small1e7 (by omega)
        have nrb : r ≠ b := fun z => by
          rw [z] at nr
          rw [nr] at hb
          cases hb
        obtain ⟨g0, g1⟩ := hrs n (List.mem_of_getElem? hn)
        walk_at "rd"
        refine ⟨ms ++ [n], _, rfl, fun d o e => ?_, by rw [upd_ne nrb]; exact hr3, by rw [upd_ne nbc]; exact hc3, ?_, ?_, hs3.snoc g0 g1⟩
        · rw [upd_ne (ne_of_none e nb0)]
          exact sm3 d o e
        · rw [upd_same, List.map_append]
          rfl
        · rw [List.length_append, hl3]
          rfl
      · rintro σ H3 ⟨ms, v6, rfl, sm3, hr3, hc3, hb3, hl3, hs3⟩
        rw [List.length_map] at hl3
        exact ⟨ms, _, _, rfl, sm3, hc3, hb3, by rw [Nat.succ_mul]; omega, hs3⟩
    · rintro σ H' ⟨ns, v5, v6, rfl, sm, hc, hb, hl, hs⟩
      rw [List.length_map] at hl
      -- while len(numbers) < many
      refine while_by (fun σ H' => ∃ ns : List Int, σ = [some (.ref a), some (.int m), some (.ref c), some (.int e), some (.ref b), v5, v6] ∧ Same H H' ∧ H' b = some (.lst (ns.map V.int)) ∧ Small ns) (fun _ H' => m - lenAt H' b)
        ⟨ns, rfl, sm, hb, hs⟩ ?_ ?_
      · rintro σ H' ⟨ns, rfl, sm, hb, hs⟩
        refine ⟨_, rfl, _, _, rfl, .inl ⟨_, SqL.of hb, rfl⟩, _, rfl, _, _, rfl, rfl, _, rfl, ?_⟩
        rw [List.length_map]
        refine ite2 (fun hlt => ?_) (fun hlt => ?_)
        · have hlt' : ns.length < m := by
            have := of_decide_eq_true hlt
            omega
          have hbl : (ns.map V.int).length < sizeLine := by
            rw [List.length_map]
            exact small1e7 (by omega)
          walk_at "rd"
          refine ⟨⟨ns ++ [0], rfl, fun d o e => ?_, ?_, hs.snoc (by decide) (by decide)⟩, ?_⟩
          · rw [upd_ne (ne_of_none e nb0)]
            exact sm d o e
          · rw [upd_same, List.map_append]
            rfl
          · rw [lenAt_of upd_same, lenAt_of hb, List.length_append, List.length_map]
            show m - (ns.length + 1) < m - ns.length
            omega
        · have hge : m ≤ ns.length := by
            have : ¬ ((ns.length : Int) < (m : Int)) := fun z => hlt (decide_eq_true z)
            omega
          refine ⟨_, rfl, _, rfl, _, rfl, b, _, rfl, SqL.of hb, fun p np => ?_⟩
          rw [cut_to, ← List.map_take]
          refine q _ p (ns.take m) (fun d o e => ?_) (sm.free np) upd_same (by rw [List.length_take]; omega) (fun n hn => hs n (List.mem_of_mem_take hn))
          rw [upd_ne (ne_of_none (sm d o e) np)]
          exact sm d o e
      · rintro σ H Q Q' h ⟨v, e1, x, n, e2, l, u, e3, i, j, ei, ej, k, ek, q⟩
        exact ⟨v, e1, x, n, e2, l, u, e3, i, j, ei, ej, k, ek, h _ _ q⟩
end

/-! ### small lemmas of the reading -/
theorem eight {l : List Int} (h : l.length = 8) : ∃ n0 n1 n2 n3 n4 n5 n6 n7, l = [n0, n1, n2, n3, n4, n5, n6, n7] := by
  match l, h with
  | [n0, n1, n2, n3, n4, n5, n6, n7], _ => exact ⟨n0, n1, n2, n3, n4, n5, n6, n7, rfl⟩
theorem sign_at (n : Int) : ∃ c, atI (("abc -~" : Str).cps.toList) (n % 6) = some c ∧ c ∈ [97, 98, 99, 32, 45, 126] := by
  have h : n % 6 = 0 ∨ n % 6 = 1 ∨ n % 6 = 2 ∨ n % 6 = 3 ∨ n % 6 = 4 ∨ n % 6 = 5 := by omega
  rcases h with h | h | h | h | h | h <;> rw [h]
  · exact ⟨97, by decide +kernel, by decide⟩
  · exact ⟨98, by decide +kernel, by decide⟩
  · exact ⟨99, by decide +kernel, by decide⟩
  · exact ⟨32, by decide +kernel, by decide⟩
  · exact ⟨45, by decide +kernel, by decide⟩
  · exact ⟨126, by decide +kernel, by decide⟩
theorem mul_ok (z : Str) (hz : z.length = 1) (i : Int) (h0 : 0 ≤ i) (h1 : i < 9) : MulOk z i := by
  have h : i = 0 ∨ i = 1 ∨ i = 2 ∨ i = 3 ∨ i = 4 ∨ i = 5 ∨ i = 6 ∨ i = 7 ∨ i = 8 := by omega
  unfold MulOk
  rw [hz]
  rcases h with h | h | h | h | h | h | h | h | h <;> subst h <;> decide +kernel
/-- a new object laid: the heap then, by a name -/
theorem made {H : Hp} {a : Addr} {o : HO} (h : H a = none) : ∃ H', upd H a o = H' ∧ Same H H' ∧ H' a = some o := ⟨_, rfl, same_upd h, upd_same⟩
theorem madeX {H : Hp} {a d C : Addr} {fs : List (Str × V)} (ha : H a = none) (hd : (upd H a (exo a C none)) d = none) (hne : d ≠ a) :
    ∃ H', upd (upd (upd H a (exo a C none)) d (exd d fs)) a (exo a C (some d)) = H' ∧ Same H H' ∧ XvAt H' a C fs := by
  refine ⟨_, rfl, fun b o e => ?_, .inr ⟨d, upd_same, ?_⟩⟩
  · have h1 : b ≠ a := ne_of_none e ha
    have h2 : b ≠ d := ne_of_none (show (upd H a (exo a C none)) b = some o by rw [upd_ne h1]; exact e) hd
    rw [upd_ne h1, upd_ne h2, upd_ne h1]
    exact e
  · rw [upd_ne hne, upd_same]
theorem neRefl {d : PyData} (h : d.canLay0 = true) {A B : Prop} (hB : B) : if (!PyData.eqv d d) = true then A else B := by
  rw [SeqAt.eqv_refl d h]
  exact iteF hB
theorem text_all : ∀ c ∈ [97, 98, 99, 32, 45, 126], ∀ i ∈ List.range 9, PyData.canLay0 (.str (Txt.mul ⟨#[c]⟩ (i : Int))) = true := by decide +kernel
theorem text_ok {c : Nat} (hc : c ∈ [97, 98, 99, 32, 45, 126]) (i : Int) (h0 : 0 ≤ i) (h1 : i < 9) : PyData.canLay0 (.str (Txt.mul ⟨#[c]⟩ i)) = true := by
  have h := text_all c hc i.toNat (List.mem_range.mpr (by omega))
  rw [Int.toNat_of_nonneg h0] at h
  exact h
theorem two_ok {z : Str} (h : PyData.canLay0 (.str z) = true) : PyData.canLay0 (.list [.str z, .str z]) = true := by
  show (PyData.canLay0 (.str z) && (PyData.canLay0 (.str z) && true)) = true
  rw [h]
  rfl
theorem two_shaped {z : Str} (h : PyData.canLay0 (.str z) = true) : SeqAt.shaped (.list [.str z, .str z]) = true := by
  unfold SeqAt.shaped
  rw [two_ok h]
  rfl

/-- what the top has left of a class of errors without __init__ -/
structure PlainTxt (K : PySem.W.Frag) (mg : Str → Option Value) (C : Addr) (x : Str) : Prop where
  g : mg x = some (.ref C)
  kp : PySem.W.keepIn K (.ref C) = true
  ex : PySem.W.excIn K C [.type "ValueError", .type "Exception", .type "BaseException", .type "object"] "ValueError.__new__" = true
structure ToldTxt (K : PySem.W.Frag) (mg : Str → Option Value) (C fI : Addr) (x f : Str) : Prop where
  g : mg x = some (.ref C)
  ox : OexC K C
  iC : PySem.W.findIn K (.ref C) "__init__" = some (some (.ref fI))
  tI : PySem.W.typeIn K (.ref fI) = some (.type "function")
  noF : PySem.W.findIn K (.ref C) f = some none
/-- the classes, told apart -/
def kindsB (K : PySem.W.Frag) (cs : List Addr) (P : Addr) : Bool := (List.range 16).all fun j =>
  ((List.range 16).all fun i => PySem.W.kitOne K (.ref (cs.getD j 0)) (.ref (cs.getD i 0)) == some (decide (i = j))) &&
  (PySem.W.kitOne K (.ref (cs.getD j 0)) (.ref P) == some true && (PySem.W.kitOne K (.ref (cs.getD j 0)) (.type "ValueError") == some true &&
  (PySem.W.findIn K (.ref (cs.getD j 0)) "__getattribute__" == some (some (.builtin "BaseException.__getattribute__")) &&
  (PySem.W.findIn K (.ref (cs.getD j 0)) "__getattr__" == some none &&
  (PySem.W.subIn K (.ref (cs.getD j 0)) (.type "BaseException") == some true &&
  (PySem.W.hasDictIn K (cs.getD j 0) &&
  (PySem.W.findIn K (.ref (cs.getD j 0)) "__class__" == some (some (.builtin "object.__class__")) &&
  (PySem.W.specialIn K (.builtin "object.__class__") "__get__" == some (some (.builtin "getset_descriptor.__get__")) &&
  (PySem.W.takesIn K (.builtin "object.__class__") == some true &&
  PySem.W.mroIn K (cs.getD j 0) (.type "object") == some true)))))))))
structure Kind (K : PySem.W.Frag) (cs : List Addr) (P : Addr) (j : Nat) : Prop where
  lt : j < 16
  each : ∀ i, i < 16 → PySem.W.kitOne K (.ref (cs.getD j 0)) (.ref (cs.getD i 0)) = some (decide (i = j))
  base : PySem.W.kitOne K (.ref (cs.getD j 0)) (.ref P) = some true
  value : PySem.W.kitOne K (.ref (cs.getD j 0)) (.type "ValueError") = some true
  ec : ExcC K (cs.getD j 0)
theorem kinds_of {K : PySem.W.Frag} {cs : List Addr} {P : Addr} (h : kindsB K cs P = true) {j : Nat} (hj : j < 16) : Kind K cs P j := by
  have h1 := List.all_eq_true.mp h j (List.mem_range.mpr hj)
  simp only [Bool.and_eq_true, beq_iff_eq] at h1
  obtain ⟨ha, hb, hc, h1, h2, h3, h4, h5, h6, h7, h8⟩ := h1
  exact ⟨hj, fun i hi => beq_iff_eq.mp (List.all_eq_true.mp ha i (List.mem_range.mpr hi)), hb, hc, ⟨h1, h2, h3, h4, h5, h6, h7, h8⟩⟩
theorem Kind.xf {K : PySem.W.Frag} {cs : List Addr} {P : Addr} {j : Nat} (k : Kind K cs P j) : XfC K (cs.getD j 0) := ⟨k.ec.hg, k.ec.hk, k.ec.hs, k.ec.hd⟩
structure Txt (K : PySem.W.Frag) (mg : Str → Option Value) (cs is : List Addr) (Pe : Addr) : Prop where
  p0 : PlainTxt K mg (cs.getD 0 0) "InvalidHouse"
  p1 : PlainTxt K mg (cs.getD 1 0) "InvalidTask"
  p2 : PlainTxt K mg (cs.getD 2 0) "InvalidLink"
  p3 : PlainTxt K mg (cs.getD 3 0) "InvalidPlan"
  p4 : PlainTxt K mg (cs.getD 4 0) "InvalidPaper"
  p5 : PlainTxt K mg (cs.getD 5 0) "TooLarge"
  p6 : PlainTxt K mg (cs.getD 6 0) "NothingToUndo"
  p7 : PlainTxt K mg (cs.getD 7 0) "NothingToRedo"
  t8 : ToldTxt K mg (cs.getD 8 0) (is.getD 0 0) "InvalidPlace" "place"
  t9 : ToldTxt K mg (cs.getD 9 0) (is.getD 1 0) "PickTaken" "place"
  t10 : ToldTxt K mg (cs.getD 10 0) (is.getD 2 0) "UnknownPick" "place"
  t11 : ToldTxt K mg (cs.getD 11 0) (is.getD 3 0) "Unreachable" "place"
  t12 : ToldTxt K mg (cs.getD 12 0) (is.getD 4 0) "InvalidWalk" "number"
  t13 : ToldTxt K mg (cs.getD 13 0) (is.getD 5 0) "InvalidNotation" "line"
  t14 : ToldTxt K mg (cs.getD 14 0) (is.getD 6 0) "NameTaken" "name"
  t15 : ToldTxt K mg (cs.getD 15 0) (is.getD 7 0) "UnknownName" "name"
  base : mg "PickError" = some (.ref Pe)
  kinds : kindsB K cs Pe = true
  isi : mg "isinstance" = none
  int : mg "int" = none
  ve : mg "ValueError" = none
section
variable {P : Program} {w : World} {K : PySem.W.Frag} {mg : Str → Option Value} {base : Heap}
theorem ok_init8 {f C : Addr} {fd : FuncData} (F : Fun K "__init__" "InvalidPlace.__init__" s_InvalidPlace___init__ f fd) : FnOk P w K mg base CX0 1 f fd ["self", "place"] (spXI K C "place") := by
  refine F.ok sc_InvalidPlace___init__ (fun vs H Q E h => ?_) (fun cdv A outer s H vs Q E hr h => ?_)
  · obtain ⟨a, v, rfl, _⟩ := h
    rfl
  · obtain ⟨a, v, rfl, T, hno, ha, q⟩ := h
    exact ⟨_, pss_one (ps_ost (pv 0) (pv 1)), v, rfl, _, rfl, a, C, rfl, T, hno, .inl ⟨ha, q⟩⟩
theorem ok_init9 {f C : Addr} {fd : FuncData} (F : Fun K "__init__" "PickTaken.__init__" s_PickTaken___init__ f fd) : FnOk P w K mg base CX0 1 f fd ["self", "place"] (spXI K C "place") := by
  refine F.ok sc_PickTaken___init__ (fun vs H Q E h => ?_) (fun cdv A outer s H vs Q E hr h => ?_)
  · obtain ⟨a, v, rfl, _⟩ := h
    rfl
  · obtain ⟨a, v, rfl, T, hno, ha, q⟩ := h
    exact ⟨_, pss_one (ps_ost (pv 0) (pv 1)), v, rfl, _, rfl, a, C, rfl, T, hno, .inl ⟨ha, q⟩⟩
theorem ok_init10 {f C : Addr} {fd : FuncData} (F : Fun K "__init__" "UnknownPick.__init__" s_UnknownPick___init__ f fd) : FnOk P w K mg base CX0 1 f fd ["self", "place"] (spXI K C "place") := by
  refine F.ok sc_UnknownPick___init__ (fun vs H Q E h => ?_) (fun cdv A outer s H vs Q E hr h => ?_)
  · obtain ⟨a, v, rfl, _⟩ := h
    rfl
  · obtain ⟨a, v, rfl, T, hno, ha, q⟩ := h
    exact ⟨_, pss_one (ps_ost (pv 0) (pv 1)), v, rfl, _, rfl, a, C, rfl, T, hno, .inl ⟨ha, q⟩⟩
theorem ok_init11 {f C : Addr} {fd : FuncData} (F : Fun K "__init__" "Unreachable.__init__" s_Unreachable___init__ f fd) : FnOk P w K mg base CX0 1 f fd ["self", "place"] (spXI K C "place") := by
  refine F.ok sc_Unreachable___init__ (fun vs H Q E h => ?_) (fun cdv A outer s H vs Q E hr h => ?_)
  · obtain ⟨a, v, rfl, _⟩ := h
    rfl
  · obtain ⟨a, v, rfl, T, hno, ha, q⟩ := h
    exact ⟨_, pss_one (ps_ost (pv 0) (pv 1)), v, rfl, _, rfl, a, C, rfl, T, hno, .inl ⟨ha, q⟩⟩
theorem ok_init12 {f C : Addr} {fd : FuncData} (F : Fun K "__init__" "InvalidWalk.__init__" s_InvalidWalk___init__ f fd) : FnOk P w K mg base CX0 1 f fd ["self", "number"] (spXI K C "number") := by
  refine F.ok sc_InvalidWalk___init__ (fun vs H Q E h => ?_) (fun cdv A outer s H vs Q E hr h => ?_)
  · obtain ⟨a, v, rfl, _⟩ := h
    rfl
  · obtain ⟨a, v, rfl, T, hno, ha, q⟩ := h
    exact ⟨_, pss_one (ps_ost (pv 0) (pv 1)), v, rfl, _, rfl, a, C, rfl, T, hno, .inl ⟨ha, q⟩⟩
theorem ok_init13 {f C : Addr} {fd : FuncData} (F : Fun K "__init__" "InvalidNotation.__init__" s_InvalidNotation___init__ f fd) : FnOk P w K mg base CX0 1 f fd ["self", "line"] (spXI K C "line") := by
  refine F.ok sc_InvalidNotation___init__ (fun vs H Q E h => ?_) (fun cdv A outer s H vs Q E hr h => ?_)
  · obtain ⟨a, v, rfl, _⟩ := h
    rfl
  · obtain ⟨a, v, rfl, T, hno, ha, q⟩ := h
    exact ⟨_, pss_one (ps_ost (pv 0) (pv 1)), v, rfl, _, rfl, a, C, rfl, T, hno, .inl ⟨ha, q⟩⟩
theorem ok_init14 {f C : Addr} {fd : FuncData} (F : Fun K "__init__" "NameTaken.__init__" s_NameTaken___init__ f fd) : FnOk P w K mg base CX0 1 f fd ["self", "name"] (spXI K C "name") := by
  refine F.ok sc_NameTaken___init__ (fun vs H Q E h => ?_) (fun cdv A outer s H vs Q E hr h => ?_)
  · obtain ⟨a, v, rfl, _⟩ := h
    rfl
  · obtain ⟨a, v, rfl, T, hno, ha, q⟩ := h
    exact ⟨_, pss_one (ps_ost (pv 0) (pv 1)), v, rfl, _, rfl, a, C, rfl, T, hno, .inl ⟨ha, q⟩⟩
theorem ok_init15 {f C : Addr} {fd : FuncData} (F : Fun K "__init__" "UnknownName.__init__" s_UnknownName___init__ f fd) : FnOk P w K mg base CX0 1 f fd ["self", "name"] (spXI K C "name") := by
  refine F.ok sc_UnknownName___init__ (fun vs H Q E h => ?_) (fun cdv A outer s H vs Q E hr h => ?_)
  · obtain ⟨a, v, rfl, _⟩ := h
    rfl
  · obtain ⟨a, v, rfl, T, hno, ha, q⟩ := h
    exact ⟨_, pss_one (ps_ost (pv 0) (pv 1)), v, rfl, _, rfl, a, C, rfl, T, hno, .inl ⟨ha, q⟩⟩
theorem kinds_sum : ∀ j : Nat, j < 16 → ((((((((((((((((0 + if decide (0 = j) = true then 1 else 0) + if decide (1 = j) = true then 1 else 0) + if decide (2 = j) = true then 1 else 0) + if decide (3 = j) = true then 1 else 0) + if decide (4 = j) = true then 1 else 0) + if decide (5 = j) = true then 1 else 0) + if decide (6 = j) = true then 1 else 0) + if decide (7 = j) = true then 1 else 0) + if decide (8 = j) = true then 1 else 0) + if decide (9 = j) = true then 1 else 0) + if decide (10 = j) = true then 1 else 0) + if decide (11 = j) = true then 1 else 0) + if decide (12 = j) = true then 1 else 0) + if decide (13 = j) = true then 1 else 0) + if decide (14 = j) = true then 1 else 0) + if decide (15 = j) = true then 1 else 0) = (1 : Int) := by decide
def spKinds (K : PySem.W.Frag) (cs : List Addr) (Pe : Addr) : Sp := fun vs H Q _ => ∃ (a : Addr) (j : Nat) (fs : List (Str × V)), vs = [.ref a] ∧ Kind K cs Pe j ∧ XvAt H a (cs.getD j 0) fs ∧ Q (.int 1) H
theorem ok_kinds {f Pe : Addr} {fd : FuncData} {cs is : List Addr} (F : Fun K "_law_kinds" "_law_kinds" s__law_kinds f fd) (T : Txt K mg cs is Pe) : FnOk P w K mg base CX0 1 f fd ["error"] (spKinds K cs Pe) := by
  refine F.ok sc__law_kinds (fun vs H Q E h => ?_) (fun cdv A outer s H vs Q E hr h => ?_)
  · obtain ⟨a, j, fs, rfl, _⟩ := h
    rfl
  · obtain ⟨a, j, fs, rfl, k, hx, q⟩ := h
    have nd := sc__law_kinds.nd
    have hz := kinds_sum j k.lt
    refine ⟨_, pss_cons (ps_set (i := 1) nd rfl (.inl rfl) pe_int) (pss_cons (ps_set (i := 1) nd rfl (.inl rfl) (pe_op op_add (pe_op op_add (pe_op op_add (pv 1) (pe_callTy call_int1 (by rfl) T.int (by decide +kernel) (pa_cons (pe_callB call_isV (by rfl) T.isi (by decide +kernel) (pa_cons (pv 0) (pa_cons (pe_glob (v := .ref _) rfl T.p0.g rfl) pa_nil))) pa_nil))) (pe_callTy call_int1 (by rfl) T.int (by decide +kernel) (pa_cons (pe_callB call_isV (by rfl) T.isi (by decide +kernel) (pa_cons (pv 0) (pa_cons (pe_glob (v := .ref _) rfl T.p1.g rfl) pa_nil))) pa_nil))) (pe_callTy call_int1 (by rfl) T.int (by decide +kernel) (pa_cons (pe_callB call_isV (by rfl) T.isi (by decide +kernel) (pa_cons (pv 0) (pa_cons (pe_glob (v := .ref _) rfl T.p2.g rfl) pa_nil))) pa_nil)))) (pss_cons (ps_set (i := 1) nd rfl (.inl rfl) (pe_op op_add (pe_op op_add (pe_op op_add (pv 1) (pe_callTy call_int1 (by rfl) T.int (by decide +kernel) (pa_cons (pe_callB call_isV (by rfl) T.isi (by decide +kernel) (pa_cons (pv 0) (pa_cons (pe_glob (v := .ref _) rfl T.p3.g rfl) pa_nil))) pa_nil))) (pe_callTy call_int1 (by rfl) T.int (by decide +kernel) (pa_cons (pe_callB call_isV (by rfl) T.isi (by decide +kernel) (pa_cons (pv 0) (pa_cons (pe_glob (v := .ref _) rfl T.p4.g rfl) pa_nil))) pa_nil))) (pe_callTy call_int1 (by rfl) T.int (by decide +kernel) (pa_cons (pe_callB call_isV (by rfl) T.isi (by decide +kernel) (pa_cons (pv 0) (pa_cons (pe_glob (v := .ref _) rfl T.p5.g rfl) pa_nil))) pa_nil)))) (pss_cons (ps_set (i := 1) nd rfl (.inl rfl) (pe_op op_add (pe_op op_add (pe_op op_add (pv 1) (pe_callTy call_int1 (by rfl) T.int (by decide +kernel) (pa_cons (pe_callB call_isV (by rfl) T.isi (by decide +kernel) (pa_cons (pv 0) (pa_cons (pe_glob (v := .ref _) rfl T.p6.g rfl) pa_nil))) pa_nil))) (pe_callTy call_int1 (by rfl) T.int (by decide +kernel) (pa_cons (pe_callB call_isV (by rfl) T.isi (by decide +kernel) (pa_cons (pv 0) (pa_cons (pe_glob (v := .ref _) rfl T.p7.g rfl) pa_nil))) pa_nil))) (pe_callTy call_int1 (by rfl) T.int (by decide +kernel) (pa_cons (pe_callB call_isV (by rfl) T.isi (by decide +kernel) (pa_cons (pv 0) (pa_cons (pe_glob (v := .ref _) rfl T.t8.g rfl) pa_nil))) pa_nil)))) (pss_cons (ps_set (i := 1) nd rfl (.inl rfl) (pe_op op_add (pe_op op_add (pe_op op_add (pv 1) (pe_callTy call_int1 (by rfl) T.int (by decide +kernel) (pa_cons (pe_callB call_isV (by rfl) T.isi (by decide +kernel) (pa_cons (pv 0) (pa_cons (pe_glob (v := .ref _) rfl T.t9.g rfl) pa_nil))) pa_nil))) (pe_callTy call_int1 (by rfl) T.int (by decide +kernel) (pa_cons (pe_callB call_isV (by rfl) T.isi (by decide +kernel) (pa_cons (pv 0) (pa_cons (pe_glob (v := .ref _) rfl T.t10.g rfl) pa_nil))) pa_nil))) (pe_callTy call_int1 (by rfl) T.int (by decide +kernel) (pa_cons (pe_callB call_isV (by rfl) T.isi (by decide +kernel) (pa_cons (pv 0) (pa_cons (pe_glob (v := .ref _) rfl T.t11.g rfl) pa_nil))) pa_nil)))) (pss_cons (ps_set (i := 1) nd rfl (.inl rfl) (pe_op op_add (pe_op op_add (pe_op op_add (pv 1) (pe_callTy call_int1 (by rfl) T.int (by decide +kernel) (pa_cons (pe_callB call_isV (by rfl) T.isi (by decide +kernel) (pa_cons (pv 0) (pa_cons (pe_glob (v := .ref _) rfl T.t12.g rfl) pa_nil))) pa_nil))) (pe_callTy call_int1 (by rfl) T.int (by decide +kernel) (pa_cons (pe_callB call_isV (by rfl) T.isi (by decide +kernel) (pa_cons (pv 0) (pa_cons (pe_glob (v := .ref _) rfl T.t13.g rfl) pa_nil))) pa_nil))) (pe_callTy call_int1 (by rfl) T.int (by decide +kernel) (pa_cons (pe_callB call_isV (by rfl) T.isi (by decide +kernel) (pa_cons (pv 0) (pa_cons (pe_glob (v := .ref _) rfl T.t14.g rfl) pa_nil))) pa_nil)))) (pss_one (ps_ret (pe_op op_add (pv 1) (pe_callTy call_int1 (by rfl) T.int (by decide +kernel) (pa_cons (pe_callB call_isV (by rfl) T.isi (by decide +kernel) (pa_cons (pv 0) (pa_cons (pe_glob (v := .ref _) rfl T.t15.g rfl) pa_nil))) pa_nil)))))))))), ?_⟩
    refine ⟨_, rfl, ?_⟩
    refine ⟨_, rfl, a, _, fs, _, _, _, rfl, hx, k.ec, (fun u hu => hu), k.each 0 (by decide), .inr ⟨_, rfl, ?_⟩⟩
    refine ⟨_, _, rfl, rfl, ?_⟩
    refine ⟨_, rfl, a, _, fs, _, _, _, rfl, hx, k.ec, (fun u hu => hu), k.each 1 (by decide), .inr ⟨_, rfl, ?_⟩⟩
    refine ⟨_, _, rfl, rfl, ?_⟩
    refine ⟨_, rfl, a, _, fs, _, _, _, rfl, hx, k.ec, (fun u hu => hu), k.each 2 (by decide), .inr ⟨_, rfl, ?_⟩⟩
    refine ⟨_, _, rfl, rfl, ?_⟩
    refine ⟨_, rfl, ?_⟩
    refine ⟨_, rfl, a, _, fs, _, _, _, rfl, hx, k.ec, (fun u hu => hu), k.each 3 (by decide), .inr ⟨_, rfl, ?_⟩⟩
    refine ⟨_, _, rfl, rfl, ?_⟩
    refine ⟨_, rfl, a, _, fs, _, _, _, rfl, hx, k.ec, (fun u hu => hu), k.each 4 (by decide), .inr ⟨_, rfl, ?_⟩⟩
    refine ⟨_, _, rfl, rfl, ?_⟩
    refine ⟨_, rfl, a, _, fs, _, _, _, rfl, hx, k.ec, (fun u hu => hu), k.each 5 (by decide), .inr ⟨_, rfl, ?_⟩⟩
    refine ⟨_, _, rfl, rfl, ?_⟩
    refine ⟨_, rfl, ?_⟩
    refine ⟨_, rfl, a, _, fs, _, _, _, rfl, hx, k.ec, (fun u hu => hu), k.each 6 (by decide), .inr ⟨_, rfl, ?_⟩⟩
    refine ⟨_, _, rfl, rfl, ?_⟩
    refine ⟨_, rfl, a, _, fs, _, _, _, rfl, hx, k.ec, (fun u hu => hu), k.each 7 (by decide), .inr ⟨_, rfl, ?_⟩⟩
    refine ⟨_, _, rfl, rfl, ?_⟩
    refine ⟨_, rfl, a, _, fs, _, _, _, rfl, hx, k.ec, (fun u hu => hu), k.each 8 (by decide), .inr ⟨_, rfl, ?_⟩⟩
    refine ⟨_, _, rfl, rfl, ?_⟩
    refine ⟨_, rfl, ?_⟩
    refine ⟨_, rfl, a, _, fs, _, _, _, rfl, hx, k.ec, (fun u hu => hu), k.each 9 (by decide), .inr ⟨_, rfl, ?_⟩⟩
    refine ⟨_, _, rfl, rfl, ?_⟩
    refine ⟨_, rfl, a, _, fs, _, _, _, rfl, hx, k.ec, (fun u hu => hu), k.each 10 (by decide), .inr ⟨_, rfl, ?_⟩⟩
    refine ⟨_, _, rfl, rfl, ?_⟩
    refine ⟨_, rfl, a, _, fs, _, _, _, rfl, hx, k.ec, (fun u hu => hu), k.each 11 (by decide), .inr ⟨_, rfl, ?_⟩⟩
    refine ⟨_, _, rfl, rfl, ?_⟩
    refine ⟨_, rfl, ?_⟩
    refine ⟨_, rfl, a, _, fs, _, _, _, rfl, hx, k.ec, (fun u hu => hu), k.each 12 (by decide), .inr ⟨_, rfl, ?_⟩⟩
    refine ⟨_, _, rfl, rfl, ?_⟩
    refine ⟨_, rfl, a, _, fs, _, _, _, rfl, hx, k.ec, (fun u hu => hu), k.each 13 (by decide), .inr ⟨_, rfl, ?_⟩⟩
    refine ⟨_, _, rfl, rfl, ?_⟩
    refine ⟨_, rfl, a, _, fs, _, _, _, rfl, hx, k.ec, (fun u hu => hu), k.each 14 (by decide), .inr ⟨_, rfl, ?_⟩⟩
    refine ⟨_, _, rfl, rfl, ?_⟩
    refine ⟨_, rfl, ?_⟩
    refine ⟨_, rfl, a, _, fs, _, _, _, rfl, hx, k.ec, (fun u hu => hu), k.each 15 (by decide), .inr ⟨_, rfl, ?_⟩⟩
    refine ⟨_, _, rfl, rfl, ?_⟩
    dsimp only
    rw [hz]
    exact q
def spLaw (K : PySem.W.Frag) : Sp := fun vs H Q _ => ∃ (a : Addr) (ns : List Int), vs = [.ref a] ∧ SqL K H a (ns.map V.int) ∧ ns.length ≤ 63 ∧ ∀ H', Q (.bl true) H'
theorem ok_law {f fR fN fK Pe : Addr} {fd fdR fdN fdK : FuncData} {cs is : List Addr} (F : Fun K "law" "law" s_law f fd) (T : Txt K mg cs is Pe) (D : DrawTxt mg fR)
    (FR : Fun K "_law_row" "_law_row" s__law_row fR fdR) (bR : Binds K fdR ["cell", "many"] []) (FN : Fun K "_law_numbers" "_law_numbers" s__law_numbers fN fdN) (bN : Binds K fdN ["script", "many"] []) (gN : mg "_law_numbers" = some (.ref fN))
    (FK : Fun K "_law_kinds" "_law_kinds" s__law_kinds fK fdK) (bK : Binds K fdK ["error"] []) (gK : mg "_law_kinds" = some (.ref fK))
    {fd8 : FuncData} (F8 : Fun K "__init__" "InvalidPlace.__init__" s_InvalidPlace___init__ (is.getD 0 0) fd8) (b8 : Binds K fd8 ["self", "place"] [])
    {fd9 : FuncData} (F9 : Fun K "__init__" "PickTaken.__init__" s_PickTaken___init__ (is.getD 1 0) fd9) (b9 : Binds K fd9 ["self", "place"] [])
    {fd10 : FuncData} (F10 : Fun K "__init__" "UnknownPick.__init__" s_UnknownPick___init__ (is.getD 2 0) fd10) (b10 : Binds K fd10 ["self", "place"] [])
    {fd11 : FuncData} (F11 : Fun K "__init__" "Unreachable.__init__" s_Unreachable___init__ (is.getD 3 0) fd11) (b11 : Binds K fd11 ["self", "place"] [])
    {fd12 : FuncData} (F12 : Fun K "__init__" "InvalidWalk.__init__" s_InvalidWalk___init__ (is.getD 4 0) fd12) (b12 : Binds K fd12 ["self", "number"] [])
    {fd13 : FuncData} (F13 : Fun K "__init__" "InvalidNotation.__init__" s_InvalidNotation___init__ (is.getD 5 0) fd13) (b13 : Binds K fd13 ["self", "line"] [])
    {fd14 : FuncData} (F14 : Fun K "__init__" "NameTaken.__init__" s_NameTaken___init__ (is.getD 6 0) fd14) (b14 : Binds K fd14 ["self", "name"] [])
    {fd15 : FuncData} (F15 : Fun K "__init__" "UnknownName.__init__" s_UnknownName___init__ (is.getD 7 0) fd15) (b15 : Binds K fd15 ["self", "name"] [])
    : FnOk P w K mg base CX0 3 f fd ["script"] (spLaw K) := by
  have GN : FnOk P w K mg base CX0 2 fN fdN ["script", "many"] (spNumbers K) := ok_numbers FN D FR bR
  have GK : FnOk P w K mg base CX0 1 fK fdK ["error"] (spKinds K cs Pe) := ok_kinds FK T
  have G8 : FnOk P w K mg base CX0 1 (is.getD 0 0) fd8 ["self", "place"] (spXI K (cs.getD 8 0) "place") := ok_init8 F8
  have G9 : FnOk P w K mg base CX0 1 (is.getD 1 0) fd9 ["self", "place"] (spXI K (cs.getD 9 0) "place") := ok_init9 F9
  have G10 : FnOk P w K mg base CX0 1 (is.getD 2 0) fd10 ["self", "place"] (spXI K (cs.getD 10 0) "place") := ok_init10 F10
  have G11 : FnOk P w K mg base CX0 1 (is.getD 3 0) fd11 ["self", "place"] (spXI K (cs.getD 11 0) "place") := ok_init11 F11
  have G12 : FnOk P w K mg base CX0 1 (is.getD 4 0) fd12 ["self", "number"] (spXI K (cs.getD 12 0) "number") := ok_init12 F12
  have G13 : FnOk P w K mg base CX0 1 (is.getD 5 0) fd13 ["self", "line"] (spXI K (cs.getD 13 0) "line") := ok_init13 F13
  have G14 : FnOk P w K mg base CX0 1 (is.getD 6 0) fd14 ["self", "name"] (spXI K (cs.getD 14 0) "name") := ok_init14 F14
  have G15 : FnOk P w K mg base CX0 1 (is.getD 7 0) fd15 ["self", "name"] (spXI K (cs.getD 15 0) "name") := ok_init15 F15
  refine F.ok sc_law (fun vs H Q E h => ?_) (fun cdv A outer s H vs Q E hr h => ?_)
  · obtain ⟨a, xs, rfl, _⟩ := h
    rfl
  · obtain ⟨a, xs, rfl, hS, hlen, q⟩ := h
    have nd := sc_law.nd
    have hr1 : Room 1 _ := hr.mono (by decide)
    refine ⟨_, pss_cons (ps_set (i := 1) nd rfl (.inl rfl) (pe_call GN hr (by rfl) gN FN.kp bN .nil pass0 (pa_cons (pv 0) (pa_cons pe_int pa_nil))))
      (pss_cons (ps_set (i := 2) nd rfl (.inl rfl) (pe_op op_rep_str (pe_ix ix_str pe_str (pe_op op_mod (pe_callTy call_int1 (by rfl) T.int (by decide +kernel) (pa_cons (pe_ix ix_list (pv 1) pe_int (fun _ _ => rfl)) pa_nil)) pe_int) (fun _ _ => rfl)) (pe_op op_mod (pe_callTy call_int1 (by rfl) T.int (by decide +kernel) (pa_cons (pe_ix ix_list (pv 1) pe_int (fun _ _ => rfl)) pa_nil)) pe_int)))
      (pss_cons (ps_set (i := 3) nd rfl (.inl rfl) (pe_tup (pa_cons (pe_op op_sub (pe_callTy call_int1 (by rfl) T.int (by decide +kernel) (pa_cons (pe_ix ix_list (pv 1) pe_int (fun _ _ => rfl)) pa_nil)) pe_int) (pa_cons (pe_ix ix_list (pv 1) pe_int (fun _ _ => rfl)) pa_nil))))
      (pss_cons (ps_set (i := 4) nd rfl (.inl rfl) (pe_op op_sub (pe_callTy call_int1 (by rfl) T.int (by decide +kernel) (pa_cons (pe_ix ix_list (pv 1) pe_int (fun _ _ => rfl)) pa_nil)) pe_int))
      (pss_cons (ps_set (i := 5) nd rfl (.inl rfl) (pe_lst (pa_cons (pe_exc1 PySem.F.excBase_ValueError T.p0.ex T.p0.g T.p0.kp (by rfl) (pv 2)) (pa_cons (pe_exc1 PySem.F.excBase_ValueError T.p1.ex T.p1.g T.p1.kp (by rfl) (pv 2)) (pa_cons (pe_exc1 PySem.F.excBase_ValueError T.p2.ex T.p2.g T.p2.kp (by rfl) (pv 2)) (pa_cons (pe_exc1 PySem.F.excBase_ValueError T.p3.ex T.p3.g T.p3.kp (by rfl) (pv 2)) (pa_cons (pe_exc1 PySem.F.excBase_ValueError T.p4.ex T.p4.g T.p4.kp (by rfl) (pv 2)) (pa_cons (pe_exc1 PySem.F.excBase_ValueError T.p5.ex T.p5.g T.p5.kp (by rfl) (pv 2)) pa_nil))))))))
      (pss_cons (ps_set (i := 5) nd rfl (.inl rfl) (pe_op op_cat (pv 5) (pe_lst (pa_cons (pe_exc1 PySem.F.excBase_ValueError T.p6.ex T.p6.g T.p6.kp (by rfl) (pv 2)) (pa_cons (pe_exc1 PySem.F.excBase_ValueError T.p7.ex T.p7.g T.p7.kp (by rfl) (pv 2)) pa_nil)))))
      (pss_cons (ps_set (i := 6) nd rfl (.inl rfl) (pe_lst (pa_cons (pe_oexV T.t8.ox T.t8.iC T.t8.tI G8 (by exact hr.mono (by decide)) b8 .nil pass0 (by rfl) T.t8.g (pa_cons (pv 3) pa_nil)) (pa_cons (pe_oexV T.t9.ox T.t9.iC T.t9.tI G9 (by exact hr.mono (by decide)) b9 .nil pass0 (by rfl) T.t9.g (pa_cons (pv 3) pa_nil)) (pa_cons (pe_oexV T.t10.ox T.t10.iC T.t10.tI G10 (by exact hr.mono (by decide)) b10 .nil pass0 (by rfl) T.t10.g (pa_cons (pv 3) pa_nil)) (pa_cons (pe_oexV T.t11.ox T.t11.iC T.t11.tI G11 (by exact hr.mono (by decide)) b11 .nil pass0 (by rfl) T.t11.g (pa_cons (pv 3) pa_nil)) (pa_cons (pe_oexV T.t12.ox T.t12.iC T.t12.tI G12 (by exact hr.mono (by decide)) b12 .nil pass0 (by rfl) T.t12.g (pa_cons (pv 4) pa_nil)) (pa_cons (pe_oexV T.t13.ox T.t13.iC T.t13.tI G13 (by exact hr.mono (by decide)) b13 .nil pass0 (by rfl) T.t13.g (pa_cons (pv 4) pa_nil)) pa_nil))))))))
      (pss_cons (ps_set (i := 6) nd rfl (.inl rfl) (pe_op op_cat (pv 6) (pe_lst (pa_cons (pe_oexV T.t14.ox T.t14.iC T.t14.tI G14 (by exact hr.mono (by decide)) b14 .nil pass0 (by rfl) T.t14.g (pa_cons (pv 2) pa_nil)) (pa_cons (pe_oexV T.t15.ox T.t15.iC T.t15.tI G15 (by exact hr.mono (by decide)) b15 .nil pass0 (by rfl) T.t15.g (pa_cons (pv 2) pa_nil)) pa_nil)))))
      (pss_cons (ps_if (pt_cmpR (op_neD hr.units) (pe_lst (pa_cons (pe_xvF (pe_ix ix_list (pv 6) pe_int (fun _ _ => rfl))) (pa_cons (pe_xvF (pe_ix ix_list (pv 6) pe_int (fun _ _ => rfl))) (pa_cons (pe_xvF (pe_ix ix_list (pv 6) pe_int (fun _ _ => rfl))) (pa_cons (pe_xvF (pe_ix ix_list (pv 6) pe_int (fun _ _ => rfl))) pa_nil))))) (pe_op op_rep (pe_lst (pa_cons (pv 3) pa_nil)) pe_int) (nomark _)) (pss_one (ps_ret pe_bl)) pss_nil)
      (pss_cons (ps_if (PW.pt (pw_or (pt_cmpR (op_neD hr.units) (pe_lst (pa_cons (pe_xvF (pe_ix ix_list (pv 6) pe_int (fun _ _ => rfl))) (pa_cons (pe_xvF (pe_ix ix_list (pv 6) pe_int (fun _ _ => rfl))) pa_nil))) (pe_op op_rep (pe_lst (pa_cons (pv 4) pa_nil)) pe_int) (nomark _)) (pw_or1 (pt_cmpR (op_neD hr.units) (pe_lst (pa_cons (pe_xvF (pe_ix ix_list (pv 6) pe_int (fun _ _ => rfl))) (pa_cons (pe_xvF (pe_ix ix_list (pv 6) pe_int (fun _ _ => rfl))) pa_nil))) (pe_op op_rep (pe_lst (pa_cons (pv 2) pa_nil)) pe_int) (nomark _))))) (pss_one (ps_ret pe_bl)) pss_nil)
      (pss_cons (ps_for PassesOwn.never rfl (pi_list (pe_op op_cat (pv 5) (pv 6))) (pg_name (i := 7) nd rfl (.inl rfl)) (pss_one (ps_if (PW.pt (pw_or (pt_not (pt_val (pe_callB call_isV (by rfl) T.isi (by decide +kernel) (pa_cons (pv 7) (pa_cons (pe_glob (v := .ref _) rfl T.base rfl) pa_nil))))) (pw_or (pt_not (pt_val (pe_callB call_isV (by rfl) T.isi (by decide +kernel) (pa_cons (pv 7) (pa_cons (pe_bltn (v := .ty "ValueError") (by rfl) T.ve (by decide +kernel) rfl) pa_nil))))) (pw_or1 (pt_cmpR op_ne (pe_call GK hr1 (by rfl) gK FK.kp bK .nil pass0 (pa_cons (pv 7) pa_nil)) pe_int (nomark _)))))) (pss_one (ps_ret pe_bl)) pss_nil)))
      (pss_one (ps_ret pe_bl)))))))))))), ?_⟩
    -- numbers
    refine ⟨_, rfl, a, xs, 8, rfl, hS, hlen, by decide, fun H1 p ns s1 np hp hl hs => ?_⟩
    obtain ⟨n0, n1, n2, n3, n4, n5, n6, n7, rfl⟩ := eight hl
    -- text
    obtain ⟨c, hc, hcm⟩ := sign_at n0
    refine ⟨_, rfl, p, _, _, _, rfl, rfl, SqL.of hp, rfl, .inl ⟨_, rfl, _, _, rfl, rfl, (by show (0 : Int) < 6; decide), _, _, c, rfl, rfl, by decide +kernel, hc, ?_⟩⟩
    refine ⟨_, rfl, p, _, _, _, rfl, rfl, SqL.of hp, rfl, .inl ⟨_, rfl, _, _, rfl, rfl, (by show (0 : Int) < 9; decide), _, _, rfl, rfl, mul_ok _ rfl _ (Int.emod_nonneg _ (by decide)) (Int.emod_lt_of_pos _ (by decide)), ?_⟩⟩
    have htx := text_ok hcm (n1 % 9) (Int.emod_nonneg _ (by decide)) (Int.emod_lt_of_pos _ (by decide))
    dsimp (config := { proj := false }) only
    revert htx
    generalize Txt.mul _ _ = tx
    intro htx
    -- place
    refine ⟨_, rfl, p, _, _, _, rfl, rfl, SqL.of hp, rfl, .inl ⟨_, rfl, _, _, rfl, rfl, _, rfl, p, _, _, _, rfl, rfl, SqL.of hp, rfl, by show 2 ≤ sizeLine; decide, fun t nt => ?_⟩⟩
    obtain ⟨H2, e2, s2, ht⟩ := made (o := .tup [.int (n2 - 500), .int n3]) nt
    dsimp (config := { proj := false }) only
    rw [e2]
    -- number
    refine ⟨_, rfl, p, _, _, _, rfl, rfl, SqL.of (s2 _ _ hp), rfl, .inl ⟨_, rfl, _, _, rfl, rfl, ?_⟩⟩
    dsimp (config := { proj := false }) only
    generalize n4 - 3 = m
    -- the errors
    refine ⟨_, rfl, fun x0 m0 => ?_⟩
    obtain ⟨H3, e3, s3, g0⟩ := made (o := ExO (.ref (cs.getD 0 0)) x0) m0
    (try dsimp (config := { proj := false }) only)
    rw [e3]
    refine ⟨_, rfl, fun x1 m1 => ?_⟩
    obtain ⟨H4, e4, s4, g1⟩ := made (o := ExO (.ref (cs.getD 1 0)) x1) m1
    (try dsimp (config := { proj := false }) only)
    rw [e4]
    refine ⟨_, rfl, fun x2 m2 => ?_⟩
    obtain ⟨H5, e5, s5, g2⟩ := made (o := ExO (.ref (cs.getD 2 0)) x2) m2
    (try dsimp (config := { proj := false }) only)
    rw [e5]
    refine ⟨_, rfl, fun x3 m3 => ?_⟩
    obtain ⟨H6, e6, s6, g3⟩ := made (o := ExO (.ref (cs.getD 3 0)) x3) m3
    (try dsimp (config := { proj := false }) only)
    rw [e6]
    refine ⟨_, rfl, fun x4 m4 => ?_⟩
    obtain ⟨H7, e7, s7, g4⟩ := made (o := ExO (.ref (cs.getD 4 0)) x4) m4
    (try dsimp (config := { proj := false }) only)
    rw [e7]
    refine ⟨_, rfl, fun x5 m5 => ?_⟩
    obtain ⟨H8, e8, s8, g5⟩ := made (o := ExO (.ref (cs.getD 5 0)) x5) m5
    (try dsimp (config := { proj := false }) only)
    rw [e8]
    refine ⟨(by show 6 ≤ sizeLine; decide), fun l1 nl1 => ?_⟩
    obtain ⟨H9, e9, s9, gl1⟩ := made (o := .lst [.ref x0, .ref x1, .ref x2, .ref x3, .ref x4, .ref x5]) nl1
    (try dsimp (config := { proj := false }) only)
    rw [e9]
    refine ⟨_, rfl, ?_⟩
    refine ⟨_, rfl, fun x6 m6 => ?_⟩
    obtain ⟨H10, e10, s10, g6⟩ := made (o := ExO (.ref (cs.getD 6 0)) x6) m6
    (try dsimp (config := { proj := false }) only)
    rw [e10]
    refine ⟨_, rfl, fun x7 m7 => ?_⟩
    obtain ⟨H11, e11, s11, g7⟩ := made (o := ExO (.ref (cs.getD 7 0)) x7) m7
    (try dsimp (config := { proj := false }) only)
    rw [e11]
    refine ⟨(by show 2 ≤ sizeLine; decide), fun l2 nl2 => ?_⟩
    obtain ⟨H12, e12, s12, gl2⟩ := made (o := .lst [.ref x6, .ref x7]) nl2
    (try dsimp (config := { proj := false }) only)
    rw [e12]
    have gl1' := s12 _ _ (s11 _ _ (s10 _ _ gl1))
    refine ⟨_, _, _, _, rfl, rfl, gl1', gl2, (by show 8 ≤ sizeLine; decide), fun l3 nl3 => ?_⟩
    obtain ⟨H13, e13, s13, gl3⟩ := made (o := .lst ([.ref x0, .ref x1, .ref x2, .ref x3, .ref x4, .ref x5] ++ [.ref x6, .ref x7])) nl3
    (try dsimp (config := { proj := false }) only)
    rw [e13]
    refine ⟨_, rfl, (by show 1 ≤ 1000; decide), fun x8 m8 => ⟨x8, _, rfl, T.t8.ox, T.t8.noF, upd_same, fun d8 md8 nd8 => ⟨rfl, ?_⟩⟩⟩
    obtain ⟨H14, e14, s14, g8⟩ := madeX (fs := [("place", .ref t)]) m8 md8 nd8
    (try dsimp (config := { proj := false }) only)
    rw [e14]
    refine ⟨_, rfl, (by show 1 ≤ 1000; decide), fun x9 m9 => ⟨x9, _, rfl, T.t9.ox, T.t9.noF, upd_same, fun d9 md9 nd9 => ⟨rfl, ?_⟩⟩⟩
    obtain ⟨H15, e15, s15, g9⟩ := madeX (fs := [("place", .ref t)]) m9 md9 nd9
    (try dsimp (config := { proj := false }) only)
    rw [e15]
    refine ⟨_, rfl, (by show 1 ≤ 1000; decide), fun x10 m10 => ⟨x10, _, rfl, T.t10.ox, T.t10.noF, upd_same, fun d10 md10 nd10 => ⟨rfl, ?_⟩⟩⟩
    obtain ⟨H16, e16, s16, g10⟩ := madeX (fs := [("place", .ref t)]) m10 md10 nd10
    (try dsimp (config := { proj := false }) only)
    rw [e16]
    refine ⟨_, rfl, (by show 1 ≤ 1000; decide), fun x11 m11 => ⟨x11, _, rfl, T.t11.ox, T.t11.noF, upd_same, fun d11 md11 nd11 => ⟨rfl, ?_⟩⟩⟩
    obtain ⟨H17, e17, s17, g11⟩ := madeX (fs := [("place", .ref t)]) m11 md11 nd11
    (try dsimp (config := { proj := false }) only)
    rw [e17]
    refine ⟨_, rfl, (by show 1 ≤ 1000; decide), fun x12 m12 => ⟨x12, _, rfl, T.t12.ox, T.t12.noF, upd_same, fun d12 md12 nd12 => ⟨rfl, ?_⟩⟩⟩
    obtain ⟨H18, e18, s18, g12⟩ := madeX (fs := [("number", .int m)]) m12 md12 nd12
    (try dsimp (config := { proj := false }) only)
    rw [e18]
    refine ⟨_, rfl, (by show 1 ≤ 1000; decide), fun x13 m13 => ⟨x13, _, rfl, T.t13.ox, T.t13.noF, upd_same, fun d13 md13 nd13 => ⟨rfl, ?_⟩⟩⟩
    obtain ⟨H19, e19, s19, g13⟩ := madeX (fs := [("line", .int m)]) m13 md13 nd13
    (try dsimp (config := { proj := false }) only)
    rw [e19]
    refine ⟨(by show 6 ≤ sizeLine; decide), fun l4 nl4 => ?_⟩
    obtain ⟨H20, e20, s20, gl4⟩ := made (o := .lst [.ref x8, .ref x9, .ref x10, .ref x11, .ref x12, .ref x13]) nl4
    (try dsimp (config := { proj := false }) only)
    rw [e20]
    refine ⟨_, rfl, ?_⟩
    refine ⟨_, rfl, (by show 1 ≤ 1000; decide), fun x14 m14 => ⟨x14, _, rfl, T.t14.ox, T.t14.noF, upd_same, fun d14 md14 nd14 => ⟨rfl, ?_⟩⟩⟩
    obtain ⟨H21, e21, s21, g14⟩ := madeX (fs := [("name", .str tx)]) m14 md14 nd14
    (try dsimp (config := { proj := false }) only)
    rw [e21]
    refine ⟨_, rfl, (by show 1 ≤ 1000; decide), fun x15 m15 => ⟨x15, _, rfl, T.t15.ox, T.t15.noF, upd_same, fun d15 md15 nd15 => ⟨rfl, ?_⟩⟩⟩
    obtain ⟨H22, e22, s22, g15⟩ := madeX (fs := [("name", .str tx)]) m15 md15 nd15
    (try dsimp (config := { proj := false }) only)
    rw [e22]
    refine ⟨(by show 2 ≤ sizeLine; decide), fun l5 nl5 => ?_⟩
    obtain ⟨H23, e23, s23, gl5⟩ := made (o := .lst [.ref x14, .ref x15]) nl5
    (try dsimp (config := { proj := false }) only)
    rw [e23]
    have gl4' := s23 _ _ (s22 _ _ (s21 _ _ gl4))
    refine ⟨_, _, _, _, rfl, rfl, gl4', gl5, (by show 8 ≤ sizeLine; decide), fun l6 nl6 => ?_⟩
    obtain ⟨H24, e24, s24, gl6⟩ := made (o := .lst ([.ref x8, .ref x9, .ref x10, .ref x11, .ref x12, .ref x13] ++ [.ref x14, .ref x15])) nl6
    (try dsimp (config := { proj := false }) only)
    rw [e24]
    have k24 : Same H24 H24 := Same.refl _
    have k23 : Same H23 H24 := s24.trans k24
    have k22 : Same H22 H24 := s23.trans k23
    have k21 : Same H21 H24 := s22.trans k22
    have k20 : Same H20 H24 := s21.trans k21
    have k19 : Same H19 H24 := s20.trans k20
    have k18 : Same H18 H24 := s19.trans k19
    have k17 : Same H17 H24 := s18.trans k18
    have k16 : Same H16 H24 := s17.trans k17
    have k15 : Same H15 H24 := s16.trans k16
    have k14 : Same H14 H24 := s15.trans k15
    have k13 : Same H13 H24 := s14.trans k14
    have k12 : Same H12 H24 := s13.trans k13
    have k11 : Same H11 H24 := s12.trans k12
    have k10 : Same H10 H24 := s11.trans k11
    have k9 : Same H9 H24 := s10.trans k10
    have k8 : Same H8 H24 := s9.trans k9
    have k7 : Same H7 H24 := s8.trans k8
    have k6 : Same H6 H24 := s7.trans k7
    have k5 : Same H5 H24 := s6.trans k6
    have k4 : Same H4 H24 := s5.trans k5
    have k3 : Same H3 H24 := s4.trans k4
    have k2 : Same H2 H24 := s3.trans k3
    have f0 : XvAt H24 x0 (cs.getD 0 0) [] := .inl ⟨k3 _ _ g0, rfl⟩
    have f1 : XvAt H24 x1 (cs.getD 1 0) [] := .inl ⟨k4 _ _ g1, rfl⟩
    have f2 : XvAt H24 x2 (cs.getD 2 0) [] := .inl ⟨k5 _ _ g2, rfl⟩
    have f3 : XvAt H24 x3 (cs.getD 3 0) [] := .inl ⟨k6 _ _ g3, rfl⟩
    have f4 : XvAt H24 x4 (cs.getD 4 0) [] := .inl ⟨k7 _ _ g4, rfl⟩
    have f5 : XvAt H24 x5 (cs.getD 5 0) [] := .inl ⟨k8 _ _ g5, rfl⟩
    have f6 : XvAt H24 x6 (cs.getD 6 0) [] := .inl ⟨k10 _ _ g6, rfl⟩
    have f7 : XvAt H24 x7 (cs.getD 7 0) [] := .inl ⟨k11 _ _ g7, rfl⟩
    have f8 : XvAt H24 x8 (cs.getD 8 0) [("place", .ref t)] := g8.same k14
    have f9 : XvAt H24 x9 (cs.getD 9 0) [("place", .ref t)] := g9.same k15
    have f10 : XvAt H24 x10 (cs.getD 10 0) [("place", .ref t)] := g10.same k16
    have f11 : XvAt H24 x11 (cs.getD 11 0) [("place", .ref t)] := g11.same k17
    have f12 : XvAt H24 x12 (cs.getD 12 0) [("number", .int m)] := g12.same k18
    have f13 : XvAt H24 x13 (cs.getD 13 0) [("line", .int m)] := g13.same k19
    have f14 : XvAt H24 x14 (cs.getD 14 0) [("name", .str tx)] := g14.same k21
    have f15 : XvAt H24 x15 (cs.getD 15 0) [("name", .str tx)] := g15.same k22
    have ht' := k2 _ _ ht
    have gl3' := k13 _ _ gl3
    have nl3' : True := trivial
    clear e2 e3 e4 e5 e6 e7 e8 e9 e10 e11 e12 e13 e14 e15 e16 e17 e18 e19 e20 e21 e22 e23 e24
    -- [told[0].place, ..] != [place] * 4
    refine ⟨_, rfl, l6, _, _, _, rfl, rfl, SqL.of ( gl6), rfl, x8, _, _, _, rfl, f8, (kinds_of T.kinds (j := 8) (by decide)).xf, T.t8.noF, rfl, _, rfl, l6, _, _, _, rfl, rfl, SqL.of ( gl6), rfl, x9, _, _, _, rfl, f9, (kinds_of T.kinds (j := 9) (by decide)).xf, T.t9.noF, rfl, _, rfl, l6, _, _, _, rfl, rfl, SqL.of ( gl6), rfl, x10, _, _, _, rfl, f10, (kinds_of T.kinds (j := 10) (by decide)).xf, T.t10.noF, rfl, _, rfl, l6, _, _, _, rfl, rfl, SqL.of ( gl6), rfl, x11, _, _, _, rfl, f11, (kinds_of T.kinds (j := 11) (by decide)).xf, T.t11.noF, rfl, (by show 4 ≤ sizeLine; decide), fun l7 nl7 => ?_⟩
    obtain ⟨J1, ej, q1, gl7⟩ := made (o := .lst [.ref t, .ref t, .ref t, .ref t]) nl7
    (try dsimp (config := { proj := false }) only)
    rw [ej]
    clear ej
    refine ⟨_, rfl, (by show 1 ≤ sizeLine; decide), fun l7b nl7b => ?_⟩
    obtain ⟨J2, ej, q2, gl7b⟩ := made (o := .lst [.ref t]) nl7b
    (try dsimp (config := { proj := false }) only)
    rw [ej]
    clear ej
    refine ⟨_, _, _, rfl, rfl, gl7b, by decide, by decide, (by show 4 ≤ sizeLine; decide), fun l7c nl7c => ?_⟩
    obtain ⟨J3, ej, q3, gl7c⟩ := made (o := .lst (List.replicate (Int.toNat 4) [.ref t]).flatten) nl7c
    (try dsimp (config := { proj := false }) only)
    rw [ej]
    clear ej
    have ddl7 : Dp K J3 (.ref t) (.tuple [.int (n2 - 500), .int n3]) := .tup (SqT.of (q3 _ _ (q2 _ _ (q1 _ _ ht')))) (.cons (.int _) (.cons (.int _) .nil))
    refine ⟨.list [(.tuple [.int (n2 - 500), .int n3]), (.tuple [.int (n2 - 500), .int n3]), (.tuple [.int (n2 - 500), .int n3]), (.tuple [.int (n2 - 500), .int n3])], .list [(.tuple [.int (n2 - 500), .int n3]), (.tuple [.int (n2 - 500), .int n3]), (.tuple [.int (n2 - 500), .int n3]), (.tuple [.int (n2 - 500), .int n3])], .lst (SqL.of (q3 _ _ (q2 _ _ gl7))) (.cons ddl7 (.cons ddl7 (.cons ddl7 (.cons ddl7 .nil)))), .lst (SqL.of gl7c) (.cons ddl7 (.cons ddl7 (.cons ddl7 (.cons ddl7 .nil)))), rfl, rfl, _, rfl, ?_⟩
    refine neRefl rfl ?_
    -- [told[4].number, told[5].line] != [number] * 2 or [told[6].name, told[7].name] != [text] * 2
    refine ⟨_, rfl, l6, _, _, _, rfl, rfl, SqL.of (q3 _ _ (q2 _ _ (q1 _ _ gl6))), rfl, x12, _, _, _, rfl, (((f12.same q1).same q2).same q3), (kinds_of T.kinds (j := 12) (by decide)).xf, T.t12.noF, rfl, _, rfl, l6, _, _, _, rfl, rfl, SqL.of (q3 _ _ (q2 _ _ (q1 _ _ gl6))), rfl, x13, _, _, _, rfl, (((f13.same q1).same q2).same q3), (kinds_of T.kinds (j := 13) (by decide)).xf, T.t13.noF, rfl, (by show 2 ≤ sizeLine; decide), fun l8 nl8 => ?_⟩
    obtain ⟨J4, ej, q4, gl8⟩ := made (o := .lst [.int m, .int m]) nl8
    (try dsimp (config := { proj := false }) only)
    rw [ej]
    clear ej
    refine ⟨_, rfl, (by show 1 ≤ sizeLine; decide), fun l8b nl8b => ?_⟩
    obtain ⟨J5, ej, q5, gl8b⟩ := made (o := .lst [.int m]) nl8b
    (try dsimp (config := { proj := false }) only)
    rw [ej]
    clear ej
    refine ⟨_, _, _, rfl, rfl, gl8b, by decide, by decide, (by show 2 ≤ sizeLine; decide), fun l8c nl8c => ?_⟩
    obtain ⟨J6, ej, q6, gl8c⟩ := made (o := .lst (List.replicate (Int.toNat 2) [.int m]).flatten) nl8c
    (try dsimp (config := { proj := false }) only)
    rw [ej]
    clear ej
    have ddl8 : Dp K J6 (.int m) (.int m) := .int _
    refine ⟨.list [(.int m), (.int m)], .list [(.int m), (.int m)], .lst (SqL.of (q6 _ _ (q5 _ _ gl8))) (.cons ddl8 (.cons ddl8 .nil)), .lst (SqL.of gl8c) (.cons ddl8 (.cons ddl8 .nil)), rfl, rfl, _, rfl, ?_⟩
    refine neRefl rfl ?_
    refine ⟨_, rfl, l6, _, _, _, rfl, rfl, SqL.of (q6 _ _ (q5 _ _ (q4 _ _ (q3 _ _ (q2 _ _ (q1 _ _ gl6)))))), rfl, x14, _, _, _, rfl, ((((((f14.same q1).same q2).same q3).same q4).same q5).same q6), (kinds_of T.kinds (j := 14) (by decide)).xf, T.t14.noF, rfl, _, rfl, l6, _, _, _, rfl, rfl, SqL.of (q6 _ _ (q5 _ _ (q4 _ _ (q3 _ _ (q2 _ _ (q1 _ _ gl6)))))), rfl, x15, _, _, _, rfl, ((((((f15.same q1).same q2).same q3).same q4).same q5).same q6), (kinds_of T.kinds (j := 15) (by decide)).xf, T.t15.noF, rfl, (by show 2 ≤ sizeLine; decide), fun l9 nl9 => ?_⟩
    obtain ⟨J7, ej, q7, gl9⟩ := made (o := .lst [.str tx, .str tx]) nl9
    (try dsimp (config := { proj := false }) only)
    rw [ej]
    clear ej
    refine ⟨_, rfl, (by show 1 ≤ sizeLine; decide), fun l9b nl9b => ?_⟩
    obtain ⟨J8, ej, q8, gl9b⟩ := made (o := .lst [.str tx]) nl9b
    (try dsimp (config := { proj := false }) only)
    rw [ej]
    clear ej
    refine ⟨_, _, _, rfl, rfl, gl9b, by decide, by decide, (by show 2 ≤ sizeLine; decide), fun l9c nl9c => ?_⟩
    obtain ⟨J9, ej, q9, gl9c⟩ := made (o := .lst (List.replicate (Int.toNat 2) [.str tx]).flatten) nl9c
    (try dsimp (config := { proj := false }) only)
    rw [ej]
    clear ej
    have ddl9 : Dp K J9 (.str tx) (.str tx) := .str _
    refine ⟨.list [(.str tx), (.str tx)], .list [(.str tx), (.str tx)], .lst (SqL.of (q9 _ _ (q8 _ _ gl9))) (.cons ddl9 (.cons ddl9 .nil)), .lst (SqL.of gl9c) (.cons ddl9 (.cons ddl9 .nil)), (two_shaped htx), (two_shaped htx), _, rfl, ?_⟩
    refine neRefl (two_ok htx) ?_
    -- for error in plain + told
    refine ⟨_, rfl, _, rfl, l3, l6, _, _, rfl, rfl, (q9 _ _ (q8 _ _ (q7 _ _ (q6 _ _ (q5 _ _ (q4 _ _ (q3 _ _ (q2 _ _ (q1 _ _ gl3'))))))))), (q9 _ _ (q8 _ _ (q7 _ _ (q6 _ _ (q5 _ _ (q4 _ _ (q3 _ _ (q2 _ _ (q1 _ _ gl6))))))))), (by show 16 ≤ sizeLine; decide), fun l nl => ?_⟩
    obtain ⟨J10, ej, q10, gl⟩ := made (o := .lst ([.ref x0, .ref x1, .ref x2, .ref x3, .ref x4, .ref x5] ++ [.ref x6, .ref x7] ++ ([.ref x8, .ref x9, .ref x10, .ref x11, .ref x12, .ref x13] ++ [.ref x14, .ref x15]) : List V)) nl
    (try dsimp (config := { proj := false }) only)
    rw [ej]
    clear ej
    have all : ∀ (i : Nat) (x : V), ([.ref x0, .ref x1, .ref x2, .ref x3, .ref x4, .ref x5] ++ [.ref x6, .ref x7] ++ ([.ref x8, .ref x9, .ref x10, .ref x11, .ref x12, .ref x13] ++ [.ref x14, .ref x15]) : List V)[i]? = some x → ∃ (y : Addr) (j : Nat) (fs : List (Str × V)), x = .ref y ∧ Kind K cs Pe j ∧ XvAt J10 y (cs.getD j 0) fs := by
      intro i x hi
      match i, hi with
      | 0, hi => cases hi; exact ⟨x0, 0, _, rfl, kinds_of T.kinds (by decide), ((((((((((f0.same q1).same q2).same q3).same q4).same q5).same q6).same q7).same q8).same q9).same q10)⟩
      | 1, hi => cases hi; exact ⟨x1, 1, _, rfl, kinds_of T.kinds (by decide), ((((((((((f1.same q1).same q2).same q3).same q4).same q5).same q6).same q7).same q8).same q9).same q10)⟩
      | 2, hi => cases hi; exact ⟨x2, 2, _, rfl, kinds_of T.kinds (by decide), ((((((((((f2.same q1).same q2).same q3).same q4).same q5).same q6).same q7).same q8).same q9).same q10)⟩
      | 3, hi => cases hi; exact ⟨x3, 3, _, rfl, kinds_of T.kinds (by decide), ((((((((((f3.same q1).same q2).same q3).same q4).same q5).same q6).same q7).same q8).same q9).same q10)⟩
      | 4, hi => cases hi; exact ⟨x4, 4, _, rfl, kinds_of T.kinds (by decide), ((((((((((f4.same q1).same q2).same q3).same q4).same q5).same q6).same q7).same q8).same q9).same q10)⟩
      | 5, hi => cases hi; exact ⟨x5, 5, _, rfl, kinds_of T.kinds (by decide), ((((((((((f5.same q1).same q2).same q3).same q4).same q5).same q6).same q7).same q8).same q9).same q10)⟩
      | 6, hi => cases hi; exact ⟨x6, 6, _, rfl, kinds_of T.kinds (by decide), ((((((((((f6.same q1).same q2).same q3).same q4).same q5).same q6).same q7).same q8).same q9).same q10)⟩
      | 7, hi => cases hi; exact ⟨x7, 7, _, rfl, kinds_of T.kinds (by decide), ((((((((((f7.same q1).same q2).same q3).same q4).same q5).same q6).same q7).same q8).same q9).same q10)⟩
      | 8, hi => cases hi; exact ⟨x8, 8, _, rfl, kinds_of T.kinds (by decide), ((((((((((f8.same q1).same q2).same q3).same q4).same q5).same q6).same q7).same q8).same q9).same q10)⟩
      | 9, hi => cases hi; exact ⟨x9, 9, _, rfl, kinds_of T.kinds (by decide), ((((((((((f9.same q1).same q2).same q3).same q4).same q5).same q6).same q7).same q8).same q9).same q10)⟩
      | 10, hi => cases hi; exact ⟨x10, 10, _, rfl, kinds_of T.kinds (by decide), ((((((((((f10.same q1).same q2).same q3).same q4).same q5).same q6).same q7).same q8).same q9).same q10)⟩
      | 11, hi => cases hi; exact ⟨x11, 11, _, rfl, kinds_of T.kinds (by decide), ((((((((((f11.same q1).same q2).same q3).same q4).same q5).same q6).same q7).same q8).same q9).same q10)⟩
      | 12, hi => cases hi; exact ⟨x12, 12, _, rfl, kinds_of T.kinds (by decide), ((((((((((f12.same q1).same q2).same q3).same q4).same q5).same q6).same q7).same q8).same q9).same q10)⟩
      | 13, hi => cases hi; exact ⟨x13, 13, _, rfl, kinds_of T.kinds (by decide), ((((((((((f13.same q1).same q2).same q3).same q4).same q5).same q6).same q7).same q8).same q9).same q10)⟩
      | 14, hi => cases hi; exact ⟨x14, 14, _, rfl, kinds_of T.kinds (by decide), ((((((((((f14.same q1).same q2).same q3).same q4).same q5).same q6).same q7).same q8).same q9).same q10)⟩
      | 15, hi => cases hi; exact ⟨x15, 15, _, rfl, kinds_of T.kinds (by decide), ((((((((((f15.same q1).same q2).same q3).same q4).same q5).same q6).same q7).same q8).same q9).same q10)⟩
      | n + 16, hi => cases hi
    refine ⟨l, rfl, ⟨_, SqL.of gl⟩, ?_⟩
    refine for_list (K := K) (a := l) (xs := ([.ref x0, .ref x1, .ref x2, .ref x3, .ref x4, .ref x5] ++ [.ref x6, .ref x7] ++ ([.ref x8, .ref x9, .ref x10, .ref x11, .ref x12, .ref x13] ++ [.ref x14, .ref x15]) : List V)) (fun i σ H' => ∃ v : Option V, σ = [some (.ref a), some (.ref p), some (.str tx), some (.ref t), some (.int m), some (.ref l3), some (.ref l6), v] ∧ Same J10 H') ?_ ?_ ?_ ?_
    · exact ⟨none, rfl, Same.refl _⟩
    · exact fun i σ H' _ ⟨_, _, s⟩ => SqL.of (s _ _ gl)
    · rintro i x σ H' hi ⟨v, rfl, sm⟩
      obtain ⟨y, j, fs, rfl, k, hx⟩ := all i x hi
      have hx' := hx.same sm
      refine ⟨_, rfl, y, _, fs, _, _, _, rfl, hx', k.ec, (fun u hu => hu), k.base, _, rfl, iteF ?_⟩
      refine ⟨_, rfl, y, _, fs, _, _, _, rfl, hx', k.ec, (fun u hu => hu), k.value, _, rfl, iteF ?_⟩
      refine ⟨_, rfl, y, j, fs, rfl, k, hx', ?_⟩
      refine ⟨rfl, _, rfl, ?_⟩
      refine iteNS rfl ?_
      exact ⟨_, rfl, sm⟩
    · rintro σ H' ⟨v, rfl, sm⟩
      exact q H'
end
/-! ### what the top has left -/
theorem all_mk {l : PySem.W.OpenLaw} {w : World} {K : PySem.W.Frag} {h : Heap} {mg : Str → Option Value} {fa : Addr} (X : K.In h) (G : h.Ns mainGlobals mg) (hfa : mg "law" = some (.ref fa))
    {Pe : Addr}
    {c0 : Addr}
    {c1 : Addr}
    {c2 : Addr}
    {c3 : Addr}
    {c4 : Addr}
    {c5 : Addr}
    {c6 : Addr}
    {c7 : Addr}
    {c8 : Addr}
    {c9 : Addr}
    {c10 : Addr}
    {c11 : Addr}
    {c12 : Addr}
    {c13 : Addr}
    {c14 : Addr}
    {c15 : Addr}
    {nm8 qn8 : Str} {N8 : Addr} {bs8 : List Value} {sn8 : List Str} {sb8 : List Value} {ab8 : Bool} {co8 : Option Bool} {dd8 : Option Addr} {ma8 mb8 mc8 md8 me8 : Option Value}
    {f_i8 : Addr}
    {od_i8 an_i8 : Option Addr} {sl_i8 : Array (Option Value)} {oc_i8 kV_i8 dc_i8 pm_i8 cd_i8 ct_i8 : Value}
    {nm9 qn9 : Str} {N9 : Addr} {bs9 : List Value} {sn9 : List Str} {sb9 : List Value} {ab9 : Bool} {co9 : Option Bool} {dd9 : Option Addr} {ma9 mb9 mc9 md9 me9 : Option Value}
    {f_i9 : Addr}
    {od_i9 an_i9 : Option Addr} {sl_i9 : Array (Option Value)} {oc_i9 kV_i9 dc_i9 pm_i9 cd_i9 ct_i9 : Value}
    {nm10 qn10 : Str} {N10 : Addr} {bs10 : List Value} {sn10 : List Str} {sb10 : List Value} {ab10 : Bool} {co10 : Option Bool} {dd10 : Option Addr} {ma10 mb10 mc10 md10 me10 : Option Value}
    {f_i10 : Addr}
    {od_i10 an_i10 : Option Addr} {sl_i10 : Array (Option Value)} {oc_i10 kV_i10 dc_i10 pm_i10 cd_i10 ct_i10 : Value}
    {nm11 qn11 : Str} {N11 : Addr} {bs11 : List Value} {sn11 : List Str} {sb11 : List Value} {ab11 : Bool} {co11 : Option Bool} {dd11 : Option Addr} {ma11 mb11 mc11 md11 me11 : Option Value}
    {f_i11 : Addr}
    {od_i11 an_i11 : Option Addr} {sl_i11 : Array (Option Value)} {oc_i11 kV_i11 dc_i11 pm_i11 cd_i11 ct_i11 : Value}
    {nm12 qn12 : Str} {N12 : Addr} {bs12 : List Value} {sn12 : List Str} {sb12 : List Value} {ab12 : Bool} {co12 : Option Bool} {dd12 : Option Addr} {ma12 mb12 mc12 md12 me12 : Option Value}
    {f_i12 : Addr}
    {od_i12 an_i12 : Option Addr} {sl_i12 : Array (Option Value)} {oc_i12 kV_i12 dc_i12 pm_i12 cd_i12 ct_i12 : Value}
    {nm13 qn13 : Str} {N13 : Addr} {bs13 : List Value} {sn13 : List Str} {sb13 : List Value} {ab13 : Bool} {co13 : Option Bool} {dd13 : Option Addr} {ma13 mb13 mc13 md13 me13 : Option Value}
    {f_i13 : Addr}
    {od_i13 an_i13 : Option Addr} {sl_i13 : Array (Option Value)} {oc_i13 kV_i13 dc_i13 pm_i13 cd_i13 ct_i13 : Value}
    {nm14 qn14 : Str} {N14 : Addr} {bs14 : List Value} {sn14 : List Str} {sb14 : List Value} {ab14 : Bool} {co14 : Option Bool} {dd14 : Option Addr} {ma14 mb14 mc14 md14 me14 : Option Value}
    {f_i14 : Addr}
    {od_i14 an_i14 : Option Addr} {sl_i14 : Array (Option Value)} {oc_i14 kV_i14 dc_i14 pm_i14 cd_i14 ct_i14 : Value}
    {nm15 qn15 : Str} {N15 : Addr} {bs15 : List Value} {sn15 : List Str} {sb15 : List Value} {ab15 : Bool} {co15 : Option Bool} {dd15 : Option Addr} {ma15 mb15 mc15 md15 me15 : Option Value}
    {f_i15 : Addr}
    {od_i15 an_i15 : Option Addr} {sl_i15 : Array (Option Value)} {oc_i15 kV_i15 dc_i15 pm_i15 cd_i15 ct_i15 : Value}
    {f_row : Addr}
    {od_row an_row : Option Addr} {sl_row : Array (Option Value)} {oc_row kV_row dc_row pm_row cd_row ct_row : Value}
    {f_num : Addr}
    {od_num an_num : Option Addr} {sl_num : Array (Option Value)} {oc_num kV_num dc_num pm_num cd_num ct_num : Value}
    {f_kin : Addr}
    {od_kin an_kin : Option Addr} {sl_kin : Array (Option Value)} {oc_kin kV_kin dc_kin pm_kin cd_kin ct_kin : Value}
    {f_law : Addr}
    {od_law an_law : Option Addr} {sl_law : Array (Option Value)} {oc_law kV_law dc_law pm_law cd_law ct_law : Value}
    (a_Pe : PySem.W.nsIn K mainGlobals "PickError" = some (some (.ref Pe)))
    (a_c0 : PySem.W.nsIn K mainGlobals "InvalidHouse" = some (some (.ref c0)))
    (a_c1 : PySem.W.nsIn K mainGlobals "InvalidTask" = some (some (.ref c1)))
    (a_c2 : PySem.W.nsIn K mainGlobals "InvalidLink" = some (some (.ref c2)))
    (a_c3 : PySem.W.nsIn K mainGlobals "InvalidPlan" = some (some (.ref c3)))
    (a_c4 : PySem.W.nsIn K mainGlobals "InvalidPaper" = some (some (.ref c4)))
    (a_c5 : PySem.W.nsIn K mainGlobals "TooLarge" = some (some (.ref c5)))
    (a_c6 : PySem.W.nsIn K mainGlobals "NothingToUndo" = some (some (.ref c6)))
    (a_c7 : PySem.W.nsIn K mainGlobals "NothingToRedo" = some (some (.ref c7)))
    (a_c8 : PySem.W.nsIn K mainGlobals "InvalidPlace" = some (some (.ref c8)))
    (a_c9 : PySem.W.nsIn K mainGlobals "PickTaken" = some (some (.ref c9)))
    (a_c10 : PySem.W.nsIn K mainGlobals "UnknownPick" = some (some (.ref c10)))
    (a_c11 : PySem.W.nsIn K mainGlobals "Unreachable" = some (some (.ref c11)))
    (a_c12 : PySem.W.nsIn K mainGlobals "InvalidWalk" = some (some (.ref c12)))
    (a_c13 : PySem.W.nsIn K mainGlobals "InvalidNotation" = some (some (.ref c13)))
    (a_c14 : PySem.W.nsIn K mainGlobals "NameTaken" = some (some (.ref c14)))
    (a_c15 : PySem.W.nsIn K mainGlobals "UnknownName" = some (some (.ref c15)))
    (kp0 : PySem.W.keepIn K (.ref c0) = true)
    (ex0 : PySem.W.excIn K c0 [.type "ValueError", .type "Exception", .type "BaseException", .type "object"] "ValueError.__new__" = true)
    (kp1 : PySem.W.keepIn K (.ref c1) = true)
    (ex1 : PySem.W.excIn K c1 [.type "ValueError", .type "Exception", .type "BaseException", .type "object"] "ValueError.__new__" = true)
    (kp2 : PySem.W.keepIn K (.ref c2) = true)
    (ex2 : PySem.W.excIn K c2 [.type "ValueError", .type "Exception", .type "BaseException", .type "object"] "ValueError.__new__" = true)
    (kp3 : PySem.W.keepIn K (.ref c3) = true)
    (ex3 : PySem.W.excIn K c3 [.type "ValueError", .type "Exception", .type "BaseException", .type "object"] "ValueError.__new__" = true)
    (kp4 : PySem.W.keepIn K (.ref c4) = true)
    (ex4 : PySem.W.excIn K c4 [.type "ValueError", .type "Exception", .type "BaseException", .type "object"] "ValueError.__new__" = true)
    (kp5 : PySem.W.keepIn K (.ref c5) = true)
    (ex5 : PySem.W.excIn K c5 [.type "ValueError", .type "Exception", .type "BaseException", .type "object"] "ValueError.__new__" = true)
    (kp6 : PySem.W.keepIn K (.ref c6) = true)
    (ex6 : PySem.W.excIn K c6 [.type "ValueError", .type "Exception", .type "BaseException", .type "object"] "ValueError.__new__" = true)
    (kp7 : PySem.W.keepIn K (.ref c7) = true)
    (ex7 : PySem.W.excIn K c7 [.type "ValueError", .type "Exception", .type "BaseException", .type "object"] "ValueError.__new__" = true)
    (xl8 : K.lookup c8 = some (excClassObj nm8 qn8 c8 N8 bs8 [.ref Pe, .type "ValueError", .type "Exception", .type "BaseException", .type "object"] true sn8 sb8 ab8 co8 dd8 ma8 mb8 mc8 md8 me8 "ValueError.__new__"))
    (sa8 : PySem.W.findIn K (.ref c8) "__setattr__" = some (some (.builtin "object.__setattr__")))
    (eC8 : PySem.W.subIn K (.ref c8) (.type "BaseException") = some true)
    (tC8 : PySem.W.typeIn K (.ref c8) = some (.type "type"))
    (kC8 : PySem.W.keepIn K (.ref c8) = true)
    (no8 : PySem.W.findIn K (.ref c8) "place" = some none)
    (a_i8 : PySem.W.findIn K (.ref c8) "__init__" = some (some (.ref f_i8)))
    (ti8 : PySem.W.typeIn K (.ref f_i8) = some (.type "function"))
    (l_i8 : K.lookup f_i8 = some ⟨oc_i8, od_i8, .func (PySem.W.fnOf "__init__" "InvalidPlace.__init__" (defArgs s_InvalidPlace___init__) (defBody s_InvalidPlace___init__) (defScope s_InvalidPlace___init__) .none kV_i8 dc_i8 pm_i8 an_i8 cd_i8 ct_i8), sl_i8⟩)
    (c_i8 : PySem.W.codeIn K cd_i8 "InvalidPlace.__init__" = true)
    (k_i8 : PySem.W.keepIn K (.ref f_i8) = true)
    (xl9 : K.lookup c9 = some (excClassObj nm9 qn9 c9 N9 bs9 [.ref Pe, .type "ValueError", .type "Exception", .type "BaseException", .type "object"] true sn9 sb9 ab9 co9 dd9 ma9 mb9 mc9 md9 me9 "ValueError.__new__"))
    (sa9 : PySem.W.findIn K (.ref c9) "__setattr__" = some (some (.builtin "object.__setattr__")))
    (eC9 : PySem.W.subIn K (.ref c9) (.type "BaseException") = some true)
    (tC9 : PySem.W.typeIn K (.ref c9) = some (.type "type"))
    (kC9 : PySem.W.keepIn K (.ref c9) = true)
    (no9 : PySem.W.findIn K (.ref c9) "place" = some none)
    (a_i9 : PySem.W.findIn K (.ref c9) "__init__" = some (some (.ref f_i9)))
    (ti9 : PySem.W.typeIn K (.ref f_i9) = some (.type "function"))
    (l_i9 : K.lookup f_i9 = some ⟨oc_i9, od_i9, .func (PySem.W.fnOf "__init__" "PickTaken.__init__" (defArgs s_PickTaken___init__) (defBody s_PickTaken___init__) (defScope s_PickTaken___init__) .none kV_i9 dc_i9 pm_i9 an_i9 cd_i9 ct_i9), sl_i9⟩)
    (c_i9 : PySem.W.codeIn K cd_i9 "PickTaken.__init__" = true)
    (k_i9 : PySem.W.keepIn K (.ref f_i9) = true)
    (xl10 : K.lookup c10 = some (excClassObj nm10 qn10 c10 N10 bs10 [.ref Pe, .type "ValueError", .type "Exception", .type "BaseException", .type "object"] true sn10 sb10 ab10 co10 dd10 ma10 mb10 mc10 md10 me10 "ValueError.__new__"))
    (sa10 : PySem.W.findIn K (.ref c10) "__setattr__" = some (some (.builtin "object.__setattr__")))
    (eC10 : PySem.W.subIn K (.ref c10) (.type "BaseException") = some true)
    (tC10 : PySem.W.typeIn K (.ref c10) = some (.type "type"))
    (kC10 : PySem.W.keepIn K (.ref c10) = true)
    (no10 : PySem.W.findIn K (.ref c10) "place" = some none)
    (a_i10 : PySem.W.findIn K (.ref c10) "__init__" = some (some (.ref f_i10)))
    (ti10 : PySem.W.typeIn K (.ref f_i10) = some (.type "function"))
    (l_i10 : K.lookup f_i10 = some ⟨oc_i10, od_i10, .func (PySem.W.fnOf "__init__" "UnknownPick.__init__" (defArgs s_UnknownPick___init__) (defBody s_UnknownPick___init__) (defScope s_UnknownPick___init__) .none kV_i10 dc_i10 pm_i10 an_i10 cd_i10 ct_i10), sl_i10⟩)
    (c_i10 : PySem.W.codeIn K cd_i10 "UnknownPick.__init__" = true)
    (k_i10 : PySem.W.keepIn K (.ref f_i10) = true)
    (xl11 : K.lookup c11 = some (excClassObj nm11 qn11 c11 N11 bs11 [.ref Pe, .type "ValueError", .type "Exception", .type "BaseException", .type "object"] true sn11 sb11 ab11 co11 dd11 ma11 mb11 mc11 md11 me11 "ValueError.__new__"))
    (sa11 : PySem.W.findIn K (.ref c11) "__setattr__" = some (some (.builtin "object.__setattr__")))
    (eC11 : PySem.W.subIn K (.ref c11) (.type "BaseException") = some true)
    (tC11 : PySem.W.typeIn K (.ref c11) = some (.type "type"))
    (kC11 : PySem.W.keepIn K (.ref c11) = true)
    (no11 : PySem.W.findIn K (.ref c11) "place" = some none)
    (a_i11 : PySem.W.findIn K (.ref c11) "__init__" = some (some (.ref f_i11)))
    (ti11 : PySem.W.typeIn K (.ref f_i11) = some (.type "function"))
    (l_i11 : K.lookup f_i11 = some ⟨oc_i11, od_i11, .func (PySem.W.fnOf "__init__" "Unreachable.__init__" (defArgs s_Unreachable___init__) (defBody s_Unreachable___init__) (defScope s_Unreachable___init__) .none kV_i11 dc_i11 pm_i11 an_i11 cd_i11 ct_i11), sl_i11⟩)
    (c_i11 : PySem.W.codeIn K cd_i11 "Unreachable.__init__" = true)
    (k_i11 : PySem.W.keepIn K (.ref f_i11) = true)
    (xl12 : K.lookup c12 = some (excClassObj nm12 qn12 c12 N12 bs12 [.ref Pe, .type "ValueError", .type "Exception", .type "BaseException", .type "object"] true sn12 sb12 ab12 co12 dd12 ma12 mb12 mc12 md12 me12 "ValueError.__new__"))
    (sa12 : PySem.W.findIn K (.ref c12) "__setattr__" = some (some (.builtin "object.__setattr__")))
    (eC12 : PySem.W.subIn K (.ref c12) (.type "BaseException") = some true)
    (tC12 : PySem.W.typeIn K (.ref c12) = some (.type "type"))
    (kC12 : PySem.W.keepIn K (.ref c12) = true)
    (no12 : PySem.W.findIn K (.ref c12) "number" = some none)
    (a_i12 : PySem.W.findIn K (.ref c12) "__init__" = some (some (.ref f_i12)))
    (ti12 : PySem.W.typeIn K (.ref f_i12) = some (.type "function"))
    (l_i12 : K.lookup f_i12 = some ⟨oc_i12, od_i12, .func (PySem.W.fnOf "__init__" "InvalidWalk.__init__" (defArgs s_InvalidWalk___init__) (defBody s_InvalidWalk___init__) (defScope s_InvalidWalk___init__) .none kV_i12 dc_i12 pm_i12 an_i12 cd_i12 ct_i12), sl_i12⟩)
    (c_i12 : PySem.W.codeIn K cd_i12 "InvalidWalk.__init__" = true)
    (k_i12 : PySem.W.keepIn K (.ref f_i12) = true)
    (xl13 : K.lookup c13 = some (excClassObj nm13 qn13 c13 N13 bs13 [.ref Pe, .type "ValueError", .type "Exception", .type "BaseException", .type "object"] true sn13 sb13 ab13 co13 dd13 ma13 mb13 mc13 md13 me13 "ValueError.__new__"))
    (sa13 : PySem.W.findIn K (.ref c13) "__setattr__" = some (some (.builtin "object.__setattr__")))
    (eC13 : PySem.W.subIn K (.ref c13) (.type "BaseException") = some true)
    (tC13 : PySem.W.typeIn K (.ref c13) = some (.type "type"))
    (kC13 : PySem.W.keepIn K (.ref c13) = true)
    (no13 : PySem.W.findIn K (.ref c13) "line" = some none)
    (a_i13 : PySem.W.findIn K (.ref c13) "__init__" = some (some (.ref f_i13)))
    (ti13 : PySem.W.typeIn K (.ref f_i13) = some (.type "function"))
    (l_i13 : K.lookup f_i13 = some ⟨oc_i13, od_i13, .func (PySem.W.fnOf "__init__" "InvalidNotation.__init__" (defArgs s_InvalidNotation___init__) (defBody s_InvalidNotation___init__) (defScope s_InvalidNotation___init__) .none kV_i13 dc_i13 pm_i13 an_i13 cd_i13 ct_i13), sl_i13⟩)
    (c_i13 : PySem.W.codeIn K cd_i13 "InvalidNotation.__init__" = true)
    (k_i13 : PySem.W.keepIn K (.ref f_i13) = true)
    (xl14 : K.lookup c14 = some (excClassObj nm14 qn14 c14 N14 bs14 [.ref Pe, .type "ValueError", .type "Exception", .type "BaseException", .type "object"] true sn14 sb14 ab14 co14 dd14 ma14 mb14 mc14 md14 me14 "ValueError.__new__"))
    (sa14 : PySem.W.findIn K (.ref c14) "__setattr__" = some (some (.builtin "object.__setattr__")))
    (eC14 : PySem.W.subIn K (.ref c14) (.type "BaseException") = some true)
    (tC14 : PySem.W.typeIn K (.ref c14) = some (.type "type"))
    (kC14 : PySem.W.keepIn K (.ref c14) = true)
    (no14 : PySem.W.findIn K (.ref c14) "name" = some none)
    (a_i14 : PySem.W.findIn K (.ref c14) "__init__" = some (some (.ref f_i14)))
    (ti14 : PySem.W.typeIn K (.ref f_i14) = some (.type "function"))
    (l_i14 : K.lookup f_i14 = some ⟨oc_i14, od_i14, .func (PySem.W.fnOf "__init__" "NameTaken.__init__" (defArgs s_NameTaken___init__) (defBody s_NameTaken___init__) (defScope s_NameTaken___init__) .none kV_i14 dc_i14 pm_i14 an_i14 cd_i14 ct_i14), sl_i14⟩)
    (c_i14 : PySem.W.codeIn K cd_i14 "NameTaken.__init__" = true)
    (k_i14 : PySem.W.keepIn K (.ref f_i14) = true)
    (xl15 : K.lookup c15 = some (excClassObj nm15 qn15 c15 N15 bs15 [.ref Pe, .type "ValueError", .type "Exception", .type "BaseException", .type "object"] true sn15 sb15 ab15 co15 dd15 ma15 mb15 mc15 md15 me15 "ValueError.__new__"))
    (sa15 : PySem.W.findIn K (.ref c15) "__setattr__" = some (some (.builtin "object.__setattr__")))
    (eC15 : PySem.W.subIn K (.ref c15) (.type "BaseException") = some true)
    (tC15 : PySem.W.typeIn K (.ref c15) = some (.type "type"))
    (kC15 : PySem.W.keepIn K (.ref c15) = true)
    (no15 : PySem.W.findIn K (.ref c15) "name" = some none)
    (a_i15 : PySem.W.findIn K (.ref c15) "__init__" = some (some (.ref f_i15)))
    (ti15 : PySem.W.typeIn K (.ref f_i15) = some (.type "function"))
    (l_i15 : K.lookup f_i15 = some ⟨oc_i15, od_i15, .func (PySem.W.fnOf "__init__" "UnknownName.__init__" (defArgs s_UnknownName___init__) (defBody s_UnknownName___init__) (defScope s_UnknownName___init__) .none kV_i15 dc_i15 pm_i15 an_i15 cd_i15 ct_i15), sl_i15⟩)
    (c_i15 : PySem.W.codeIn K cd_i15 "UnknownName.__init__" = true)
    (k_i15 : PySem.W.keepIn K (.ref f_i15) = true)
    (kinds : kindsB K [c0, c1, c2, c3, c4, c5, c6, c7, c8, c9, c10, c11, c12, c13, c14, c15] Pe = true)
    (a_row : PySem.W.nsIn K mainGlobals "_law_row" = some (some (.ref f_row)))
    (l_row : K.lookup f_row = some ⟨oc_row, od_row, .func (PySem.W.fnOf "_law_row" "_law_row" (defArgs s__law_row) (defBody s__law_row) (defScope s__law_row) .none kV_row dc_row pm_row an_row cd_row ct_row), sl_row⟩)
    (c_row : PySem.W.codeIn K cd_row "_law_row" = true)
    (k_row : PySem.W.keepIn K (.ref f_row) = true)
    (a_num : PySem.W.nsIn K mainGlobals "_law_numbers" = some (some (.ref f_num)))
    (l_num : K.lookup f_num = some ⟨oc_num, od_num, .func (PySem.W.fnOf "_law_numbers" "_law_numbers" (defArgs s__law_numbers) (defBody s__law_numbers) (defScope s__law_numbers) .none kV_num dc_num pm_num an_num cd_num ct_num), sl_num⟩)
    (c_num : PySem.W.codeIn K cd_num "_law_numbers" = true)
    (k_num : PySem.W.keepIn K (.ref f_num) = true)
    (a_kin : PySem.W.nsIn K mainGlobals "_law_kinds" = some (some (.ref f_kin)))
    (l_kin : K.lookup f_kin = some ⟨oc_kin, od_kin, .func (PySem.W.fnOf "_law_kinds" "_law_kinds" (defArgs s__law_kinds) (defBody s__law_kinds) (defScope s__law_kinds) .none kV_kin dc_kin pm_kin an_kin cd_kin ct_kin), sl_kin⟩)
    (c_kin : PySem.W.codeIn K cd_kin "_law_kinds" = true)
    (k_kin : PySem.W.keepIn K (.ref f_kin) = true)
    (a_law : PySem.W.nsIn K mainGlobals "law" = some (some (.ref f_law)))
    (l_law : K.lookup f_law = some ⟨oc_law, od_law, .func (PySem.W.fnOf "law" "law" (defArgs s_law) (defBody s_law) (defScope s_law) .none kV_law dc_law pm_law an_law cd_law ct_law), sl_law⟩)
    (c_law : PySem.W.codeIn K cd_law "law" = true)
    (k_law : PySem.W.keepIn K (.ref f_law) = true)
    (z_abs : PySem.W.nsIn K mainGlobals "abs" = some none)
    (z_int : PySem.W.nsIn K mainGlobals "int" = some none)
    (z_range : PySem.W.nsIn K mainGlobals "range" = some none)
    (z_len : PySem.W.nsIn K mainGlobals "len" = some none)
    (z_max : PySem.W.nsIn K mainGlobals "max" = some none)
    (z_isinstance : PySem.W.nsIn K mainGlobals "isinstance" = some none)
    (z_ValueError : PySem.W.nsIn K mainGlobals "ValueError" = some none)
    : ∃ fd : FuncData, (∀ (s : Shared) (v : Value), BindsTo s fd ⟨[v], []⟩ [("script", v)]) ∧
      ∀ base : Heap, K.In base → base.Ns mainGlobals mg → FnOk l.prog w K mg base CX0 3 fa fd ["script"] (spLaw K) := by
  have e := hfa.symm.trans (PySem.W.mg_of X G a_law)
  cases e
  have F_row := fun_mk (st := s__law_row) l_row c_row k_row
  have F_num := fun_mk (st := s__law_numbers) l_num c_num k_num
  have F_kin := fun_mk (st := s__law_kinds) l_kin c_kin k_kin
  have F_law := fun_mk (st := s_law) l_law c_law k_law
  have F_i8 := fun_mk (st := s_InvalidPlace___init__) l_i8 c_i8 k_i8
  have b_i8 := F_i8.binds (ps := ["self", "place"]) fun _ _ _ _ _ _ us hl => match us, hl with | [_, _], _ => rfl
  have F_i9 := fun_mk (st := s_PickTaken___init__) l_i9 c_i9 k_i9
  have b_i9 := F_i9.binds (ps := ["self", "place"]) fun _ _ _ _ _ _ us hl => match us, hl with | [_, _], _ => rfl
  have F_i10 := fun_mk (st := s_UnknownPick___init__) l_i10 c_i10 k_i10
  have b_i10 := F_i10.binds (ps := ["self", "place"]) fun _ _ _ _ _ _ us hl => match us, hl with | [_, _], _ => rfl
  have F_i11 := fun_mk (st := s_Unreachable___init__) l_i11 c_i11 k_i11
  have b_i11 := F_i11.binds (ps := ["self", "place"]) fun _ _ _ _ _ _ us hl => match us, hl with | [_, _], _ => rfl
  have F_i12 := fun_mk (st := s_InvalidWalk___init__) l_i12 c_i12 k_i12
  have b_i12 := F_i12.binds (ps := ["self", "number"]) fun _ _ _ _ _ _ us hl => match us, hl with | [_, _], _ => rfl
  have F_i13 := fun_mk (st := s_InvalidNotation___init__) l_i13 c_i13 k_i13
  have b_i13 := F_i13.binds (ps := ["self", "line"]) fun _ _ _ _ _ _ us hl => match us, hl with | [_, _], _ => rfl
  have F_i14 := fun_mk (st := s_NameTaken___init__) l_i14 c_i14 k_i14
  have b_i14 := F_i14.binds (ps := ["self", "name"]) fun _ _ _ _ _ _ us hl => match us, hl with | [_, _], _ => rfl
  have F_i15 := fun_mk (st := s_UnknownName___init__) l_i15 c_i15 k_i15
  have b_i15 := F_i15.binds (ps := ["self", "name"]) fun _ _ _ _ _ _ us hl => match us, hl with | [_, _], _ => rfl
  have b_row := F_row.binds (ps := ["cell", "many"]) fun _ _ _ _ _ _ us hl => match us, hl with | [_, _], _ => rfl
  have b_num := F_num.binds (ps := ["script", "many"]) fun _ _ _ _ _ _ us hl => match us, hl with | [_, _], _ => rfl
  have b_kin := F_kin.binds (ps := ["error"]) fun _ _ _ _ _ _ us hl => match us, hl with | [_], _ => rfl
  have T : Txt K mg [c0, c1, c2, c3, c4, c5, c6, c7, c8, c9, c10, c11, c12, c13, c14, c15] [f_i8, f_i9, f_i10, f_i11, f_i12, f_i13, f_i14, f_i15] Pe := by
    refine ⟨⟨PySem.W.mg_of X G a_c0, kp0, ex0⟩, ⟨PySem.W.mg_of X G a_c1, kp1, ex1⟩, ⟨PySem.W.mg_of X G a_c2, kp2, ex2⟩, ⟨PySem.W.mg_of X G a_c3, kp3, ex3⟩, ⟨PySem.W.mg_of X G a_c4, kp4, ex4⟩, ⟨PySem.W.mg_of X G a_c5, kp5, ex5⟩, ⟨PySem.W.mg_of X G a_c6, kp6, ex6⟩, ⟨PySem.W.mg_of X G a_c7, kp7, ex7⟩, ⟨PySem.W.mg_of X G a_c8, ⟨⟨nm8, qn8, N8, bs8, _, sn8, sb8, ab8, co8, dd8, ma8, mb8, mc8, md8, me8, xl8, rfl⟩, sa8, eC8, tC8, kC8⟩, a_i8, ti8, no8⟩, ⟨PySem.W.mg_of X G a_c9, ⟨⟨nm9, qn9, N9, bs9, _, sn9, sb9, ab9, co9, dd9, ma9, mb9, mc9, md9, me9, xl9, rfl⟩, sa9, eC9, tC9, kC9⟩, a_i9, ti9, no9⟩, ⟨PySem.W.mg_of X G a_c10, ⟨⟨nm10, qn10, N10, bs10, _, sn10, sb10, ab10, co10, dd10, ma10, mb10, mc10, md10, me10, xl10, rfl⟩, sa10, eC10, tC10, kC10⟩, a_i10, ti10, no10⟩, ⟨PySem.W.mg_of X G a_c11, ⟨⟨nm11, qn11, N11, bs11, _, sn11, sb11, ab11, co11, dd11, ma11, mb11, mc11, md11, me11, xl11, rfl⟩, sa11, eC11, tC11, kC11⟩, a_i11, ti11, no11⟩, ⟨PySem.W.mg_of X G a_c12, ⟨⟨nm12, qn12, N12, bs12, _, sn12, sb12, ab12, co12, dd12, ma12, mb12, mc12, md12, me12, xl12, rfl⟩, sa12, eC12, tC12, kC12⟩, a_i12, ti12, no12⟩, ⟨PySem.W.mg_of X G a_c13, ⟨⟨nm13, qn13, N13, bs13, _, sn13, sb13, ab13, co13, dd13, ma13, mb13, mc13, md13, me13, xl13, rfl⟩, sa13, eC13, tC13, kC13⟩, a_i13, ti13, no13⟩, ⟨PySem.W.mg_of X G a_c14, ⟨⟨nm14, qn14, N14, bs14, _, sn14, sb14, ab14, co14, dd14, ma14, mb14, mc14, md14, me14, xl14, rfl⟩, sa14, eC14, tC14, kC14⟩, a_i14, ti14, no14⟩, ⟨PySem.W.mg_of X G a_c15, ⟨⟨nm15, qn15, N15, bs15, _, sn15, sb15, ab15, co15, dd15, ma15, mb15, mc15, md15, me15, xl15, rfl⟩, sa15, eC15, tC15, kC15⟩, a_i15, ti15, no15⟩, PySem.W.mg_of X G a_Pe, kinds, PySem.W.mg_none_of X G z_isinstance, PySem.W.mg_none_of X G z_int, PySem.W.mg_none_of X G z_ValueError⟩
  have D : DrawTxt mg f_row := ⟨PySem.W.mg_none_of X G z_abs, PySem.W.mg_none_of X G z_int, PySem.W.mg_none_of X G z_range, PySem.W.mg_none_of X G z_len, PySem.W.mg_none_of X G z_max, PySem.W.mg_of X G a_row⟩
  exact ⟨PySem.W.fnOf "law" "law" (defArgs s_law) (defBody s_law) (defScope s_law) .none kV_law dc_law pm_law an_law cd_law ct_law, fun s v => .of_eq rfl, fun base _ _ => ok_law (cs := [c0, c1, c2, c3, c4, c5, c6, c7, c8, c9, c10, c11, c12, c13, c14, c15]) (is := [f_i8, f_i9, f_i10, f_i11, f_i12, f_i13, f_i14, f_i15]) F_law T D F_row b_row F_num b_num (PySem.W.mg_of X G a_num) F_kin b_kin (PySem.W.mg_of X G a_kin) F_i8 b_i8 F_i9 b_i9 F_i10 b_i10 F_i11 b_i11 F_i12 b_i12 F_i13 b_i13 F_i14 b_i14 F_i15 b_i15⟩
theorem walk {l : PySem.W.OpenLaw} {q : Program} {loose : List Str} {XP : (Str → Option Value) → Heap → Prop} {YP : World → Heap → Prop} {d : DefRec} {K : Params → PySem.W.Frag}
    (hn : l.most = some 63) (hdf : d.params.defaults = []) (hY : ∀ (w : World) (h : Heap), YP w h → (K w.params).In h)
    (F : ∀ (w : World) (mg : Str → Option Value) (fa : Addr) (h : Heap), (K w.params).In h → h.Ns mainGlobals mg → mg d.name = some (.ref fa) →
      ∃ fd : FuncData, (∀ (s : Shared) (u : Value), BindsTo s fd ⟨[u], []⟩ [("script", u)]) ∧
        ∀ base : Heap, (K w.params).In base → base.Ns mainGlobals mg → FnOk l.prog w (K w.params) mg base CX0 3 fa fd ["script"] (spLaw (K w.params))) :
    PySem.W.WalkO q loose XP YP l.row.toRowW d [] (fun f vs => PySem.call f vs) :=
  L2.walk_of (n := 63) (k := 3) (x := "script") (CX := fun _ => CX0) (sp := fun w => spLaw (K w.params)) hn (by decide) hdf
    ⟨rfl, by decide, by decide⟩ hY F (fun _ _ a ns hl _ hS => ⟨a, ns, rfl, hS, hl, fun _ => rfl⟩) fun _ _ _ _ _ z => z
end Pk
open PySem PySem.W PyProof.Rows
set_option maxRecDepth 100000 in
set_option maxHeartbeats 0 in
theorem PySem.Challenge.cw_pickaisle_k00_errors_stand_apart_holds : PySem.Challenge.rw_pickaisle_k00_errors_stand_apart.Holds := by
  w_on; o_law; k_head; (case hw => w_witness2)
  k_fill
  refine Pk.walk (l := PySem.Challenge.rw_pickaisle_k00_errors_stand_apart) rfl rfl (fun w h Y => PySem.W.kIn_of Y) ?F
  case F =>
    intro w mg fa h KX G hmg
    refine' Pk.all_mk KX G hmg ?a_Pe ?a_c0 ?a_c1 ?a_c2 ?a_c3 ?a_c4 ?a_c5 ?a_c6 ?a_c7 ?a_c8 ?a_c9 ?a_c10 ?a_c11 ?a_c12 ?a_c13 ?a_c14 ?a_c15 ?kp0 ?ex0 ?kp1 ?ex1 ?kp2 ?ex2 ?kp3 ?ex3 ?kp4 ?ex4 ?kp5 ?ex5 ?kp6 ?ex6 ?kp7 ?ex7 ?xl8 ?sa8 ?eC8 ?tC8 ?kC8 ?no8 ?a_i8 ?ti8 ?l_i8 ?c_i8 ?k_i8 ?xl9 ?sa9 ?eC9 ?tC9 ?kC9 ?no9 ?a_i9 ?ti9 ?l_i9 ?c_i9 ?k_i9 ?xl10 ?sa10 ?eC10 ?tC10 ?kC10 ?no10 ?a_i10 ?ti10 ?l_i10 ?c_i10 ?k_i10 ?xl11 ?sa11 ?eC11 ?tC11 ?kC11 ?no11 ?a_i11 ?ti11 ?l_i11 ?c_i11 ?k_i11 ?xl12 ?sa12 ?eC12 ?tC12 ?kC12 ?no12 ?a_i12 ?ti12 ?l_i12 ?c_i12 ?k_i12 ?xl13 ?sa13 ?eC13 ?tC13 ?kC13 ?no13 ?a_i13 ?ti13 ?l_i13 ?c_i13 ?k_i13 ?xl14 ?sa14 ?eC14 ?tC14 ?kC14 ?no14 ?a_i14 ?ti14 ?l_i14 ?c_i14 ?k_i14 ?xl15 ?sa15 ?eC15 ?tC15 ?kC15 ?no15 ?a_i15 ?ti15 ?l_i15 ?c_i15 ?k_i15 ?kinds ?a_row ?l_row ?c_row ?k_row ?a_num ?l_num ?c_num ?k_num ?a_kin ?l_kin ?c_kin ?k_kin ?a_law ?l_law ?c_law ?k_law ?z_abs ?z_int ?z_range ?z_len ?z_max ?z_isinstance ?z_ValueError
    (case a_Pe => k_is)
    (case a_c0 => k_is)
    (case a_c1 => k_is)
    (case a_c2 => k_is)
    (case a_c3 => k_is)
    (case a_c4 => k_is)
    (case a_c5 => k_is)
    (case a_c6 => k_is)
    (case a_c7 => k_is)
    (case a_c8 => k_is)
    (case a_c9 => k_is)
    (case a_c10 => k_is)
    (case a_c11 => k_is)
    (case a_c12 => k_is)
    (case a_c13 => k_is)
    (case a_c14 => k_is)
    (case a_c15 => k_is)
    (case kp0 => k_is)
    (case ex0 => k_exc)
    (case kp1 => k_is)
    (case ex1 => k_exc)
    (case kp2 => k_is)
    (case ex2 => k_exc)
    (case kp3 => k_is)
    (case ex3 => k_exc)
    (case kp4 => k_is)
    (case ex4 => k_exc)
    (case kp5 => k_is)
    (case ex5 => k_exc)
    (case kp6 => k_is)
    (case ex6 => k_exc)
    (case kp7 => k_is)
    (case ex7 => k_exc)
    (case xl8 => k_is)
    (case sa8 => k_is)
    (case eC8 => k_is)
    (case tC8 => k_is)
    (case kC8 => k_is)
    (case no8 => k_is)
    (case a_i8 => k_is)
    (case ti8 => k_is)
    (case l_i8 => k_is)
    (case c_i8 => k_is)
    (case k_i8 => k_is)
    (case xl9 => k_is)
    (case sa9 => k_is)
    (case eC9 => k_is)
    (case tC9 => k_is)
    (case kC9 => k_is)
    (case no9 => k_is)
    (case a_i9 => k_is)
    (case ti9 => k_is)
    (case l_i9 => k_is)
    (case c_i9 => k_is)
    (case k_i9 => k_is)
    (case xl10 => k_is)
    (case sa10 => k_is)
    (case eC10 => k_is)
    (case tC10 => k_is)
    (case kC10 => k_is)
    (case no10 => k_is)
    (case a_i10 => k_is)
    (case ti10 => k_is)
    (case l_i10 => k_is)
    (case c_i10 => k_is)
    (case k_i10 => k_is)
    (case xl11 => k_is)
    (case sa11 => k_is)
    (case eC11 => k_is)
    (case tC11 => k_is)
    (case kC11 => k_is)
    (case no11 => k_is)
    (case a_i11 => k_is)
    (case ti11 => k_is)
    (case l_i11 => k_is)
    (case c_i11 => k_is)
    (case k_i11 => k_is)
    (case xl12 => k_is)
    (case sa12 => k_is)
    (case eC12 => k_is)
    (case tC12 => k_is)
    (case kC12 => k_is)
    (case no12 => k_is)
    (case a_i12 => k_is)
    (case ti12 => k_is)
    (case l_i12 => k_is)
    (case c_i12 => k_is)
    (case k_i12 => k_is)
    (case xl13 => k_is)
    (case sa13 => k_is)
    (case eC13 => k_is)
    (case tC13 => k_is)
    (case kC13 => k_is)
    (case no13 => k_is)
    (case a_i13 => k_is)
    (case ti13 => k_is)
    (case l_i13 => k_is)
    (case c_i13 => k_is)
    (case k_i13 => k_is)
    (case xl14 => k_is)
    (case sa14 => k_is)
    (case eC14 => k_is)
    (case tC14 => k_is)
    (case kC14 => k_is)
    (case no14 => k_is)
    (case a_i14 => k_is)
    (case ti14 => k_is)
    (case l_i14 => k_is)
    (case c_i14 => k_is)
    (case k_i14 => k_is)
    (case xl15 => k_is)
    (case sa15 => k_is)
    (case eC15 => k_is)
    (case tC15 => k_is)
    (case kC15 => k_is)
    (case no15 => k_is)
    (case a_i15 => k_is)
    (case ti15 => k_is)
    (case l_i15 => k_is)
    (case c_i15 => k_is)
    (case k_i15 => k_is)
    (case kinds => kernel_rfl)
    (case a_row => k_is)
    (case l_row => k_is)
    (case c_row => k_is)
    (case k_row => k_is)
    (case a_num => k_is)
    (case l_num => k_is)
    (case c_num => k_is)
    (case k_num => k_is)
    (case a_kin => k_is)
    (case l_kin => k_is)
    (case c_kin => k_is)
    (case k_kin => k_is)
    (case a_law => k_is)
    (case l_law => k_is)
    (case c_law => k_is)
    (case k_law => k_is)
    (case z_abs => k_is)
    (case z_int => k_is)
    (case z_range => k_is)
    (case z_len => k_is)
    (case z_max => k_is)
    (case z_isinstance => k_is)
    (case z_ValueError => k_is)


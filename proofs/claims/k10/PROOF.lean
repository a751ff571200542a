import PyProof.Rows.All
import Wide.All
import OpenK.AllK
import Wide.FinOn
import HandS.ForMost
import HandS.Codes
import HandS.Defaults
import HandS.Wide
import HandS.Zip
import HandS.IsInst
import HandS.Walk
import PySem.Challenge.RW_cardlines_k10_numbers_in_figures
set_option Elab.async false
set_option linter.all false
set_option maxRecDepth 100000
set_option maxHeartbeats 2000000
namespace My
open PySem PySem.Spec PyProof.Rows L2
def topS (i : Nat) : Stmt := PySem.Challenge.pw_cardlines_k10_numbers_in_figures.main.body.getD i (.Pass ⟨0, 0, 0, 0⟩)
abbrev s_Torn_init : Stmt := inClass (topS 1) 0
theorem sc_Torn_init : FnScope ["self", "at"] ["self", "at"] (defScope s_Torn_init) := ⟨rfl, rfl, rfl, by decide +kernel, rfl, by decide +kernel, by decide +kernel⟩
abbrev s_number_bytes : Stmt := topS 6
theorem sc_number_bytes : FnScope ["number", "codes", "rest"] ["number"] (defScope s_number_bytes) := ⟨rfl, rfl, rfl, by decide +kernel, rfl, by decide +kernel, by decide +kernel⟩
abbrev s_signed_bytes : Stmt := topS 7
theorem sc_signed_bytes : FnScope ["number"] ["number"] (defScope s_signed_bytes) := ⟨rfl, rfl, rfl, by decide +kernel, rfl, by decide +kernel, by decide +kernel⟩
abbrev s_number_at : Stmt := topS 8
theorem sc_number_at : FnScope ["codes", "at", "number", "worth", "place", "code"] ["codes", "at"] (defScope s_number_at) := ⟨rfl, rfl, rfl, by decide +kernel, rfl, by decide +kernel, by decide +kernel⟩
abbrev s_signed_at : Stmt := topS 9
theorem sc_signed_at : FnScope ["codes", "at", "number", "behind"] ["codes", "at"] (defScope s_signed_at) := ⟨rfl, rfl, rfl, by decide +kernel, rfl, by decide +kernel, by decide +kernel⟩
abbrev s_l_box : Stmt := topS 11
theorem sc_l_box : FnScope ["_law_script", "_law_k", "_law_cell"] ["_law_script", "_law_k"] (defScope s_l_box) := ⟨rfl, rfl, rfl, by decide +kernel, rfl, by decide +kernel, by decide +kernel⟩
abbrev s_l_take : Stmt := topS 12
theorem sc_l_take : FnScope ["_law_box_here", "_law_many", "_law_found", "_law_once", "_law_twice"] ["_law_box_here", "_law_many"] (defScope s_l_take) := ⟨rfl, rfl, rfl, by decide +kernel, rfl, by decide +kernel, by decide +kernel⟩
abbrev s_l_same : Stmt := topS 13
theorem sc_l_same : FnScope ["_law_found", "_law_due", "_law_one", "_law_other", "_law_fine"] ["_law_found", "_law_due"] (defScope s_l_same) := ⟨rfl, rfl, rfl, by decide +kernel, rfl, by decide +kernel, by decide +kernel⟩
abbrev s_l_bytes : Stmt := topS 14
theorem sc_l_bytes : FnScope ["_law_figure", "_law_found"] ["_law_figure"] (defScope s_l_bytes) := ⟨rfl, rfl, rfl, by decide +kernel, rfl, by decide +kernel, by decide +kernel⟩
abbrev s_l_signed : Stmt := topS 15
theorem sc_l_signed : FnScope ["_law_step"] ["_law_step"] (defScope s_l_signed) := ⟨rfl, rfl, rfl, by decide +kernel, rfl, by decide +kernel, by decide +kernel⟩
abbrev s_l_any_bytes : Stmt := topS 16
theorem sc_l_any_bytes : FnScope ["_law_box_here", "_law_many", "_law_k"] ["_law_box_here", "_law_many"] (defScope s_l_any_bytes) := ⟨rfl, rfl, rfl, by decide +kernel, rfl, by decide +kernel, by decide +kernel⟩
abbrev s_l_number_right : Stmt := topS 17
theorem sc_l_number_right : FnScope ["_law_box_here", "_law_figure", "_law_due", "_law_front", "_law_tail", "_law_row", "_law_kept", "_law_told", "_law_behind"] ["_law_box_here", "_law_figure"] (defScope s_l_number_right) := ⟨rfl, rfl, rfl, by decide +kernel, rfl, by decide +kernel, by decide +kernel⟩
abbrev s_l_signed_right : Stmt := topS 18
theorem sc_l_signed_right : FnScope ["_law_box_here", "_law_step", "_law_due", "_law_front", "_law_row", "_law_told", "_law_behind"] ["_law_box_here", "_law_step"] (defScope s_l_signed_right) := ⟨rfl, rfl, rfl, by decide +kernel, rfl, by decide +kernel, by decide +kernel⟩
abbrev s_l_right : Stmt := topS 19
theorem sc_l_right : FnScope ["_law_box_here", "_law_edges", "_law_some", "_law_most", "_law_figure", "_law_one", "_law_other", "_law_row", "_law_told", "_law_behind"] ["_law_box_here"] (defScope s_l_right) := ⟨rfl, rfl, rfl, by decide +kernel, rfl, by decide +kernel, by decide +kernel⟩
abbrev s_law : Stmt := topS 20
theorem sc_law : FnScope ["_law_script", "_law_k"] ["_law_script"] (defScope s_law) := ⟨rfl, rfl, rfl, by decide +kernel, rfl, by decide +kernel, by decide +kernel⟩

/-! ### calls by a bundle -/
/-- the def x of the text, as it is called by place: its promise sp, level k -/
structure Cal (P : Program) (w : World) (K : PySem.W.Frag) (mg : Str → Option Value) (base : Heap) (k : Nat) (x : Str) (ps : List Str) (sp : Sp) : Prop where
  ex : ∃ f fd, FnOk P w K mg base CX0 k f fd ps sp ∧ mg x = some (.ref f) ∧ PySem.W.keepIn K (.ref f) = true ∧ Binds K fd ps []
/-- the same by names alone -/
structure CalK (P : Program) (w : World) (K : PySem.W.Frag) (mg : Str → Option Value) (base : Heap) (k : Nat) (x : Str) (ks ps : List Str) (gV : List V → List V → List V) (sp : Sp) : Prop where
  ex : ∃ f fd g, FnOk P w K mg base CX0 k f fd ps sp ∧ mg x = some (.ref f) ∧ PySem.W.keepIn K (.ref f) = true ∧ KBn K fd ps 0 ks g gV
section
variable {X : Cx} {k j : Nat} {ps ks : List Str} {sp : Sp} {x : Str} {p pos : Pos} {e : Expr} {es : List Expr} {kws : List Keyword} {t tk : TA} {gV : List V → List V → List V}
theorem pe_c (C : Cal X.prog X.w X.K X.mg X.base k x ps sp) (hr : Room j X.A) (hk : k ≤ j) (hg : Gl X x) (ha : PA X (e :: es) t) (hdb : (x == ("__debug__" : Str)) = false := by decide)
    (he : starEach (e :: es) X.env = (false, eval e X.env) :: starEach es X.env := by rfl) (hpl : (backTo pos (starEach es X.env)).any (·.1) = false := by rfl) :
    PE X (.Call (.Name x p) (e :: es) [] pos) (tCall sp [] E0 t) := by
  obtain ⟨f, fd, F, hm, hkp, hb⟩ := C.ex
  exact pe_call F (hr.mono hk) hg hm hkp hb .nil pass0 ha hdb he hpl
theorem pe_ck0 (C : CalK X.prog X.w X.K X.mg X.base k x ks ps gV sp) (hr : Room j X.A) (hk : k ≤ j) (hg : Gl X x) (hkw : PK X kws tk)
    (hall : (backToKw pos (keywordEach kws X.env)).all (·.1.isSome) = true := by rfl) (hks : (backToKw pos (keywordEach kws X.env)).filterMap (·.1) = ks := by rfl) (hdb : (x == ("__debug__" : Str)) = false := by decide)
    (hpl : ((backTo pos (starEach [] X.env)).any (·.1) || (backToKw pos (keywordEach kws X.env)).any (·.1.isNone)) = false := by rfl) :
    PE X (.Call (.Name x p) [] kws pos) (tCallN 0 ks.length sp gV E0 tNil tk) := by
  obtain ⟨f, fd, g, F, hm, hkp, hb⟩ := C.ex
  refine ⟨fun pins s σ H Q I h => ?_⟩
  refine wpAny_Call_Name_kw (ld_glob I hg hm ?_ hdb)
  refine PySem.W.callWith_KW0 (h₀ := X.base) I.ok.mod.kin hkp hall ?_ hpl
  refine thn (hkw.run pos pins s σ H _ I h) fun ws s2 ⟨zs, H2, I2, rz, l1, l2, q2⟩ => ⟨I2.kIn, ?_⟩
  rw [hks]
  exact run_fnN (us := []) (vs := []) F (hr.mono hk) hb pass0 I2 .nil rz rfl l2 q2
end
def sw2 {α : Type} : List α → List α
  | [a, b] => [b, a]
  | l => l
theorem vals_sw2 : ∀ {zs : List V} {ws : List Value}, Vals zs ws → Vals (sw2 zs) (sw2 ws)
  | _, _, .nil => .nil
  | _, _, .cons a .nil => .cons a .nil
  | _, _, .cons a (.cons b .nil) => .cons b (.cons a .nil)
  | _, _, .cons a (.cons b (.cons c d)) => .cons a (.cons b (.cons c d))

/-! ### heaps -/
theorem same_upd {H : Hp} {p : Addr} {o : HO} (h : H p = none) : Same H (upd H p o) := fun b x e => by
  rw [upd_ne (ne_of_none e h)]
  exact e
theorem sameT {K : PySem.W.Frag} {H H' : Hp} {a : Addr} {xs : List V} (e : Same H H') (h : SqT K H a xs) : SqT K H' a xs := by
  rcases h with (h | ⟨o, h⟩) | h
  · exact .inl (.inl (e _ _ h))
  · exact .inl (.inr ⟨o, e _ _ h⟩)
  · exact .inr h
/-- all but what stands at b is as it was -/
def But (b : Addr) (H H' : Hp) : Prop := ∀ a o, a ≠ b → H a = some o → H' a = some o
theorem But.trans {b : Addr} {H H1 H2 : Hp} (u : But b H H1) (v : But b H1 H2) : But b H H2 := fun a o n h => v a o n (u a o n h)
theorem Same.but {b : Addr} {H H' : Hp} (u : Same H H') : But b H H' := fun a o _ h => u a o h
theorem But.upd {b : Addr} {H : Hp} {o : HO} : But b H (upd H b o) := fun a x n h => by
  rw [upd_ne n]
  exact h
theorem sqT {K : PySem.W.Frag} {H : Hp} {a : Addr} {xs : List V} (h : H a = some (.tup xs)) : SqT K H a xs := .inl (.inl h)
theorem sqL {K : PySem.W.Frag} {H : Hp} {a : Addr} {xs : List V} (h : H a = some (.lst xs)) : SqL K H a xs := .inl (.inl h)
theorem line_ge {n : Nat} (h : n ≤ 100000) : n ≤ sizeLine := Nat.le_trans h (by decide)
theorem line_gt {n : Nat} (h : n ≤ 100000) : n < sizeLine := Nat.lt_of_le_of_lt h (by decide)

/-! ### data at any depth stays where the heap only grows -/
mutual
theorem dp_same {K : PySem.W.Frag} {H H' : Hp} (e : Same H H') : ∀ (d : PyData) (v : V), Dp K H v d → Dp K H' v d
  | .none, _, h => by cases h; exact .non
  | .bool b, _, h => by cases h; exact .bl b
  | .int i, _, h => by cases h; exact .int i
  | .str x, _, h => by cases h; exact .str x
  | .list ds, _, h => by cases h with | lst hs ha => exact .lst (e.seq hs) (dpAll_same e ds _ ha)
  | .tuple ds, _, h => by cases h with | tup hs ha => exact .tup (sameT e hs) (dpAll_same e ds _ ha)
  | .dict _, _, h => by cases h
theorem dpAll_same {K : PySem.W.Frag} {H H' : Hp} (e : Same H H') : ∀ (ds : List PyData) (vs : List V), DpAll K H vs ds → DpAll K H' vs ds
  | [], _, h => by cases h; exact .nil
  | d :: ds, _, h => by cases h with | cons a b => exact .cons (dp_same e d _ a) (dpAll_same e ds _ b)
end
theorem dp_ints {K : PySem.W.Frag} {H : Hp} : ∀ ns : List Int, DpAll K H (ns.map V.int) (ns.map PyData.int)
  | [] => .nil
  | n :: ns => .cons (.int n) (dp_ints ns)

/-! ### the box of a law: three numbers, the third how often it was asked -/
def BoxL (n : Nat) (xs : List V) : Prop := ∃ x y c : Int, xs = [.int x, .int y, .int c] ∧ 0 ≤ y ∧ y < 2 ^ 62 ∧ 0 ≤ c ∧ c ≤ (n : Int)
def Bx (n : Nat) (b : Addr) (H : Hp) : Prop := ∃ xs, H b = some (.lst xs) ∧ BoxL n xs
theorem Bx.mono {n m : Nat} {b : Addr} {H : Hp} (h : Bx n b H) (l : n ≤ m) : Bx m b H := by
  obtain ⟨xs, e, x, y, c, r, h1, h2, h3, h4⟩ := h
  exact ⟨xs, e, x, y, c, r, h1, h2, h3, by omega⟩
theorem Bx.same {n : Nat} {b : Addr} {H H' : Hp} (h : Bx n b H) (s : Same H H') : Bx n b H' := by
  obtain ⟨xs, e, r⟩ := h
  exact ⟨xs, s _ _ e, r⟩
theorem Bx.ne {n : Nat} {b p : Addr} {H : Hp} (h : Bx n b H) (e : H p = none) : p ≠ b := by
  obtain ⟨xs, z, _⟩ := h
  exact (ne_of_none z e).symm
theorem Bx.new {n : Nat} {b p : Addr} {H : Hp} {o : HO} (h : Bx n b H) (e : H p = none) : Bx n b (upd H p o) := h.same (same_upd e)
/-- behind some asks of the box: it stands with at most n, all else as it was -/
structure Aft (b : Addr) (n : Nat) (H H' : Hp) : Prop where
  box : Bx n b H'
  but : But b H H'
theorem Aft.trans {b : Addr} {n m : Nat} {H H1 H2 : Hp} (u : Aft b n H H1) (v : Aft b m H1 H2) : Aft b m H H2 := ⟨v.box, u.but.trans v.but⟩
theorem Aft.same {b : Addr} {n : Nat} {H H1 H2 : Hp} (u : Aft b n H H1) (v : Same H1 H2) : Aft b n H H2 := ⟨u.box.same v, u.but.trans (Same.but v)⟩
theorem Aft.new {b p : Addr} {n : Nat} {H H1 : Hp} {o : HO} (u : Aft b n H H1) (v : H1 p = none) : Aft b n H (upd H1 p o) := u.same (same_upd v)
theorem Aft.mono {b : Addr} {n m : Nat} {H H1 : Hp} (u : Aft b n H H1) (l : n ≤ m) : Aft b m H H1 := ⟨u.box.mono l, u.but⟩
theorem Aft.get {b a : Addr} {n : Nat} {H H' : Hp} {o : HO} (u : Aft b n H H') (h : H a = some o) (ne : a ≠ b) : H' a = some o := u.but a o ne h
theorem Aft.free {b p : Addr} {n m : Nat} {H H' : Hp} (u : Aft b n H H') (h : H' p = none) (hb : Bx m b H) : H p = none := by
  cases q : H p with
  | none => rfl
  | some o =>
    by_cases e : p = b
    · subst e
      obtain ⟨xs, z, _⟩ := u.box
      rw [h] at z
      cases z
    · rw [u.but p o e q] at h
      cases h
/-! ### numbers in figures -/
theorem div64 {n : Nat} (h : ¬ n < 64) : n / 64 < n := by omega
def figs (n : Nat) : List Int := if h : n < 64 then [(n : Int)] else ((n % 64 + 64 : Nat) : Int) :: figs (n / 64)
termination_by n
decreasing_by exact div64 h
theorem figs_small {n : Nat} (h : n < 64) : figs n = [(n : Int)] := by
  rw [figs, dif_pos h]
theorem figs_big {n : Nat} (h : 64 ≤ n) : figs n = ((n % 64 + 64 : Nat) : Int) :: figs (n / 64) := by
  rw [figs, dif_neg (by omega)]
theorem figs_len1 {n : Nat} (h : n < 64) : (figs n).length = 1 := by rw [figs_small h]; rfl
theorem figs_lenS {n : Nat} (h : 64 ≤ n) : (figs n).length = (figs (n / 64)).length + 1 := by rw [figs_big h]; rfl
theorem figs_len {n : Nat} (h : n < 16777216) : (figs n).length ≤ 4 := by
  by_cases h1 : n < 64
  · rw [figs_len1 h1]; omega
  · rw [figs_lenS (by omega)]
    by_cases h2 : n / 64 < 64
    · rw [figs_len1 h2]; omega
    · rw [figs_lenS (by omega)]
      by_cases h3 : n / 64 / 64 < 64
      · rw [figs_len1 h3]; omega
      · rw [figs_lenS (by omega), figs_len1 (by omega)]; omega
/-- a signed number as it is written -/
def sgn (z : Int) : Nat := if z < 0 then (-2 * z - 1).toNat else (2 * z).toNat
theorem sgn_neg {z : Int} (h : z < 0) : (-2 * z - 1 : Int) = (sgn z : Int) := by
  unfold sgn; rw [if_pos h]; omega
theorem sgn_pos {z : Int} (h : ¬ z < 0) : (2 * z : Int) = (sgn z : Int) := by
  unfold sgn; rw [if_neg h]; omega
/-! ### promises -/
/-- a new list of the ints ns, all else as it was -/
def NewInts (ns : List Int) (H : Hp) (Q : VK) : Prop := ∀ H' p, Same H H' → H p = none → H' p = some (.lst (ns.map V.int)) → Q (.ref p) H'
def spNB : Sp := fun vs H Q _ => ∃ z : Nat, vs = [.int z] ∧ z < 16777216 ∧ NewInts (figs z) H Q
def spSB : Sp := fun vs H Q _ => ∃ z : Int, vs = [.int z] ∧ sgn z < 16777216 ∧ NewInts (figs (sgn z)) H Q
section
variable {P : Program} {w : World} {K : PySem.W.Frag} {mg : Str → Option Value} {base : Heap}
theorem ok_number_bytes {f : Addr} {fd : FuncData} {k : Nat} (F : Fun K "number_bytes" "number_bytes" s_number_bytes f fd) {tB : Nat} (g_BASE : mg "BASE" = some (.int 64 tB)) : FnOk P w K mg base CX0 (k + 1) f fd ["number"] spNB := by
  refine F.ok sc_number_bytes (fun vs H Q E h => ?_) (fun cdv A outer s H vs Q E hr h => ?_)
  · obtain ⟨z, rfl, _⟩ := h
    rfl
  · obtain ⟨z, rfl, hz, q⟩ := h
    refine ⟨_, (pss_cons (ps_set (i := 1) sc_number_bytes.nd rfl (Or.inl rfl) (pe_lst pa_nil))
      (pss_cons (ps_set (i := 2) sc_number_bytes.nd rfl (Or.inl rfl) (pv 0))
      (pss_cons (ps_while PassesOwn.never (pt_cmpR (op_ge) (pv 2) (pe_glob (v := .int 64) (by rfl) g_BASE ⟨_, rfl⟩) (nomark _)) (pss_cons (ps_expr (pe_bm PySem.F.plainAttrs_list PySem.F.slot_list_append PySem.F.type_list_append mt_append (pv 1) (pa_cons (pe_op op_add (pe_op op_mod (pv 2) (pe_glob (v := .int 64) (by rfl) g_BASE ⟨_, rfl⟩)) (pe_glob (v := .int 64) (by rfl) g_BASE ⟨_, rfl⟩)) pa_nil)))
      (pss_one (ps_aug (i := 2) sc_number_bytes.nd rfl (Or.inl rfl) (pe_glob (v := .int 64) (by rfl) g_BASE ⟨_, rfl⟩) iop_fdiv))))
      (pss_cons (ps_expr (pe_bm PySem.F.plainAttrs_list PySem.F.slot_list_append PySem.F.type_list_append mt_append (pv 1) (pa_cons (pv 2) pa_nil)))
      (pss_one (ps_ret (pv 1))))))), ?_⟩
    refine ⟨Nat.zero_le _, fun o no => ?_⟩
    refine ⟨_, rfl, ?_⟩
    refine while_by (fun σ H' => ∃ (acc : List Int) (r : Nat), σ = [some (.int z), some (.ref o), some (.int r)] ∧ Same H H' ∧ H' o = some (.lst (acc.map V.int)) ∧ acc ++ figs r = figs z ∧ acc.length + r ≤ z)
      (fun σ _ => match σ with | [_, _, some (.int r)] => r.toNat | _ => 0) ⟨[], z, rfl, same_upd no, upd_same, rfl, by show 0 + z ≤ z; omega⟩ ?_
      (fun σ H Q Q' m ⟨x, h1, i, j, e1, e2, k, e3, q⟩ => ⟨x, h1, i, j, e1, e2, k, e3, m _ _ q⟩)
    rintro σ H' ⟨acc, r, rfl, sm, eo, ef, el⟩
    refine ⟨_, rfl, _, _, rfl, rfl, _, rfl, ite2 (fun c => ?_) (fun c => ?_)⟩
    · have c' : (64 : Int) ≤ r := of_decide_eq_true c
      refine ⟨.ref o, rfl, .inl ⟨rfl, _, sqL eo⟩, _, rfl, _, _, rfl, rfl, (by show (0 : Int) < 64; decide), _, _, rfl, rfl, o, _, _, rfl, rfl, eo, ?_, ?_⟩
      · rw [List.length_map]
        exact Nat.lt_of_le_of_lt (by omega) (show 16777215 < sizeLine by decide)
      · refine ⟨_, rfl, _, _, rfl, rfl, ⟨by decide, by decide⟩, ⟨acc ++ [((r % 64 + 64 : Nat) : Int)], r / 64, ?_, ?_, ?_, ?_, ?_⟩, ?_⟩
        · rfl
        · exact fun b x e => by
            rw [upd_ne (ne_of_none e no)]
            exact sm _ _ e
        · rw [upd_same, List.map_append]
          rfl
        · rw [List.append_assoc, List.singleton_append, ← figs_big (by omega)]
          exact ef
        · rw [List.length_append]
          show acc.length + 1 + r / 64 ≤ z
          omega
        · show ((r : Int) / 64).toNat < (r : Int).toNat
          omega
    · have c' : ¬ (64 : Int) ≤ r := fun h => c (decide_eq_true h)
      have hr : r < 64 := by omega
      refine ⟨.ref o, rfl, .inl ⟨rfl, _, sqL eo⟩, _, rfl, o, _, _, rfl, rfl, eo, ?_, ?_⟩
      · rw [List.length_map]
        exact Nat.lt_of_le_of_lt (by omega) (show 16777215 < sizeLine by decide)
      · refine ⟨_, rfl, q _ o (fun b x e => ?_) no ?_⟩
        · rw [upd_ne (ne_of_none e no)]
          exact sm _ _ e
        · rw [upd_same, ← ef, figs_small hr, List.map_append]
          rfl
end
end My

namespace My
open PySem PySem.Spec PyProof.Rows L2
/-- a list or a tuple that is read -/
def Sq (K : PySem.W.Frag) (H : Hp) (a : Addr) (xs : List V) : Prop := SqL K H a xs ∨ SqT K H a xs
theorem Sq.same {K : PySem.W.Frag} {H H' : Hp} {a : Addr} {xs : List V} (h : Sq K H a xs) (e : Same H H') : Sq K H' a xs := h.elim (fun q => .inl (e.seq q)) (fun q => .inr (sameT e q))
theorem rIx_of {K : PySem.W.Frag} {H : Hp} {a : Addr} {xs : List V} {i : Int} {v : V} {Q : VK} (h : Sq K H a xs) (e : atI xs i = some v) (q : Q v H) : rIx K (.ref a) (.int i) H Q :=
  h.elim (fun s => .inl ⟨a, xs, i, v, rfl, rfl, s, e, q⟩) (fun s => .inr (.inl ⟨a, xs, i, v, rfl, rfl, s, e, q⟩))
/-- the number z stands in figures behind pre -/
def spNA (K : PySem.W.Frag) : Sp := fun vs H Q _ => ∃ (a : Addr) (pre post : List Int) (z : Nat), vs = [.ref a, .int pre.length] ∧ Sq K H a ((pre ++ (figs z ++ post)).map V.int) ∧ z < 16777216 ∧ pre.length ≤ 100000 ∧
  ∀ p, H p = none → Q (.ref p) (upd H p (.tup [.int z, .int ((pre.length + (figs z).length : Nat) : Int)]))
def spSA (K : PySem.W.Frag) : Sp := fun vs H Q _ => ∃ (a : Addr) (pre post : List Int) (z : Int), vs = [.ref a, .int pre.length] ∧ Sq K H a ((pre ++ (figs (sgn z) ++ post)).map V.int) ∧ sgn z < 16777216 ∧ pre.length ≤ 100000 ∧
  ∀ H' p, Same H H' → H p = none → H' p = some (.tup [.int z, .int ((pre.length + (figs (sgn z)).length : Nat) : Int)]) → Q (.ref p) H'
theorem drop_head {L : List Int} {n : Nat} {c : Int} {r : List Int} (h : L.drop n = c :: r) : n < L.length ∧ atI (L.map V.int) (n : Int) = some (.int c) ∧ L.drop (n + 1) = r := by
  have h1 : n < L.length := by
    have e := congrArg List.length h
    rw [List.length_drop, List.length_cons] at e
    omega
  have h2 : L[n]? = some c := by
    have e : (L.drop n)[0]? = some c := by rw [h]; rfl
    rw [List.getElem?_drop] at e
    exact e
  refine ⟨h1, atI_nat ?_, ?_⟩
  · rw [List.getElem?_map, h2]
    rfl
  · rw [← List.drop_drop, h]
    rfl
section
variable {P : Program} {w : World} {K : PySem.W.Frag} {mg : Str → Option Value} {base : Heap}
theorem ok_signed_bytes {f : Addr} {fd : FuncData} (F : Fun K "signed_bytes" "signed_bytes" s_signed_bytes f fd) (c_number_bytes : Cal P w K mg base 1 "number_bytes" ["number"] spNB) : FnOk P w K mg base CX0 2 f fd ["number"] spSB := by
  refine F.ok sc_signed_bytes (fun vs H Q E h => ?_) (fun cdv A outer s H vs Q E hr h => ?_)
  · obtain ⟨z, rfl, _⟩ := h
    rfl
  · obtain ⟨z, rfl, hz, q⟩ := h
    refine ⟨_, (pss_one (ps_ret (pe_c c_number_bytes hr (by decide) (by rfl) (pa_cons (pe_ifExp (pt_cmpR (op_lt) (pv 0) (pe_int) (nomark _)) (pe_op op_sub (pe_op op_mul (pe_un un_neg (pe_int)) (pv 0)) (pe_int)) (pe_op op_mul (pe_int) (pv 0))) pa_nil)))), ?_⟩
    refine ⟨_, rfl, _, _, rfl, rfl, _, rfl, ite2 (fun c => ?_) (fun c => ?_)⟩
    · have c' : z < 0 := of_decide_eq_true c
      refine ⟨_, rfl, _, rfl, _, _, rfl, rfl, .inl ⟨by decide, by decide⟩, _, _, rfl, rfl, sgn z, ?_, hz, q⟩
      rw [← sgn_neg c']
      rfl
    · have c' : ¬ z < 0 := fun h => c (decide_eq_true h)
      refine ⟨_, rfl, _, _, rfl, rfl, .inl ⟨by decide, by decide⟩, sgn z, ?_, hz, q⟩
      rw [← sgn_pos c']
      rfl
theorem ok_number_at {f : Addr} {fd : FuncData} {k : Nat} (F : Fun K "number_at" "number_at" s_number_at f fd) {tB tM tF : Nat} (g_BASE : mg "BASE" = some (.int 64 tB)) (g_MOST_FIGURES : mg "MOST_FIGURES" = some (.int 4 tM)) (g_FIRST_HEAD : mg "FIRST_HEAD" = some (.int 128 tF))
    (z_range : mg "range" = none) (z_len : mg "len" = none) : FnOk P w K mg base CX0 (k + 1) f fd ["codes", "at"] (spNA K) := by
  refine F.ok sc_number_at (fun vs H Q E h => ?_) (fun cdv A outer s H vs Q E hr h => ?_)
  · obtain ⟨a, pre, post, z, rfl, _⟩ := h
    rfl
  · obtain ⟨a, pre, post, z, rfl, hS, hz, hpre, q⟩ := h
    refine ⟨_, (pss_cons (ps_set (i := 2) sc_number_at.nd rfl (Or.inl rfl) (pe_int))
      (pss_cons (ps_set (i := 3) sc_number_at.nd rfl (Or.inl rfl) (pe_int))
      (pss_cons (ps_for PassesOwn.never rfl (pi_range2 (by rfl) z_range (pa_cons (pv 1) (pa_cons (pe_op op_add (pv 1) (pe_glob (v := .int 4) (by rfl) g_MOST_FIGURES ⟨_, rfl⟩)) pa_nil))) (pg_name (i := 4) sc_number_at.nd rfl (Or.inl rfl)) (pss_cons (ps_if (pt_cmpR (op_ge) (pv 4) (pe_callB (call_len_seq) (by rfl) z_len (by decide +kernel) (pa_cons (pv 0) pa_nil)) (nomark _)) (pss_one (ps_never)) pss_nil)
      (pss_cons (ps_set (i := 5) sc_number_at.nd rfl (Or.inl rfl) (pe_ix ix_seq (pv 0) (pv 4) (fun _ _ => rfl)))
      (pss_cons (ps_if (pt_cmpR (op_ge) (pv 5) (pe_glob (v := .int 128) (by rfl) g_FIRST_HEAD ⟨_, rfl⟩) (nomark _)) (pss_one (ps_never)) pss_nil)
      (pss_cons (ps_if (pt_cmpR (op_lt) (pv 5) (pe_glob (v := .int 64) (by rfl) g_BASE ⟨_, rfl⟩) (nomark _)) (pss_cons (ps_if (PW.pt (pw_and (pt_cmpR (op_eq) (pv 5) (pe_int) (nomark _)) (pw_and1 (pt_cmpR (op_gt) (pv 4) (pv 1) (nomark _))))) (pss_one (ps_never)) pss_nil)
      (pss_one (ps_ret (pe_tup (pa_cons (pe_op op_add (pv 2) (pe_op op_mul (pv 5) (pv 3))) (pa_cons (pe_op op_add (pv 4) (pe_int)) pa_nil)))))) pss_nil)
      (pss_cons (ps_aug (i := 2) sc_number_at.nd rfl (Or.inl rfl) (pe_op op_mul (pe_op op_sub (pv 5) (pe_glob (v := .int 64) (by rfl) g_BASE ⟨_, rfl⟩)) (pv 3)) ip_add)
      (pss_one (ps_aug (i := 3) sc_number_at.nd rfl (Or.inl rfl) (pe_glob (v := .int 64) (by rfl) g_BASE ⟨_, rfl⟩) iop_mul))))))))
      (pss_one (ps_never))))), ?_⟩
    generalize eL : pre ++ (figs z ++ post) = L at hS
    generalize ep : pre.length = p at hpre q
    have hd0 : L.drop p = figs z ++ post := by
      rw [← eL, ← ep]
      exact List.drop_left
    refine ⟨_, rfl, _, rfl, _, _, rfl, rfl, _, _, rfl, ⟨by omega, by omega, by omega, by omega⟩, ?_⟩
    refine for_range (lo := (p : Int)) (fun j σ H' => H' = H ∧ ∃ pl cd, σ = [some (.ref a), some (.int p), some (.int ((z % 64 ^ j : Nat) : Int)), some (.int ((64 ^ j : Nat) : Int)), pl, cd] ∧ (j = 0 ∨ 0 < z / 64 ^ j) ∧
      L.drop (p + j) = figs (z / 64 ^ j) ++ post ∧ (figs z).length = j + (figs (z / 64 ^ j)).length) ?_ ?_ ?_
    · refine ⟨rfl, none, none, ?_, .inl rfl, ?_, ?_⟩
      · rw [show z % 64 ^ 0 = 0 by rw [Nat.pow_zero]; omega]
        rfl
      · rw [Nat.pow_zero, Nat.div_one]
        exact hd0
      · rw [Nat.pow_zero, Nat.div_one]
        omega
    · rintro j σ H' hj ⟨rfl, pl, cd, rfl, h0, hd, hl⟩
      generalize ez : z / 64 ^ j = y at h0 hd hl
      have hzz : z % 64 ^ j + y * 64 ^ j = z := by
        rw [← ez, Nat.mul_comm]
        exact Nat.mod_add_div z (64 ^ j)
      generalize em : z % 64 ^ j = m at hzz
      have ecast : (p : Int) + (j : Int) = ((p + j : Nat) : Int) := by omega
      by_cases hy : y < 64
      · rw [figs_small hy] at hd
        obtain ⟨hlt, hat, _⟩ := drop_head (c := (y : Int)) (r := post) hd
        have hll : ((L.map V.int).length : Int) = L.length := by rw [List.length_map]
        refine ⟨_, rfl, _, rfl, _, _, rfl, hS, _, _, rfl, rfl, _, rfl, ite2 (fun c => ?_) (fun _ => ?_)⟩
        · have c' : ((L.map V.int).length : Int) ≤ (p : Int) + (j : Int) := of_decide_eq_true c
          exact absurd c' (by omega)
        refine ⟨_, rfl, _, rfl, rIx_of hS (by rw [ecast]; exact hat) ?_⟩
        refine ⟨_, rfl, _, _, rfl, rfl, _, rfl, ite2 (fun c => ?_) (fun _ => ?_)⟩
        · have c' : (128 : Int) ≤ y := of_decide_eq_true c
          exact absurd c' (by omega)
        refine ⟨_, rfl, _, _, rfl, rfl, _, rfl, ite2 (fun c => ?_) (fun c => ?_)⟩
        · refine ⟨_, rfl, rfl, _, rfl, ite2 (fun c0 => ?_) (fun c0 => ?_)⟩
          · have c0' : (y : Int) = 0 := V.int.inj (of_decide_eq_true c0)
            refine ⟨_, rfl, _, rfl, _, _, rfl, rfl, _, rfl, ite2 (fun c1 => ?_) (fun c1 => ?_)⟩
            · have c1' : (p : Int) < (p : Int) + (j : Int) := of_decide_eq_true c1
              exact absurd c0' (by omega)
            · refine ⟨_, rfl, _, rfl, _, rfl, _, _, rfl, rfl, .inl ⟨by omega, by omega⟩, _, _, rfl, rfl, _, rfl, _, _, rfl, rfl, (by show 2 ≤ sizeLine; decide), fun t ht => ?_⟩
              have e1 : (m : Int) + (y : Int) * ((64 ^ j : Nat) : Int) = (z : Int) := by
                rw [← hzz]
                omega
              have e2 : (p : Int) + (j : Int) + 1 = ((p + (figs z).length : Nat) : Int) := by
                rw [hl, figs_len1 hy]
                omega
              have q' := q t ht
              rw [← e1, ← e2] at q'
              exact q'
          · refine iteF ?_
            refine ⟨_, rfl, _, rfl, _, rfl, _, _, rfl, rfl, .inl ⟨by omega, by omega⟩, _, _, rfl, rfl, _, rfl, _, _, rfl, rfl, (by show 2 ≤ sizeLine; decide), fun t ht => ?_⟩
            have e1 : (m : Int) + (y : Int) * ((64 ^ j : Nat) : Int) = (z : Int) := by
              rw [← hzz]
              omega
            have e2 : (p : Int) + (j : Int) + 1 = ((p + (figs z).length : Nat) : Int) := by
              rw [hl, figs_len1 hy]
              omega
            have q' := q t ht
            rw [← e1, ← e2] at q'
            exact q'
        · exact absurd (decide_eq_true (show (y : Int) < 64 by omega)) c
      · rw [figs_big (by omega)] at hd
        obtain ⟨hlt, hat, hd2⟩ := drop_head (c := ((y % 64 + 64 : Nat) : Int)) (r := figs (y / 64) ++ post) hd
        have hll : ((L.map V.int).length : Int) = L.length := by rw [List.length_map]
        have hym : y % 64 < 64 := Nat.mod_lt _ (by decide)
        refine ⟨_, rfl, _, rfl, _, _, rfl, hS, _, _, rfl, rfl, _, rfl, ite2 (fun c => ?_) (fun _ => ?_)⟩
        · have c' : ((L.map V.int).length : Int) ≤ (p : Int) + (j : Int) := of_decide_eq_true c
          exact absurd c' (by omega)
        refine ⟨_, rfl, _, rfl, rIx_of hS (by rw [ecast]; exact hat) ?_⟩
        refine ⟨_, rfl, _, _, rfl, rfl, _, rfl, ite2 (fun c => ?_) (fun _ => ?_)⟩
        · have c' : (128 : Int) ≤ ((y % 64 + 64 : Nat) : Int) := of_decide_eq_true c
          exact absurd c' (by omega)
        refine ⟨_, rfl, _, _, rfl, rfl, _, rfl, ite2 (fun c => ?_) (fun c => ?_)⟩
        · have c' : ((y % 64 + 64 : Nat) : Int) < 64 := of_decide_eq_true c
          exact absurd c' (by omega)
        refine ⟨_, rfl, _, rfl, _, _, rfl, rfl, _, rfl, _, _, rfl, rfl, .inl ⟨by omega, by omega⟩, _, _, rfl, rfl, ?_⟩
        refine ⟨_, rfl, _, _, rfl, rfl, .inr ⟨by decide, by decide⟩, rfl, some (.int ((p : Int) + j)), some (.int ((y % 64 + 64 : Nat) : Int)), ?_, ?_, ?_, ?_⟩
        · have e1 : z % 64 ^ (j + 1) = m + 64 ^ j * (y % 64) := by
            rw [Nat.pow_succ, Nat.mod_mul, em, ez]
          have e2 : (m : Int) + (((y % 64 + 64 : Nat) : Int) - 64) * ((64 ^ j : Nat) : Int) = ((z % 64 ^ (j + 1) : Nat) : Int) := by
            rw [e1, show ((y % 64 + 64 : Nat) : Int) - 64 = ((y % 64 : Nat) : Int) by omega, ← Int.natCast_mul, ← Int.natCast_add, Nat.mul_comm (y % 64)]
          have e3 : ((64 ^ j : Nat) : Int) * 64 = ((64 ^ (j + 1) : Nat) : Int) := by
            rw [Nat.pow_succ]
            omega
          rw [← e2, ← e3]
          rfl
        · right
          rw [Nat.pow_succ, ← Nat.div_div_eq_div_mul, ez]
          omega
        · rw [Nat.pow_succ, ← Nat.div_div_eq_div_mul, ez]
          exact hd2
        · rw [Nat.pow_succ, ← Nat.div_div_eq_div_mul, ez, hl, figs_lenS (by omega)]
          omega
    · rintro σ H' ⟨rfl, pl, cd, rfl, h0, hd, hl⟩
      have e4 : ((p : Int) + 4 - (p : Int)).toNat = 4 := by omega
      rw [e4] at h0
      have : z / 64 ^ 4 = 0 := Nat.div_eq_of_lt (by omega)
      omega
theorem ok_signed_at {f : Addr} {fd : FuncData} (F : Fun K "signed_at" "signed_at" s_signed_at f fd) (c_number_at : Cal P w K mg base 1 "number_at" ["codes", "at"] (spNA K)) : FnOk P w K mg base CX0 2 f fd ["codes", "at"] (spSA K) := by
  refine F.ok sc_signed_at (fun vs H Q E h => ?_) (fun cdv A outer s H vs Q E hr h => ?_)
  · obtain ⟨a, pre, post, z, rfl, _⟩ := h
    rfl
  · obtain ⟨a, pre, post, z, rfl, hS, hz, hpre, q⟩ := h
    refine ⟨_, (pss_cons (ps_asg (pe_c c_number_at hr (by decide) (by rfl) (pa_cons (pv 0) (pa_cons (pv 1) pa_nil))) (pg_tup rfl (pgs_cons (pg_name (i := 2) sc_signed_at.nd rfl (Or.inl rfl)) (pgs_cons (pg_name (i := 3) sc_signed_at.nd rfl (Or.inl rfl)) pgs_nil))))
      (pss_cons (ps_if (pt_cmpR (op_eq) (pe_op op_mod (pv 2) (pe_int)) (pe_int) (nomark _)) (pss_one (ps_ret (pe_tup (pa_cons (pe_op op_sub (pe_un un_neg (pe_op op_fdiv (pv 2) (pe_int))) (pe_int)) (pa_cons (pv 3) pa_nil))))) pss_nil)
      (pss_one (ps_ret (pe_tup (pa_cons (pe_op op_fdiv (pv 2) (pe_int)) (pa_cons (pv 3) pa_nil))))))), ?_⟩
    refine ⟨_, rfl, _, rfl, a, pre, post, sgn z, rfl, hS, hz, hpre, fun t ht => ?_⟩
    refine ⟨t, _, rfl, sqT upd_same, rfl, _, _, rfl, _, _, rfl, rfl, ?_⟩
    have s1 := same_upd (o := .tup [.int (sgn z : Int), .int ((pre.length + (figs (sgn z)).length : Nat) : Int)]) ht
    refine ⟨_, rfl, _, _, rfl, rfl, (by show (0 : Int) < 2; decide), rfl, _, rfl, ite2 (fun c => ?_) (fun c => ?_)⟩
    · have c' : (sgn z : Int) % 2 = 1 := V.int.inj (of_decide_eq_true c)
      refine ⟨_, rfl, _, _, rfl, rfl, ⟨by decide, by decide⟩, _, rfl, _, _, rfl, rfl, _, rfl, (by show 2 ≤ sizeLine; decide), fun u hu => q _ u (s1.trans (same_upd hu)) (s1.free hu) ?_⟩
      rw [upd_same]
      show some (HO.tup [V.int (-((sgn z : Int) / 2) - 1), _]) = _
      have e : -((sgn z : Int) / 2) - 1 = z := by
        by_cases hn : z < 0
        · have := sgn_neg hn
          omega
        · have := sgn_pos hn
          omega
      rw [e]
    · have c' : ¬ (sgn z : Int) % 2 = 1 := fun h => c (decide_eq_true (congrArg V.int h))
      refine ⟨_, rfl, _, _, rfl, rfl, ⟨by decide, by decide⟩, _, rfl, (by show 2 ≤ sizeLine; decide), fun u hu => q _ u (s1.trans (same_upd hu)) (s1.free hu) ?_⟩
      rw [upd_same]
      show some (HO.tup [V.int ((sgn z : Int) / 2), _]) = _
      have e : (sgn z : Int) / 2 = z := by
        by_cases hn : z < 0
        · have := sgn_neg hn
          omega
        · have := sgn_pos hn
          omega
      rw [e]
end
end My

namespace My
open PySem PySem.Spec PyProof.Rows L2
theorem mul01 {c : Prop} [Decidable c] : -(2 ^ 64) < (if c then (1 : Int) else 0) ∧ (if c then (1 : Int) else 0) < 2 ^ 64 := by
  split <;> constructor <;> decide
def spBox (K : PySem.W.Frag) : Sp := fun vs H Q _ => ∃ (a : Addr) (ns : List Int) (k : Nat), vs = [.ref a, .int k] ∧ SqL K H a (ns.map V.int) ∧ k ≤ 63 ∧ ∀ H' p, Same H H' → H p = none → Bx 0 p H' → Q (.ref p) H'
def spTake : Sp := fun vs H Q _ => ∃ (b : Addr) (m : Int) (n : Nat), vs = [.ref b, .int m] ∧ 0 < m ∧ m < 1073741824 ∧ Bx n b H ∧ n ≤ 1000000 ∧ ∀ (v : Nat) H', (v : Int) < m → Aft b (n + 1) H H' → (∀ p, H p = none → H' p = none) → Q (.int v) H'
/-- a new list of so many drawn bytes -/
def spAny : Sp := fun vs H Q _ => ∃ (b : Addr) (m : Nat) (n : Nat), vs = [.ref b, .int m] ∧ m ≤ 1000 ∧ Bx n b H ∧ n ≤ 900000 ∧ ∀ (ns : List Int) H' p, ns.length = m → Aft b (n + m) H H' → H p = none → H' p = some (.lst (ns.map V.int)) → Q (.ref p) H'
section
variable {P : Program} {w : World} {K : PySem.W.Frag} {mg : Str → Option Value} {base : Heap}
theorem ok_l_box {f : Addr} {fd : FuncData} {k : Nat} (F : Fun K "_law_box" "_law_box" s_l_box f fd) (z_len : mg "len" = none) (z_abs : mg "abs" = none) (z_int : mg "int" = none) : FnOk P w K mg base CX0 (k + 1) f fd ["_law_script", "_law_k"] (spBox K) := by
  refine F.ok sc_l_box (fun vs H Q E h => ?_) (fun cdv A outer s H vs Q E hr h => ?_)
  · obtain ⟨a, ns, k, rfl, _⟩ := h
    rfl
  · obtain ⟨a, ns, j, rfl, hS, hj, q⟩ := h
    refine ⟨_, (pss_cons (ps_set (i := 2) sc_l_box.nd rfl (Or.inl rfl) (pe_ifExp (pt_cmpR (op_lt) (pv 1) (pe_callB (call_len_seq) (by rfl) z_len (by decide +kernel) (pa_cons (pv 0) pa_nil)) (nomark _)) (pe_ix ix_list (pv 0) (pv 1) (fun _ _ => rfl)) (pe_int)))
      (pss_one (ps_ret (pe_lst (pa_cons (pe_op op_mul (pe_callB (call_abs) (by rfl) z_abs (by decide +kernel) (pa_cons (pv 2) pa_nil)) (pe_callTy (call_int1) (by rfl) z_int (by decide +kernel) (pa_cons (pe_cmpR (op_ge) (pe_callB (call_abs) (by rfl) z_abs (by decide +kernel) (pa_cons (pv 2) pa_nil)) (pe_op op_pow (pe_int) (pe_int)) (nomark _)) pa_nil))) (pa_cons (pe_op op_add (pe_op op_add (pe_op op_mod (pv 2) (pe_int)) (pe_op op_mul (pe_int) (pv 1))) (pe_int)) (pa_cons (pe_int) pa_nil))))))), ?_⟩
    have fin : ∀ z : Int, ∀ (x : Int), ∀ p, H p = none → Q (.ref p) (upd H p (.lst [.int x, .int (z % 2305843009213693951 + 39373 * (j : Int) + 17), .int 0])) := fun z x p hp =>
      q _ p (same_upd hp) hp ⟨_, upd_same, _, _, _, rfl, by
        have h1 := Int.emod_nonneg z (show (2305843009213693951 : Int) ≠ 0 by decide)
        omega, by
        have h1 := Int.emod_lt_of_pos z (show (0 : Int) < 2305843009213693951 by decide)
        omega, by decide, by decide⟩
    refine ⟨_, rfl, _, rfl, a, _, rfl, .inl hS, _, _, rfl, rfl, _, rfl, ite2 (fun c => ?_) (fun c => ?_)⟩
    · have c' : (j : Int) < ((ns.map V.int).length : Int) := of_decide_eq_true c
      rw [List.length_map] at c'
      have hlt : j < ns.length := by omega
      have hat : atI (ns.map V.int) (j : Int) = some (.int ns[j]) := atI_nat (by
        rw [List.getElem?_map, List.getElem?_eq_getElem hlt]
        rfl)
      refine ⟨_, rfl, _, rfl, a, _, _, _, rfl, rfl, hS, hat, ?_⟩
      refine ⟨_, rfl, _, rfl, _, rfl, _, rfl, _, _, rfl, rfl, ⟨by decide, by decide, by decide⟩, _, _, rfl, rfl, .inr ⟨_, rfl, ?_⟩⟩
      refine ⟨_, _, rfl, rfl, .inr ?_, _, rfl, _, _, rfl, rfl, (by show (0 : Int) < 2305843009213693951; decide), _, rfl, _, _, rfl, rfl, .inl ⟨by decide, by decide⟩, _, _, rfl, rfl, _, _, rfl, rfl, (by show 3 ≤ sizeLine; decide), fun p hp => fin _ _ p hp⟩
      exact mul01
    · refine ⟨_, rfl, _, rfl, _, rfl, _, rfl, _, _, rfl, rfl, ⟨by decide, by decide, by decide⟩, _, _, rfl, rfl, .inr ⟨_, rfl, ?_⟩⟩
      refine ⟨_, _, rfl, rfl, .inr ?_, _, rfl, _, _, rfl, rfl, (by show (0 : Int) < 2305843009213693951; decide), _, rfl, _, _, rfl, rfl, .inl ⟨by decide, by decide⟩, _, _, rfl, rfl, _, _, rfl, rfl, (by show 3 ≤ sizeLine; decide), fun p hp => fin _ _ p hp⟩
      exact mul01
theorem ok_l_take {f : Addr} {fd : FuncData} {k : Nat} (F : Fun K "_law_take" "_law_take" s_l_take f fd) : FnOk P w K mg base CX0 (k + 1) f fd ["_law_box_here", "_law_many"] spTake := by
  refine F.ok sc_l_take (fun vs H Q E h => ?_) (fun cdv A outer s H vs Q E hr h => ?_)
  · obtain ⟨b, m, n, rfl, _⟩ := h
    rfl
  · obtain ⟨b, m, n, rfl, m0, m1, ⟨xs, hb, x, y, c, rfl, y0, y1, c0, c1⟩, hn, q⟩ := h
    refine ⟨_, (pss_cons (ps_if (pt_cmpR (op_gt) (pe_ix ix_list (pv 0) (pe_int) (fun _ _ => rfl)) (pe_int) (nomark _)) (pss_cons (ps_set (i := 2) sc_l_take.nd rfl (Or.inl rfl) (pe_op op_mod (pe_ix ix_list (pv 0) (pe_int) (fun _ _ => rfl)) (pv 1)))
      (pss_cons (ps_asg (pe_op op_fdiv (pe_ix ix_list (pv 0) (pe_int) (fun _ _ => rfl)) (pv 1)) (pg_sub (pv 0) (pe_int) set_list))
      (pss_one (ps_ret (pv 2))))) pss_nil)
      (pss_cons (ps_asg (pe_op op_add (pe_ix ix_list (pv 0) (pe_int) (fun _ _ => rfl)) (pe_int)) (pg_sub (pv 0) (pe_int) set_list))
      (pss_cons (ps_set (i := 3) sc_l_take.nd rfl (Or.inl rfl) (pe_op op_mod (pe_op op_mul (pe_op op_add (pe_ix ix_list (pv 0) (pe_int) (fun _ _ => rfl)) (pe_op op_mul (pe_int) (pe_ix ix_list (pv 0) (pe_int) (fun _ _ => rfl)))) (pe_op op_add (pe_int) (pe_ix ix_list (pv 0) (pe_int) (fun _ _ => rfl)))) (pe_int)))
      (pss_cons (ps_set (i := 4) sc_l_take.nd rfl (Or.inl rfl) (pe_op op_mod (pe_op op_mul (pe_op op_add (pe_op op_add (pv 3) (pe_ix ix_list (pv 0) (pe_int) (fun _ _ => rfl))) (pe_op op_fdiv (pe_ix ix_list (pv 0) (pe_int) (fun _ _ => rfl)) (pe_int))) (pe_op op_add (pe_op op_mod (pv 3) (pe_int)) (pe_int))) (pe_int)))
      (pss_one (ps_ret (pe_op op_mod (pe_op op_fdiv (pe_op op_mod (pe_op op_add (pe_op op_mul (pv 4) (pe_int)) (pv 3)) (pe_int)) (pe_int)) (pv 1)))))))), ?_⟩
    have q0 := q
    replace q : ∀ (t : Int) H', 0 ≤ t → t < m → Aft b (n + 1) H H' → (∀ p, H p = none → H' p = none) → Q (.int t) H' := fun t H' t0 t1 af fr => by
      have h := q0 t.toNat H' (by omega) af fr
      rw [Int.toNat_of_nonneg t0] at h
      exact h
    have fr : ∀ {o : HO}, ∀ p, H p = none → upd H b o p = none := fun p hp => by
      rw [upd_ne (ne_of_none hb hp).symm]
      exact hp
    refine ⟨_, rfl, b, _, _, _, rfl, rfl, sqL hb, rfl, _, _, rfl, rfl, _, rfl, ite2 (fun t => ?_) (fun t => ?_)⟩
    · refine ⟨_, rfl, b, _, _, _, rfl, rfl, sqL hb, rfl, _, rfl, _, _, rfl, rfl, m0, ?_⟩
      refine ⟨_, rfl, b, _, _, _, rfl, rfl, sqL hb, rfl, _, rfl, _, _, rfl, rfl, ⟨m0, m1⟩, _, rfl, b, _, _, 0, rfl, rfl, hb, rfl, ?_⟩
      refine ⟨_, rfl, q _ _ (Int.emod_nonneg _ (by omega)) (Int.emod_lt_of_pos _ m0) ⟨⟨_, upd_same, _, _, _, rfl, y0, y1, c0, by omega⟩, But.upd⟩ fr⟩
    · refine ⟨_, rfl, b, _, _, _, rfl, rfl, sqL hb, rfl, _, _, rfl, rfl, _, rfl, b, _, _, 2, rfl, rfl, hb, rfl, ?_⟩
      have hb1 : upd H b (.lst [.int x, .int y, .int (c + 1)]) b = some (.lst [.int x, .int y, .int (c + 1)]) := upd_same
      refine ⟨_, rfl, b, _, _, _, rfl, rfl, sqL hb1, rfl, _, rfl, b, _, _, _, rfl, rfl, sqL hb1, rfl, _, _, rfl, rfl, .inl ⟨by decide, by decide⟩, _, _, rfl, rfl, _, rfl, b, _, _, _, rfl, rfl, sqL hb1, rfl, _, _, rfl, rfl, _, _, rfl, rfl, .inr ⟨by omega, by omega⟩, _, _, rfl, rfl, (by show (0 : Int) < 2147483647; decide), ?_⟩
      refine ⟨_, rfl, _, rfl, b, _, _, _, rfl, rfl, sqL hb1, rfl, _, _, rfl, rfl, _, rfl, b, _, _, _, rfl, rfl, sqL hb1, rfl, _, _, rfl, rfl, ⟨by decide, by decide⟩, _, _, rfl, rfl, _, rfl, _, _, rfl, rfl, (by show (0 : Int) < 40009; decide), _, _, rfl, rfl, _, _, rfl, rfl, .inr ?_, _, _, rfl, rfl, (by show (0 : Int) < 2147483629; decide), ?_⟩
      · generalize hg : (y + 48271 * (c + 1)) * (39373 + (c + 1)) % 2147483647 = g
        have h1 := Int.emod_nonneg g (show (40009 : Int) ≠ 0 by decide)
        have h2 := Int.emod_lt_of_pos g (show (0 : Int) < 40009 by decide)
        constructor <;> omega
      refine ⟨_, rfl, _, _, rfl, rfl, .inr ⟨by decide, by decide⟩, _, rfl, _, _, rfl, rfl, _, _, rfl, rfl, (by show (0 : Int) < 2147483587; decide), _, _, rfl, rfl, ⟨by decide, by decide⟩, _, rfl, _, _, rfl, rfl, m0, ?_⟩
      exact q _ _ (Int.emod_nonneg _ (by omega)) (Int.emod_lt_of_pos _ m0) ⟨⟨_, upd_same, _, _, _, rfl, y0, y1, by omega, by omega⟩, But.upd⟩ fr
theorem ok_l_bytes {f : Addr} {fd : FuncData} {k : Nat} (F : Fun K "_law_bytes" "_law_bytes" s_l_bytes f fd) : FnOk P w K mg base CX0 (k + 1) f fd ["_law_figure"] spNB := by
  refine F.ok sc_l_bytes (fun vs H Q E h => ?_) (fun cdv A outer s H vs Q E hr h => ?_)
  · obtain ⟨z, rfl, _⟩ := h
    rfl
  · obtain ⟨z, rfl, hz, q⟩ := h
    refine ⟨_, (pss_cons (ps_set (i := 1) sc_l_bytes.nd rfl (Or.inl rfl) (pe_lst pa_nil))
      (pss_cons (ps_while PassesOwn.never (pt_cmpR (op_gt) (pv 0) (pe_int) (nomark _)) (pss_cons (ps_expr (pe_bm PySem.F.plainAttrs_list PySem.F.slot_list_append PySem.F.type_list_append mt_append (pv 1) (pa_cons (pe_op op_add (pe_int) (pe_op op_mod (pv 0) (pe_int))) pa_nil)))
      (pss_one (ps_set (i := 0) sc_l_bytes.nd rfl (Or.inl rfl) (pe_op op_fdiv (pv 0) (pe_int))))))
      (pss_one (ps_ret (pe_op op_cat (pv 1) (pe_lst (pa_cons (pv 0) pa_nil))))))), ?_⟩
    refine ⟨Nat.zero_le _, fun o no => ?_⟩
    refine while_by (fun σ H' => ∃ (acc : List Int) (r : Nat), σ = [some (.int r), some (.ref o)] ∧ Same H H' ∧ H' o = some (.lst (acc.map V.int)) ∧ acc ++ figs r = figs z ∧ acc.length + r ≤ z)
      (fun σ _ => match σ with | [some (.int r), _] => r.toNat | _ => 0) ⟨[], z, rfl, same_upd no, upd_same, rfl, by show 0 + z ≤ z; omega⟩ ?_
      (fun σ H Q Q' m ⟨x, h1, i, j, e1, e2, k, e3, q⟩ => ⟨x, h1, i, j, e1, e2, k, e3, m _ _ q⟩)
    rintro σ H' ⟨acc, r, rfl, sm, eo, ef, el⟩
    refine ⟨_, rfl, _, _, rfl, rfl, _, rfl, ite2 (fun c => ?_) (fun c => ?_)⟩
    · have c' : (63 : Int) < r := of_decide_eq_true c
      refine ⟨.ref o, rfl, .inl ⟨rfl, _, sqL eo⟩, _, rfl, _, _, rfl, rfl, (by show (0 : Int) < 64; decide), _, _, rfl, rfl, o, _, _, rfl, rfl, eo, ?_, ?_⟩
      · rw [List.length_map]
        exact Nat.lt_of_le_of_lt (by omega) (show 16777215 < sizeLine by decide)
      · refine ⟨_, rfl, _, _, rfl, rfl, ⟨by decide, by decide⟩, ⟨acc ++ [((r % 64 + 64 : Nat) : Int)], r / 64, ?_, ?_, ?_, ?_, ?_⟩, ?_⟩
        · rfl
        · exact fun b x e => by
            rw [upd_ne (ne_of_none e no)]
            exact sm _ _ e
        · rw [upd_same, List.map_append]
          show some (HO.lst (_ ++ [V.int (64 + (r : Int) % 64)])) = some (HO.lst (_ ++ [V.int ((r % 64 + 64 : Nat) : Int)]))
          rw [show (64 + (r : Int) % 64) = ((r % 64 + 64 : Nat) : Int) by omega]
        · rw [List.append_assoc, List.singleton_append, ← figs_big (by omega)]
          exact ef
        · rw [List.length_append]
          show acc.length + 1 + r / 64 ≤ z
          omega
        · show ((r : Int) / 64).toNat < (r : Int).toNat
          omega
    · have c' : ¬ (63 : Int) < r := fun h => c (decide_eq_true h)
      have hr : r < 64 := by omega
      refine ⟨.ref o, rfl, _, rfl, (by show 1 ≤ sizeLine; decide), fun u hu => ⟨o, u, acc.map V.int, [.int r], rfl, rfl, ?_, upd_same, ?_, fun p hp => q _ p ?_ ?_ ?_⟩⟩
      · rw [upd_ne (ne_of_none eo hu)]
        exact eo
      · rw [List.length_map]
        exact Nat.le_trans (show acc.length + 1 ≤ 16777216 by omega) (by decide)
      · exact (sm.trans (same_upd hu)).trans (same_upd hp)
      · exact (sm.trans (same_upd hu)).free hp
      · rw [upd_same, ← ef, figs_small hr, List.map_append]
        rfl
theorem ok_l_signed {f : Addr} {fd : FuncData} (F : Fun K "_law_signed" "_law_signed" s_l_signed f fd) (c_l_bytes : Cal P w K mg base 1 "_law_bytes" ["_law_figure"] spNB) : FnOk P w K mg base CX0 2 f fd ["_law_step"] spSB := by
  refine F.ok sc_l_signed (fun vs H Q E h => ?_) (fun cdv A outer s H vs Q E hr h => ?_)
  · obtain ⟨z, rfl, _⟩ := h
    rfl
  · obtain ⟨z, rfl, hz, q⟩ := h
    refine ⟨_, (pss_one (ps_ret (pe_c c_l_bytes hr (by first | decide | exact Nat.le_refl _) (by rfl) (pa_cons (pe_ifExp (pt_cmpR (op_ge) (pv 0) (pe_int) (nomark _)) (pe_op op_mul (pe_int) (pv 0)) (pe_op op_sub (pe_op op_mul (pe_un un_neg (pe_int)) (pv 0)) (pe_int))) pa_nil)))), ?_⟩
    refine ⟨_, rfl, _, _, rfl, rfl, _, rfl, ite2 (fun c => ?_) (fun c => ?_)⟩
    · have c' : 0 ≤ z := of_decide_eq_true c
      refine ⟨_, rfl, _, _, rfl, rfl, .inl ⟨by decide, by decide⟩, sgn z, ?_, hz, q⟩
      rw [← sgn_pos (by omega)]
      rfl
    · have c' : ¬ 0 ≤ z := fun h => c (decide_eq_true h)
      refine ⟨_, rfl, _, rfl, _, _, rfl, rfl, .inl ⟨by decide, by decide⟩, _, _, rfl, rfl, sgn z, ?_, hz, q⟩
      rw [← sgn_neg (by omega)]
      rfl
theorem ok_l_any_bytes {f : Addr} {fd : FuncData} (F : Fun K "_law_any_bytes" "_law_any_bytes" s_l_any_bytes f fd) (z_range : mg "range" = none) (c_l_take : Cal P w K mg base 1 "_law_take" ["_law_box_here", "_law_many"] spTake) : FnOk P w K mg base CX0 2 f fd ["_law_box_here", "_law_many"] spAny := by
  refine F.ok sc_l_any_bytes (fun vs H Q E h => ?_) (fun cdv A outer s H vs Q E hr h => ?_)
  · obtain ⟨b, m, n, rfl, _⟩ := h
    rfl
  · obtain ⟨b, m, n, rfl, hm, hb, hn, q⟩ := h
    refine ⟨_, (pss_one (ps_ret (pe_lc (own := [("_law_k", 2)]) (g := (gName 2)) (tt := tYes) rfl sc_l_any_bytes.nd (pi_range1 (by rfl) z_range (pa_cons (pv 1) pa_nil)) (blkOk_by (own := [("_law_k", 2)]) (N := ["_law_box_here", "_law_many", "_law_k"]) (sc := defScope s_l_any_bytes) (by decide +kernel)) (fun _ _ _ _ _ => (pg_name (i := 2) sc_l_any_bytes.nd rfl (Or.inl rfl))) (fun _ _ _ _ _ => pts_nil) (fun _ _ _ _ _ => (pe_c c_l_take hr (by first | decide | exact Nat.le_refl _) (by rfl) (pa_cons (pv 0) (pa_cons (pe_int) pa_nil))))))), ?_⟩
    refine ⟨_, rfl, _, rfl, by omega, by omega, fun D hD => ?_⟩
    refine lc_range (lo := 0) (fun i H' => ∃ ns : List Int, ns.length = i ∧ Aft b (n + i) H H' ∧ H' D = some (.lst (ns.map V.int))) ⟨[], rfl, ⟨hb.new hD, Same.but (same_upd hD)⟩, upd_same⟩ ?_ ?_
    · rintro i H' hi ⟨ns, hl, af, eD⟩
      have hDb : D ≠ b := hb.ne hD
      refine ⟨rfl, _, rfl, b, 256, n + i, rfl, by decide, by decide, af.box, by omega, fun v H2 v1 af2 _ => ?_⟩
      have eD2 := af2.get eD hDb
      refine ⟨_, eD2, by rw [List.length_map]; exact line_gt (by omega), ns ++ [(v : Int)], by rw [List.length_append, hl]; rfl, ⟨?_, ?_⟩, ?_⟩
      · obtain ⟨xs, e, r⟩ := af2.box
        exact ⟨xs, by rw [upd_ne hDb.symm]; exact e, r⟩
      · exact (fun a o na e => by
          rw [upd_ne (ne_of_none e hD)]
          exact (af.trans af2).but a o na e)
      · rw [upd_same, List.map_append]
        rfl
    · rintro H' ⟨ns, hl, af, eD⟩
      have e : ((m : Int)).toNat = m := by omega
      rw [e] at hl af
      exact q ns H' D hl af hD eD
end
end My

namespace My
open PySem PySem.Spec PyProof.Rows L2
/-! ### things that are the same, kind by kind -/
def Scal (x : V) : Prop := x = .non ∨ (∃ b, x = .bl b) ∨ (∃ i, x = .int i) ∨ ∃ z, x = .str z
/-- x and y are the same plain thing, or both lists, or both tuples, of as many things that are so by R -/
def Up (K : PySem.W.Frag) (R : Hp → V → V → Prop) : Hp → V → V → Prop := fun H x y => (Scal x ∧ x = y) ∨ ∃ (a b : Addr) (xs ys : List V), x = .ref a ∧ y = .ref b ∧ xs.length = ys.length ∧ xs.length ≤ 100000 ∧
  (∀ (i : Nat) (u v : V), xs[i]? = some u → ys[i]? = some v → R H u v) ∧ ((SqL K H a xs ∧ SqL K H b ys) ∨ (SqT K H a xs ∧ SqT K H b ys))
def Twin (K : PySem.W.Frag) : Nat → Hp → V → V → Prop
  | 0 => fun _ _ _ => False
  | n + 1 => Up K (Twin K n)
theorem Twin.same {K : PySem.W.Frag} : ∀ {n : Nat} {H H' : Hp} {x y : V}, Same H H' → Twin K n H x y → Twin K n H' x y
  | 0, _, _, _, _, _, h => h.elim
  | n + 1, H, H', x, y, s, h => by
    rcases h with h | ⟨a, b, xs, ys, e1, e2, l1, l2, it, q⟩
    · exact .inl h
    · exact .inr ⟨a, b, xs, ys, e1, e2, l1, l2, fun i u v h1 h2 => Twin.same s (it i u v h1 h2), q.elim (fun q => .inl ⟨s.seq q.1, s.seq q.2⟩) (fun q => .inr ⟨sameT s q.1, sameT s q.2⟩)⟩
theorem twin_int {K : PySem.W.Frag} {n : Nat} {H : Hp} (i : Int) : Twin K (n + 1) H (.int i) (.int i) := .inl ⟨.inr (.inr (.inl ⟨i, rfl⟩)), rfl⟩
theorem twin_ints {K : PySem.W.Frag} {n : Nat} {H : Hp} {ns : List Int} (i : Nat) (u v : V) (h1 : (ns.map V.int)[i]? = some u) (h2 : (ns.map V.int)[i]? = some v) : Twin K (n + 1) H u v := by
  rw [h1] at h2
  cases h2
  rw [List.getElem?_map] at h1
  cases e : ns[i]? with
  | none => rw [e] at h1; cases h1
  | some z =>
    rw [e] at h1
    cases h1
    exact twin_int z
theorem twin_intL {K : PySem.W.Frag} {n : Nat} {H : Hp} {ns : List Int} {a b : Addr} (hl : ns.length ≤ 100000) (ha : SqL K H a (ns.map V.int)) (hb : SqL K H b (ns.map V.int)) : Twin K (n + 2) H (.ref a) (.ref b) :=
  .inr ⟨a, b, _, _, rfl, rfl, rfl, by rw [List.length_map]; exact hl, twin_ints, .inl ⟨ha, hb⟩⟩
theorem twin_intT {K : PySem.W.Frag} {n : Nat} {H : Hp} {ns : List Int} {a b : Addr} (hl : ns.length ≤ 100000) (ha : SqT K H a (ns.map V.int)) (hb : SqT K H b (ns.map V.int)) : Twin K (n + 2) H (.ref a) (.ref b) :=
  .inr ⟨a, b, _, _, rfl, rfl, rfl, by rw [List.length_map]; exact hl, twin_ints, .inr ⟨ha, hb⟩⟩
def spSm (R : Hp → V → V → Prop) : Sp := fun vs H Q _ => ∃ x y, vs = [x, y] ∧ R H x y ∧ ∀ H', Same H H' → Q (.bl true) H'
theorem walk_zipT {K : PySem.W.Frag} {a b : Addr} {xs ys : List V} {n : Nat} (hn : n = min xs.length ys.length) : Walk (RZ.ItzT K a b) n (fun H => SqT K H a xs ∧ SqT K H b ys) (YPair (fun i => xs[i]?) (fun i => ys[i]?)) := by
  subst hn
  refine ⟨fun i _ hi q => ?_, fun _ q => ⟨xs, ys, q.1, q.2, by omega⟩, fun i H v H' _ q y => ?_⟩
  · have h1 : i < xs.length := by omega
    have h2 : i < ys.length := by omega
    exact ⟨xs, ys, xs[i], ys[i], q.1, q.2, by simp [h1], by simp [h2]⟩
  · obtain ⟨T, x, z, h1, h2, h3, h4, h5⟩ := y
    exact ⟨T, x, z, h1, h2, h3, h4 xs q.1, h5 ys q.2⟩
theorem tyL {K : PySem.W.Frag} {H : Hp} {a : Addr} {xs : List V} (h : SqL K H a xs) : TyX K H (.ref a) (.type "list") := by
  rcases h with (h | ⟨o, h⟩) | ⟨o, its, n, h1, h2, _⟩
  · exact .base (.lst h)
  · exact .base (.frz h)
  · exact .kList h1 h2
theorem tyT {K : PySem.W.Frag} {H : Hp} {a : Addr} {xs : List V} (h : SqT K H a xs) : TyX K H (.ref a) (.type "tuple") := by
  rcases h with (h | ⟨o, h⟩) | ⟨o, its, n, h1, h2, _⟩
  · exact .base (.tup h)
  · exact .fTuple h
  · exact .kTuple h1 h2
theorem scal_ty {K : PySem.W.Frag} {H : Hp} {x : V} (h : Scal x) : ∃ (t : String) (b1 b2 : Bool), TyX K H x (.type t) ∧ kitB t "list" = some false ∧ kitB t "tuple" = some false ∧ kitB t "bool" = some b1 ∧ kitB t "int" = some b2 ∧ scal x x = true := by
  rcases h with rfl | ⟨b, rfl⟩ | ⟨i, rfl⟩ | ⟨z, rfl⟩
  · exact ⟨"NoneType", false, false, .base .non, by decide +kernel, by decide +kernel, by decide +kernel, by decide +kernel, rfl⟩
  · exact ⟨"bool", true, true, .base (.bl b), by decide +kernel, by decide +kernel, by decide +kernel, by decide +kernel, rfl⟩
  · exact ⟨"int", false, true, .base (.int i), by decide +kernel, by decide +kernel, by decide +kernel, by decide +kernel, rfl⟩
  · exact ⟨"str", false, false, .base (.str z), by decide +kernel, by decide +kernel, by decide +kernel, by decide +kernel, rfl⟩
theorem kit2 {K : PySem.W.Frag} {t a b : String} {p q : Bool} (h1 : kitB t a = some p) (h2 : kitB t b = some q) : PySem.W.kitAny K (.type t) [.type a, .type b] = some (p || q) := by
  refine kitAny_cons (kit_ty h1) (fun e => ?_) (fun e => by rw [e]; rfl)
  rw [e]
  exact kitAny_cons (kit_ty h2) (fun e => by rw [e]; rfl) (fun e => by rw [e]; rfl)
theorem all_true (n : Nat) : (List.replicate n true).all id = true := by
  induction n with
  | zero => rfl
  | succ n ih => rw [List.replicate_succ, List.all_cons, ih]; rfl
theorem rep_more {n : Nat} : List.replicate n (V.bl true) ++ [V.bl true] = List.replicate (n + 1) (V.bl true) := by
  rw [← List.replicate_succ']
theorem same_but {H H4 : Hp} {D : Addr} {o : HO} (s : Same H H4) (h : H D = none) : Same H (upd H4 D o) := fun b x e => by
  rw [upd_ne (ne_of_none e h)]
  exact s _ _ e
section
variable {P : Program} {w : World} {K : PySem.W.Frag} {mg : Str → Option Value} {base : Heap}
theorem ok_l_same {f : Addr} {fd : FuncData} {n : Nat} (F : Fun K "_law_same" "_law_same" s_l_same f fd) (z_isinstance : mg "isinstance" = none) (z_list : mg "list" = none) (z_tuple : mg "tuple" = none) (z_bool : mg "bool" = none) (z_int : mg "int" = none) (z_len : mg "len" = none) (z_all : mg "all" = none) (z_zip : mg "zip" = none)
    (c_l_same : Cal P w K mg base n "_law_same" ["_law_found", "_law_due"] (spSm (Twin K n))) : FnOk P w K mg base CX0 (n + 1) f fd ["_law_found", "_law_due"] (spSm (Twin K (n + 1))) := by
  refine F.ok sc_l_same (fun vs H Q E h => ?_) (fun cdv A outer s H vs Q E hr h => ?_)
  · obtain ⟨x, y, rfl, _⟩ := h
    rfl
  · obtain ⟨x, y, rfl, hT, q⟩ := h
    refine ⟨_, (pss_cons (ps_if (pt_val (pe_callB (call_isiT) (by rfl) z_isinstance (by decide +kernel) (pa_cons (pv 1) (pa_cons (pe_tup (pa_cons (pe_bltn (v := .ty "list") (by rfl) z_list (by decide +kernel) rfl) (pa_cons (pe_bltn (v := .ty "tuple") (by rfl) z_tuple (by decide +kernel) rfl) pa_nil))) pa_nil)))) (pss_cons (ps_if (PW.pt (pw_or (pt_cmpR (op_ne) (pe_callB (call_isi) (by rfl) z_isinstance (by decide +kernel) (pa_cons (pv 0) (pa_cons (pe_bltn (v := .ty "list") (by rfl) z_list (by decide +kernel) rfl) pa_nil))) (pe_callB (call_isi) (by rfl) z_isinstance (by decide +kernel) (pa_cons (pv 1) (pa_cons (pe_bltn (v := .ty "list") (by rfl) z_list (by decide +kernel) rfl) pa_nil))) (nomark _)) (pw_or1 (pt_cmpR (op_ne) (pe_callB (call_isi) (by rfl) z_isinstance (by decide +kernel) (pa_cons (pv 0) (pa_cons (pe_bltn (v := .ty "tuple") (by rfl) z_tuple (by decide +kernel) rfl) pa_nil))) (pe_callB (call_isi) (by rfl) z_isinstance (by decide +kernel) (pa_cons (pv 1) (pa_cons (pe_bltn (v := .ty "tuple") (by rfl) z_tuple (by decide +kernel) rfl) pa_nil))) (nomark _))))) (pss_one (ps_ret (pe_bl))) pss_nil)
      (pss_one (ps_ret (pe_and (pe_cmpR (op_eq) (pe_callB (call_len_seq) (by rfl) z_len (by decide +kernel) (pa_cons (pv 0) pa_nil)) (pe_callB (call_len_seq) (by rfl) z_len (by decide +kernel) (pa_cons (pv 1) pa_nil)) (nomark _)) (pe_one (pe_callB (cr_all rfl) (by rfl) z_all (by decide +kernel) (pa_cons (pe_lc (own := [("_law_one", 2), ("_law_other", 3)]) (g := (gTup K 2 (gCons (gName 2) (gCons (gName 3) gNil)))) (tt := tYes) rfl sc_l_same.nd (RZ.pi_zipA (by rfl) z_zip (pa_cons (pv 0) (pa_cons (pv 1) pa_nil))) (blkOk_by (own := [("_law_one", 2), ("_law_other", 3)]) (N := ["_law_found", "_law_due", "_law_one", "_law_other", "_law_fine"]) (sc := defScope s_l_same) (by decide +kernel)) (fun _ _ _ _ _ => (pg_tup rfl (pgs_cons (pg_name (i := 2) sc_l_same.nd rfl (Or.inl rfl)) (pgs_cons (pg_name (i := 3) sc_l_same.nd rfl (Or.inl rfl)) pgs_nil)))) (fun _ _ _ _ _ => pts_nil) (fun _ _ _ _ _ => (pe_c c_l_same hr (by first | decide | exact Nat.le_refl _) (by rfl) (pa_cons (pv 2) (pa_cons (pv 3) pa_nil))))) pa_nil))))))) pss_nil)
      (pss_cons (ps_set (i := 4) sc_l_same.nd rfl (Or.inl rfl) (pe_and (pe_cmpR (op_eq) (pe_callB (call_isi) (by rfl) z_isinstance (by decide +kernel) (pa_cons (pv 0) (pa_cons (pe_bltn (v := .ty "bool") (by rfl) z_bool (by decide +kernel) rfl) pa_nil))) (pe_callB (call_isi) (by rfl) z_isinstance (by decide +kernel) (pa_cons (pv 1) (pa_cons (pe_bltn (v := .ty "bool") (by rfl) z_bool (by decide +kernel) rfl) pa_nil))) (nomark _)) (pe_one (pe_cmpR (op_eq) (pe_callB (call_isi) (by rfl) z_isinstance (by decide +kernel) (pa_cons (pv 0) (pa_cons (pe_bltn (v := .ty "int") (by rfl) z_int (by decide +kernel) rfl) pa_nil))) (pe_callB (call_isi) (by rfl) z_isinstance (by decide +kernel) (pa_cons (pv 1) (pa_cons (pe_bltn (v := .ty "int") (by rfl) z_int (by decide +kernel) rfl) pa_nil))) (nomark _)))))
      (pss_one (ps_ret (pe_and (pv 4) (pe_one (pe_cmpR (op_eq) (pv 0) (pv 1) (nomark _)))))))), ?_⟩
    refine ⟨_, rfl, (by show 2 ≤ sizeLine; decide), fun tp htp => ?_⟩
    have s1 : Same H (upd H tp (.tup [.ty "list", .ty "tuple"])) := same_upd htp
    have hT1 : Twin K (n + 1) (upd H tp (.tup [.ty "list", .ty "tuple"])) x y := Twin.same s1 hT
    have hcs : Paired ClsV [V.ty "list", V.ty "tuple"] [Value.type "list", Value.type "tuple"] := .cons (.ty _) (.cons (.ty _) .nil)
    rcases hT1 with ⟨hs, rfl⟩ | ⟨a, b, xs, ys, rfl, rfl, hl, hlm, it, hq⟩
    · obtain ⟨t, b1, b2, ty, k1, k2, k3, k4, sc⟩ := scal_ty (K := K) (H := upd H tp (.tup [.ty "list", .ty "tuple"])) hs
      refine ⟨x, tp, _, _, _, _, rfl, upd_same, hcs, ty, kit2 k1 k2, _, rfl, iteF ?_⟩
      refine ⟨_, rfl, _, _, _, _, _, rfl, .ty _, ty, kit_ty k3, _, rfl, _, _, _, _, _, rfl, .ty _, ty, kit_ty k3, rfl, _, rfl, ite2 (fun _ => ?_) (fun h => absurd (decide_eq_true rfl) h)⟩
      refine ⟨_, rfl, _, _, _, _, _, rfl, .ty _, ty, kit_ty k4, _, rfl, _, _, _, _, _, rfl, .ty _, ty, kit_ty k4, rfl, ?_⟩
      refine ⟨_, rfl, _, rfl, ite2 (fun _ => ?_) (fun h => absurd (decide_eq_true rfl) h)⟩
      refine ⟨_, rfl, _, rfl, sc, ?_⟩
      have q' := q _ s1
      rw [← decide_eq_true (rfl : x = x)] at q'
      exact q'
    · rcases hq with ⟨ha, hb⟩ | ⟨ha, hb⟩
      · have ka : kitB "list" "list" = some true := by decide +kernel
        have kb : kitB "list" "tuple" = some false := by decide +kernel
        refine ⟨_, tp, _, _, _, _, rfl, upd_same, hcs, tyL hb, kit2 ka kb, _, rfl, iteT ?_⟩
        refine ⟨_, rfl, _, _, _, _, _, rfl, .ty _, tyL ha, kit_ty ka, _, rfl, _, _, _, _, _, rfl, .ty _, tyL hb, kit_ty ka, rfl, _, rfl, iteNS rfl ?_⟩
        refine ⟨_, rfl, _, _, _, _, _, rfl, .ty _, tyL ha, kit_ty kb, _, rfl, _, _, _, _, _, rfl, .ty _, tyL hb, kit_ty kb, rfl, _, rfl, iteNS rfl ?_⟩
        refine ⟨_, rfl, a, xs, rfl, .inl ha, _, rfl, b, ys, rfl, .inl hb, rfl, _, rfl, ite2 (fun _ => ?_) (fun h => absurd (decide_eq_true (by rw [hl])) h)⟩
        refine ⟨_, rfl, _, rfl, a, b, xs, ys, rfl, .inl ⟨ha, hb, fun D hD => ?_⟩⟩
        generalize hH1 : upd H tp (.tup [.ty "list", .ty "tuple"]) = H1 at *
        refine lc_it (walk_zip (K := K) (a := a) (b := b) (xs := xs) (ys := ys) (n := xs.length) (by omega)) (fun i H' => Same H1 H' ∧ H' D = some (.lst (List.replicate i (.bl true)))) ⟨same_upd hD, upd_same⟩ (fun i H' _ p => ⟨p.1.seq ha, p.1.seq hb⟩) ?_ ?_
        · rintro i v H2 H3 hi ⟨sm, eD⟩ ⟨T, u, v', rfl, nT, rfl, e1, e2⟩
          refine ⟨T, _, rfl, sqT upd_same, rfl, _, _, rfl, _, _, rfl, rfl, rfl, _, rfl, _, rfl, u, v', rfl, Twin.same (sm.trans (same_upd nT)) (it i u v' e1 e2), fun H4 s4 => ?_⟩
          have s5 := (same_upd (o := .tup [u, v']) nT).trans s4
          refine ⟨_, s5 _ _ eD, by rw [List.length_replicate]; exact line_gt (by omega), same_but (sm.trans s5) hD, ?_⟩
          rw [upd_same, rep_more]
        · rintro H2 ⟨sm, eD⟩
          refine ⟨D, List.replicate xs.length true, rfl, by rw [List.map_replicate]; exact sqL eD, ?_⟩
          rw [all_true]
          exact q _ (s1.trans sm)
      · have ka : kitB "tuple" "list" = some false := by decide +kernel
        have kb : kitB "tuple" "tuple" = some true := by decide +kernel
        refine ⟨_, tp, _, _, _, _, rfl, upd_same, hcs, tyT hb, kit2 ka kb, _, rfl, iteT ?_⟩
        refine ⟨_, rfl, _, _, _, _, _, rfl, .ty _, tyT ha, kit_ty ka, _, rfl, _, _, _, _, _, rfl, .ty _, tyT hb, kit_ty ka, rfl, _, rfl, iteNS rfl ?_⟩
        refine ⟨_, rfl, _, _, _, _, _, rfl, .ty _, tyT ha, kit_ty kb, _, rfl, _, _, _, _, _, rfl, .ty _, tyT hb, kit_ty kb, rfl, _, rfl, iteNS rfl ?_⟩
        refine ⟨_, rfl, a, xs, rfl, .inr ha, _, rfl, b, ys, rfl, .inr hb, rfl, _, rfl, ite2 (fun _ => ?_) (fun h => absurd (decide_eq_true (by rw [hl])) h)⟩
        refine ⟨_, rfl, _, rfl, a, b, xs, ys, rfl, .inr ⟨ha, hb, fun D hD => ?_⟩⟩
        generalize hH1 : upd H tp (.tup [.ty "list", .ty "tuple"]) = H1 at *
        refine lc_it (walk_zipT (K := K) (a := a) (b := b) (xs := xs) (ys := ys) (n := xs.length) (by omega)) (fun i H' => Same H1 H' ∧ H' D = some (.lst (List.replicate i (.bl true)))) ⟨same_upd hD, upd_same⟩ (fun i H' _ p => ⟨sameT p.1 ha, sameT p.1 hb⟩) ?_ ?_
        · rintro i v H2 H3 hi ⟨sm, eD⟩ ⟨T, u, v', rfl, nT, rfl, e1, e2⟩
          refine ⟨T, _, rfl, sqT upd_same, rfl, _, _, rfl, _, _, rfl, rfl, rfl, _, rfl, _, rfl, u, v', rfl, Twin.same (sm.trans (same_upd nT)) (it i u v' e1 e2), fun H4 s4 => ?_⟩
          have s5 := (same_upd (o := .tup [u, v']) nT).trans s4
          refine ⟨_, s5 _ _ eD, by rw [List.length_replicate]; exact line_gt (by omega), same_but (sm.trans s5) hD, ?_⟩
          rw [upd_same, rep_more]
        · rintro H2 ⟨sm, eD⟩
          refine ⟨D, List.replicate xs.length true, rfl, by rw [List.map_replicate]; exact sqL eD, ?_⟩
          rw [all_true]
          exact q _ (s1.trans sm)
theorem cal_same0 {f : Addr} {fd : FuncData} (gm : mg "_law_same" = some (.ref f)) (kp : PySem.W.keepIn K (.ref f) = true) (bs : Binds K fd ["_law_found", "_law_due"] []) : Cal P w K mg base 0 "_law_same" ["_law_found", "_law_due"] (spSm (Twin K 0)) :=
  ⟨f, fd, ⟨fun vs H Q E h => by obtain ⟨x, y, rfl, _⟩ := h; rfl, fun A outer s H args us vs Q E _ _ _ _ h => by obtain ⟨x, y, rfl, h, _⟩ := h; exact h.elim⟩, gm, kp, bs⟩
end
end My

namespace My
open PySem PySem.Spec PyProof.Rows L2
def spNR : Sp := fun vs H Q _ => ∃ (b : Addr) (z n : Nat), vs = [.ref b, .int z] ∧ z < 16777216 ∧ Bx n b H ∧ n ≤ 800000 ∧ ∀ H', Aft b (n + 9) H H' → Q (.bl true) H'
def spSR : Sp := fun vs H Q _ => ∃ (b : Addr) (z : Int) (n : Nat), vs = [.ref b, .int z] ∧ sgn z < 16777216 ∧ Bx n b H ∧ n ≤ 800000 ∧ ∀ H', Aft b (n + 9) H H' → Q (.bl true) H'
theorem eqv_ints (ns : List Int) : PyData.eqv (.list (ns.map PyData.int)) (.list (ns.map PyData.int)) = true := PySem.SeqAt.eqv_refl _ (PySem.SeqAt.canLay_of_shaped (PySem.W.shaped_ints ns))
theorem Bx.aft {b : Addr} {n : Nat} {H H' : Hp} (h : Bx n b H) (s : Same H H') : Aft b n H H' := ⟨h.same s, Same.but s⟩
theorem twin3 {K : PySem.W.Frag} {H : Hp} {x y d1 d2 t1 t2 t3 : Addr} {ns ms : List Int} (hx : H x = some (.lst [.ref d1, .ref t1, .ref t2])) (hy : H y = some (.lst [.ref d2, .ref t3, .ref t3])) (h1 : H d1 = some (.lst (ns.map V.int))) (h2 : H d2 = some (.lst (ns.map V.int)))
    (k1 : H t1 = some (.tup (ms.map V.int))) (k2 : H t2 = some (.tup (ms.map V.int))) (k3 : H t3 = some (.tup (ms.map V.int))) (l1 : ns.length ≤ 100000) (l2 : ms.length ≤ 100000) : Twin K 3 H (.ref x) (.ref y) := by
  refine .inr ⟨x, y, [.ref d1, .ref t1, .ref t2], [.ref d2, .ref t3, .ref t3], rfl, rfl, rfl, (by show 3 ≤ 100000; decide), fun i u v e1 e2 => ?_, .inl ⟨sqL hx, sqL hy⟩⟩
  match i, e1, e2 with
  | 0, e1, e2 => cases e1; cases e2; exact twin_intL l1 (sqL h1) (sqL h2)
  | 1, e1, e2 => cases e1; cases e2; exact twin_intT l2 (sqT k1) (sqT k3)
  | 2, e1, e2 => cases e1; cases e2; exact twin_intT l2 (sqT k2) (sqT k3)
  | i + 3, e1, e2 => cases e1
section
variable {P : Program} {w : World} {K : PySem.W.Frag} {mg : Str → Option Value} {base : Heap}
theorem ok_l_number_right {f : Addr} {fd : FuncData} (F : Fun K "_law_number_right" "_law_number_right" s_l_number_right f fd) (z_len : mg "len" = none) (z_list : mg "list" = none) (z_tuple : mg "tuple" = none)
    (c_l_bytes : Cal P w K mg base 1 "_law_bytes" ["_law_figure"] spNB) (c_l_take : Cal P w K mg base 1 "_law_take" ["_law_box_here", "_law_many"] spTake) (c_l_any_bytes : Cal P w K mg base 2 "_law_any_bytes" ["_law_box_here", "_law_many"] spAny)
    (c_number_bytes : Cal P w K mg base 1 "number_bytes" ["number"] spNB) (ck_number_bytes_0_number : CalK P w K mg base 1 "number_bytes" ["number"] ["number"] (fun _ zs => zs) spNB) (c_number_at : Cal P w K mg base 1 "number_at" ["codes", "at"] (spNA K))
    (ck_number_at_0_at_codes : CalK P w K mg base 1 "number_at" ["at", "codes"] ["codes", "at"] (fun _ zs => sw2 zs) (spNA K)) (c_l_same : Cal P w K mg base 3 "_law_same" ["_law_found", "_law_due"] (spSm (Twin K 3))) :
    FnOk P w K mg base CX0 4 f fd ["_law_box_here", "_law_figure"] spNR := by
  refine F.ok sc_l_number_right (fun vs H Q E h => ?_) (fun cdv A outer s H vs Q E hr h => ?_)
  · obtain ⟨b, z, n, rfl, _⟩ := h
    rfl
  · obtain ⟨b, z, n, rfl, hz, hb, hn, q⟩ := h
    refine ⟨_, (pss_cons (ps_par (by rfl) sc_l_number_right.nd (i := 2) (j := 3) rfl rfl (by decide) rfl rfl (pa_cons (pe_c c_l_bytes hr (by first | decide | exact Nat.le_refl _) (by rfl) (pa_cons (pv 1) pa_nil)) (pa_cons (pe_c c_l_any_bytes hr (by first | decide | exact Nat.le_refl _) (by rfl) (pa_cons (pv 0) (pa_cons (pe_c c_l_take hr (by first | decide | exact Nat.le_refl _) (by rfl) (pa_cons (pv 0) (pa_cons (pe_int) pa_nil))) pa_nil))) pa_nil)) (by rfl))
      (pss_cons (ps_set (i := 4) sc_l_number_right.nd rfl (Or.inl rfl) (pe_c c_l_any_bytes hr (by first | decide | exact Nat.le_refl _) (by rfl) (pa_cons (pv 0) (pa_cons (pe_c c_l_take hr (by first | decide | exact Nat.le_refl _) (by rfl) (pa_cons (pv 0) (pa_cons (pe_int) pa_nil))) pa_nil))))
      (pss_cons (ps_set (i := 5) sc_l_number_right.nd rfl (Or.inl rfl) (pe_op op_cat (pe_op op_cat (pv 3) (pv 2)) (pv 4)))
      (pss_cons (ps_set (i := 6) sc_l_number_right.nd rfl (Or.inl rfl) (pe_callTy (call_list_of) (by rfl) z_list (by decide +kernel) (pa_cons (pv 5) pa_nil)))
      (pss_cons (ps_set (i := 7) sc_l_number_right.nd rfl (Or.inl rfl) (pe_lst (pa_cons (pe_c c_number_bytes hr (by first | decide | exact Nat.le_refl _) (by rfl) (pa_cons (pv 1) pa_nil)) (pa_cons (pe_c c_number_at hr (by first | decide | exact Nat.le_refl _) (by rfl) (pa_cons (pv 5) (pa_cons (pe_callB (call_len_seq) (by rfl) z_len (by decide +kernel) (pa_cons (pv 3) pa_nil)) pa_nil))) (pa_cons (pe_ck0 ck_number_at_0_at_codes hr (by first | decide | exact Nat.le_refl _) (by rfl) (pk_cons (pe_callB (call_len_seq) (by rfl) z_len (by decide +kernel) (pa_cons (pv 3) pa_nil)) (pk_cons (pe_callTy (call_tuple_of) (by rfl) z_tuple (by decide +kernel) (pa_cons (pv 5) pa_nil)) pk_nil))) pa_nil)))))
      (pss_cons (ps_if (pt_cmpR (op_neD hr.units) (pe_ck0 ck_number_bytes_0_number hr (by first | decide | exact Nat.le_refl _) (by rfl) (pk_cons (pv 1) pk_nil)) (pv 2) (nomark _)) (pss_one (ps_ret (pe_bl))) pss_nil)
      (pss_cons (ps_set (i := 8) sc_l_number_right.nd rfl (Or.inl rfl) (pe_tup (pa_cons (pv 1) (pa_cons (pe_op op_add (pe_callB (call_len_seq) (by rfl) z_len (by decide +kernel) (pa_cons (pv 3) pa_nil)) (pe_callB (call_len_seq) (by rfl) z_len (by decide +kernel) (pa_cons (pv 2) pa_nil))) pa_nil))))
      (pss_one (ps_ret (pe_and (pe_c c_l_same hr (by first | decide | exact Nat.le_refl _) (by rfl) (pa_cons (pv 7) (pa_cons (pe_lst (pa_cons (pv 2) (pa_cons (pv 8) (pa_cons (pv 8) pa_nil)))) pa_nil))) (pe_one (pe_cmpR (op_eqD hr.units) (pv 5) (pv 6) (nomark _))))))))))))), ?_⟩
    have hfl := figs_len hz
    -- due, front
    refine ⟨_, rfl, z, rfl, hz, fun H1 d sm1 nd ed => ?_⟩
    have hb1 := hb.same sm1
    refine ⟨_, rfl, _, rfl, b, 5, n, rfl, by decide, by decide, hb1, by omega, fun v H2 v1 af2 fr2 => ?_⟩
    refine ⟨b, v, n + 1, rfl, by omega, af2.box, by omega, fun ns1 H3 p1 l1 af3 np1 ep1 => ⟨_, _, rfl, ?_⟩⟩
    have db : d ≠ b := hb.ne nd
    have p1b : p1 ≠ b := af2.box.ne np1
    have ed3 := af3.get (af2.get ed db) db
    -- tail
    refine ⟨_, rfl, _, rfl, b, 4, n + 1 + v, rfl, by decide, by decide, af3.box, by omega, fun v' H4 v1' af4 fr4 => ?_⟩
    refine ⟨b, v', n + 1 + v + 1, rfl, by omega, af4.box, by omega, fun ns2 H5 p2 l2 af5 np2 ep2 => ?_⟩
    have p2b : p2 ≠ b := af4.box.ne np2
    have ed5 := af5.get (af4.get ed3 db) db
    have ef5 := af5.get (af4.get ep1 p1b) p1b
    have AF : Aft b (n + 9) H H5 := ((((hb.aft sm1).trans af2).trans af3).trans (af4.trans af5)).mono (by omega)
    -- row
    refine ⟨_, rfl, _, rfl, p1, d, _, _, rfl, rfl, ef5, ed5, ?_, fun r1 nr1 => ?_⟩
    · rw [List.length_map, List.length_map]
      exact line_ge (by omega)
    have s6 := same_upd (o := .lst (ns1.map V.int ++ (figs z).map V.int)) nr1
    refine ⟨_, rfl, r1, p2, _, _, rfl, rfl, upd_same, s6 _ _ ep2, ?_, fun r nr => ?_⟩
    · rw [List.length_append, List.length_map, List.length_map, List.length_map]
      exact line_ge (by omega)
    have erow : ns1.map V.int ++ (figs z).map V.int ++ ns2.map V.int = (ns1 ++ (figs z ++ ns2)).map V.int := by
      rw [List.map_append, List.map_append, List.append_assoc]
    rw [erow]
    have s7 := s6.trans (same_upd (o := .lst ((ns1 ++ (figs z ++ ns2)).map V.int)) nr)
    generalize hH7 : upd (upd H5 r1 (.lst (ns1.map V.int ++ (figs z).map V.int))) r (.lst ((ns1 ++ (figs z ++ ns2)).map V.int)) = H7 at s7
    have er : H7 r = some (.lst ((ns1 ++ (figs z ++ ns2)).map V.int)) := by rw [← hH7]; exact upd_same
    -- kept
    refine ⟨_, rfl, r, _, rfl, .inl (sqL er), fun kp nkp => ?_⟩
    have s8 := same_upd (o := .lst ((ns1 ++ (figs z ++ ns2)).map V.int)) nkp
    generalize hH8 : upd H7 kp (.lst ((ns1 ++ (figs z ++ ns2)).map V.int)) = H8 at s8
    have ek : H8 kp = some (.lst ((ns1 ++ (figs z ++ ns2)).map V.int)) := by rw [← hH8]; exact upd_same
    have s58 := s7.trans s8
    -- told
    refine ⟨_, rfl, z, rfl, hz, fun H9 d2 s9 nd2 ed2 => ?_⟩
    have s59 := s58.trans s9
    have er9 := s9 _ _ (s8 _ _ er)
    refine ⟨_, rfl, _, rfl, p1, _, rfl, .inl (sqL (s59 _ _ ef5)), r, ns1, ns2, z, by rw [List.length_map] <;> rfl, .inl (sqL er9), hz, by omega, fun t1 nt1 => ?_⟩
    have s10 := same_upd (o := .tup [.int z, .int ((ns1.length + (figs z).length : Nat) : Int)]) nt1
    have e10 : upd H9 t1 (.tup [.int z, .int ((ns1.length + (figs z).length : Nat) : Int)]) t1 = some (.tup [.int z, .int ((ns1.length + (figs z).length : Nat) : Int)]) := upd_same
    generalize upd H9 t1 (.tup [.int z, .int ((ns1.length + (figs z).length : Nat) : Int)]) = H10 at s10 e10
    refine ⟨_, rfl, p1, _, rfl, .inl (sqL ((s59.trans s10) _ _ ef5)), _, rfl, r, _, rfl, .inl ⟨sqL (s10 _ _ er9), fun tu ntu => ?_⟩⟩
    have s11 := same_upd (o := .tup ((ns1 ++ (figs z ++ ns2)).map V.int)) ntu
    have e11 : upd H10 tu (.tup ((ns1 ++ (figs z ++ ns2)).map V.int)) tu = some (.tup ((ns1 ++ (figs z ++ ns2)).map V.int)) := upd_same
    generalize upd H10 tu (.tup ((ns1 ++ (figs z ++ ns2)).map V.int)) = H11 at s11 e11
    refine ⟨rfl, rfl, tu, ns1, ns2, z, by rw [List.length_map] <;> rfl, .inr (sqT e11), hz, by omega, fun t2 nt2 => ?_⟩
    have s12 := same_upd (o := .tup [.int z, .int ((ns1.length + (figs z).length : Nat) : Int)]) nt2
    have e12 : upd H11 t2 (.tup [.int z, .int ((ns1.length + (figs z).length : Nat) : Int)]) t2 = some (.tup [.int z, .int ((ns1.length + (figs z).length : Nat) : Int)]) := upd_same
    generalize upd H11 t2 (.tup [.int z, .int ((ns1.length + (figs z).length : Nat) : Int)]) = H12 at s12 e12
    refine ⟨(by show 3 ≤ sizeLine; decide), fun td ntd => ?_⟩
    have s13 := same_upd (o := .lst [.ref d2, .ref t1, .ref t2]) ntd
    have e13 : upd H12 td (.lst [.ref d2, .ref t1, .ref t2]) td = some (.lst [.ref d2, .ref t1, .ref t2]) := upd_same
    generalize upd H12 td (.lst [.ref d2, .ref t1, .ref t2]) = H13 at s13 e13
    have s9_13 := ((s10.trans s11).trans s12).trans s13
    have s5_13 := s59.trans s9_13
    -- number_bytes(number=..) != due
    refine ⟨_, rfl, rfl, rfl, z, rfl, hz, fun H14 d3 s14 nd3 ed3' => ?_⟩
    refine ⟨_, rfl, _, _, .lst (sqL ed3') (dp_ints _), .lst (sqL ((s5_13.trans s14) _ _ ed5)) (dp_ints _), PySem.W.shaped_ints _, PySem.W.shaped_ints _, _, rfl, ?_⟩
    rw [eqv_ints]
    refine iteF ?_
    -- behind
    refine ⟨_, rfl, _, rfl, p1, _, rfl, .inl (sqL ((s5_13.trans s14) _ _ ef5)), _, rfl, d, _, rfl, .inl (sqL ((s5_13.trans s14) _ _ ed5)), _, _, rfl, rfl, (by show 2 ≤ sizeLine; decide), fun bh nbh => ?_⟩
    have s15 := same_upd (o := .tup ([(z : Int), ((ns1.length + (figs z).length : Nat) : Int)].map V.int)) nbh
    have e15 : upd H14 bh (.tup ([(z : Int), ((ns1.length + (figs z).length : Nat) : Int)].map V.int)) bh = some (.tup ([(z : Int), ((ns1.length + (figs z).length : Nat) : Int)].map V.int)) := upd_same
    have ebh : (HO.tup [V.int (z : Int), V.int (((ns1.map V.int).length : Int) + (((figs z).map V.int).length : Int))]) = .tup ([(z : Int), ((ns1.length + (figs z).length : Nat) : Int)].map V.int) := by
      rw [List.length_map, List.length_map]
      rfl
    rw [ebh]
    generalize upd H14 bh (.tup ([(z : Int), ((ns1.length + (figs z).length : Nat) : Int)].map V.int)) = H15 at s15 e15
    have s13_15 := s14.trans s15
    -- the last row
    refine ⟨_, rfl, _, rfl, _, rfl, _, rfl, (by show 3 ≤ sizeLine; decide), fun du ndu => ?_⟩
    have s16 := same_upd (o := .lst [.ref d, .ref bh, .ref bh]) ndu
    have e16 : upd H15 du (.lst [.ref d, .ref bh, .ref bh]) du = some (.lst [.ref d, .ref bh, .ref bh]) := upd_same
    generalize upd H15 du (.lst [.ref d, .ref bh, .ref bh]) = H16 at s16 e16
    have s13_16 := s13_15.trans s16
    have s9_16 := s9_13.trans s13_16
    have s5_16 := s59.trans s9_16
    refine ⟨_, _, rfl, twin3 (ns := figs z) (ms := [(z : Int), ((ns1.length + (figs z).length : Nat) : Int)]) (s13_16 _ _ e13) e16 (s9_16 _ _ ed2) (s5_16 _ _ ed5) ((((s11.trans s12).trans s13).trans s13_16) _ _ e10) ((s13.trans s13_16) _ _ e12) (s16 _ _ e15) (by omega) (by show 2 ≤ 100000; decide), fun H17 s17 => ⟨_, rfl, iteT ?_⟩⟩
    refine ⟨_, rfl, _, rfl, _, _, .lst (sqL ((s9_16.trans s17) _ _ er9)) (dp_ints _), .lst (sqL (((s9.trans s9_16).trans s17) _ _ ek)) (dp_ints _), PySem.W.shaped_ints _, PySem.W.shaped_ints _, ?_⟩
    rw [eqv_ints]
    exact q _ (AF.same (s5_16.trans s17))
theorem ok_l_signed_right {f : Addr} {fd : FuncData} (F : Fun K "_law_signed_right" "_law_signed_right" s_l_signed_right f fd) (z_len : mg "len" = none)
    (c_l_signed : Cal P w K mg base 2 "_law_signed" ["_law_step"] spSB) (c_l_take : Cal P w K mg base 1 "_law_take" ["_law_box_here", "_law_many"] spTake) (c_l_any_bytes : Cal P w K mg base 2 "_law_any_bytes" ["_law_box_here", "_law_many"] spAny)
    (ck_signed_bytes_0_number : CalK P w K mg base 2 "signed_bytes" ["number"] ["number"] (fun _ zs => zs) spSB) (c_signed_at : Cal P w K mg base 2 "signed_at" ["codes", "at"] (spSA K))
    (ck_signed_at_0_codes_at : CalK P w K mg base 2 "signed_at" ["codes", "at"] ["codes", "at"] (fun _ zs => zs) (spSA K)) (c_l_same : Cal P w K mg base 3 "_law_same" ["_law_found", "_law_due"] (spSm (Twin K 3))) :
    FnOk P w K mg base CX0 4 f fd ["_law_box_here", "_law_step"] spSR := by
  refine F.ok sc_l_signed_right (fun vs H Q E h => ?_) (fun cdv A outer s H vs Q E hr h => ?_)
  · obtain ⟨b, z, n, rfl, _⟩ := h
    rfl
  · obtain ⟨b, z, n, rfl, hz, hb, hn, q⟩ := h
    refine ⟨_, (pss_cons (ps_par (by rfl) sc_l_signed_right.nd (i := 2) (j := 3) rfl rfl (by decide) rfl rfl (pa_cons (pe_c c_l_signed hr (by first | decide | exact Nat.le_refl _) (by rfl) (pa_cons (pv 1) pa_nil)) (pa_cons (pe_c c_l_any_bytes hr (by first | decide | exact Nat.le_refl _) (by rfl) (pa_cons (pv 0) (pa_cons (pe_c c_l_take hr (by first | decide | exact Nat.le_refl _) (by rfl) (pa_cons (pv 0) (pa_cons (pe_int) pa_nil))) pa_nil))) pa_nil)) (by rfl))
      (pss_cons (ps_set (i := 4) sc_l_signed_right.nd rfl (Or.inl rfl) (pe_op op_cat (pe_op op_cat (pv 3) (pv 2)) (pe_c c_l_any_bytes hr (by first | decide | exact Nat.le_refl _) (by rfl) (pa_cons (pv 0) (pa_cons (pe_c c_l_take hr (by first | decide | exact Nat.le_refl _) (by rfl) (pa_cons (pv 0) (pa_cons (pe_int) pa_nil))) pa_nil)))))
      (pss_cons (ps_set (i := 5) sc_l_signed_right.nd rfl (Or.inl rfl) (pe_lst (pa_cons (pe_ck0 ck_signed_bytes_0_number hr (by first | decide | exact Nat.le_refl _) (by rfl) (pk_cons (pv 1) pk_nil)) (pa_cons (pe_c c_signed_at hr (by first | decide | exact Nat.le_refl _) (by rfl) (pa_cons (pv 4) (pa_cons (pe_callB (call_len_seq) (by rfl) z_len (by decide +kernel) (pa_cons (pv 3) pa_nil)) pa_nil))) (pa_cons (pe_ck0 ck_signed_at_0_codes_at hr (by first | decide | exact Nat.le_refl _) (by rfl) (pk_cons (pv 4) (pk_cons (pe_callB (call_len_seq) (by rfl) z_len (by decide +kernel) (pa_cons (pv 3) pa_nil)) pk_nil))) pa_nil)))))
      (pss_cons (ps_set (i := 6) sc_l_signed_right.nd rfl (Or.inl rfl) (pe_tup (pa_cons (pv 1) (pa_cons (pe_op op_add (pe_callB (call_len_seq) (by rfl) z_len (by decide +kernel) (pa_cons (pv 3) pa_nil)) (pe_callB (call_len_seq) (by rfl) z_len (by decide +kernel) (pa_cons (pv 2) pa_nil))) pa_nil))))
      (pss_one (ps_ret (pe_c c_l_same hr (by first | decide | exact Nat.le_refl _) (by rfl) (pa_cons (pv 5) (pa_cons (pe_lst (pa_cons (pv 2) (pa_cons (pv 6) (pa_cons (pv 6) pa_nil)))) pa_nil))))))))), ?_⟩
    have hfl := figs_len hz
    refine ⟨_, rfl, z, rfl, hz, fun H1 d sm1 nd ed => ?_⟩
    have hb1 := hb.same sm1
    refine ⟨_, rfl, _, rfl, b, 5, n, rfl, by decide, by decide, hb1, by omega, fun v H2 v1 af2 fr2 => ?_⟩
    refine ⟨b, v, n + 1, rfl, by omega, af2.box, by omega, fun ns1 H3 p1 l1 af3 np1 ep1 => ⟨_, _, rfl, ?_⟩⟩
    have db : d ≠ b := hb.ne nd
    have p1b : p1 ≠ b := af2.box.ne np1
    have ed3 := af3.get (af2.get ed db) db
    -- row
    refine ⟨_, rfl, _, rfl, p1, d, _, _, rfl, rfl, ep1, ed3, ?_, fun r1 nr1 => ?_⟩
    · rw [List.length_map, List.length_map]
      exact line_ge (by omega)
    have hb3 := af3.box.new (o := .lst (ns1.map V.int ++ (figs (sgn z)).map V.int)) nr1
    have sr := same_upd (o := .lst (ns1.map V.int ++ (figs (sgn z)).map V.int)) nr1
    have r1b : r1 ≠ b := af3.box.ne nr1
    refine ⟨_, rfl, _, rfl, b, 4, n + 1 + v, rfl, by decide, by decide, hb3, by omega, fun v' H4 v1' af4 fr4 => ?_⟩
    refine ⟨b, v', n + 1 + v + 1, rfl, by omega, af4.box, by omega, fun ns2 H5 p2 l2 af5 np2 ep2 => ?_⟩
    have ed5 := af5.get (af4.get (sr _ _ ed3) db) db
    have ef5 := af5.get (af4.get (sr _ _ ep1) p1b) p1b
    have er5 := af5.get (af4.get upd_same r1b) r1b
    have AF : Aft b (n + 9) H H5 := (((((hb.aft sm1).trans af2).trans af3).same sr).trans (af4.trans af5)).mono (by omega)
    refine ⟨r1, p2, _, _, rfl, rfl, er5, ep2, ?_, fun r nr => ?_⟩
    · rw [List.length_append, List.length_map, List.length_map, List.length_map]
      exact line_ge (by omega)
    have erow : ns1.map V.int ++ (figs (sgn z)).map V.int ++ ns2.map V.int = (ns1 ++ (figs (sgn z) ++ ns2)).map V.int := by
      rw [List.map_append, List.map_append, List.append_assoc]
    rw [erow]
    have s8 := same_upd (o := .lst ((ns1 ++ (figs (sgn z) ++ ns2)).map V.int)) nr
    generalize hH8 : upd H5 r (.lst ((ns1 ++ (figs (sgn z) ++ ns2)).map V.int)) = H8 at s8
    have er : H8 r = some (.lst ((ns1 ++ (figs (sgn z) ++ ns2)).map V.int)) := by rw [← hH8]; exact upd_same
    -- told
    refine ⟨_, rfl, rfl, rfl, z, rfl, hz, fun H9 d2 s9 nd2 ed2 => ?_⟩
    have s59 := s8.trans s9
    have er9 := s9 _ _ er
    refine ⟨_, rfl, _, rfl, p1, _, rfl, .inl (sqL (s59 _ _ ef5)), r, ns1, ns2, z, by rw [List.length_map] <;> rfl, .inl (sqL er9), hz, by omega, fun H10 t1 s10 nt1 e10 => ?_⟩
    refine ⟨_, rfl, _, rfl, p1, _, rfl, .inl (sqL ((s59.trans s10) _ _ ef5)), rfl, rfl, r, ns1, ns2, z, by rw [List.length_map] <;> rfl, .inl (sqL (s10 _ _ er9)), hz, by omega, fun H12 t2 s12 nt2 e12 => ?_⟩
    refine ⟨(by show 3 ≤ sizeLine; decide), fun td ntd => ?_⟩
    have s13 := same_upd (o := .lst [.ref d2, .ref t1, .ref t2]) ntd
    have e13 : upd H12 td (.lst [.ref d2, .ref t1, .ref t2]) td = some (.lst [.ref d2, .ref t1, .ref t2]) := upd_same
    generalize upd H12 td (.lst [.ref d2, .ref t1, .ref t2]) = H13 at s13 e13
    have s9_13 := (s10.trans s12).trans s13
    have s5_13 := s59.trans s9_13
    -- behind
    refine ⟨_, rfl, _, rfl, p1, _, rfl, .inl (sqL (s5_13 _ _ ef5)), _, rfl, d, _, rfl, .inl (sqL (s5_13 _ _ ed5)), _, _, rfl, rfl, (by show 2 ≤ sizeLine; decide), fun bh nbh => ?_⟩
    have s15 := same_upd (o := .tup ([z, ((ns1.length + (figs (sgn z)).length : Nat) : Int)].map V.int)) nbh
    have e15 : upd H13 bh (.tup ([z, ((ns1.length + (figs (sgn z)).length : Nat) : Int)].map V.int)) bh = some (.tup ([z, ((ns1.length + (figs (sgn z)).length : Nat) : Int)].map V.int)) := upd_same
    have ebh : (HO.tup [V.int z, V.int (((ns1.map V.int).length : Int) + (((figs (sgn z)).map V.int).length : Int))]) = .tup ([z, ((ns1.length + (figs (sgn z)).length : Nat) : Int)].map V.int) := by
      rw [List.length_map, List.length_map]
      rfl
    rw [ebh]
    generalize upd H13 bh (.tup ([z, ((ns1.length + (figs (sgn z)).length : Nat) : Int)].map V.int)) = H15 at s15 e15
    -- the last row
    refine ⟨_, rfl, _, rfl, _, rfl, _, rfl, (by show 3 ≤ sizeLine; decide), fun du ndu => ?_⟩
    have s16 := same_upd (o := .lst [.ref d, .ref bh, .ref bh]) ndu
    have e16 : upd H15 du (.lst [.ref d, .ref bh, .ref bh]) du = some (.lst [.ref d, .ref bh, .ref bh]) := upd_same
    generalize upd H15 du (.lst [.ref d, .ref bh, .ref bh]) = H16 at s16 e16
    have s13_16 := s15.trans s16
    have s9_16 := s9_13.trans s13_16
    have s5_16 := s59.trans s9_16
    refine ⟨_, _, rfl, twin3 (ns := figs (sgn z)) (ms := [z, ((ns1.length + (figs (sgn z)).length : Nat) : Int)]) (s13_16 _ _ e13) e16 (s9_16 _ _ ed2) (s5_16 _ _ ed5) (((s12.trans s13).trans s13_16) _ _ e10) ((s13.trans s13_16) _ _ e12) (s16 _ _ e15) (by omega) (by show 2 ≤ 100000; decide), fun H17 s17 => ?_⟩
    exact q _ (AF.same (s5_16.trans s17))
end
end My

namespace My
open PySem PySem.Spec PyProof.Rows L2
def spR : Sp := fun vs H Q _ => ∃ (b : Addr), vs = [.ref b] ∧ Bx 0 b H ∧ ∀ H', But b H H' → Q (.bl true) H'
def edges : List Int := [0, 1, 63, 64, 65, 127, 128, 4095, 4096, 64 ^ Int.toNat 3 - 1, 64 ^ Int.toNat 3, 64 ^ Int.toNat 4 - 1]
def mosts : List Int := [64, 4096, 262144, 16777216]
theorem most_at {i : Nat} {x : V} (h : (mosts.map V.int)[i]? = some x) : ∃ m : Int, x = .int m ∧ 0 < m ∧ m ≤ 16777216 := by
  match i, h with
  | 0, h => cases h; exact ⟨64, rfl, by decide, by decide⟩
  | 1, h => cases h; exact ⟨4096, rfl, by decide, by decide⟩
  | 2, h => cases h; exact ⟨262144, rfl, by decide, by decide⟩
  | 3, h => cases h; exact ⟨16777216, rfl, by decide, by decide⟩
  | i + 4, h => cases h
def Fig (v : Int) : Prop := 0 ≤ v ∧ v < 16777216
theorem edges_fig : ∀ v ∈ edges, Fig v := by
  unfold Fig
  decide +kernel
/-- with the edges at e and the tuple of bounds at tp -/
def Hm (H : Hp) (e tp : Addr) : Hp := upd (upd H e (.lst (edges.map V.int))) tp (.tup (mosts.map V.int))
theorem ints_at {ns : List Int} {i : Nat} {x : V} (h : (ns.map V.int)[i]? = some x) : ∃ z, ns[i]? = some z ∧ x = .int z := by
  rw [List.getElem?_map] at h
  cases e : ns[i]? with
  | none => rw [e] at h; cases h
  | some z => rw [e] at h; exact ⟨z, rfl, (Option.some.inj h).symm⟩
theorem sgn_half {v : Int} (h : Fig v) : sgn (v / 2) < 16777216 := by
  unfold Fig at h
  unfold sgn
  split <;> omega
theorem sgn_half' {v : Int} (h : Fig v) : sgn (-(v + 1) / 2) < 16777216 := by
  unfold Fig at h
  unfold sgn
  split <;> omega
section
variable {P : Program} {w : World} {K : PySem.W.Frag} {mg : Str → Option Value} {base : Heap}
theorem ok_l_right {f : Addr} {fd : FuncData} (F : Fun K "_law_right" "_law_right" s_l_right f fd) (z_len : mg "len" = none) 
    (c_l_take : Cal P w K mg base 1 "_law_take" ["_law_box_here", "_law_many"] spTake) (c_l_number_right : Cal P w K mg base 4 "_law_number_right" ["_law_box_here", "_law_figure"] spNR) (c_l_signed_right : Cal P w K mg base 4 "_law_signed_right" ["_law_box_here", "_law_step"] spSR)
    (c_number_bytes : Cal P w K mg base 1 "number_bytes" ["number"] spNB) (c_signed_bytes : Cal P w K mg base 2 "signed_bytes" ["number"] spSB) (c_number_at : Cal P w K mg base 1 "number_at" ["codes", "at"] (spNA K)) (c_signed_at : Cal P w K mg base 2 "signed_at" ["codes", "at"] (spSA K))
    (c_l_same : Cal P w K mg base 3 "_law_same" ["_law_found", "_law_due"] (spSm (Twin K 3))) :
    FnOk P w K mg base CX0 5 f fd ["_law_box_here"] spR := by
  refine F.ok sc_l_right (fun vs H Q E h => ?_) (fun cdv A outer s H vs Q E hr h => ?_)
  · obtain ⟨b, rfl, _⟩ := h
    rfl
  · obtain ⟨b, rfl, hb, q⟩ := h
    refine ⟨_, (pss_cons (ps_set (i := 1) sc_l_right.nd rfl (Or.inl rfl) (pe_lst (pa_cons (pe_int) (pa_cons (pe_int) (pa_cons (pe_int) (pa_cons (pe_int) (pa_cons (pe_int) (pa_cons (pe_int) (pa_cons (pe_int) (pa_cons (pe_int) (pa_cons (pe_int) (pa_cons (pe_op op_sub (pe_op op_pow (pe_int) (pe_int)) (pe_int)) (pa_cons (pe_op op_pow (pe_int) (pe_int)) (pa_cons (pe_op op_sub (pe_op op_pow (pe_int) (pe_int)) (pe_int)) pa_nil))))))))))))))
      (pss_cons (ps_set (i := 2) sc_l_right.nd rfl (Or.inl rfl) (pe_op op_cat (pv 1) (pe_lc (own := [("_law_most", 3)]) (g := (gName 3)) (tt := tYes) rfl sc_l_right.nd (pi_tup (pe_tup (pa_cons (pe_int) (pa_cons (pe_int) (pa_cons (pe_int) (pa_cons (pe_int) pa_nil)))))) (blkOk_by (own := [("_law_most", 3)]) (N := ["_law_box_here", "_law_edges", "_law_some", "_law_most", "_law_figure", "_law_one", "_law_other", "_law_row", "_law_told", "_law_behind"]) (sc := defScope s_l_right) (by decide +kernel)) (fun _ _ _ _ _ => (pg_name (i := 3) sc_l_right.nd rfl (Or.inl rfl))) (fun _ _ _ _ _ => pts_nil) (fun _ _ _ _ _ => (pe_c c_l_take hr (by first | decide | exact Nat.le_refl _) (by rfl) (pa_cons (pv 0) (pa_cons (pv 3) pa_nil)))))))
      (pss_cons (ps_for PassesOwn.never rfl (pi_list (pv 2)) (pg_name (i := 4) sc_l_right.nd rfl (Or.inl rfl)) (pss_cons (ps_if (pt_not (pt_val (pe_c c_l_number_right hr (by first | decide | exact Nat.le_refl _) (by rfl) (pa_cons (pv 0) (pa_cons (pv 4) pa_nil))))) (pss_one (ps_ret (pe_bl))) pss_nil)
      (pss_one (ps_if (PW.pt (pw_or (pt_not (pt_val (pe_c c_l_signed_right hr (by first | decide | exact Nat.le_refl _) (by rfl) (pa_cons (pv 0) (pa_cons (pe_op op_fdiv (pv 4) (pe_int)) pa_nil))))) (pw_or1 (pt_not (pt_val (pe_c c_l_signed_right hr (by first | decide | exact Nat.le_refl _) (by rfl) (pa_cons (pv 0) (pa_cons (pe_op op_fdiv (pe_un un_neg (pe_op op_add (pv 4) (pe_int))) (pe_int)) pa_nil)))))))) (pss_one (ps_ret (pe_bl))) pss_nil))))
      (pss_cons (ps_par (by rfl) sc_l_right.nd (i := 5) (j := 6) rfl rfl (by decide) rfl rfl (pa_cons (pe_ix ix_list (pv 2) (pe_c c_l_take hr (by first | decide | exact Nat.le_refl _) (by rfl) (pa_cons (pv 0) (pa_cons (pe_int) pa_nil))) (fun _ _ => rfl)) (pa_cons (pe_ix ix_list (pv 2) (pe_c c_l_take hr (by first | decide | exact Nat.le_refl _) (by rfl) (pa_cons (pv 0) (pa_cons (pe_int) pa_nil))) (fun _ _ => rfl)) pa_nil)) (by rfl))
      (pss_cons (ps_set (i := 7) sc_l_right.nd rfl (Or.inl rfl) (pe_op op_cat (pe_c c_number_bytes hr (by first | decide | exact Nat.le_refl _) (by rfl) (pa_cons (pv 5) pa_nil)) (pe_c c_signed_bytes hr (by first | decide | exact Nat.le_refl _) (by rfl) (pa_cons (pe_op op_fdiv (pv 6) (pe_int)) pa_nil))))
      (pss_cons (ps_asg (pe_c c_number_at hr (by first | decide | exact Nat.le_refl _) (by rfl) (pa_cons (pv 7) (pa_cons (pe_int) pa_nil))) (pg_tup rfl (pgs_cons (pg_name (i := 8) sc_l_right.nd rfl (Or.inl rfl)) (pgs_cons (pg_name (i := 9) sc_l_right.nd rfl (Or.inl rfl)) pgs_nil))))
      (pss_one (ps_ret (pe_and (pe_cmpR (op_eq) (pv 8) (pv 5) (nomark _)) (pe_one (pe_c c_l_same hr (by first | decide | exact Nat.le_refl _) (by rfl) (pa_cons (pe_c c_signed_at hr (by first | decide | exact Nat.le_refl _) (by rfl) (pa_cons (pv 7) (pa_cons (pv 9) pa_nil))) (pa_cons (pe_tup (pa_cons (pe_op op_fdiv (pv 6) (pe_int)) (pa_cons (pe_callB (call_len_seq) (by rfl) z_len (by decide +kernel) (pa_cons (pv 7) pa_nil)) pa_nil))) pa_nil))))))))))))), ?_⟩
    refine ⟨_, _, rfl, rfl, ⟨by decide, by decide, by decide⟩, _, _, rfl, rfl, _, _, rfl, rfl, ⟨by decide, by decide, by decide⟩, _, _, rfl, rfl, ⟨by decide, by decide, by decide⟩, _, _, rfl, rfl, (by show 12 ≤ sizeLine; decide), fun e ne => ?_⟩
    have s1 := same_upd (o := .lst (edges.map V.int)) ne
    have heb := hb.ne ne
    have hb1 := hb.same s1
    refine ⟨_, rfl, (by show 4 ≤ sizeLine; decide), fun tp ntp => ⟨tp, rfl, ⟨_, sqT upd_same⟩, fun D nD => ?_⟩⟩
    have ntp' : upd H e (.lst (edges.map V.int)) tp = none := ntp
    have tpb := hb1.ne ntp'
    have s2 : Same (upd H e (.lst (edges.map V.int))) (Hm H e tp) := same_upd (o := .tup (mosts.map V.int)) ntp'
    have e1 : Hm H e tp e = some (.lst (edges.map V.int)) := s2 _ _ upd_same
    have e2 : Hm H e tp tp = some (.tup (mosts.map V.int)) := upd_same
    have nD' : Hm H e tp D = none := nD
    have hb2 := hb1.same s2
    have Db := hb2.ne nD'
    have s12 := s1.trans s2
    refine lc_tup (K := K) (a := tp) (xs := mosts.map V.int) (fun i H' => ∃ ns : List Int, ns.length = i ∧ (∀ v ∈ ns, Fig v) ∧ Aft b i (Hm H e tp) H' ∧ H' D = some (.lst (ns.map V.int))) ⟨[], rfl, fun v hv => absurd hv (by simp), hb2.aft (same_upd nD'), upd_same⟩ (fun i H' _ ⟨ns, _, _, af, _⟩ => sqT (af.get e2 tpb)) ?_ ?_
    · rintro i x H' hx ⟨ns, hl, hf, af, eD⟩
      obtain ⟨m, rfl, m0, m1⟩ := most_at hx
      have hi : i < 4 := by
        have := (List.getElem?_eq_some_iff.mp hx).1
        exact this
      refine ⟨rfl, _, rfl, _, rfl, b, m, i, rfl, m0, by omega, af.box, by omega, fun v H3 v1 af3 _ => ?_⟩
      have eD3 := af3.get eD Db
      refine ⟨_, eD3, by rw [List.length_map]; exact line_gt (by omega), ns ++ [(v : Int)], by rw [List.length_append, hl]; rfl, fun u hu => ?_, ⟨?_, ?_⟩, ?_⟩
      · rcases List.mem_append.mp hu with h | h
        · exact hf u h
        · have e : u = v := by simpa using h
          rw [e]
          exact ⟨by omega, by omega⟩
      · obtain ⟨xs, e, r⟩ := af3.box
        exact ⟨xs, by rw [upd_ne Db.symm]; exact e, r⟩
      · exact (fun a o na e => by
          rw [upd_ne (ne_of_none e nD')]
          exact (af.trans af3).but a o na e)
      · rw [upd_same, List.map_append]
        rfl
    · rintro H3 ⟨ns, hl, hf, af, eD⟩
      have ee3 := af.get e1 heb
      refine ⟨e, D, _, _, rfl, rfl, ee3, eD, ?_, fun sm nsm => ?_⟩
      · rw [List.length_map, List.length_map, hl]
        exact line_ge (by decide)
      have s4 := same_upd (o := .lst ((edges ++ ns).map V.int)) nsm
      have e4 : upd H3 sm (.lst ((edges ++ ns).map V.int)) sm = some (.lst ((edges ++ ns).map V.int)) := upd_same
      have smb := af.box.ne nsm
      have hall : ∀ v ∈ edges ++ ns, Fig v := fun v hv => (List.mem_append.mp hv).elim (edges_fig v) (hf v)
      have hlen : (edges ++ ns).length = 16 := by rw [List.length_append, hl]; rfl
      rw [← List.map_append]
      have AF : Aft b 4 H (upd H3 sm (.lst ((edges ++ ns).map V.int))) := ((hb.aft s12).trans af).same s4
      generalize upd H3 sm (.lst ((edges ++ ns).map V.int)) = H4 at s4 e4 AF
      generalize edges ++ ns = al at e4 hall hlen
      refine ⟨_, rfl, sm, rfl, ⟨_, sqL e4⟩, ?_⟩
      refine for_list (K := K) (a := sm) (xs := al.map V.int) (fun i σ H' => ∃ fg, σ = [some (.ref b), some (.ref e), some (.ref sm), none, fg, none, none, none, none, none] ∧ Aft b (4 + 27 * i) H4 H') ⟨none, rfl, ⟨AF.box, fun _ _ _ h => h⟩⟩ (fun i σ H' _ ⟨_, _, a2⟩ => sqL (a2.get e4 smb)) ?_ ?_
      · rintro i x σ H5 hx ⟨fg, rfl, a5⟩
        obtain ⟨v, hv, rfl⟩ := ints_at hx
        have hi : i < 16 := by
          have := (List.getElem?_eq_some_iff.mp hv).1
          omega
        have hF := hall v (List.mem_of_getElem? hv)
        refine ⟨_, rfl, _, rfl, b, v.toNat, 4 + 27 * i, by rw [Int.toNat_of_nonneg hF.1] <;> rfl, by have := hF.2; omega, a5.box, by omega, fun H6 a6 => ⟨_, rfl, iteF ?_⟩⟩
        refine ⟨_, rfl, _, rfl, _, _, rfl, rfl, ⟨by decide, by decide⟩, b, v / 2, 4 + 27 * i + 9, rfl, sgn_half hF, a6.box, by omega, fun H7 a7 => ⟨_, rfl, iteF ?_⟩⟩
        refine ⟨_, rfl, _, rfl, _, _, rfl, rfl, _, rfl, _, _, rfl, rfl, ⟨by decide, by decide⟩, b, -(v + 1) / 2, 4 + 27 * i + 9 + 9, rfl, sgn_half' hF, a7.box, by omega, fun H8 a8 => ⟨_, rfl, iteF ?_⟩⟩
        exact ⟨_, rfl, (((a5.trans a6).trans a7).trans a8).mono (by omega)⟩
      · rintro σ H5 ⟨fg, rfl, a5⟩
        rw [List.length_map, hlen] at a5
        refine ⟨_, rfl, _, rfl, b, 16, _, rfl, by decide, by decide, a5.box, by decide, fun v1 H6 hv1 a6 _ => ?_⟩
        have hv1' : v1 < al.length := by omega
        have g1 : atI (al.map V.int) (v1 : Int) = some (.int al[v1]) := atI_nat (by
          rw [List.getElem?_map, List.getElem?_eq_getElem hv1']
          rfl)
        refine ⟨sm, _, _, _, rfl, rfl, sqL (a6.get (a5.get e4 smb) smb), g1, ?_⟩
        refine ⟨_, rfl, _, rfl, b, 16, _, rfl, by decide, by decide, a6.box, by decide, fun v2 H7 hv2 a7 _ => ?_⟩
        have hv2' : v2 < al.length := by omega
        have g2 : atI (al.map V.int) (v2 : Int) = some (.int al[v2]) := atI_nat (by
          rw [List.getElem?_map, List.getElem?_eq_getElem hv2']
          rfl)
        refine ⟨sm, _, _, _, rfl, rfl, sqL (a7.get (a6.get (a5.get e4 smb) smb) smb), g2, _, _, rfl, ?_⟩
        have F1 := hall _ (List.getElem_mem hv1')
        have F2 := hall _ (List.getElem_mem hv2')
        generalize al[v1] = o1 at F1
        generalize al[v2] = o2 at F2
        have A7 := (a5.trans a6).trans a7
        -- row
        have hz1 : o1.toNat < 16777216 := by have := F1.2; omega
        have c1 : ((o1.toNat : Nat) : Int) = o1 := Int.toNat_of_nonneg F1.1
        generalize o1.toNat = z1 at hz1 c1
        subst c1
        refine ⟨_, rfl, z1, rfl, hz1, fun H8 d1 s8 nd1 ed1 => ?_⟩
        refine ⟨_, rfl, _, _, rfl, rfl, ⟨by decide, by decide⟩, o2 / 2, rfl, sgn_half F2, fun H9 d2 s9 nd2 ed2 => ?_⟩
        have l1 := figs_len hz1
        have l2 := figs_len (sgn_half F2)
        refine ⟨d1, d2, _, _, rfl, rfl, s9 _ _ ed1, ed2, by rw [List.length_map, List.length_map]; exact line_ge (by omega), fun r nr => ?_⟩
        rw [← List.map_append]
        have s10 := same_upd (o := .lst ((figs z1 ++ figs (sgn (o2 / 2))).map V.int)) nr
        have e10 : upd H9 r (.lst ((figs z1 ++ figs (sgn (o2 / 2))).map V.int)) r = some (.lst ((figs z1 ++ figs (sgn (o2 / 2))).map V.int)) := upd_same
        generalize upd H9 r (.lst ((figs z1 ++ figs (sgn (o2 / 2))).map V.int)) = H10 at s10 e10
        -- told, behind
        refine ⟨_, rfl, r, [], figs (sgn (o2 / 2)), z1, rfl, .inl (sqL e10), hz1, by decide, fun t nt => ?_⟩
        have s11 := same_upd (o := .tup [.int z1, .int ((([] : List Int).length + (figs z1).length : Nat) : Int)]) nt
        refine ⟨t, _, rfl, sqT upd_same, rfl, _, _, rfl, _, _, rfl, rfl, ?_⟩
        generalize upd H10 t (.tup [.int z1, .int ((([] : List Int).length + (figs z1).length : Nat) : Int)]) = H11 at s11
        refine ⟨_, rfl, _, rfl, rfl, _, rfl, ite2 (fun _ => ?_) (fun h => absurd (decide_eq_true rfl) h)⟩
        refine ⟨_, rfl, _, rfl, r, figs z1, [], o2 / 2, ?_, .inl (sqL ?_), sgn_half F2, by omega, fun H12 u s12 nu eu => ?_⟩
        · rw [List.length_nil, Nat.zero_add]
          rfl
        · rw [List.append_nil]
          exact s11 _ _ e10
        refine ⟨_, rfl, _, _, rfl, rfl, ⟨by decide, by decide⟩, _, rfl, r, _, rfl, .inl (sqL ((s11.trans s12) _ _ e10)), (by show 2 ≤ sizeLine; decide), fun du ndu => ?_⟩
        have s13 := same_upd (o := .tup ([o2 / 2, (((figs z1).length + (figs (sgn (o2 / 2))).length : Nat) : Int)].map V.int)) ndu
        have e13 : upd H12 du (.tup ([o2 / 2, (((figs z1).length + (figs (sgn (o2 / 2))).length : Nat) : Int)].map V.int)) du = _ := upd_same
        have edu : (HO.tup [V.int (o2 / 2), V.int ((((figs z1 ++ figs (sgn (o2 / 2))).map V.int).length : Nat) : Int)]) = .tup ([o2 / 2, (((figs z1).length + (figs (sgn (o2 / 2))).length : Nat) : Int)].map V.int) := by
          rw [List.length_map, List.length_append]
          rfl
        rw [edu]
        refine ⟨_, _, rfl, twin_intT (n := 1) (ns := [o2 / 2, (((figs z1).length + (figs (sgn (o2 / 2))).length : Nat) : Int)]) (by show 2 ≤ 100000; decide) (sqT (s13 _ _ eu)) (sqT e13), fun H14 s14 => ?_⟩
        exact q _ (((AF.trans A7).same ((((((s8.trans s9).trans s10).trans s11).trans s12).trans s13).trans s14)).but)
end
end My

namespace My
open PySem PySem.Spec PyProof.Rows L2
def spLaw (K : PySem.W.Frag) : Sp := fun vs H Q _ => ∃ (a : Addr) (ns : List Int), vs = [.ref a] ∧ SqL K H a (ns.map V.int) ∧ ns.length ≤ 63 ∧ ∀ H', Q (.bl true) H'
/-- how often the law asks -/
def turns (m : Nat) (l : Nat) : Int := if (if (l : Int) < (m : Int) then (l : Int) else (m : Int)) > 1 then (if (l : Int) < (m : Int) then (l : Int) else (m : Int)) else 1
theorem turns_le {m l : Nat} (h : 1 ≤ m) : 1 ≤ turns m l ∧ turns m l ≤ m := by
  unfold turns
  split <;> split <;> omega
section
variable {P : Program} {w : World} {K : PySem.W.Frag} {mg : Str → Option Value} {base : Heap}
theorem ok_law {f : Addr} {fd : FuncData} (F : Fun K "law" "law" s_law f fd) (z_all : mg "all" = none) (z_range : mg "range" = none) (z_max : mg "max" = none) (z_min : mg "min" = none) (z_len : mg "len" = none)
    (c_l_box : Cal P w K mg base 1 "_law_box" ["_law_script", "_law_k"] (spBox K)) (c_l_right : Cal P w K mg base 5 "_law_right" ["_law_box_here"] spR) : FnOk P w K mg base CX0 6 f fd ["_law_script"] (spLaw K) := by
  refine F.ok sc_law (fun vs H Q E h => ?_) (fun cdv A outer s H vs Q E hr h => ?_)
  · obtain ⟨a, ns, rfl, _⟩ := h
    rfl
  · obtain ⟨a, ns, rfl, hS, hl, q⟩ := h
    refine ⟨_, (pss_one (ps_ret (pe_callB (cr_all rfl) (by rfl) z_all (by decide +kernel) (pa_cons (pe_lc (own := [("_law_k", 1)]) (g := (gName 1)) (tt := tYes) rfl sc_law.nd (pi_range1 (by rfl) z_range (pa_cons (pe_callB (call_max2 rfl) (by rfl) z_max (by decide +kernel) (pa_cons (pe_int) (pa_cons (pe_callB (call_min2 rfl) (by rfl) z_min (by decide +kernel) (pa_cons (pe_int) (pa_cons (pe_callB (call_len_seq) (by rfl) z_len (by decide +kernel) (pa_cons (pv 0) pa_nil)) pa_nil))) pa_nil))) pa_nil)) (blkOk_by (own := [("_law_k", 1)]) (N := ["_law_script", "_law_k"]) (sc := defScope s_law) (by decide +kernel)) (fun _ _ _ _ _ => (pg_name (i := 1) sc_law.nd rfl (Or.inl rfl))) (fun _ _ _ _ _ => pts_nil) (fun _ _ _ _ _ => (pe_c c_l_right hr (by first | decide | exact Nat.le_refl _) (by rfl) (pa_cons (pe_c c_l_box hr (by first | decide | exact Nat.le_refl _) (by rfl) (pa_cons (pv 0) (pa_cons (pv 1) pa_nil))) pa_nil)))) pa_nil)))), ?_⟩
    have ht := turns_le (m := 4) (l := (ns.map V.int).length) (by decide)
    refine ⟨_, rfl, a, _, rfl, .inl hS, _, _, rfl, _, _, rfl, turns 4 (ns.map V.int).length, rfl, by omega, by omega, fun D nD => ?_⟩
    refine lc_range (lo := 0) (fun i H' => Same H H' ∧ H' D = some (.lst (List.replicate i (.bl true)))) ⟨same_upd nD, upd_same⟩ ?_ ?_
    · rintro i H1 hi ⟨s1, eD⟩
      refine ⟨rfl, _, rfl, _, rfl, a, ns, i, by rw [Int.zero_add] <;> rfl, s1.seq hS, by omega, fun H2 p s2 np bx => ?_⟩
      refine ⟨p, rfl, bx, fun H3 bt => ?_⟩
      have s3 : Same H1 H3 := fun b o e => bt b o (ne_of_none e np) (s2 _ _ e)
      refine ⟨_, s3 _ _ eD, by rw [List.length_replicate]; exact line_gt (by omega), same_but (s1.trans s3) nD, ?_⟩
      rw [upd_same, rep_more]
    · rintro H1 ⟨s1, eD⟩
      refine ⟨D, List.replicate (turns 4 (ns.map V.int).length).toNat true, rfl, by rw [List.map_replicate]; exact sqL eD, ?_⟩
      rw [all_true]
      exact q _
end
theorem all_mk {l : PySem.W.OpenLaw} {w : World} {K : PySem.W.Frag} {h : Heap} {mg : Str → Option Value} {fa : Addr} (X : K.In h) (G : h.Ns mainGlobals mg) (hfa : mg "law" = some (.ref fa))
    {od_number_bytes an_number_bytes : Option Addr} {sl_number_bytes : Array (Option Value)} {oc_number_bytes kV_number_bytes dc_number_bytes pm_number_bytes cd_number_bytes ct_number_bytes : Value} {f_number_bytes : Addr}
    (a_number_bytes : PySem.W.nsIn K mainGlobals "number_bytes" = some (some (.ref f_number_bytes)))
    (l_number_bytes : K.lookup f_number_bytes = some ⟨oc_number_bytes, od_number_bytes, .func (PySem.W.fnOf "number_bytes" "number_bytes" (defArgs s_number_bytes) (defBody s_number_bytes) (defScope s_number_bytes) .none kV_number_bytes dc_number_bytes pm_number_bytes an_number_bytes cd_number_bytes ct_number_bytes), sl_number_bytes⟩)
    (c_number_bytes : PySem.W.codeIn K cd_number_bytes "number_bytes" = true) (k_number_bytes : PySem.W.keepIn K (.ref f_number_bytes) = true)
    {od_signed_bytes an_signed_bytes : Option Addr} {sl_signed_bytes : Array (Option Value)} {oc_signed_bytes kV_signed_bytes dc_signed_bytes pm_signed_bytes cd_signed_bytes ct_signed_bytes : Value} {f_signed_bytes : Addr}
    (a_signed_bytes : PySem.W.nsIn K mainGlobals "signed_bytes" = some (some (.ref f_signed_bytes)))
    (l_signed_bytes : K.lookup f_signed_bytes = some ⟨oc_signed_bytes, od_signed_bytes, .func (PySem.W.fnOf "signed_bytes" "signed_bytes" (defArgs s_signed_bytes) (defBody s_signed_bytes) (defScope s_signed_bytes) .none kV_signed_bytes dc_signed_bytes pm_signed_bytes an_signed_bytes cd_signed_bytes ct_signed_bytes), sl_signed_bytes⟩)
    (c_signed_bytes : PySem.W.codeIn K cd_signed_bytes "signed_bytes" = true) (k_signed_bytes : PySem.W.keepIn K (.ref f_signed_bytes) = true)
    {od_number_at an_number_at : Option Addr} {sl_number_at : Array (Option Value)} {oc_number_at kV_number_at dc_number_at pm_number_at cd_number_at ct_number_at : Value} {f_number_at : Addr}
    (a_number_at : PySem.W.nsIn K mainGlobals "number_at" = some (some (.ref f_number_at)))
    (l_number_at : K.lookup f_number_at = some ⟨oc_number_at, od_number_at, .func (PySem.W.fnOf "number_at" "number_at" (defArgs s_number_at) (defBody s_number_at) (defScope s_number_at) .none kV_number_at dc_number_at pm_number_at an_number_at cd_number_at ct_number_at), sl_number_at⟩)
    (c_number_at : PySem.W.codeIn K cd_number_at "number_at" = true) (k_number_at : PySem.W.keepIn K (.ref f_number_at) = true)
    {od_signed_at an_signed_at : Option Addr} {sl_signed_at : Array (Option Value)} {oc_signed_at kV_signed_at dc_signed_at pm_signed_at cd_signed_at ct_signed_at : Value} {f_signed_at : Addr}
    (a_signed_at : PySem.W.nsIn K mainGlobals "signed_at" = some (some (.ref f_signed_at)))
    (l_signed_at : K.lookup f_signed_at = some ⟨oc_signed_at, od_signed_at, .func (PySem.W.fnOf "signed_at" "signed_at" (defArgs s_signed_at) (defBody s_signed_at) (defScope s_signed_at) .none kV_signed_at dc_signed_at pm_signed_at an_signed_at cd_signed_at ct_signed_at), sl_signed_at⟩)
    (c_signed_at : PySem.W.codeIn K cd_signed_at "signed_at" = true) (k_signed_at : PySem.W.keepIn K (.ref f_signed_at) = true)
    {od_l_box an_l_box : Option Addr} {sl_l_box : Array (Option Value)} {oc_l_box kV_l_box dc_l_box pm_l_box cd_l_box ct_l_box : Value} {f_l_box : Addr}
    (a_l_box : PySem.W.nsIn K mainGlobals "_law_box" = some (some (.ref f_l_box)))
    (l_l_box : K.lookup f_l_box = some ⟨oc_l_box, od_l_box, .func (PySem.W.fnOf "_law_box" "_law_box" (defArgs s_l_box) (defBody s_l_box) (defScope s_l_box) .none kV_l_box dc_l_box pm_l_box an_l_box cd_l_box ct_l_box), sl_l_box⟩)
    (c_l_box : PySem.W.codeIn K cd_l_box "_law_box" = true) (k_l_box : PySem.W.keepIn K (.ref f_l_box) = true)
    {od_l_take an_l_take : Option Addr} {sl_l_take : Array (Option Value)} {oc_l_take kV_l_take dc_l_take pm_l_take cd_l_take ct_l_take : Value} {f_l_take : Addr}
    (a_l_take : PySem.W.nsIn K mainGlobals "_law_take" = some (some (.ref f_l_take)))
    (l_l_take : K.lookup f_l_take = some ⟨oc_l_take, od_l_take, .func (PySem.W.fnOf "_law_take" "_law_take" (defArgs s_l_take) (defBody s_l_take) (defScope s_l_take) .none kV_l_take dc_l_take pm_l_take an_l_take cd_l_take ct_l_take), sl_l_take⟩)
    (c_l_take : PySem.W.codeIn K cd_l_take "_law_take" = true) (k_l_take : PySem.W.keepIn K (.ref f_l_take) = true)
    {od_l_same an_l_same : Option Addr} {sl_l_same : Array (Option Value)} {oc_l_same kV_l_same dc_l_same pm_l_same cd_l_same ct_l_same : Value} {f_l_same : Addr}
    (a_l_same : PySem.W.nsIn K mainGlobals "_law_same" = some (some (.ref f_l_same)))
    (l_l_same : K.lookup f_l_same = some ⟨oc_l_same, od_l_same, .func (PySem.W.fnOf "_law_same" "_law_same" (defArgs s_l_same) (defBody s_l_same) (defScope s_l_same) .none kV_l_same dc_l_same pm_l_same an_l_same cd_l_same ct_l_same), sl_l_same⟩)
    (c_l_same : PySem.W.codeIn K cd_l_same "_law_same" = true) (k_l_same : PySem.W.keepIn K (.ref f_l_same) = true)
    {od_l_bytes an_l_bytes : Option Addr} {sl_l_bytes : Array (Option Value)} {oc_l_bytes kV_l_bytes dc_l_bytes pm_l_bytes cd_l_bytes ct_l_bytes : Value} {f_l_bytes : Addr}
    (a_l_bytes : PySem.W.nsIn K mainGlobals "_law_bytes" = some (some (.ref f_l_bytes)))
    (l_l_bytes : K.lookup f_l_bytes = some ⟨oc_l_bytes, od_l_bytes, .func (PySem.W.fnOf "_law_bytes" "_law_bytes" (defArgs s_l_bytes) (defBody s_l_bytes) (defScope s_l_bytes) .none kV_l_bytes dc_l_bytes pm_l_bytes an_l_bytes cd_l_bytes ct_l_bytes), sl_l_bytes⟩)
    (c_l_bytes : PySem.W.codeIn K cd_l_bytes "_law_bytes" = true) (k_l_bytes : PySem.W.keepIn K (.ref f_l_bytes) = true)
    {od_l_signed an_l_signed : Option Addr} {sl_l_signed : Array (Option Value)} {oc_l_signed kV_l_signed dc_l_signed pm_l_signed cd_l_signed ct_l_signed : Value} {f_l_signed : Addr}
    (a_l_signed : PySem.W.nsIn K mainGlobals "_law_signed" = some (some (.ref f_l_signed)))
    (l_l_signed : K.lookup f_l_signed = some ⟨oc_l_signed, od_l_signed, .func (PySem.W.fnOf "_law_signed" "_law_signed" (defArgs s_l_signed) (defBody s_l_signed) (defScope s_l_signed) .none kV_l_signed dc_l_signed pm_l_signed an_l_signed cd_l_signed ct_l_signed), sl_l_signed⟩)
    (c_l_signed : PySem.W.codeIn K cd_l_signed "_law_signed" = true) (k_l_signed : PySem.W.keepIn K (.ref f_l_signed) = true)
    {od_l_any_bytes an_l_any_bytes : Option Addr} {sl_l_any_bytes : Array (Option Value)} {oc_l_any_bytes kV_l_any_bytes dc_l_any_bytes pm_l_any_bytes cd_l_any_bytes ct_l_any_bytes : Value} {f_l_any_bytes : Addr}
    (a_l_any_bytes : PySem.W.nsIn K mainGlobals "_law_any_bytes" = some (some (.ref f_l_any_bytes)))
    (l_l_any_bytes : K.lookup f_l_any_bytes = some ⟨oc_l_any_bytes, od_l_any_bytes, .func (PySem.W.fnOf "_law_any_bytes" "_law_any_bytes" (defArgs s_l_any_bytes) (defBody s_l_any_bytes) (defScope s_l_any_bytes) .none kV_l_any_bytes dc_l_any_bytes pm_l_any_bytes an_l_any_bytes cd_l_any_bytes ct_l_any_bytes), sl_l_any_bytes⟩)
    (c_l_any_bytes : PySem.W.codeIn K cd_l_any_bytes "_law_any_bytes" = true) (k_l_any_bytes : PySem.W.keepIn K (.ref f_l_any_bytes) = true)
    {od_l_number_right an_l_number_right : Option Addr} {sl_l_number_right : Array (Option Value)} {oc_l_number_right kV_l_number_right dc_l_number_right pm_l_number_right cd_l_number_right ct_l_number_right : Value} {f_l_number_right : Addr}
    (a_l_number_right : PySem.W.nsIn K mainGlobals "_law_number_right" = some (some (.ref f_l_number_right)))
    (l_l_number_right : K.lookup f_l_number_right = some ⟨oc_l_number_right, od_l_number_right, .func (PySem.W.fnOf "_law_number_right" "_law_number_right" (defArgs s_l_number_right) (defBody s_l_number_right) (defScope s_l_number_right) .none kV_l_number_right dc_l_number_right pm_l_number_right an_l_number_right cd_l_number_right ct_l_number_right), sl_l_number_right⟩)
    (c_l_number_right : PySem.W.codeIn K cd_l_number_right "_law_number_right" = true) (k_l_number_right : PySem.W.keepIn K (.ref f_l_number_right) = true)
    {od_l_signed_right an_l_signed_right : Option Addr} {sl_l_signed_right : Array (Option Value)} {oc_l_signed_right kV_l_signed_right dc_l_signed_right pm_l_signed_right cd_l_signed_right ct_l_signed_right : Value} {f_l_signed_right : Addr}
    (a_l_signed_right : PySem.W.nsIn K mainGlobals "_law_signed_right" = some (some (.ref f_l_signed_right)))
    (l_l_signed_right : K.lookup f_l_signed_right = some ⟨oc_l_signed_right, od_l_signed_right, .func (PySem.W.fnOf "_law_signed_right" "_law_signed_right" (defArgs s_l_signed_right) (defBody s_l_signed_right) (defScope s_l_signed_right) .none kV_l_signed_right dc_l_signed_right pm_l_signed_right an_l_signed_right cd_l_signed_right ct_l_signed_right), sl_l_signed_right⟩)
    (c_l_signed_right : PySem.W.codeIn K cd_l_signed_right "_law_signed_right" = true) (k_l_signed_right : PySem.W.keepIn K (.ref f_l_signed_right) = true)
    {od_l_right an_l_right : Option Addr} {sl_l_right : Array (Option Value)} {oc_l_right kV_l_right dc_l_right pm_l_right cd_l_right ct_l_right : Value} {f_l_right : Addr}
    (a_l_right : PySem.W.nsIn K mainGlobals "_law_right" = some (some (.ref f_l_right)))
    (l_l_right : K.lookup f_l_right = some ⟨oc_l_right, od_l_right, .func (PySem.W.fnOf "_law_right" "_law_right" (defArgs s_l_right) (defBody s_l_right) (defScope s_l_right) .none kV_l_right dc_l_right pm_l_right an_l_right cd_l_right ct_l_right), sl_l_right⟩)
    (c_l_right : PySem.W.codeIn K cd_l_right "_law_right" = true) (k_l_right : PySem.W.keepIn K (.ref f_l_right) = true)
    {od_law an_law : Option Addr} {sl_law : Array (Option Value)} {oc_law kV_law dc_law pm_law cd_law ct_law : Value} {f_law : Addr}
    (a_law : PySem.W.nsIn K mainGlobals "law" = some (some (.ref f_law)))
    (l_law : K.lookup f_law = some ⟨oc_law, od_law, .func (PySem.W.fnOf "law" "law" (defArgs s_law) (defBody s_law) (defScope s_law) .none kV_law dc_law pm_law an_law cd_law ct_law), sl_law⟩)
    (c_law : PySem.W.codeIn K cd_law "law" = true) (k_law : PySem.W.keepIn K (.ref f_law) = true)
    {t_BASE : Nat} (h_BASE : PySem.W.nsIn K mainGlobals "BASE" = some (some (.int 64 t_BASE)))
    {t_FIRST_HEAD : Nat} (h_FIRST_HEAD : PySem.W.nsIn K mainGlobals "FIRST_HEAD" = some (some (.int 128 t_FIRST_HEAD)))
    {t_MOST_FIGURES : Nat} (h_MOST_FIGURES : PySem.W.nsIn K mainGlobals "MOST_FIGURES" = some (some (.int 4 t_MOST_FIGURES)))
    (y_abs : PySem.W.nsIn K mainGlobals "abs" = some none)
    (y_all : PySem.W.nsIn K mainGlobals "all" = some none)
    (y_bool : PySem.W.nsIn K mainGlobals "bool" = some none)
    (y_int : PySem.W.nsIn K mainGlobals "int" = some none)
    (y_isinstance : PySem.W.nsIn K mainGlobals "isinstance" = some none)
    (y_len : PySem.W.nsIn K mainGlobals "len" = some none)
    (y_list : PySem.W.nsIn K mainGlobals "list" = some none)
    (y_max : PySem.W.nsIn K mainGlobals "max" = some none)
    (y_min : PySem.W.nsIn K mainGlobals "min" = some none)
    (y_range : PySem.W.nsIn K mainGlobals "range" = some none)
    (y_tuple : PySem.W.nsIn K mainGlobals "tuple" = some none)
    (y_zip : PySem.W.nsIn K mainGlobals "zip" = some none) :
    ∃ fd : FuncData, (∀ (s : Shared) (v : Value), BindsTo s fd ⟨[v], []⟩ [("_law_script", v)]) ∧ ∀ base : Heap, K.In base → base.Ns mainGlobals mg → FnOk l.prog w K mg base CX0 6 fa fd ["_law_script"] (spLaw K) := by
  have e := hfa.symm.trans (PySem.W.mg_of X G a_law)
  cases e
  have F_number_bytes := fun_mk (st := s_number_bytes) l_number_bytes c_number_bytes k_number_bytes
  have b_number_bytes := F_number_bytes.binds (ps := ["number"]) fun _ _ _ _ _ _ us hl => match us, hl with | [_], _ => rfl
  have m_number_bytes := PySem.W.mg_of X G a_number_bytes
  have F_signed_bytes := fun_mk (st := s_signed_bytes) l_signed_bytes c_signed_bytes k_signed_bytes
  have b_signed_bytes := F_signed_bytes.binds (ps := ["number"]) fun _ _ _ _ _ _ us hl => match us, hl with | [_], _ => rfl
  have m_signed_bytes := PySem.W.mg_of X G a_signed_bytes
  have F_number_at := fun_mk (st := s_number_at) l_number_at c_number_at k_number_at
  have b_number_at := F_number_at.binds (ps := ["codes", "at"]) fun _ _ _ _ _ _ us hl => match us, hl with | [_, _], _ => rfl
  have m_number_at := PySem.W.mg_of X G a_number_at
  have F_signed_at := fun_mk (st := s_signed_at) l_signed_at c_signed_at k_signed_at
  have b_signed_at := F_signed_at.binds (ps := ["codes", "at"]) fun _ _ _ _ _ _ us hl => match us, hl with | [_, _], _ => rfl
  have m_signed_at := PySem.W.mg_of X G a_signed_at
  have F_l_box := fun_mk (st := s_l_box) l_l_box c_l_box k_l_box
  have b_l_box := F_l_box.binds (ps := ["_law_script", "_law_k"]) fun _ _ _ _ _ _ us hl => match us, hl with | [_, _], _ => rfl
  have m_l_box := PySem.W.mg_of X G a_l_box
  have F_l_take := fun_mk (st := s_l_take) l_l_take c_l_take k_l_take
  have b_l_take := F_l_take.binds (ps := ["_law_box_here", "_law_many"]) fun _ _ _ _ _ _ us hl => match us, hl with | [_, _], _ => rfl
  have m_l_take := PySem.W.mg_of X G a_l_take
  have F_l_same := fun_mk (st := s_l_same) l_l_same c_l_same k_l_same
  have b_l_same := F_l_same.binds (ps := ["_law_found", "_law_due"]) fun _ _ _ _ _ _ us hl => match us, hl with | [_, _], _ => rfl
  have m_l_same := PySem.W.mg_of X G a_l_same
  have F_l_bytes := fun_mk (st := s_l_bytes) l_l_bytes c_l_bytes k_l_bytes
  have b_l_bytes := F_l_bytes.binds (ps := ["_law_figure"]) fun _ _ _ _ _ _ us hl => match us, hl with | [_], _ => rfl
  have m_l_bytes := PySem.W.mg_of X G a_l_bytes
  have F_l_signed := fun_mk (st := s_l_signed) l_l_signed c_l_signed k_l_signed
  have b_l_signed := F_l_signed.binds (ps := ["_law_step"]) fun _ _ _ _ _ _ us hl => match us, hl with | [_], _ => rfl
  have m_l_signed := PySem.W.mg_of X G a_l_signed
  have F_l_any_bytes := fun_mk (st := s_l_any_bytes) l_l_any_bytes c_l_any_bytes k_l_any_bytes
  have b_l_any_bytes := F_l_any_bytes.binds (ps := ["_law_box_here", "_law_many"]) fun _ _ _ _ _ _ us hl => match us, hl with | [_, _], _ => rfl
  have m_l_any_bytes := PySem.W.mg_of X G a_l_any_bytes
  have F_l_number_right := fun_mk (st := s_l_number_right) l_l_number_right c_l_number_right k_l_number_right
  have b_l_number_right := F_l_number_right.binds (ps := ["_law_box_here", "_law_figure"]) fun _ _ _ _ _ _ us hl => match us, hl with | [_, _], _ => rfl
  have m_l_number_right := PySem.W.mg_of X G a_l_number_right
  have F_l_signed_right := fun_mk (st := s_l_signed_right) l_l_signed_right c_l_signed_right k_l_signed_right
  have b_l_signed_right := F_l_signed_right.binds (ps := ["_law_box_here", "_law_step"]) fun _ _ _ _ _ _ us hl => match us, hl with | [_, _], _ => rfl
  have m_l_signed_right := PySem.W.mg_of X G a_l_signed_right
  have F_l_right := fun_mk (st := s_l_right) l_l_right c_l_right k_l_right
  have b_l_right := F_l_right.binds (ps := ["_law_box_here"]) fun _ _ _ _ _ _ us hl => match us, hl with | [_], _ => rfl
  have m_l_right := PySem.W.mg_of X G a_l_right
  have F_law := fun_mk (st := s_law) l_law c_law k_law
  have b_law := F_law.binds (ps := ["_law_script"]) fun _ _ _ _ _ _ us hl => match us, hl with | [_], _ => rfl
  have m_law := PySem.W.mg_of X G a_law
  have g_BASE := PySem.W.mg_of X G h_BASE
  have g_FIRST_HEAD := PySem.W.mg_of X G h_FIRST_HEAD
  have g_MOST_FIGURES := PySem.W.mg_of X G h_MOST_FIGURES
  have z_abs := PySem.W.mg_none_of X G y_abs
  have z_all := PySem.W.mg_none_of X G y_all
  have z_bool := PySem.W.mg_none_of X G y_bool
  have z_int := PySem.W.mg_none_of X G y_int
  have z_isinstance := PySem.W.mg_none_of X G y_isinstance
  have z_len := PySem.W.mg_none_of X G y_len
  have z_list := PySem.W.mg_none_of X G y_list
  have z_max := PySem.W.mg_none_of X G y_max
  have z_min := PySem.W.mg_none_of X G y_min
  have z_range := PySem.W.mg_none_of X G y_range
  have z_tuple := PySem.W.mg_none_of X G y_tuple
  have z_zip := PySem.W.mg_none_of X G y_zip
  have kb_nb : KBn K _ ["number"] 0 ["number"] (fun _ ws => ws) (fun _ zs => zs) := ⟨fun s us ws _ h1 h2 => match us, h1, ws, h2 with | [], _, [_], _ => (.of_eq rfl : BindsTo s (PySem.W.fnOf "number_bytes" "number_bytes" (defArgs s_number_bytes) (defBody s_number_bytes) (defScope s_number_bytes) .none kV_number_bytes dc_number_bytes pm_number_bytes an_number_bytes cd_number_bytes ct_number_bytes) _ _), fun _ r => r⟩
  have kb_sb : KBn K _ ["number"] 0 ["number"] (fun _ ws => ws) (fun _ zs => zs) := ⟨fun s us ws _ h1 h2 => match us, h1, ws, h2 with | [], _, [_], _ => (.of_eq rfl : BindsTo s (PySem.W.fnOf "signed_bytes" "signed_bytes" (defArgs s_signed_bytes) (defBody s_signed_bytes) (defScope s_signed_bytes) .none kV_signed_bytes dc_signed_bytes pm_signed_bytes an_signed_bytes cd_signed_bytes ct_signed_bytes) _ _), fun _ r => r⟩
  have kb_na : KBn K _ ["codes", "at"] 0 ["at", "codes"] (fun _ ws => sw2 ws) (fun _ zs => sw2 zs) := ⟨fun s us ws _ h1 h2 => match us, h1, ws, h2 with | [], _, [_, _], _ => (.of_eq rfl : BindsTo s (PySem.W.fnOf "number_at" "number_at" (defArgs s_number_at) (defBody s_number_at) (defScope s_number_at) .none kV_number_at dc_number_at pm_number_at an_number_at cd_number_at ct_number_at) _ _), fun _ r => vals_sw2 r⟩
  have kb_sa : KBn K _ ["codes", "at"] 0 ["codes", "at"] (fun _ ws => ws) (fun _ zs => zs) := ⟨fun s us ws _ h1 h2 => match us, h1, ws, h2 with | [], _, [_, _], _ => (.of_eq rfl : BindsTo s (PySem.W.fnOf "signed_at" "signed_at" (defArgs s_signed_at) (defBody s_signed_at) (defScope s_signed_at) .none kV_signed_at dc_signed_at pm_signed_at an_signed_at cd_signed_at ct_signed_at) _ _), fun _ r => r⟩
  refine ⟨PySem.W.fnOf "law" "law" (defArgs s_law) (defBody s_law) (defScope s_law) .none kV_law dc_law pm_law an_law cd_law ct_law, fun s v => .of_eq rfl, fun base _ _ => ?_⟩
  have O_nb : FnOk l.prog w K mg base CX0 1 _ _ ["number"] spNB := ok_number_bytes F_number_bytes g_BASE
  have C_nb : Cal l.prog w K mg base 1 "number_bytes" ["number"] spNB := ⟨_, _, O_nb, m_number_bytes, k_number_bytes, b_number_bytes⟩
  have CK_nb : CalK l.prog w K mg base 1 "number_bytes" ["number"] ["number"] (fun _ zs => zs) spNB := ⟨_, _, _, O_nb, m_number_bytes, k_number_bytes, kb_nb⟩
  have O_sb : FnOk l.prog w K mg base CX0 2 _ _ ["number"] spSB := ok_signed_bytes F_signed_bytes C_nb
  have C_sb : Cal l.prog w K mg base 2 "signed_bytes" ["number"] spSB := ⟨_, _, O_sb, m_signed_bytes, k_signed_bytes, b_signed_bytes⟩
  have CK_sb : CalK l.prog w K mg base 2 "signed_bytes" ["number"] ["number"] (fun _ zs => zs) spSB := ⟨_, _, _, O_sb, m_signed_bytes, k_signed_bytes, kb_sb⟩
  have O_na : FnOk l.prog w K mg base CX0 1 _ _ ["codes", "at"] (spNA K) := ok_number_at F_number_at g_BASE g_MOST_FIGURES g_FIRST_HEAD z_range z_len
  have C_na : Cal l.prog w K mg base 1 "number_at" ["codes", "at"] (spNA K) := ⟨_, _, O_na, m_number_at, k_number_at, b_number_at⟩
  have CK_na : CalK l.prog w K mg base 1 "number_at" ["at", "codes"] ["codes", "at"] (fun _ zs => sw2 zs) (spNA K) := ⟨_, _, _, O_na, m_number_at, k_number_at, kb_na⟩
  have O_sa : FnOk l.prog w K mg base CX0 2 _ _ ["codes", "at"] (spSA K) := ok_signed_at F_signed_at C_na
  have C_sa : Cal l.prog w K mg base 2 "signed_at" ["codes", "at"] (spSA K) := ⟨_, _, O_sa, m_signed_at, k_signed_at, b_signed_at⟩
  have CK_sa : CalK l.prog w K mg base 2 "signed_at" ["codes", "at"] ["codes", "at"] (fun _ zs => zs) (spSA K) := ⟨_, _, _, O_sa, m_signed_at, k_signed_at, kb_sa⟩
  have C_box : Cal l.prog w K mg base 1 "_law_box" ["_law_script", "_law_k"] (spBox K) := ⟨_, _, ok_l_box F_l_box z_len z_abs z_int, m_l_box, k_l_box, b_l_box⟩
  have C_take : Cal l.prog w K mg base 1 "_law_take" ["_law_box_here", "_law_many"] spTake := ⟨_, _, ok_l_take F_l_take, m_l_take, k_l_take, b_l_take⟩
  have C_by : Cal l.prog w K mg base 1 "_law_bytes" ["_law_figure"] spNB := ⟨_, _, ok_l_bytes F_l_bytes, m_l_bytes, k_l_bytes, b_l_bytes⟩
  have C_si : Cal l.prog w K mg base 2 "_law_signed" ["_law_step"] spSB := ⟨_, _, ok_l_signed F_l_signed C_by, m_l_signed, k_l_signed, b_l_signed⟩
  have C_any : Cal l.prog w K mg base 2 "_law_any_bytes" ["_law_box_here", "_law_many"] spAny := ⟨_, _, ok_l_any_bytes F_l_any_bytes z_range C_take, m_l_any_bytes, k_l_any_bytes, b_l_any_bytes⟩
  have S0 : Cal l.prog w K mg base 0 "_law_same" ["_law_found", "_law_due"] (spSm (Twin K 0)) := cal_same0 m_l_same k_l_same b_l_same
  have S1 : Cal l.prog w K mg base 1 "_law_same" ["_law_found", "_law_due"] (spSm (Twin K 1)) := ⟨_, _, ok_l_same F_l_same z_isinstance z_list z_tuple z_bool z_int z_len z_all z_zip S0, m_l_same, k_l_same, b_l_same⟩
  have S2 : Cal l.prog w K mg base 2 "_law_same" ["_law_found", "_law_due"] (spSm (Twin K 2)) := ⟨_, _, ok_l_same F_l_same z_isinstance z_list z_tuple z_bool z_int z_len z_all z_zip S1, m_l_same, k_l_same, b_l_same⟩
  have S3 : Cal l.prog w K mg base 3 "_law_same" ["_law_found", "_law_due"] (spSm (Twin K 3)) := ⟨_, _, ok_l_same F_l_same z_isinstance z_list z_tuple z_bool z_int z_len z_all z_zip S2, m_l_same, k_l_same, b_l_same⟩
  have C_nr : Cal l.prog w K mg base 4 "_law_number_right" ["_law_box_here", "_law_figure"] spNR := ⟨_, _, ok_l_number_right F_l_number_right z_len z_list z_tuple C_by C_take C_any C_nb CK_nb C_na CK_na S3, m_l_number_right, k_l_number_right, b_l_number_right⟩
  have C_sr : Cal l.prog w K mg base 4 "_law_signed_right" ["_law_box_here", "_law_step"] spSR := ⟨_, _, ok_l_signed_right F_l_signed_right z_len C_si C_take C_any CK_sb C_sa CK_sa S3, m_l_signed_right, k_l_signed_right, b_l_signed_right⟩
  have C_r : Cal l.prog w K mg base 5 "_law_right" ["_law_box_here"] spR := ⟨_, _, ok_l_right F_l_right z_len C_take C_nr C_sr C_nb C_sb C_na C_sa S3, m_l_right, k_l_right, b_l_right⟩
  exact ok_law F_law z_all z_range z_max z_min z_len C_box C_r
end My
open PySem PySem.W PyProof.Rows
set_option maxRecDepth 100000 in
set_option maxHeartbeats 0 in
theorem PySem.Challenge.cw_cardlines_k10_numbers_in_figures_holds : PySem.Challenge.rw_cardlines_k10_numbers_in_figures.Holds := by
  w_on; o_law; k_head; (case hw => w_witness2)
  k_fill
  refine L2.walk_of (l := PySem.Challenge.rw_cardlines_k10_numbers_in_figures) (n := 63) (k := 6) (x := "_law_script") (CX := fun _ => L2.CX0) (sp := fun w => My.spLaw _) rfl (by decide) rfl ⟨rfl, by decide, by decide⟩ (fun w h Y => PySem.W.kIn_of Y) ?F (fun _ _ a ns hl _ hS => ⟨a, ns, rfl, hS, hl, fun _ => rfl⟩) (fun _ _ _ _ _ h => h)
  case F =>
    intro w mg fa h KX G hmg
    refine' My.all_mk KX G hmg ?a_number_bytes ?l_number_bytes ?c_number_bytes ?k_number_bytes ?a_signed_bytes ?l_signed_bytes ?c_signed_bytes ?k_signed_bytes ?a_number_at ?l_number_at ?c_number_at ?k_number_at ?a_signed_at ?l_signed_at ?c_signed_at ?k_signed_at ?a_l_box ?l_l_box ?c_l_box ?k_l_box ?a_l_take ?l_l_take ?c_l_take ?k_l_take ?a_l_same ?l_l_same ?c_l_same ?k_l_same ?a_l_bytes ?l_l_bytes ?c_l_bytes ?k_l_bytes ?a_l_signed ?l_l_signed ?c_l_signed ?k_l_signed ?a_l_any_bytes ?l_l_any_bytes ?c_l_any_bytes ?k_l_any_bytes ?a_l_number_right ?l_l_number_right ?c_l_number_right ?k_l_number_right ?a_l_signed_right ?l_l_signed_right ?c_l_signed_right ?k_l_signed_right ?a_l_right ?l_l_right ?c_l_right ?k_l_right ?a_law ?l_law ?c_law ?k_law ?h_BASE ?h_FIRST_HEAD ?h_MOST_FIGURES ?y_abs ?y_all ?y_bool ?y_int ?y_isinstance ?y_len ?y_list ?y_max ?y_min ?y_range ?y_tuple ?y_zip
    (case a_number_bytes => k_is)
    (case l_number_bytes => k_is)
    (case c_number_bytes => k_is)
    (case k_number_bytes => k_is)
    (case a_signed_bytes => k_is)
    (case l_signed_bytes => k_is)
    (case c_signed_bytes => k_is)
    (case k_signed_bytes => k_is)
    (case a_number_at => k_is)
    (case l_number_at => k_is)
    (case c_number_at => k_is)
    (case k_number_at => k_is)
    (case a_signed_at => k_is)
    (case l_signed_at => k_is)
    (case c_signed_at => k_is)
    (case k_signed_at => k_is)
    (case a_l_box => k_is)
    (case l_l_box => k_is)
    (case c_l_box => k_is)
    (case k_l_box => k_is)
    (case a_l_take => k_is)
    (case l_l_take => k_is)
    (case c_l_take => k_is)
    (case k_l_take => k_is)
    (case a_l_same => k_is)
    (case l_l_same => k_is)
    (case c_l_same => k_is)
    (case k_l_same => k_is)
    (case a_l_bytes => k_is)
    (case l_l_bytes => k_is)
    (case c_l_bytes => k_is)
    (case k_l_bytes => k_is)
    (case a_l_signed => k_is)
    (case l_l_signed => k_is)
    (case c_l_signed => k_is)
    (case k_l_signed => k_is)
    (case a_l_any_bytes => k_is)
    (case l_l_any_bytes => k_is)
    (case c_l_any_bytes => k_is)
    (case k_l_any_bytes => k_is)
    (case a_l_number_right => k_is)
    (case l_l_number_right => k_is)
    (case c_l_number_right => k_is)
    (case k_l_number_right => k_is)
    (case a_l_signed_right => k_is)
    (case l_l_signed_right => k_is)
    (case c_l_signed_right => k_is)
    (case k_l_signed_right => k_is)
    (case a_l_right => k_is)
    (case l_l_right => k_is)
    (case c_l_right => k_is)
    (case k_l_right => k_is)
    (case a_law => k_is)
    (case l_law => k_is)
    (case c_law => k_is)
    (case k_law => k_is)
    (case h_BASE => k_is)
    (case h_FIRST_HEAD => k_is)
    (case h_MOST_FIGURES => k_is)
    (case y_abs => k_is)
    (case y_all => k_is)
    (case y_bool => k_is)
    (case y_int => k_is)
    (case y_isinstance => k_is)
    (case y_len => k_is)
    (case y_list => k_is)
    (case y_max => k_is)
    (case y_min => k_is)
    (case y_range => k_is)
    (case y_tuple => k_is)
    (case y_zip => k_is)


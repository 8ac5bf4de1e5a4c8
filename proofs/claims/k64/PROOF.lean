import PyProof.Rows.All
import Wide.All
import OpenK.AllK
import Wide.FinOn
import HandS.ForMost
import HandS.Walk
import HandS.Zip
import HandS.WideBits
import HandS.IsInst
import OpenK.KEqL
import HandS.More
import HandS.Flow
import HandS.NoneIn
import HandS.Defaults
import HandS.Wide
import HandS.Style
import KE.OsRunLaw
import HandS.Star
import HandS.TupAny
import HandS.Text
import HandS.Codes
import HandS.Dict
import HandS.Deep
import HandS.StrMore
import HandS.WordsDict
import KE.KUnpackStar
import KE.DataEq
import PyProof.Rows.RegReprOcc
import PyProof.ReprBulk
import PyProof.ReprRoads
import HandS.Conv
import KE.KRevSl
import PySem.Challenge.RW_guessedzeros_k64_what_deeds_are
set_option Elab.async false
set_option linter.all false
set_option maxRecDepth 100000
set_option maxHeartbeats 40000000
namespace GZ
open PySem PySem.Spec PyProof.Rows L2
/-! ### the text by places -/
def topS (i : Nat) : Stmt := PySem.Challenge.pw_guessedzeros_k64_what_deeds_are.main.body.getD i (.Pass ⟨0, 0, 0, 0⟩)
abbrev s_is_number : Stmt := topS 2
theorem sc_is_number : FnScope ["thing"] ["thing"] (defScope s_is_number) := ⟨rfl, rfl, rfl, by decide +kernel, rfl, by decide +kernel, by decide +kernel⟩
abbrev s_is_number_in : Stmt := topS 3
theorem sc_is_number_in : FnScope ["least", "greatest", "thing"] ["least", "greatest", "thing"] (defScope s_is_number_in) := ⟨rfl, rfl, rfl, by decide +kernel, rfl, by decide +kernel, by decide +kernel⟩
abbrev s_is_deed : Stmt := topS 10
theorem sc_is_deed : FnScope ["form", "thing", "op", "cells", "last", "cell"] ["form", "thing"] (defScope s_is_deed) := ⟨rfl, rfl, rfl, by decide +kernel, rfl, by decide +kernel, by decide +kernel⟩
abbrev s_Form___init__ : Stmt := inClass (topS 12) 0
theorem sc_Form___init__ : FnScope ["self", "scale", "tail"] ["self", "scale", "tail"] (defScope s_Form___init__) := ⟨rfl, rfl, rfl, by decide +kernel, rfl, by decide +kernel, by decide +kernel⟩
abbrev s_Form_width : Stmt := inClass (topS 12) 1
theorem sc_Form_width : FnScope ["self"] ["self"] (defScope s_Form_width) := ⟨rfl, rfl, rfl, by decide +kernel, rfl, by decide +kernel, by decide +kernel⟩
abbrev s_Form_top : Stmt := inClass (topS 12) 3
theorem sc_Form_top : FnScope ["self"] ["self"] (defScope s_Form_top) := ⟨rfl, rfl, rfl, by decide +kernel, rfl, by decide +kernel, by decide +kernel⟩
abbrev s_Form_word_of : Stmt := inClass (topS 12) 5
theorem sc_Form_word_of : FnScope ["self", "sign", "scale", "tail"] ["self", "sign", "scale", "tail"] (defScope s_Form_word_of) := ⟨rfl, rfl, rfl, by decide +kernel, rfl, by decide +kernel, by decide +kernel⟩
abbrev s_Form_is_word : Stmt := inClass (topS 12) 6
theorem sc_Form_is_word : FnScope ["self", "thing"] ["self", "thing"] (defScope s_Form_is_word) := ⟨rfl, rfl, rfl, by decide +kernel, rfl, by decide +kernel, by decide +kernel⟩
abbrev s_Form_greatest : Stmt := inClass (topS 12) 10
theorem sc_Form_greatest : FnScope ["self", "sign"] ["self", "sign"] (defScope s_Form_greatest) := ⟨rfl, rfl, rfl, by decide +kernel, rfl, by decide +kernel, by decide +kernel⟩
abbrev sBox : Stmt := topS 14
abbrev sTake : Stmt := topS 15
abbrev sFolded : Stmt := topS 16
abbrev s__law_form : Stmt := topS 17
theorem sc__law_form : FnScope ["_law_box_here", "_law_some"] ["_law_box_here"] (defScope s__law_form) := ⟨rfl, rfl, rfl, by decide +kernel, rfl, by decide +kernel, by decide +kernel⟩
abbrev s__law_word : Stmt := topS 18
theorem sc__law_word : FnScope ["_law_box_here", "_law_scale", "_law_tail", "_law_top", "_law_some", "_law_mode", "_law_word_here"] ["_law_box_here", "_law_scale", "_law_tail"] (defScope s__law_word) := ⟨rfl, rfl, rfl, by decide +kernel, rfl, by decide +kernel, by decide +kernel⟩
abbrev s__law_begin_world : Stmt := topS 19
theorem sc__law_begin_world : FnScope ["_law_box_here", "_law_scale", "_law_tail", "_law_first", "_law_k"] ["_law_box_here"] (defScope s__law_begin_world) := ⟨rfl, rfl, rfl, by decide +kernel, rfl, by decide +kernel, by decide +kernel⟩
abbrev s__law_cell : Stmt := topS 20
theorem sc__law_cell : FnScope ["_law_box_here", "_law_w"] ["_law_box_here", "_law_w"] (defScope s__law_cell) := ⟨rfl, rfl, rfl, by decide +kernel, rfl, by decide +kernel, by decide +kernel⟩
abbrev s__law_deed : Stmt := topS 21
theorem sc__law_deed : FnScope ["_law_box_here", "_law_w", "_law_op", "_law_mode", "_law_some", "_law_turn"] ["_law_box_here", "_law_w"] (defScope s__law_deed) := ⟨rfl, rfl, rfl, by decide +kernel, rfl, by decide +kernel, by decide +kernel⟩
abbrev s__law_is_cell : Stmt := topS 22
theorem sc__law_is_cell : FnScope ["_law_thing"] ["_law_thing"] (defScope s__law_is_cell) := ⟨rfl, rfl, rfl, by decide +kernel, rfl, by decide +kernel, by decide +kernel⟩
abbrev s__law_due : Stmt := topS 23
theorem sc__law_due : FnScope ["_law_w", "_law_thing", "_law_word_here", "_law_many", "_law_one"] ["_law_w", "_law_thing"] (defScope s__law_due) := ⟨rfl, rfl, rfl, by decide +kernel, rfl, by decide +kernel, by decide +kernel⟩
abbrev s__law_part : Stmt := topS 24
theorem sc__law_part : FnScope ["_law_box_here", "_law_w", "_law_part_here", "_law_some"] ["_law_box_here", "_law_w", "_law_part_here"] (defScope s__law_part) := ⟨rfl, rfl, rfl, by decide +kernel, rfl, by decide +kernel, by decide +kernel⟩
abbrev s__law_bent : Stmt := topS 25
theorem sc__law_bent : FnScope ["_law_box_here", "_law_w", "_law_deed_here", "_law_at", "_law_mode"] ["_law_box_here", "_law_w", "_law_deed_here"] (defScope s__law_bent) := ⟨rfl, rfl, rfl, by decide +kernel, rfl, by decide +kernel, by decide +kernel⟩
abbrev s__law_right : Stmt := topS 26
theorem sc__law_right : FnScope ["_law_box_here", "_law_w", "_law_form_here", "_law_things", "_law_turn", "_law_deed_here", "_law_some", "_law_thing", "_law_kept", "_law_found"] ["_law_box_here"] (defScope s__law_right) := ⟨rfl, rfl, rfl, by decide +kernel, rfl, by decide +kernel, by decide +kernel⟩
abbrev s_law : Stmt := topS 27
theorem sc_law : FnScope ["_law_script", "_law_cells", "_law_k"] ["_law_script"] (defScope s_law) := ⟨rfl, rfl, rfl, by decide +kernel, rfl, by decide +kernel, by decide +kernel⟩
/-! ### built-in names that the text leaves alone -/
structure Bl (mg : Str → Option Value) : Prop where
  len : mg "len" = none
  abs : mg "abs" = none
  int : mg "int" = none
  divmod : mg "divmod" = none
  list : mg "list" = none
  enumerate : mg "enumerate" = none
  isinstance : mg "isinstance" = none
  tuple : mg "tuple" = none
  str : mg "str" = none
  bool : mg "bool" = none
  zip : mg "zip" = none
  all : mg "all" = none
  range : mg "range" = none
  max : mg "max" = none
  any : mg "any" = none
  min : mg "min" = none
  sum : mg "sum" = none
/-! ### rules with the written part told (for the blocks of comprehensions) -/
section
variable {X : Cx} {K : PySem.W.Frag}
theorem call_len_seqK (h : X.K = K := by rfl) : CallR X (.builtin "len") (fun xs H Q => ∃ p ys, xs = [.ref p] ∧ (SqL K H p ys ∨ SqT K H p ys) ∧ Q (.int ys.length) H) := by subst h; exact call_len_seq
theorem call_list_ofK (h : X.K = K := by rfl) : CallR X (.type "list") (fun xs H Q => ∃ p ys, xs = [.ref p] ∧ (SqL K H p ys ∨ SqT K H p ys) ∧ ∀ l, H l = none → Q (.ref l) (upd H l (.lst ys))) := by subst h; exact call_list_of
theorem call_tuple_ofK (h : X.K = K := by rfl) : CallR X (.type "tuple") (fun xs H Q => ∃ p ys, xs = [.ref p] ∧ ((SqL K H p ys ∧ ∀ l, H l = none → Q (.ref l) (upd H l (.tup ys))) ∨ (SqT K H p ys ∧ Q (.ref p) H))) := by subst h; exact call_tuple_of
theorem ix_listK (h : X.K = K := by rfl) : IxR X (rIxL K) := by subst h; exact ix_list
theorem ix_tupK (h : X.K = K := by rfl) : IxR X (rIxT K) := by subst h; exact ix_tup
theorem ix_seqK (h : X.K = K := by rfl) : IxR X (rIx K) := by subst h; exact ix_seq
theorem op_in_seqK (h : X.K = K := by rfl) : OpR X (compareOp .In) (rIn K false) := by subst h; exact op_in_seq
theorem op_notIn_seqK (h : X.K = K := by rfl) : OpR X (compareOp .NotIn) (rIn K true) := by subst h; exact op_notIn_seq
theorem sl_listK (h : X.K = K := by rfl) : SlR X (rSlL K) := by subst h; exact sl_list
theorem cr_sumK (hc : X.calm = true) (h : X.K = K := by rfl) : CallR X (.builtin "sum") (rSum K) := by subst h; exact cr_sum hc
theorem cr_allK (hc : X.calm = true) (h : X.K = K := by rfl) : CallR X (.builtin "all") (rAll K) := by subst h; exact cr_all hc
theorem cr_anyK (hc : X.calm = true) (h : X.K = K := by rfl) : CallR X (.builtin "any") (rAny K) := by subst h; exact cr_any hc
theorem call_isiK' (h : X.K = K := by rfl) : CallR X (.builtin "isinstance") (rIsi K) := by subst h; exact call_isi
theorem pi_listK {tg l : Expr} {tl : TE} (hl : PE X l tl) (h : X.K = K := by rfl) : PI X tg l (iList K tl) := by subst h; exact pi_list hl
theorem pi_tupK {tg l : Expr} {tl : TE} (hl : PE X l tl) (h : X.K = K := by rfl) : PI X tg l (iTup K tl) := by subst h; exact pi_tup hl
theorem pe_fldK {e : Expr} {ta : TE} {f : Str} {pos : Pos} (he : PE X e ta) (hb : attributeBase e f X.env (eval e X.env) = eval e X.env) (h : X.K = K := by rfl) : PE X (.Attribute e f pos) (tFld K ta f) := by subst h; exact pe_fld he hb
end
/-! ### heaps -/
theorem same_upd {H : Hp} {p : Addr} {o : HO} (h : H p = none) : Same H (upd H p o) := fun b x e => by
  rw [upd_ne (ne_of_none e h)]
  exact e
/-- all but what stands at b is as it was -/
def Keep (b : Addr) (H H' : Hp) : Prop := ∀ p o, H p = some o → p ≠ b → H' p = some o
theorem Keep.refl (b : Addr) (H : Hp) : Keep b H H := fun _ _ h _ => h
theorem Keep.trans {b : Addr} {H H1 H2 : Hp} (x : Keep b H H1) (y : Keep b H1 H2) : Keep b H H2 := fun p o h n => y p o (x p o h n) n
theorem Keep.ofSame {b : Addr} {H H1 : Hp} (x : Same H H1) : Keep b H H1 := fun p o h _ => x p o h
theorem Keep.upd {b : Addr} {H : Hp} {o : HO} : Keep b H (upd H b o) := fun p x h n => by
  rw [upd_ne n]
  exact h
theorem Keep.new {b p : Addr} {H : Hp} {o : HO} (h : H p = none) : Keep b H (L2.upd H p o) := .ofSame (same_upd h)
theorem Keep.seq {K : PySem.W.Frag} {b a : Addr} {H H' : Hp} {xs : List V} (e : Keep b H H') (n : a ≠ b) (h : SqL K H a xs) : SqL K H' a xs := by
  rcases h with (h | ⟨o, h⟩) | h
  · exact .inl (.inl (e _ _ h n))
  · exact .inl (.inr ⟨o, e _ _ h n⟩)
  · exact .inr h
theorem Keep.seqT {K : PySem.W.Frag} {b a : Addr} {H H' : Hp} {xs : List V} (e : Keep b H H') (n : a ≠ b) (h : SqT K H a xs) : SqT K H' a xs := by
  rcases h with (h | ⟨o, h⟩) | h
  · exact .inl (.inl (e _ _ h n))
  · exact .inl (.inr ⟨o, e _ _ h n⟩)
  · exact .inr h
theorem Same.seqT {K : PySem.W.Frag} {a : Addr} {H H' : Hp} {xs : List V} (e : Same H H') (h : SqT K H a xs) : SqT K H' a xs := by
  rcases h with (h | ⟨o, h⟩) | h
  · exact .inl (.inl (e _ _ h))
  · exact .inl (.inr ⟨o, e _ _ h⟩)
  · exact .inr h
/-- a drawing box: three ints, the last at most c -/
def BoxAt (c : Int) (H : Hp) (b : Addr) : Prop := ∃ x0 x1 x2 : Int, H b = some (.lst [.int x0, .int x1, .int x2]) ∧ 0 ≤ x0 ∧ 0 ≤ x1 ∧ x1 < 2147483647 ∧ 0 ≤ x2 ∧ x2 ≤ c
theorem BoxAt.mono {c d : Int} {H : Hp} {b : Addr} (h : BoxAt c H b) (l : c ≤ d) : BoxAt d H b := by
  obtain ⟨x0, x1, x2, e, a1, a2, a3, a4, a5⟩ := h
  exact ⟨x0, x1, x2, e, a1, a2, a3, a4, by omega⟩
theorem BoxAt.same {c : Int} {H H' : Hp} {b : Addr} (h : BoxAt c H b) (s : Same H H') : BoxAt c H' b := by
  obtain ⟨x0, x1, x2, e, r⟩ := h
  exact ⟨x0, x1, x2, s _ _ e, r⟩
theorem BoxAt.at {c : Int} {H H' : Hp} {b : Addr} (h : BoxAt c H b) (s : H' b = H b) : BoxAt c H' b := by
  obtain ⟨x0, x1, x2, e, r⟩ := h
  exact ⟨x0, x1, x2, by rw [s]; exact e, r⟩
theorem BoxAt.ne {c : Int} {H : Hp} {b p : Addr} (h : BoxAt c H b) (n : H p = none) : b ≠ p := by
  obtain ⟨x0, x1, x2, e, r⟩ := h
  exact ne_of_none e n
theorem e7 : (10 : Int) ^ ((7 : Int).toNat) = 10000000 := by decide
theorem e18 : (10 : Int) ^ ((18 : Int).toNat) = 1000000000000000000 := by decide
theorem divp_small {i j : Int} (h0 : 0 < j) (h1 : j < 2 ^ 250) : CDivP i j := by
  refine ⟨h0, ?_⟩
  show (decide ((if j == 0 then 0 else j.natAbs.log2 / 30 + 1) > 300) && _) = false
  rw [if_neg (show ¬ (j == 0) = true by simpa using (show j ≠ 0 by omega))]
  have hl : j.natAbs.log2 < 250 := PySem.Flt.log2_lt_of (by decide) (by omega)
  rw [decide_eq_false (show ¬ (j.natAbs.log2 / 30 + 1 > 300) by omega), Bool.false_and]
section
variable {P : Program} {w : World} {K : PySem.W.Frag} {mg : Str → Option Value} {base : Heap}
/-! ### _law_take -/
theorem scTake : FnScope ["_law_box_here", "_law_size", "_law_found", "_law_step", "_law_once", "_law_twice"] ["_law_box_here", "_law_size"] (defScope sTake) := ⟨rfl, rfl, rfl, by decide +kernel, rfl, by decide +kernel, by decide +kernel⟩
def spTake (k : Nat) : Sp := fun vs H Q _ => ∃ (b : Addr) (n c : Int), vs = [.ref b, .int n] ∧ BoxAt c H b ∧ 1 ≤ n ∧ n ≤ 10000000 ^ k ∧ n < 2 ^ 250 ∧ c + 2 ^ k ≤ 1000000000 ∧ 0 < k ∧
  ∀ (r : Int) (H' : Hp), 0 ≤ r → r < n → BoxAt (c + 2 ^ (k - 1)) H' b → Keep b H H' → Q (.int r) H'
theorem take_none {f : Addr} {fd : FuncData} : FnOk P w K mg base CX0 0 f fd ["_law_box_here", "_law_size"] (spTake 0) := by
  have no : ∀ vs H Q E, ¬ spTake 0 vs H Q E := fun vs H Q E h => by
    obtain ⟨b, n, c, _, _, _, _, _, _, h0, _⟩ := h
    omega
  exact ⟨fun vs H Q E h => absurd h (no vs H Q E), fun A outer s H args us vs Q E _ _ _ _ h => absurd h (no vs H Q E)⟩
theorem ok_take1 {f : Addr} {fd : FuncData} {k : Nat} (F : Fun K "_law_take" "_law_take" sTake f fd) (G : FnOk P w K mg base CX0 k f fd ["_law_box_here", "_law_size"] (spTake k)) (bf : Binds K fd ["_law_box_here", "_law_size"] []) (mf : mg "_law_take" = some (.ref f)) (B : Bl mg) :
    FnOk P w K mg base CX0 (k + 1) f fd ["_law_box_here", "_law_size"] (spTake (k + 1)) := by
  refine F.ok scTake (fun vs H Q E h => ?_) (fun cdv A outer s H vs Q E hr h => ?_)
  · obtain ⟨b, n, c, rfl, _⟩ := h
    rfl
  obtain ⟨b, n, c, rfl, hB, hn1, hnk, hn60, hc, _, q⟩ := h
  obtain ⟨x0, x1, x2, hb, h0, h1, h1', h2, h2'⟩ := hB
  have hp : (0 : Int) < 2 ^ k := Int.pow_pos (by decide)
  have hk2 : (2 : Int) ^ (k + 1) = 2 ^ k * 2 := Int.pow_succ 2 k
  refine ⟨_, pss_cons (ps_if (pt_cmpR op_gt (pe_ix ix_list (pv 0) pe_int (fun _ _ => rfl)) pe_int (nomark _))
      (pss_cons (ps_asg (pe_callB call_divmodW (by rfl) B.divmod boot_divmod (pa_cons (pe_ix ix_list (pv 0) pe_int (fun _ _ => rfl)) (pa_cons (pv 1) pa_nil)))
          (pg_tup (by rfl) (pgs_cons (pg_sub (pv 0) pe_int set_list) (pgs_cons (pg_name (i := 2) scTake.nd rfl (.inl rfl)) pgs_nil))))
        (pss_one (ps_ret (pv 2)))) pss_nil)
    (pss_cons (ps_if (pt_cmpR op_gt (pv 1) (pe_op op_pow pe_int pe_int) (nomark _))
      (pss_one (ps_ret (pe_op op_mod (pe_op op_add (pe_call G hr (by rfl) mf F.kp bf .nil pass0 (pa_cons (pv 0) (pa_cons (pe_op op_pow pe_int pe_int) pa_nil)))
          (pe_op op_mul (pe_op op_pow pe_int pe_int) (pe_call G hr (by rfl) mf F.kp bf .nil pass0 (pa_cons (pv 0) (pa_cons (pe_op op_add (pe_op op_fdiv (pe_op op_sub (pv 1) pe_int) (pe_op op_pow pe_int pe_int)) pe_int) pa_nil))))) (pv 1)))) pss_nil)
    (pss_cons (ps_asg (pe_op op_add (pe_ix ix_list (pv 0) pe_int (fun _ _ => rfl)) pe_int) (pg_sub (pv 0) pe_int set_list))
    (pss_cons (ps_set (i := 3) scTake.nd rfl (.inl rfl) (pe_op op_add pe_int (pe_op op_mul (pe_ix ix_list (pv 0) pe_int (fun _ _ => rfl)) (pe_ix ix_list (pv 0) pe_int (fun _ _ => rfl)))))
    (pss_cons (ps_set (i := 4) scTake.nd rfl (.inl rfl) (pe_op op_mod (pe_op op_mul (pe_op op_add (pe_ix ix_list (pv 0) pe_int (fun _ _ => rfl)) (pe_op op_mul pe_int (pe_ix ix_list (pv 0) pe_int (fun _ _ => rfl)))) (pv 3)) pe_int))
    (pss_cons (ps_set (i := 5) scTake.nd rfl (.inl rfl) (pe_op op_mod (pe_op op_add (pe_op op_mul (pv 4) (pe_op op_add (pe_op op_mod (pv 4) pe_int) pe_int)) (pe_ix ix_list (pv 0) pe_int (fun _ _ => rfl))) pe_int))
    (pss_one (ps_ret (pe_op op_mod (pe_op op_fdiv (pe_op op_mod (pe_op op_mul (pv 5) (pe_op op_add (pe_op op_mod (pv 5) pe_int) pe_int)) pe_int) pe_int) (pv 1))))))))), ?_⟩
  refine ⟨_, rfl, b, _, _, _, rfl, rfl, SqL.of hb, rfl, _, _, rfl, rfl, _, rfl, ite2 (fun cc => ?_) (fun cc => ?_)⟩
  · -- the great number's own digits
    refine ⟨_, rfl, b, _, _, _, rfl, rfl, SqL.of hb, rfl, _, rfl, _, _, rfl, divp_small (by omega) (by omega), fun p np => ?_⟩
    have nbp : b ≠ p := ne_of_none hb np
    refine ⟨p, _, rfl, .inl (.inl upd_same), rfl, _, _, rfl, _, rfl, b, _, _, 0, rfl, rfl, (by rw [upd_ne nbp]; exact hb), rfl, _, _, rfl, rfl, _, rfl, ?_⟩
    refine q _ _ (Int.emod_nonneg _ (by omega)) (Int.emod_lt_of_pos _ (by omega)) ⟨x0 / n, x1, x2, upd_same, Int.ediv_nonneg h0 (by omega), h1, h1', h2, by show x2 ≤ c + 2 ^ k; omega⟩ ?_
    exact Keep.trans (Keep.new np) Keep.upd
  · refine ⟨_, rfl, _, _, rfl, rfl, ⟨by decide, by decide, by decide⟩, _, _, rfl, rfl, _, rfl, ite2 (fun c2 => ?_) (fun c2 => ?_)⟩
    · -- two lesser draws
      have c3 : (10 : Int) ^ ((7 : Int).toNat) < n := of_decide_eq_true c2
      rw [e7] at c3
      have hk : 0 < k := by
        rcases Nat.eq_zero_or_pos k with z | z
        · subst z
          rw [show (10000000 : Int) ^ (0 + 1) = 10000000 by decide] at hnk
          omega
        · exact z
      obtain ⟨j, rfl⟩ : ∃ j, k = j + 1 := ⟨k - 1, by omega⟩
      have hj2 : (2 : Int) ^ (j + 1) = 2 ^ j * 2 := Int.pow_succ 2 j
      have hjp : (0 : Int) < 2 ^ j := Int.pow_pos (by decide)
      have h10 : (10000000 : Int) ≤ 10000000 ^ (j + 1) := by
        rw [Int.pow_succ]
        have : (0 : Int) < 10000000 ^ j := Int.pow_pos (by decide)
        omega
      have hdiv : (n - 1) / 10000000 + 1 ≤ 10000000 ^ (j + 1) := by
        rw [Int.pow_succ] at hnk
        have : n - 1 < 10000000 ^ (j + 1) * 10000000 := by omega
        have := Int.ediv_lt_of_lt_mul (by decide) this
        omega
      refine ⟨_, rfl, _, _, rfl, rfl, ⟨by decide, by decide, by decide⟩, b, _, c, rfl, ⟨x0, x1, x2, hb, h0, h1, h1', h2, h2'⟩, (by rw [e7]; decide), (by rw [e7]; exact h10), (by rw [e7]; decide), by omega, by omega, fun r1 H1 a1 a2 B1 k1 => ?_⟩
      refine ⟨_, _, rfl, rfl, ⟨by decide, by decide, by decide⟩, _, rfl, _, rfl, _, _, rfl, rfl, _, _, rfl, rfl, ⟨by decide, by decide, by decide⟩, _, _, rfl, rfl, (by rw [e7]; exact ⟨by decide, by decide⟩), _, _, rfl, rfl, ?_⟩
      rw [e7]
      refine ⟨b, _, c + 2 ^ j, rfl, B1, by omega, hdiv, by omega, by omega, by omega, fun r2 H2 a3 a4 B2 k2 => ?_⟩
      refine ⟨_, _, rfl, rfl, .inl ⟨by decide, by decide⟩, _, _, rfl, rfl, _, rfl, _, _, rfl, rfl, (by show (0 : Int) < n; omega), ?_⟩
      refine q _ _ (Int.emod_nonneg _ (by omega)) (Int.emod_lt_of_pos _ (by omega)) (B2.mono ?_) (k1.trans k2)
      show c + 2 ^ j + 2 ^ j ≤ c + 2 ^ (j + 1)
      omega
    · -- a turn of the wheel
      refine ⟨_, rfl, b, _, _, _, rfl, rfl, SqL.of hb, rfl, _, _, rfl, rfl, _, rfl, b, _, _, 2, rfl, rfl, hb, rfl, ?_⟩
      have hb2 : (upd H b (.lst [.int x0, .int x1, .int (x2 + 1)])) b = some (.lst [.int x0, .int x1, .int (x2 + 1)]) := upd_same
      refine ⟨_, rfl, b, _, _, _, rfl, rfl, SqL.of hb2, rfl, _, rfl, b, _, _, _, rfl, rfl, SqL.of hb2, rfl, _, _, rfl, rfl, .inl ⟨by omega, by omega⟩, _, _, rfl, rfl, ?_⟩
      refine ⟨_, rfl, b, _, _, _, rfl, rfl, SqL.of hb2, rfl, _, rfl, b, _, _, _, rfl, rfl, SqL.of hb2, rfl, _, _, rfl, rfl, .inl ⟨by omega, by omega⟩, _, _, rfl, rfl, _, rfl, _, _, rfl, rfl, .inl ⟨by omega, by omega⟩, _, _, rfl, rfl, (by show (0 : Int) < 2147483587; decide), ?_⟩
      generalize (x1 + 39373 * (x2 + 1)) * (69621 + (x2 + 1) * (x2 + 1)) = y
      have y1 := Int.emod_nonneg y (show (2147483587 : Int) ≠ 0 by decide)
      have y2 := Int.emod_lt_of_pos y (show (0 : Int) < 2147483587 by decide)
      refine ⟨_, rfl, _, rfl, _, _, rfl, rfl, (by show (0 : Int) < 30011; decide), _, _, rfl, rfl, _, _, rfl, rfl, .inl ⟨by omega, by omega⟩, _, rfl, b, _, _, _, rfl, rfl, SqL.of hb2, rfl, _, _, rfl, rfl, _, _, rfl, rfl, (by show (0 : Int) < 2147483563; decide), ?_⟩
      generalize (y % 2147483587 * (y % 2147483587 % 30011 + 5) + (x2 + 1)) = z
      have z1 := Int.emod_nonneg z (show (2147483563 : Int) ≠ 0 by decide)
      have z2 := Int.emod_lt_of_pos z (show (0 : Int) < 2147483563 by decide)
      refine ⟨_, rfl, _, rfl, _, _, rfl, rfl, (by show (0 : Int) < 1013; decide), _, _, rfl, rfl, _, _, rfl, rfl, .inl ⟨by omega, by omega⟩, _, _, rfl, rfl, (by show (0 : Int) < 998244353; decide), _, _, rfl, rfl, ⟨by decide, by decide⟩, _, rfl, _, _, rfl, rfl, (by show (0 : Int) < n; omega), ?_⟩
      refine q _ _ (Int.emod_nonneg _ (by omega)) (Int.emod_lt_of_pos _ (by omega)) ⟨x0, x1, x2 + 1, hb2, h0, h1, h1', by omega, by show x2 + 1 ≤ c + 2 ^ k; omega⟩ Keep.upd
theorem ok_take {f : Addr} {fd : FuncData} (F : Fun K "_law_take" "_law_take" sTake f fd) (bf : Binds K fd ["_law_box_here", "_law_size"] []) (mf : mg "_law_take" = some (.ref f)) (B : Bl mg) : ∀ k : Nat, FnOk P w K mg base CX0 k f fd ["_law_box_here", "_law_size"] (spTake k)
  | 0 => take_none
  | k + 1 => ok_take1 F (ok_take F bf mf B k) bf mf B
/-! ### _law_box -/
theorem scBox : FnScope ["_law_script", "_law_k", "_law_cell_here"] ["_law_script", "_law_k"] (defScope sBox) := ⟨rfl, rfl, rfl, by decide +kernel, rfl, by decide +kernel, by decide +kernel⟩
def spBox (K : PySem.W.Frag) : Sp := fun vs H Q _ => ∃ (a : Addr) (zs : List Int) (k : Int), vs = [.ref a, .int k] ∧ SqL K H a (zs.map V.int) ∧ 0 ≤ k ∧ k ≤ 1000 ∧
  ∀ (p : Addr) (H' : Hp), H p = none → Same H H' → BoxAt 0 H' p → Q (.ref p) H'
theorem b01 (b : Bool) : (-(2 ^ 64) < (if b = true then (1 : Int) else 0)) ∧ (if b = true then (1 : Int) else 0) < 2 ^ 64 := by cases b <;> decide
theorem b01n (b : Bool) : 0 ≤ (if b = true then (1 : Int) else 0) := by cases b <;> decide
theorem abs_nn (i : Int) : 0 ≤ (if i < 0 then -i else i) := by
  split <;> omega
theorem at_int {zs : List Int} {k : Int} (h0 : 0 ≤ k) (h : k < (zs.length : Int)) : ∃ v : Int, atI (zs.map V.int) k = some (.int v) ∧ zs[k.toNat]? = some v := by
  have hk : k.toNat < zs.length := by omega
  have ek : k = ((k.toNat : Nat) : Int) := by omega
  have q : atI (zs.map V.int) ((k.toNat : Nat) : Int) = some (.int zs[k.toNat]) := atI_nat (by rw [List.getElem?_map, List.getElem?_eq_getElem hk] <;> rfl)
  rw [← ek] at q
  exact ⟨zs[k.toNat], q, List.getElem?_eq_getElem hk⟩
theorem ok_box {f : Addr} {fd : FuncData} {k : Nat} (F : Fun K "_law_box" "_law_box" sBox f fd) (B : Bl mg) : FnOk P w K mg base CX0 (k + 1) f fd ["_law_script", "_law_k"] (spBox K) := by
  refine F.ok scBox (fun vs H Q E h => ?_) (fun cdv A outer s H vs Q E hr h => ?_)
  · obtain ⟨a, zs, k, rfl, _⟩ := h
    rfl
  obtain ⟨a, zs, k, rfl, hS, h0, h1, q⟩ := h
  refine ⟨_, pss_cons (ps_set (i := 2) scBox.nd rfl (.inl rfl) (pe_ifExp (pt_cmpR op_lt (pv 1) (pe_callB call_len_seq (by rfl) B.len PySem.boot_len (pa_cons (pv 0) pa_nil)) (nomark _)) (pe_ix ix_list (pv 0) (pv 1) (fun _ _ => rfl)) pe_int))
    (pss_one (ps_ret (pe_lst (pa_cons (pe_op op_mul (pe_callB call_abs (by rfl) B.abs boot_abs (pa_cons (pv 2) pa_nil)) (pe_callTy call_int1 (by rfl) B.int PyProof.Rows.boot_int (pa_cons (pe_cmpR op_ge (pe_callB call_abs (by rfl) B.abs boot_abs (pa_cons (pv 2) pa_nil)) (pe_op op_pow pe_int pe_int) (nomark _)) pa_nil)))
      (pa_cons (pe_op op_mod (pe_op op_mul (pe_op op_add (pe_op op_add (pe_op op_mod (pv 2) pe_int) (pe_op op_mul pe_int (pv 1))) pe_int) pe_int) pe_int) (pa_cons pe_int pa_nil)))))), ?_⟩
  refine ⟨_, rfl, _, rfl, a, _, rfl, .inl hS, _, _, rfl, rfl, _, rfl, ite2 (fun cc => ?_) (fun cc => ?_)⟩
  · have c1 : k < (((zs.map V.int).length : Nat) : Int) := of_decide_eq_true cc
    rw [List.length_map] at c1
    obtain ⟨v, hv, _⟩ := at_int h0 c1
    refine ⟨_, rfl, _, rfl, a, _, _, _, rfl, rfl, hS, hv, ?_⟩
    refine ⟨_, rfl, _, rfl, _, rfl, _, rfl, _, _, rfl, rfl, ⟨by decide, by decide, by decide⟩, _, _, rfl, rfl, .inr ⟨_, rfl, ?_⟩⟩
    refine ⟨_, _, rfl, rfl, .inr (b01 _), _, rfl, _, _, rfl, rfl, (by show (0 : Int) < 2147483629; decide), _, rfl, _, _, rfl, rfl, .inl ⟨by decide, by decide⟩, _, _, rfl, rfl, _, _, rfl, rfl, _, _, rfl, rfl, .inr ⟨by decide, by decide⟩, _, _, rfl, rfl, (by show (0 : Int) < 2147483647; decide), (by show 3 ≤ sizeLine; decide), fun p np => ?_⟩
    refine q p _ np (same_upd np) ⟨_, _, _, upd_same, Int.mul_nonneg (abs_nn v) (b01n _), Int.emod_nonneg _ (by decide), Int.emod_lt_of_pos _ (by decide), by decide, by decide⟩
  · refine ⟨_, rfl, _, rfl, _, rfl, _, rfl, _, _, rfl, rfl, ⟨by decide, by decide, by decide⟩, _, _, rfl, rfl, .inr ⟨_, rfl, ?_⟩⟩
    refine ⟨_, _, rfl, rfl, .inr (b01 _), _, rfl, _, _, rfl, rfl, (by show (0 : Int) < 2147483629; decide), _, rfl, _, _, rfl, rfl, .inl ⟨by decide, by decide⟩, _, _, rfl, rfl, _, _, rfl, rfl, _, _, rfl, rfl, .inr ⟨by decide, by decide⟩, _, _, rfl, rfl, (by show (0 : Int) < 2147483647; decide), (by show 3 ≤ sizeLine; decide), fun p np => ?_⟩
    refine q p _ np (same_upd np) ⟨_, _, _, upd_same, Int.mul_nonneg (abs_nn 0) (b01n _), Int.emod_nonneg _ (by decide), Int.emod_lt_of_pos _ (by decide), by decide, by decide⟩
/-! ### _law_folded -/
theorem scFolded : FnScope ["_law_script", "_law_size", "_law_cells", "_law_k", "_law_cell_here"] ["_law_script", "_law_size"] (defScope sFolded) := ⟨rfl, rfl, rfl, by decide +kernel, rfl, by decide +kernel, by decide +kernel⟩
def spFolded (K : PySem.W.Frag) : Sp := fun vs H Q _ => ∃ (a : Addr) (ns : List Int) (m : Nat), vs = [.ref a, .int (m : Int)] ∧ SqL K H a (ns.map V.int) ∧ ns.length ≤ 63 ∧ 1 ≤ m ∧ m ≤ 63 ∧
  ∀ (p : Addr) (H' : Hp) (zs : List Int), H p = none → Same H H' → H' p = some (.lst (zs.map V.int)) → zs.length = min ns.length m → Q (.ref p) H'
theorem cut_lo (ns : List Int) (m : Nat) : cutV (ns.map V.int) none (some (m : Int)) = (ns.take m).map V.int := by
  unfold cutV
  rw [HT.sIx_none, HT.sIx_nat, List.drop_zero, Nat.sub_zero, List.length_map, ← List.map_take]
  congr 1
  rw [List.take_eq_take_iff]
  omega
theorem cut_mid (ns : List Int) (m j : Nat) : ∃ ws : List Int, cutV (ns.map V.int) (some (m : Int)) (some (j : Int)) = ws.map V.int ∧ ws.length ≤ ns.length - m := by
  unfold cutV
  rw [HT.sIx_nat, HT.sIx_nat, List.length_map, ← List.map_drop, ← List.map_take]
  refine ⟨_, rfl, ?_⟩
  rw [List.length_take, List.length_drop]
  omega
theorem int_at {ws : List Int} {i : Nat} {x : V} (h : (ws.map V.int)[i]? = some x) : ∃ z, ws[i]? = some z ∧ x = .int z := by
  rw [List.getElem?_map] at h
  cases e : ws[i]? with
  | none =>
    rw [e] at h
    cases h
  | some z =>
    rw [e] at h
    exact ⟨z, rfl, (Option.some.inj h).symm⟩
theorem map_set (zs : List Int) (j : Nat) (v : Int) : (zs.map V.int).set j (.int v) = (zs.set j v).map V.int := List.map_set.symm
theorem ixN_nat {n j : Nat} (h : j < n) : ixN n (j : Int) = some j := by
  unfold ixN
  rw [if_pos (Int.natCast_nonneg j), if_pos (by omega), Int.toNat_natCast]
theorem ok_folded {f : Addr} {fd : FuncData} {k : Nat} (F : Fun K "_law_folded" "_law_folded" sFolded f fd) (B : Bl mg) : FnOk P w K mg base CX0 (k + 1) f fd ["_law_script", "_law_size"] (spFolded K) := by
  refine F.ok scFolded (fun vs H Q E h => ?_) (fun cdv A outer s H vs Q E hr h => ?_)
  · obtain ⟨a, ns, m, rfl, _⟩ := h
    rfl
  obtain ⟨a, ns, m, rfl, hS, h63, hm1, hm2, q⟩ := h
  refine ⟨_, pss_cons (ps_set (i := 2) scFolded.nd rfl (.inl rfl) (pe_callTy call_list_of (by rfl) B.list PyProof.Rows.boot_list (pa_cons (pe_slice sl_list (pv 0) po_none (po_some (pv 1))) pa_nil)))
    (pss_cons (ps_for PassesOwn.never rfl (pi_enum (by rfl) B.enumerate (pa_cons (pe_slice sl_list (pv 0) (po_some (pv 1)) (po_some pe_int)) pa_nil))
        (pg_tup rfl (pgs_cons (pg_name (i := 3) scFolded.nd rfl (.inl rfl)) (pgs_cons (pg_name (i := 4) scFolded.nd rfl (.inl rfl)) pgs_nil)))
      (pss_one (ps_asg (pe_op op_add (pe_ix ix_list (pv 2) (pe_op op_mod (pv 3) (pv 1)) (fun _ _ => rfl)) (pe_op op_mul (pv 4) (pe_op op_add (pv 3) pe_int))) (pg_sub (pv 2) (pe_op op_mod (pv 3) (pv 1)) set_list))))
    (pss_one (ps_ret (pv 2)))), ?_⟩
  refine ⟨_, rfl, _, rfl, _, rfl, a, _, rfl, hS, fun c0 nc0 => ?_⟩
  rw [cut_lo]
  have s0 : Same H (upd H c0 (.lst ((ns.take m).map V.int))) := same_upd nc0
  refine ⟨c0, _, rfl, .inl (.inl (.inl upd_same)), fun p np => ?_⟩
  have npH : H p = none := s0.free np
  have ne0 : c0 ≠ p := fun e => by
    subst e
    rw [upd_same] at np
    cases np
  have s1 := s0.trans (same_upd (o := .lst ((ns.take m).map V.int)) np)
  refine ⟨_, rfl, _, rfl, _, rfl, _, rfl, a, _, rfl, s1.seq hS, fun c nc => ?_⟩
  obtain ⟨ws, ew, lw⟩ := cut_mid ns m 63
  rw [show ((63 : Nat) : Int) = (63 : Int) from rfl] at ew
  rw [ew]
  have s2 := s1.trans (same_upd (o := .lst (ws.map V.int)) nc)
  have nec : c ≠ p := fun e => by
    subst e
    rw [upd_same] at nc
    cases nc
  refine ⟨c, _, rfl, .inl (.inl upd_same), ?_⟩
  refine for_it (walk_enum (K := K) (a := c) (xs := ws.map V.int)) (fun i σ H3 => ∃ (y3 y4 : Option V) (zs : List Int), σ = [some (.ref a), some (.int (m : Int)), some (.ref p), y3, y4] ∧ Same H H3 ∧ H3 c = some (.lst (ws.map V.int)) ∧ H3 p = some (.lst (zs.map V.int)) ∧ zs.length = min ns.length m)
    ⟨none, none, ns.take m, rfl, s2, upd_same, ?_, ?_⟩ (fun i σ H3 _ ⟨_, _, _, _, _, e, _⟩ => .inl (.inl e)) ?_ ?_
  · rw [upd_ne nec.symm]
    exact upd_same
  · rw [List.length_take, Nat.min_comm]
  · rintro i v σ H3 H4 hi ⟨y3, y4, zs, rfl, s3, ec, ep, el⟩ ⟨T, x, y, rfl, nT, rfl, e1, e2⟩
    cases e1
    obtain ⟨z, _, rfl⟩ := int_at e2
    rw [List.length_map] at hi
    have npT : p ≠ T := ne_of_none ep nT
    have ncT : c ≠ T := ne_of_none ec nT
    have sT : Same H3 (upd H3 T (.tup [.int (i : Nat), .int z])) := same_upd nT
    refine ⟨T, _, rfl, .inl (.inl upd_same), rfl, _, _, rfl, _, _, rfl, rfl, ?_⟩
    have lm : (i : Int) % (m : Int) = ((i % m : Nat) : Int) := rfl
    have hl : i % m < zs.length := by
      have := Nat.mod_lt i (show 0 < m by omega)
      omega
    have ev : (zs.map V.int)[i % m]? = some (.int zs[i % m]) := by
      rw [List.getElem?_map, List.getElem?_eq_getElem hl]
      rfl
    refine ⟨_, rfl, _, rfl, _, rfl, _, _, rfl, rfl, (by show (0 : Int) < (m : Int); omega), p, _, _, _, rfl, rfl, SqL.of (sT _ _ ep), (by rw [lm]; exact atI_nat ev), _, rfl, _, rfl, _, _, rfl, rfl, _, _, rfl, rfl, .inr ⟨by omega, by omega⟩, _, _, rfl, rfl, ?_⟩
    refine ⟨_, rfl, _, rfl, _, rfl, _, _, rfl, rfl, (by show (0 : Int) < (m : Int); omega), p, _, _, i % m, rfl, rfl, sT _ _ ep, (by rw [lm, List.length_map]; exact ixN_nat hl), ?_⟩
    refine ⟨_, _, zs.set (i % m) (zs[i % m] + z * ((i : Int) + 2)), rfl, fun b o e => ?_, ?_, ?_, ?_⟩
    · rw [upd_ne (ne_of_none e npH)]
      exact sT _ _ (s3 _ _ e)
    · rw [upd_ne nec]
      exact sT _ _ ec
    · rw [upd_same, map_set]
    · rw [List.length_set]
      exact el
  · rintro σ H3 ⟨y3, y4, zs, rfl, s3, ec, ep, el⟩
    exact ⟨_, rfl, q p H3 zs npH s3 ep el⟩
theorem ty_lst {H : Hp} {a : Addr} {xs : List V} (h : SqL K H a xs) : TyX K H (.ref a) (.type "list") := by
  rcases h with (h | ⟨o, h⟩) | ⟨o, its, n, h1, h2, _⟩
  · exact .base (.lst h)
  · exact .base (.frz h)
  · exact .kList h1 h2
theorem ty_tup {H : Hp} {a : Addr} {xs : List V} (h : SqT K H a xs) : TyX K H (.ref a) (.type "tuple") := by
  rcases h with (h | ⟨o, h⟩) | ⟨o, its, n, h1, h2, _⟩
  · exact .base (.tup h)
  · exact .fTuple h
  · exact .kTuple h1 h2
theorem yesT {σ : L2.St} {H : Hp} {R S : Hp → Prop} (h : R H) : tYes σ H fun b H3 => if b = true then R H3 else S H3 := h
theorem repl_snoc {α : Type} (i : Nat) (x : α) : List.replicate i x ++ [x] = List.replicate (i + 1) x := List.replicate_succ'.symm
theorem all_repl (n : Nat) : (List.replicate n true).all id = true := by
  rw [List.all_eq_true]
  intro x hx
  rw [List.eq_of_mem_replicate hx]
  rfl
end
end GZ
namespace GM
theorem pow_pos' (n : Nat) : (0 : Int) < 2 ^ n := Int.pow_pos (by decide)
theorem pow_s (n : Nat) : (2 : Int) ^ (n + 1) = 2 ^ n * 2 := Int.pow_succ 2 n
theorem pow_le' {m n : Nat} (h : m ≤ n) : (2 : Int) ^ m ≤ 2 ^ n := by
  induction n with
  | zero =>
    have : m = 0 := by omega
    rw [this]
    exact Int.le_refl _
  | succ n ih =>
    by_cases e : m = n + 1
    · rw [e]
      exact Int.le_refl _
    · have := ih (by omega)
      have := pow_s n
      have := pow_pos' n
      omega
theorem pow_add' (m n : Nat) : (2 : Int) ^ (m + n) = 2 ^ m * 2 ^ n := Int.pow_add 2 m n
theorem bits_pow {x : Nat} {e : Nat} (h : x < 2 ^ e) : PySem.Builtin.Int.intBits (x : Int) ≤ e := PyProof.Rows.intBits_le (by rw [Int.natAbs_natCast]; exact h)
theorem bits_le_pow {x : Nat} {e : Nat} (h : 2 ^ e ≤ x) : e + 1 ≤ PySem.Builtin.Int.intBits (x : Int) := by
  have hx : x ≠ 0 := by
    have := Nat.two_pow_pos e
    omega
  unfold PySem.Builtin.Int.intBits
  rw [if_neg (by simpa using hx), Int.natAbs_natCast]
  have := (Nat.le_log2 hx).mpr h
  omega
theorem bits_unique {x e : Nat} (h1 : 2 ^ e ≤ x) (h2 : x < 2 ^ (e + 1)) : PySem.Builtin.Int.intBits (x : Int) = e + 1 := by
  have := bits_pow h2
  have := bits_le_pow h1
  omega
theorem bits_ex {x : Nat} (h : 0 < x) : ∃ e, 2 ^ e ≤ x ∧ x < 2 ^ (e + 1) := ⟨x.log2, Nat.log2_self_le (by omega), Nat.lt_log2_self⟩
theorem bits_half {x : Nat} (h : 0 < x) : PySem.Builtin.Int.intBits (x : Int) = PySem.Builtin.Int.intBits ((x / 2 : Nat) : Int) + 1 := by
  obtain ⟨e, h1, h2⟩ := bits_ex h
  rw [bits_unique h1 h2]
  cases e with
  | zero =>
    have : x = 1 := by
      simp at h1 h2
      omega
    rw [this]
    rfl
  | succ e =>
    rw [bits_unique (x := x / 2) (e := e)]
    · rw [Nat.pow_succ] at h1
      omega
    · rw [Nat.pow_succ] at h2
      omega
theorem bits_double {x m : Nat} (h : 0 < x) (hm : m ≤ 1) : PySem.Builtin.Int.intBits ((2 * x + m : Nat) : Int) = PySem.Builtin.Int.intBits (x : Int) + 1 := by
  rw [bits_half (x := 2 * x + m) (by omega), show (2 * x + m) / 2 = x by omega]
theorem shr_lt {x : Int} {a b : Nat} (h0 : 0 ≤ x) (h : x < 2 ^ (a + b)) : 0 ≤ x / 2 ^ b ∧ x / 2 ^ b < 2 ^ a := by
  have hb := pow_pos' b
  refine ⟨Int.ediv_nonneg h0 (by omega), ?_⟩
  rw [pow_add'] at h
  exact Int.ediv_lt_of_lt_mul hb h
end GM
namespace GM
/-! ### words: a sign, a scale of m bits, a tail of t bits -/
def bit (a : Int) (n : Nat) : Int := a / 2 ^ n % 2
def blr (a : Int) : Nat → List Int
  | 0 => []
  | n + 1 => bit a n :: blr a n
def wv : List Int → Int
  | [] => 0
  | d :: r => d * 2 ^ r.length + wv r
theorem blr_len (a : Int) : ∀ n, (blr a n).length = n
  | 0 => rfl
  | n + 1 => by
    show (blr a n).length + 1 = n + 1
    rw [blr_len a n]
theorem div_div (w : Int) (t m : Nat) : w / 2 ^ t / 2 ^ m = w / 2 ^ (t + m) := by
  rw [pow_add', Int.ediv_ediv_of_nonneg (Int.le_of_lt (pow_pos' t))]
theorem bit_div (w : Int) (t m : Nat) : bit (w / 2 ^ t) m = bit w (m + t) := by
  unfold bit
  rw [div_div, Nat.add_comm t m]
theorem blr_take (w : Int) (t : Nat) : ∀ m, (blr w (m + t)).take m = blr (w / 2 ^ t) m
  | 0 => rfl
  | m + 1 => by
    show (blr w ((m + 1) + t)).take (m + 1) = bit (w / 2 ^ t) m :: blr (w / 2 ^ t) m
    rw [show m + 1 + t = (m + t) + 1 by omega]
    show bit w (m + t) :: (blr w (m + t)).take m = _
    rw [blr_take w t m, bit_div]
theorem blr_drop (w : Int) (t : Nat) : ∀ m, (blr w (m + t)).drop m = blr w t
  | 0 => by rw [Nat.zero_add]; rfl
  | m + 1 => by
    rw [show m + 1 + t = (m + t) + 1 by omega]
    show (blr w (m + t)).drop m = _
    exact blr_drop w t m
theorem mod_step (a : Int) (n : Nat) : bit a n * 2 ^ n + a % 2 ^ n = a % 2 ^ (n + 1) := by
  unfold bit
  have hp := pow_pos' n
  have e1 := Int.emod_add_mul_ediv a (2 ^ n)
  have e2 := Int.emod_add_mul_ediv (a / 2 ^ n) 2
  have h1 := Int.emod_nonneg a (show (2 : Int) ^ n ≠ 0 by omega)
  have h2 := Int.emod_lt_of_pos a hp
  have e3 : 2 ^ n * (a / 2 ^ n) = a / 2 ^ n % 2 * 2 ^ n + a / 2 ^ n / 2 * (2 ^ n * 2) := by
    conv => lhs; rw [← e2]
    rw [Int.mul_add, Int.mul_comm (2 ^ n) (a / 2 ^ n % 2), ← Int.mul_assoc, Int.mul_comm (2 ^ n * 2) _]
  have key : (a / 2 ^ n % 2 * 2 ^ n + a % 2 ^ n) + a / 2 ^ n / 2 * 2 ^ (n + 1) = a := by
    rw [pow_s]
    omega
  have hb : 0 ≤ a / 2 ^ n % 2 * 2 ^ n + a % 2 ^ n ∧ a / 2 ^ n % 2 * 2 ^ n + a % 2 ^ n < 2 ^ (n + 1) := by
    rw [pow_s]
    have : a / 2 ^ n % 2 = 0 ∨ a / 2 ^ n % 2 = 1 := by omega
    rcases this with z | z <;> rw [z] <;> omega
  have em := Int.add_mul_emod_self_right (a / 2 ^ n % 2 * 2 ^ n + a % 2 ^ n) (a / 2 ^ n / 2) (2 ^ (n + 1))
  rw [key, Int.emod_eq_of_lt hb.1 hb.2] at em
  exact em.symm
theorem wv_blr (a : Int) : ∀ n, wv (blr a n) = a % 2 ^ n
  | 0 => by
    show (0 : Int) = a % 1
    omega
  | n + 1 => by
    show bit a n * 2 ^ (blr a n).length + wv (blr a n) = _
    rw [blr_len, wv_blr a n, ← mod_step a n]
theorem fold2 : ∀ (ds : List Int) (w : Int), ds.foldl (fun a b => a * 2 + b) w = w * 2 ^ ds.length + wv ds
  | [], w => by
    show w = w * 2 ^ 0 + 0
    rw [Int.pow_zero]
    omega
  | d :: r, w => by
    show r.foldl (fun a b => a * 2 + b) (w * 2 + d) = w * 2 ^ (r.length + 1) + (d * 2 ^ r.length + wv r)
    rw [fold2 r, pow_s, Int.add_mul, Int.mul_assoc, Int.mul_comm 2 (2 ^ r.length)]
    omega
theorem wv_ones : ∀ k, wv (List.replicate k 1) = 2 ^ k - 1
  | 0 => rfl
  | k + 1 => by
    rw [List.replicate_succ]
    show 1 * 2 ^ (List.replicate k (1 : Int)).length + wv (List.replicate k 1) = _
    rw [List.length_replicate, wv_ones k, pow_s]
    omega
/-- sign, scale, tail of a word -/
def sgn (m t : Nat) (w : Int) : Int := w / 2 ^ (m + t) % 2
def scl (m t : Nat) (w : Int) : Int := w / 2 ^ t % 2 ^ m
def tlp (t : Nat) (w : Int) : Int := w % 2 ^ t
theorem scl_tlp (m t : Nat) (w : Int) : scl m t w * 2 ^ t + tlp t w = w % 2 ^ (m + t) := by
  induction m with
  | zero =>
    unfold scl tlp
    rw [Int.pow_zero, Int.emod_one, Int.zero_mul, Int.zero_add, Nat.zero_add]
  | succ m ih =>
    have e := mod_step (w / 2 ^ t) m
    have e2 := mod_step w (m + t)
    rw [bit_div] at e
    unfold scl at ih ⊢
    rw [← e, Int.add_mul, show m + 1 + t = (m + t) + 1 by omega, ← e2, ← ih, Int.mul_assoc, ← pow_add']
    omega
theorem sgn_01 {m t : Nat} {w : Int} : sgn m t w = 0 ∨ sgn m t w = 1 := by
  unfold sgn
  omega
theorem word_eq {m t : Nat} {w : Int} (h0 : 0 ≤ w) (h1 : w < 2 ^ (1 + m + t)) : sgn m t w * 2 ^ (m + t) + w % 2 ^ (m + t) = w := by
  have e := mod_step w (m + t)
  rw [show m + t + 1 = 1 + m + t by omega, Int.emod_eq_of_lt h0 h1] at e
  exact e
theorem scl_nn (m t : Nat) (w : Int) : 0 ≤ scl m t w ∧ scl m t w < 2 ^ m := ⟨Int.emod_nonneg _ (by have := pow_pos' m; omega), Int.emod_lt_of_pos _ (pow_pos' m)⟩
theorem tlp_nn (t : Nat) (w : Int) : 0 ≤ tlp t w ∧ tlp t w < 2 ^ t := ⟨Int.emod_nonneg _ (by have := pow_pos' t; omega), Int.emod_lt_of_pos _ (pow_pos' t)⟩
/-- with the other sign -/
def trn (m t : Nat) (w : Int) : Int := (1 - sgn m t w) * 2 ^ (m + t) + w % 2 ^ (m + t)
theorem mk_parts {m t : Nat} {s r : Int} (hs : s = 0 ∨ s = 1) (h0 : 0 ≤ r) (h1 : r < 2 ^ (m + t)) : 0 ≤ s * 2 ^ (m + t) + r ∧ s * 2 ^ (m + t) + r < 2 ^ (1 + m + t) ∧ sgn m t (s * 2 ^ (m + t) + r) = s ∧ (s * 2 ^ (m + t) + r) % 2 ^ (m + t) = r := by
  have hp := pow_pos' (m + t)
  have e : (2 : Int) ^ (1 + m + t) = 2 ^ (m + t) * 2 := by rw [← pow_s]; congr 1; omega
  have em : (s * 2 ^ (m + t) + r) % 2 ^ (m + t) = r := by
    rw [Int.add_comm, Int.add_mul_emod_self_right, Int.emod_eq_of_lt h0 h1]
  have ed : (s * 2 ^ (m + t) + r) / 2 ^ (m + t) = s := by
    rw [Int.add_comm, Int.add_mul_ediv_right _ _ (by omega), Int.ediv_eq_zero_of_lt h0 h1, Int.zero_add]
  refine ⟨?_, ?_, ?_, em⟩
  · rcases hs with z | z <;> subst z <;> omega
  · rw [e]
    rcases hs with z | z <;> subst z <;> omega
  · unfold sgn
    rw [ed]
    omega
theorem trn_trn {m t : Nat} {w : Int} (h0 : 0 ≤ w) (h1 : w < 2 ^ (1 + m + t)) : trn m t (trn m t w) = w ∧ 0 ≤ trn m t w ∧ trn m t w < 2 ^ (1 + m + t) := by
  have hp := pow_pos' (m + t)
  have hs : 1 - sgn m t w = 0 ∨ 1 - sgn m t w = 1 := by
    have := sgn_01 (m := m) (t := t) (w := w)
    omega
  obtain ⟨a, b, c, d⟩ := mk_parts (m := m) (t := t) hs (Int.emod_nonneg w (show (2 : Int) ^ (m + t) ≠ 0 by omega)) (Int.emod_lt_of_pos w hp)
  refine ⟨?_, a, b⟩
  show (1 - sgn m t (trn m t w)) * 2 ^ (m + t) + trn m t w % 2 ^ (m + t) = w
  rw [show sgn m t (trn m t w) = 1 - sgn m t w from c, show trn m t w % 2 ^ (m + t) = w % 2 ^ (m + t) from d, show 1 - (1 - sgn m t w) = sgn m t w by omega]
  exact word_eq h0 h1
end GM
namespace GR
open PySem
/-! ### the rounding, as a function -/
def bl (n : Int) : Int := (Builtin.Int.intBits n : Nat)
def cutQ (n b : Int) : Int := if b < 0 then n * 2 ^ (-b).toNat else n / 2 ^ b.toNat
def cutR (n b : Int) : Bool := if b < 0 then false else !decide (n / 2 ^ b.toNat * 2 ^ b.toNat = n)
def lea (sc tl : Nat) : Int := 1 - (2 ^ (sc - 1) - 1) - (tl : Int)
def lap (sc tl : Nat) (n p : Int) : Int := if lea sc tl > bl n + p - 1 - (tl : Int) then lea sc tl else bl n + p - 1 - (tl : Int)
def prQ (n b : Int) : Int := cutQ n (b - 1) / 2 ^ 1
def prR (n b : Int) (more : Bool) : Int := 2 * (cutQ n (b - 1) % 2 ^ 1) + (if cutR n (b - 1) || more then 1 else 0)
def away (way : Str) (s : Int) : Bool := if way = "cut" then false else decide (s = if way = "up" then 0 else 1)
def gup (way : Str) (s many rest : Int) : Bool := if way = "near" then decide (rest = 3) || (decide (rest = 2) && decide (many % 2 = 1)) else !decide (rest = 0) && away way s
def wrd (sc tl : Nat) (s m t : Int) : Int := s * 2 ^ (sc + tl) + (m * 2 ^ tl + t)
def bey (sc tl : Nat) (s : Int) (way : Str) : Int := if (decide (way = "near") || away way s) = true then wrd sc tl s (2 ^ sc - 1) 0 else wrd sc tl s (2 ^ sc - 1 - 1) (2 ^ tl - 1)
def flg (sc : Nat) (n p rest : Int) : List Str := if rest = 0 then [] else if bl n + p ≤ 1 - (2 ^ (sc - 1) - 1) then ["under", "rounded"] else ["rounded"]
def mny (sc tl : Nat) (s n p : Int) (way : Str) (more : Bool) : Int := if gup way s (prQ n (lap sc tl n p - p)) (prR n (lap sc tl n p - p) more) = true then prQ n (lap sc tl n p - p) + 1 else prQ n (lap sc tl n p - p)
def siz (sc tl : Nat) (s n p : Int) (way : Str) (more : Bool) : Int := (lap sc tl n p - lea sc tl) * 2 ^ tl + mny sc tl s n p way more
def rnd (sc tl : Nat) (s n p : Int) (way : Str) (more : Bool) : Int × List Str :=
  if n = 0 then (wrd sc tl s 0 0, [])
  else if siz sc tl s n p way more > wrd sc tl 0 (2 ^ sc - 1 - 1) (2 ^ tl - 1) then (bey sc tl s way, ["over", "rounded"])
  else (wrd sc tl s 0 0 + siz sc tl s n p way more, flg sc n p (prR n (lap sc tl n p - p) more))
theorem lap_ge (sc tl : Nat) (n p : Int) : lea sc tl ≤ lap sc tl n p := by
  unfold lap
  split <;> omega
end GR
namespace GM
/-! ### sizes and their worths -/
def topS (m t : Nat) : Int := (2 ^ m - 1) * 2 ^ t
def num (t : Nat) (s : Int) : Int := if s / 2 ^ t = 0 then s % 2 ^ t else 2 ^ t + s % 2 ^ t
def ex (t : Nat) (s : Int) : Nat := (s / 2 ^ t).toNat - 1
def numE (m t : Nat) (s : Int) : Int := if s = topS m t then 1 else num t s
def exE (m t : Nat) (s : Int) : Nat := if s = topS m t then 1998 + 2 ^ (m - 1) + t else ex t s
def Vv (m t : Nat) (s : Int) : Int := numE m t s * 2 ^ exE m t s
theorem sz_parts (t : Nat) (s : Int) : s / 2 ^ t * 2 ^ t + s % 2 ^ t = s := by
  have := Int.emod_add_mul_ediv s (2 ^ t)
  rw [Int.mul_comm] at this
  omega
theorem num_nn {t : Nat} {s : Int} (h : 0 ≤ s) : 0 ≤ num t s := by
  have hp := pow_pos' t
  have := Int.emod_nonneg s (show (2 : Int) ^ t ≠ 0 by omega)
  unfold num
  split <;> omega
/-- below 2 ^ t times 2 ^ h -/
theorem num_lt {t : Nat} {s : Int} (h0 : 0 ≤ s) : num t s * 2 ^ ex t s < 2 ^ t * 2 ^ (s / 2 ^ t).toNat := by
  have hp := pow_pos' t
  have hl := Int.emod_lt_of_pos s hp
  have hd := Int.ediv_nonneg h0 (Int.le_of_lt hp)
  unfold num ex
  split
  · rename_i e
    rw [e]
    show s % 2 ^ t * 2 ^ 0 < 2 ^ t * 2 ^ 0
    rw [Int.pow_zero]
    omega
  · rename_i e
    obtain ⟨k, hk⟩ : ∃ k : Nat, (s / 2 ^ t).toNat = k + 1 := ⟨(s / 2 ^ t).toNat - 1, by omega⟩
    rw [hk, Nat.add_sub_cancel, pow_s, ← Int.mul_assoc]
    have hk2 := pow_pos' k
    have : (2 ^ t + s % 2 ^ t) * 2 ^ k < (2 ^ t * 2) * 2 ^ k := Int.mul_lt_mul_of_pos_right (by omega) hk2
    rw [show (2 : Int) ^ t * 2 ^ k * 2 = 2 ^ t * 2 * 2 ^ k by rw [Int.mul_assoc, Int.mul_assoc, Int.mul_comm (2 ^ k) 2]]
    exact this
theorem num_ge {t : Nat} {s : Int} {k : Nat} (h : (s / 2 ^ t).toNat = k + 1) : 2 ^ t * 2 ^ k ≤ num t s * 2 ^ ex t s := by
  have hp := pow_pos' t
  have := Int.emod_nonneg s (show (2 : Int) ^ t ≠ 0 by omega)
  have hk2 := pow_pos' k
  unfold num ex
  rw [if_neg (by omega), h, Nat.add_sub_cancel]
  exact Int.mul_le_mul_of_nonneg_right (by omega) (by omega)
theorem num_mono {t : Nat} {a b : Int} (h0 : 0 ≤ a) (h : a < b) : num t a * 2 ^ ex t a < num t b * 2 ^ ex t b := by
  have hp := pow_pos' t
  have ea := sz_parts t a
  have eb := sz_parts t b
  have la := Int.emod_lt_of_pos a hp
  have na := Int.emod_nonneg a (show (2 : Int) ^ t ≠ 0 by omega)
  have nb := Int.emod_nonneg b (show (2 : Int) ^ t ≠ 0 by omega)
  have lb := Int.emod_lt_of_pos b hp
  have hle : a / 2 ^ t ≤ b / 2 ^ t := Int.ediv_le_ediv hp (by omega)
  have hd := Int.ediv_nonneg h0 (Int.le_of_lt hp)
  by_cases e : a / 2 ^ t = b / 2 ^ t
  · have hl : a % 2 ^ t < b % 2 ^ t := by
      rw [e] at ea
      omega
    have hx : ex t a = ex t b := by unfold ex; rw [e]
    rw [hx]
    refine Int.mul_lt_mul_of_pos_right ?_ (pow_pos' _)
    unfold num
    rw [e]
    split <;> omega
  · obtain ⟨k, hk⟩ : ∃ k : Nat, (b / 2 ^ t).toNat = k + 1 := ⟨(b / 2 ^ t).toNat - 1, by omega⟩
    have h1 := num_lt (t := t) h0
    have h2 := num_ge hk
    have h3 : (2 : Int) ^ t * 2 ^ (a / 2 ^ t).toNat ≤ 2 ^ t * 2 ^ k := Int.mul_le_mul_of_nonneg_left (pow_le' (by omega)) (by omega)
    omega
theorem Vv_mono {m t : Nat} (hm : m ≤ 8) {a b : Int} (h0 : 0 ≤ a) (h : a < b) (hb : b ≤ topS m t) : Vv m t a < Vv m t b := by
  unfold Vv numE exE
  rw [if_neg (by omega), if_neg (by omega)]
  by_cases e : b = topS m t
  · rw [if_pos e, if_pos e, Int.one_mul]
    have h1 := num_lt (t := t) h0
    have hp := pow_pos' t
    have hq : a / 2 ^ t < 2 ^ m := by
      refine Int.ediv_lt_of_lt_mul hp ?_
      have : topS m t ≤ 2 ^ m * 2 ^ t := Int.mul_le_mul_of_nonneg_right (by omega) (by omega)
      omega
    have h8 : (2 : Int) ^ m ≤ 2 ^ 8 := pow_le' hm
    rw [← pow_add'] at h1
    have h3 : (a / 2 ^ t).toNat ≤ 256 := by omega
    have h2 : (2 : Int) ^ (t + (a / 2 ^ t).toNat) ≤ 2 ^ (1998 + 2 ^ (m - 1) + t) := pow_le' (by
      generalize 2 ^ (m - 1) = zz
      omega)
    omega
  · rw [if_neg e, if_neg e]
    exact num_mono h0 h
theorem Vv_zero (m t : Nat) (h : 0 < topS m t) : Vv m t 0 = 0 := by
  unfold Vv numE num
  rw [if_neg (by omega), Int.zero_ediv, if_pos rfl, Int.zero_emod, Int.zero_mul]
/-- how two words stand to each other, by worths and by sizes -/
theorem cmp_eq {m t : Nat} (hm : m ≤ 8) {a b : Int} (a0 : 0 ≤ a) (a1 : a ≤ topS m t) (b0 : 0 ≤ b) (b1 : b ≤ topS m t) (hT : 0 < topS m t) (g h : Bool) :
    ((if g then 0 - numE m t a else numE m t a) * 2 ^ (exE m t a - min (exE m t a) (exE m t b)) = (if h then 0 - numE m t b else numE m t b) * 2 ^ (exE m t b - min (exE m t a) (exE m t b)) ↔ (if g then -a else a) = (if h then -b else b)) ∧
    ((if g then 0 - numE m t a else numE m t a) * 2 ^ (exE m t a - min (exE m t a) (exE m t b)) < (if h then 0 - numE m t b else numE m t b) * 2 ^ (exE m t b - min (exE m t a) (exE m t b)) ↔ (if g then -a else a) < (if h then -b else b)) := by
  have pm := pow_pos' (min (exE m t a) (exE m t b))
  have ea : (if g then 0 - numE m t a else numE m t a) * 2 ^ (exE m t a - min (exE m t a) (exE m t b)) * 2 ^ min (exE m t a) (exE m t b) = (if g then -Vv m t a else Vv m t a) := by
    rw [Int.mul_assoc, ← pow_add', show exE m t a - min (exE m t a) (exE m t b) + min (exE m t a) (exE m t b) = exE m t a by omega]
    unfold Vv
    cases g
    · rfl
    · show (0 - numE m t a) * 2 ^ exE m t a = -(numE m t a * 2 ^ exE m t a)
      rw [Int.zero_sub, Int.neg_mul]
  have eb : (if h then 0 - numE m t b else numE m t b) * 2 ^ (exE m t b - min (exE m t a) (exE m t b)) * 2 ^ min (exE m t a) (exE m t b) = (if h then -Vv m t b else Vv m t b) := by
    rw [Int.mul_assoc, ← pow_add', show exE m t b - min (exE m t a) (exE m t b) + min (exE m t a) (exE m t b) = exE m t b by omega]
    unfold Vv
    cases h
    · rfl
    · show (0 - numE m t b) * 2 ^ exE m t b = -(numE m t b * 2 ^ exE m t b)
      rw [Int.zero_sub, Int.neg_mul]
  generalize (if g then 0 - numE m t a else numE m t a) * 2 ^ (exE m t a - min (exE m t a) (exE m t b)) = x at *
  generalize (if h then 0 - numE m t b else numE m t b) * 2 ^ (exE m t b - min (exE m t a) (exE m t b)) = y at *
  have exy : (x = y ↔ (if g then -Vv m t a else Vv m t a) = (if h then -Vv m t b else Vv m t b)) ∧ (x < y ↔ (if g then -Vv m t a else Vv m t a) < (if h then -Vv m t b else Vv m t b)) := by
    rw [← ea, ← eb]
    generalize (2 : Int) ^ min (exE m t a) (exE m t b) = d at *
    refine ⟨⟨fun z => by rw [z], fun z => Int.eq_of_mul_eq_mul_right (by omega) z⟩, ⟨fun z => Int.mul_lt_mul_of_pos_right z pm, fun z => Int.lt_of_mul_lt_mul_right z (by omega)⟩⟩
  rw [exy.1, exy.2]
  have z := Vv_zero m t hT
  have pa : a = 0 ∨ 0 < Vv m t a := by
    rcases Int.lt_or_eq_of_le a0 with q | q
    · have := Vv_mono hm (Int.le_refl 0) q a1
      omega
    · exact .inl q.symm
  have pb : b = 0 ∨ 0 < Vv m t b := by
    rcases Int.lt_or_eq_of_le b0 with q | q
    · have := Vv_mono hm (Int.le_refl 0) q b1
      omega
    · exact .inl q.symm
  have za : a = 0 → Vv m t a = 0 := fun q => by rw [q]; exact z
  have zb : b = 0 → Vv m t b = 0 := fun q => by rw [q]; exact z
  have lt1 : a < b → Vv m t a < Vv m t b := fun q => Vv_mono hm a0 q b1
  have lt2 : b < a → Vv m t b < Vv m t a := fun q => Vv_mono hm b0 q a1
  have eqq : a = b → Vv m t a = Vv m t b := fun q => by rw [q]
  generalize Vv m t a = u at *
  generalize Vv m t b = v at *
  have tri : a < b ∨ a = b ∨ b < a := by omega
  cases g <;> cases h <;> simp only [if_true, if_false, Bool.false_eq_true] <;>
    (rcases tri with q | q | q
     · have := lt1 q; rcases pa with w | w <;> rcases pb with w2 | w2 <;> (try have := za w) <;> (try have := zb w2) <;> constructor <;> omega
     · have := eqq q; rcases pa with w | w <;> rcases pb with w2 | w2 <;> (try have := za w) <;> (try have := zb w2) <;> constructor <;> omega
     · have := lt2 q; rcases pa with w | w <;> rcases pb with w2 | w2 <;> (try have := za w) <;> (try have := zb w2) <;> constructor <;> omega)
end GM
namespace GM
theorem div_s (x : Int) (k : Nat) : x / 2 ^ (k + 1) = x / 2 ^ k / 2 := by
  rw [pow_s, Int.ediv_ediv_of_nonneg (Int.le_of_lt (pow_pos' k))]
end GM
namespace GR
open PySem GM
/-! ### where a worth stands between two words -/
def cmpM (N Mo V : Int) (more : Bool) : Int := if N = V then (if more then 1 else 0) else if N > V then 1 else if N + (if more then 1 else 0) * Mo ≤ V then -1 else 1
theorem cmp_scale {c N Mo V : Int} {more : Bool} (h : 0 < c) : cmpM (N * c) (Mo * c) (V * c) more = cmpM N Mo V more := by
  unfold cmpM
  have e1 : N * c = V * c ↔ N = V := ⟨fun z => Int.eq_of_mul_eq_mul_right (by omega) z, fun z => by rw [z]⟩
  have e2 : N * c > V * c ↔ N > V := ⟨fun z => Int.lt_of_mul_lt_mul_right z (by omega), fun z => Int.mul_lt_mul_of_pos_right z h⟩
  have e3 : N * c + (if more then 1 else 0) * (Mo * c) ≤ V * c ↔ N + (if more then 1 else 0) * Mo ≤ V := by
    rw [← Int.mul_assoc, ← Int.add_mul]
    exact ⟨fun z => Int.le_of_mul_le_mul_right z h, fun z => Int.mul_le_mul_of_nonneg_right z (by omega)⟩
  by_cases c1 : N = V
  · rw [if_pos c1, if_pos (e1.mpr c1)]
  · rw [if_neg c1, if_neg (fun z => c1 (e1.mp z))]
    by_cases c2 : N > V
    · rw [if_pos c2, if_pos (e2.mpr c2)]
    · rw [if_neg c2, if_neg (fun z => c2 (e2.mp z))]
      by_cases c3 : N + (if more then 1 else 0) * Mo ≤ V
      · rw [if_pos c3, if_pos (e3.mpr c3)]
      · rw [if_neg c3, if_neg (fun z => c3 (e3.mp z))]
theorem cmp_ge {N Mo V : Int} {more : Bool} (h : V ≤ N) : 0 ≤ cmpM N Mo V more := by
  unfold cmpM
  split
  · split <;> decide
  · rw [if_pos (by omega)]
    decide
theorem cmp_lt {N Mo V : Int} {more : Bool} (h : N < V) (hm : more = true → N + Mo ≤ V) : cmpM N Mo V more = -1 := by
  unfold cmpM
  rw [if_neg (by omega), if_neg (by omega), if_pos ?_]
  cases more with
  | true =>
    have := hm rfl
    rw [if_pos rfl]
    omega
  | false =>
    rw [if_neg (by decide)]
    omega
/-! ### cutting off, on one scale -/
theorem cut_scale {n : Int} {a D : Nat} {b : Int} (hb : (D : Int) = a + b) : cutQ n b = n * 2 ^ a / 2 ^ D ∧ cutR n b = !decide (n * 2 ^ a % 2 ^ D = 0) := by
  have hD := pow_pos' D
  have ha := pow_pos' a
  unfold cutQ cutR
  by_cases c : b < 0
  · rw [if_pos c, if_pos c]
    have e : (2 : Int) ^ a = 2 ^ (-b).toNat * 2 ^ D := by rw [← pow_add']; congr 1; omega
    rw [e, ← Int.mul_assoc]
    refine ⟨(Int.mul_ediv_cancel _ (by omega)).symm, ?_⟩
    rw [Int.mul_emod_left, decide_eq_true rfl]
    rfl
  · rw [if_neg c, if_neg c]
    have e : (2 : Int) ^ D = 2 ^ b.toNat * 2 ^ a := by rw [← pow_add']; congr 1; omega
    have hp := pow_pos' b.toNat
    rw [e, Int.mul_ediv_mul_of_pos_left _ _ ha]
    refine ⟨rfl, ?_⟩
    rw [show n * 2 ^ a % (2 ^ b.toNat * 2 ^ a) = n % 2 ^ b.toNat * 2 ^ a by rw [Int.mul_comm n, Int.mul_comm (2 ^ b.toNat), Int.mul_emod_mul_of_pos _ _ ha, Int.mul_comm]]
    have e2 := Int.emod_add_mul_ediv n (2 ^ b.toNat)
    rw [Int.mul_comm] at e2
    by_cases d : n % 2 ^ b.toNat = 0
    · rw [d, Int.zero_mul, decide_eq_true rfl, decide_eq_true (by omega)]
    · have d2 : ¬ n % 2 ^ b.toNat * 2 ^ a = 0 := fun z => by
        rcases Int.mul_eq_zero.mp z with y | y
        · exact d y
        · omega
      rw [decide_eq_false d2, decide_eq_false (by omega)]
/-! ### the worth of a size -/
def W (t : Nat) (u : Int) : Int := num t u * 2 ^ ex t u
theorem W_at {t : Nat} {d : Nat} {m : Int} (h0 : 0 ≤ m) (h1 : m ≤ 2 ^ t * 2) (h2 : d = 0 ∨ 2 ^ t ≤ m) : W t (d * 2 ^ t + m) = m * 2 ^ d := by
  have hp := pow_pos' t
  unfold W
  by_cases c : m < 2 ^ t
  · have hd : d = 0 := by omega
    subst hd
    have e : ((0 : Nat) : Int) * 2 ^ t + m = m := by omega
    rw [e]
    unfold num ex
    rw [Int.ediv_eq_zero_of_lt h0 c, if_pos rfl, Int.emod_eq_of_lt h0 c]
    rfl
  · by_cases c2 : m < 2 ^ t * 2
    · have ed : ((d : Int) * 2 ^ t + m) / 2 ^ t = (d : Int) + 1 := by
        rw [show (d : Int) * 2 ^ t + m = (m - 2 ^ t) + ((d : Int) + 1) * 2 ^ t by rw [Int.add_mul]; omega, Int.add_mul_ediv_right _ _ (by omega), Int.ediv_eq_zero_of_lt (by omega) (by omega)]
        omega
      have em : ((d : Int) * 2 ^ t + m) % 2 ^ t = m - 2 ^ t := by
        rw [show (d : Int) * 2 ^ t + m = (m - 2 ^ t) + ((d : Int) + 1) * 2 ^ t by rw [Int.add_mul]; omega, Int.add_mul_emod_self_right, Int.emod_eq_of_lt (by omega) (by omega)]
      unfold num ex
      rw [ed, em, if_neg (by omega), show ((d : Int) + 1).toNat - 1 = d by omega, show 2 ^ t + (m - 2 ^ t) = m by omega]
    · have hm : m = 2 ^ t * 2 := by omega
      have ed : ((d : Int) * 2 ^ t + m) / 2 ^ t = (d : Int) + 2 := by
        rw [show (d : Int) * 2 ^ t + m = 0 + ((d : Int) + 2) * 2 ^ t by rw [Int.add_mul]; omega, Int.add_mul_ediv_right _ _ (by omega), Int.zero_ediv]
        omega
      have em : ((d : Int) * 2 ^ t + m) % 2 ^ t = 0 := by
        rw [show (d : Int) * 2 ^ t + m = 0 + ((d : Int) + 2) * 2 ^ t by rw [Int.add_mul]; omega, Int.add_mul_emod_self_right, Int.zero_emod]
      unfold num ex
      rw [ed, em, if_neg (by omega), show ((d : Int) + 2).toNat - 1 = d + 1 by omega, hm, pow_s, Int.add_zero, Int.mul_assoc, Int.mul_comm 2 (2 ^ d)]
theorem W_mono {t : Nat} {a b : Int} (h0 : 0 ≤ a) (h : a < b) : W t a < W t b := num_mono h0 h
theorem W_le {t : Nat} {a b : Int} (h0 : 0 ≤ a) (h : a ≤ b) : W t a ≤ W t b := by
  rcases Int.lt_or_eq_of_le h with c | c
  · exact Int.le_of_lt (W_mono h0 c)
  · rw [c]
    exact Int.le_refl _
theorem bl_in {n : Int} (h : 0 < n) : ∃ k : Nat, bl n = (k : Int) + 1 ∧ 2 ^ k ≤ n ∧ n < 2 ^ (k + 1) := by
  obtain ⟨e, h1, h2⟩ := bits_ex (x := n.toNat) (by omega)
  have hb := bits_unique h1 h2
  have c1 : ((2 ^ e : Nat) : Int) = (2 : Int) ^ e := PySem.W.kbt_cast _
  have c2 : ((2 ^ (e + 1) : Nat) : Int) = (2 : Int) ^ (e + 1) := PySem.W.kbt_cast _
  rw [show ((n.toNat : Nat) : Int) = n by omega] at hb
  refine ⟨e, ?_, by omega, by omega⟩
  unfold bl
  rw [hb]
  omega
/-- what the search meets, and what the rounding reckons -/
structure Fl (sc tl : Nat) (n p : Int) (more : Bool) (N Mo bq low0 : Int) : Prop where
  lo0 : 0 ≤ low0
  le : ∀ u, 0 ≤ u → u ≤ low0 → 0 ≤ cmpM N Mo (W tl u * bq) more
  gt : ∀ u, low0 < u → cmpM N Mo (W tl u * bq) more = -1
  just : cmpM N Mo (W tl low0 * bq) more = 0 ↔ prR n (lap sc tl n p - p) more = 0
  half : cmpM (N * 2) (Mo * 2) (W tl low0 * bq + W tl (low0 + 1) * bq) more = (if prR n (lap sc tl n p - p) more = 3 then 1 else if prR n (lap sc tl n p - p) more = 2 then 0 else -1)
  rest : 0 ≤ prR n (lap sc tl n p - p) more ∧ prR n (lap sc tl n p - p) more ≤ 3
  odd : low0 % 2 = prQ n (lap sc tl n p - p) % 2
  und : cmpM N Mo (W tl (2 ^ tl) * bq) more < 0 ↔ bl n + p ≤ 1 - (2 ^ (sc - 1) - 1)
theorem floor_facts {sc tl : Nat} {n p : Int} {more : Bool} (htl : 1 ≤ tl) (hn : 0 < n) (hm : more = true → p < lap sc tl n p) {a b : Nat} {B : Int} (ha : p - B = a) (hb : lea sc tl - B = (b : Int) + 1) :
    Fl sc tl n p more (n * 2 ^ a) (2 ^ a) (2 ^ (b + 1)) ((lap sc tl n p - lea sc tl) * 2 ^ tl + prQ n (lap sc tl n p - p)) := by
  obtain ⟨k, hk, hk1, hk2⟩ := bl_in hn
  have hge := lap_ge sc tl n p
  obtain ⟨d, hd⟩ : ∃ d : Nat, lap sc tl n p - lea sc tl = (d : Int) := ⟨(lap sc tl n p - lea sc tl).toNat, by omega⟩
  have hcase : (d = 0 ∧ bl n + p - 1 - tl ≤ lap sc tl n p) ∨ lap sc tl n p = bl n + p - 1 - tl := by
    unfold lap at hd ⊢
    split
    · rename_i c
      rw [if_pos c] at hd
      exact .inl ⟨by omega, by omega⟩
    · exact .inr rfl
  have hle : bl n + p - 1 - tl ≤ lap sc tl n p := by omega
  -- the scale
  obtain ⟨hQ, hR⟩ := cut_scale (n := n) (a := a) (D := d + b) (b := lap sc tl n p - p - 1) (by omega)
  have pD := pow_pos' (d + b)
  have pa := pow_pos' a
  have pt := pow_pos' tl
  have pD1 : (2 : Int) ^ (d + b + 1) = 2 ^ (d + b) * 2 := pow_s _
  have eq : prQ n (lap sc tl n p - p) = n * 2 ^ a / 2 ^ (d + b + 1) := by
    show cutQ n (lap sc tl n p - p - 1) / 2 ^ 1 = _
    rw [hQ, GM.div_div]
  have er : prR n (lap sc tl n p - p) more = 2 * (n * 2 ^ a / 2 ^ (d + b) % 2) + (if (!decide (n * 2 ^ a % 2 ^ (d + b) = 0)) || more then 1 else 0) := by
    show 2 * (cutQ n (lap sc tl n p - p - 1) % 2 ^ 1) + (if cutR n (lap sc tl n p - p - 1) || more then 1 else 0) = _
    rw [hQ, hR]
    rfl
  have hN0 : 0 < n * 2 ^ a := Int.mul_pos hn pa
  have moreD : more = true → ∃ f : Nat, (2 : Int) ^ (d + b) = 2 ^ f * 2 ^ a := fun z => by
    have := hm z
    refine ⟨d + b - a, ?_⟩
    rw [← pow_add']
    congr 1
    omega
  -- sizes of the number
  have hNlt : n * 2 ^ a < 2 ^ (k + 1 + a) := by
    rw [pow_add']
    exact Int.mul_lt_mul_of_pos_right hk2 pa
  have hNge : 2 ^ (k + a) ≤ n * 2 ^ a := by
    rw [pow_add']
    exact Int.mul_le_mul_of_nonneg_right hk1 (by omega)
  have hkd : k + 1 + a ≤ tl + 1 + (d + b + 1) := by omega
  have hm1 : n * 2 ^ a / 2 ^ (d + b + 1) < 2 ^ tl * 2 := by
    refine Int.ediv_lt_of_lt_mul (by omega) ?_
    rw [← pow_s, ← pow_add']
    exact Int.lt_of_lt_of_le hNlt (pow_le' hkd)
  have hm0 : 0 ≤ n * 2 ^ a / 2 ^ (d + b + 1) := Int.ediv_nonneg (by omega) (by omega)
  have hm2 : d = 0 ∨ 2 ^ tl ≤ n * 2 ^ a / 2 ^ (d + b + 1) := by
    rcases hcase with h | h
    · exact .inl h.1
    · right
      refine (Int.le_ediv_iff_mul_le (by omega)).mpr ?_
      rw [← pow_add']
      exact Int.le_trans (pow_le' (by omega)) hNge
  rw [eq, hd]
  have eN := Int.emod_add_mul_ediv (n * 2 ^ a) (2 ^ (d + b + 1))
  have r0 := Int.emod_nonneg (n * 2 ^ a) (show (2 : Int) ^ (d + b + 1) ≠ 0 by omega)
  have r1 := Int.emod_lt_of_pos (n * 2 ^ a) (show (0 : Int) < 2 ^ (d + b + 1) by omega)
  have fN := Int.emod_add_mul_ediv (n * 2 ^ a) (2 ^ (d + b))
  have s0 := Int.emod_nonneg (n * 2 ^ a) (show (2 : Int) ^ (d + b) ≠ 0 by omega)
  have s1 := Int.emod_lt_of_pos (n * 2 ^ a) pD
  have hh : n * 2 ^ a / 2 ^ (d + b + 1) = n * 2 ^ a / 2 ^ (d + b) / 2 := GM.div_s _ _
  have pt2 : (2 : Int) ^ tl = 2 ^ (tl - 1) * 2 := by rw [← pow_s]; congr 1; omega
  have bb : (2 : Int) ^ d * 2 ^ (b + 1) = 2 ^ (d + b) * 2 := by rw [← pow_add', show d + (b + 1) = d + b + 1 by omega, pow_s]
  have v0 : W tl ((d : Int) * 2 ^ tl + n * 2 ^ a / 2 ^ (d + b + 1)) * 2 ^ (b + 1) = n * 2 ^ a / 2 ^ (d + b + 1) * (2 ^ (d + b) * 2) := by
    rw [W_at hm0 (by omega) hm2, Int.mul_assoc, bb]
  have v1 : W tl ((d : Int) * 2 ^ tl + n * 2 ^ a / 2 ^ (d + b + 1) + 1) * 2 ^ (b + 1) = (n * 2 ^ a / 2 ^ (d + b + 1) + 1) * (2 ^ (d + b) * 2) := by
    rw [show (d : Int) * 2 ^ tl + n * 2 ^ a / 2 ^ (d + b + 1) + 1 = (d : Int) * 2 ^ tl + (n * 2 ^ a / 2 ^ (d + b + 1) + 1) by omega, W_at (by omega) (by omega) (by omega), Int.mul_assoc, bb]
  have lo0 : 0 ≤ (d : Int) * 2 ^ tl + n * 2 ^ a / 2 ^ (d + b + 1) := by
    have := Int.mul_nonneg (show (0 : Int) ≤ (d : Int) by omega) (Int.le_of_lt pt)
    omega
  have pb := pow_pos' (b + 1)
  rw [pD1] at eN r0 r1
  have vt : W tl (2 ^ tl) * 2 ^ (b + 1) = 2 ^ (tl + (b + 1)) := by
    have := W_at (t := tl) (d := 0) (m := 2 ^ tl) (by omega) (by omega) (.inl rfl)
    rw [show ((0 : Nat) : Int) * 2 ^ tl + 2 ^ tl = 2 ^ tl by omega, Int.pow_zero, Int.mul_one] at this
    rw [this, ← pow_add']
  have ho : ((d : Int) * 2 ^ tl + n * 2 ^ a / 2 ^ (d + b + 1)) % 2 = n * 2 ^ a / 2 ^ (d + b + 1) % 2 := by
    rw [pt2, ← Int.mul_assoc]
    generalize (d : Int) * 2 ^ (tl - 1) = z
    omega
  have lea1 : 1 - ((2 : Int) ^ (sc - 1) - 1) = lea sc tl + tl := by
    unfold lea
    omega
  -- multiples of what more stands for
  have stepM : more = true → ∀ X : Int, n * 2 ^ a < X * 2 ^ (d + b) → n * 2 ^ a + 2 ^ a ≤ X * 2 ^ (d + b) := fun z X hX => by
    obtain ⟨f, hf⟩ := moreD z
    rw [hf, ← Int.mul_assoc] at hX ⊢
    have h1 : n < X * 2 ^ f := Int.lt_of_mul_lt_mul_right hX (by omega)
    have h2 : (n + 1) * 2 ^ a ≤ X * 2 ^ f * 2 ^ a := Int.mul_le_mul_of_nonneg_right (by omega) (by omega)
    rw [Int.add_mul, Int.one_mul] at h2
    exact h2
  have X1 : more = true → n * 2 ^ a < 2 * (2 ^ (d + b) * (n * 2 ^ a / 2 ^ (d + b + 1))) + 2 ^ (d + b) → n * 2 ^ a + 2 ^ a ≤ 2 * (2 ^ (d + b) * (n * 2 ^ a / 2 ^ (d + b + 1))) + 2 ^ (d + b) := fun z => by
    have := stepM z (2 * (n * 2 ^ a / 2 ^ (d + b + 1)) + 1)
    rw [show (2 * (n * 2 ^ a / 2 ^ (d + b + 1)) + 1) * 2 ^ (d + b) = 2 * (2 ^ (d + b) * (n * 2 ^ a / 2 ^ (d + b + 1))) + 2 ^ (d + b) by rw [Int.add_mul, Int.one_mul, Int.mul_assoc, Int.mul_comm (2 ^ (d + b))]] at this
    exact this
  have X2 : more = true → n * 2 ^ a < 2 * (2 ^ (d + b) * (n * 2 ^ a / 2 ^ (d + b + 1))) + 2 * 2 ^ (d + b) → n * 2 ^ a + 2 ^ a ≤ 2 * (2 ^ (d + b) * (n * 2 ^ a / 2 ^ (d + b + 1))) + 2 * 2 ^ (d + b) := fun z => by
    have := stepM z (2 * (n * 2 ^ a / 2 ^ (d + b + 1)) + 2)
    rw [show (2 * (n * 2 ^ a / 2 ^ (d + b + 1)) + 2) * 2 ^ (d + b) = 2 * (2 ^ (d + b) * (n * 2 ^ a / 2 ^ (d + b + 1))) + 2 * 2 ^ (d + b) by rw [Int.add_mul, Int.mul_assoc, Int.mul_comm (2 ^ (d + b))]] at this
    exact this
  rw [show n * 2 ^ a / 2 ^ (d + b + 1) * (2 ^ (d + b) * 2) = 2 * (2 ^ (d + b) * (n * 2 ^ a / 2 ^ (d + b + 1))) by rw [← Int.mul_assoc, Int.mul_comm _ (2 ^ (d + b)), Int.mul_comm]] at v0
  rw [show (n * 2 ^ a / 2 ^ (d + b + 1) + 1) * (2 ^ (d + b) * 2) = 2 * (2 ^ (d + b) * (n * 2 ^ a / 2 ^ (d + b + 1))) + 2 * 2 ^ (d + b) by rw [Int.add_mul, ← Int.mul_assoc, Int.mul_comm _ (2 ^ (d + b)), Int.mul_comm _ 2]; omega] at v1
  have hb2 : n * 2 ^ a / 2 ^ (d + b) % 2 = 0 ∨ n * 2 ^ a / 2 ^ (d + b) % 2 = 1 := by omega
  have hNN : n * 2 ^ a = n * 2 ^ a % 2 ^ (d + b) + 2 * (2 ^ (d + b) * (n * 2 ^ a / 2 ^ (d + b + 1))) + n * 2 ^ a / 2 ^ (d + b) % 2 * 2 ^ (d + b) := by
    have e1 : n * 2 ^ a / 2 ^ (d + b) = 2 * (n * 2 ^ a / 2 ^ (d + b + 1)) + n * 2 ^ a / 2 ^ (d + b) % 2 := by omega
    have e2 : 2 ^ (d + b) * (n * 2 ^ a / 2 ^ (d + b)) = 2 * (2 ^ (d + b) * (n * 2 ^ a / 2 ^ (d + b + 1))) + n * 2 ^ a / 2 ^ (d + b) % 2 * 2 ^ (d + b) := by
      conv => lhs; rw [e1]
      rw [Int.mul_add, ← Int.mul_assoc, Int.mul_comm _ 2, Int.mul_assoc, Int.mul_comm (2 ^ (d + b)) (n * 2 ^ a / 2 ^ (d + b) % 2)]
    omega
  have hund : (n * 2 ^ a < 2 ^ (tl + (b + 1))) ↔ bl n + p ≤ 1 - (2 ^ (sc - 1) - 1) := by
    constructor
    · intro h
      have : (2 : Int) ^ (k + a) < 2 ^ (tl + (b + 1)) := by omega
      have : k + a < tl + (b + 1) := by
        rcases Nat.lt_or_ge (k + a) (tl + (b + 1)) with c | c
        · exact c
        · have := pow_le' c
          omega
      omega
    · intro h
      have : (2 : Int) ^ (k + 1 + a) ≤ 2 ^ (tl + (b + 1)) := pow_le' (by omega)
      omega
  clear eN r0 r1 fN hh stepM moreD hNlt hNge hkd hm1 hm2 hQ hR hk hk1 hk2 pt2 bb hcase
  have wle : ∀ u v : Int, 0 ≤ u → u ≤ v → W tl u * 2 ^ (b + 1) ≤ W tl v * 2 ^ (b + 1) := fun u v h1 h2 => Int.mul_le_mul_of_nonneg_right (W_le h1 h2) (by omega)
  generalize 2 ^ (d + b) * (n * 2 ^ a / 2 ^ (d + b + 1)) = z at *
  generalize n * 2 ^ a / 2 ^ (d + b) % 2 = hb' at *
  generalize n * 2 ^ a % 2 ^ (d + b) = rem at *
  generalize (d : Int) * 2 ^ tl + n * 2 ^ a / 2 ^ (d + b + 1) = lo at *
  generalize (2 : Int) ^ (d + b) = q at *
  generalize (2 : Int) ^ (b + 1) = bq at *
  generalize n * 2 ^ a = N at *
  generalize (2 : Int) ^ a = Mo at *
  have hgt : ∀ u, lo < u → cmpM N Mo (W tl u * bq) more = -1 := fun u hu => by
    have h1 := wle (lo + 1) u (by omega) (by omega)
    rw [v1] at h1
    have h2 : N < 2 * z + 2 * q := by rcases hb2 with c | c <;> rw [c] at hNN <;> omega
    exact cmp_lt (by omega) fun c => by
      have := X2 c h2
      omega
  refine ⟨lo0, fun u u0 u1 => cmp_ge ?_, hgt, ?_, ?_, ?_, by rw [eq]; exact ho, ?_⟩
  · have h1 := wle u lo u0 u1
    rw [v0] at h1
    rcases hb2 with c | c <;> rw [c] at hNN <;> omega
  · rw [v0, er]
    unfold cmpM
    rcases hb2 with c | c <;> rw [c] at hNN ⊢
    · by_cases c2 : rem = 0
      · rw [if_pos (by omega), c2]
        cases more <;> decide
      · rw [if_neg (by omega), if_pos (by omega), decide_eq_false c2]
        constructor
        · intro h; omega
        · intro h
          revert h
          cases more <;> decide
    · rw [if_neg (by omega), if_pos (by omega)]
      constructor
      · intro h; omega
      · intro h
        split at h <;> omega
  · rw [v0, v1, er]
    rcases hb2 with c | c <;> rw [c] at hNN ⊢
    · have h1 : cmpM (N * 2) (Mo * 2) (2 * z + (2 * z + 2 * q)) more = -1 := cmp_lt (by omega) fun c => by
        have := X1 c (by omega)
        omega
      rw [h1]
      split <;> rfl
    · unfold cmpM
      by_cases c2 : rem = 0
      · rw [if_pos (by omega), c2]
        cases more <;> decide
      · rw [if_neg (by omega), if_pos (by omega), decide_eq_false c2]
        rfl
  · rw [er]
    rcases hb2 with c | c <;> rw [c]
    · split <;> omega
    · split <;> omega
  · rw [vt, ← hund]
    constructor
    · intro h
      rcases Int.lt_or_le N (2 ^ (tl + (b + 1))) with c | c
      · exact c
      · have := cmp_ge (N := N) (Mo := Mo) (more := more) c
        omega
    · intro h
      have h1 : lo < 2 ^ tl := by
        rcases Int.lt_or_le lo (2 ^ tl) with c | c
        · exact c
        · have := wle (2 ^ tl) lo (by omega) c
          rw [vt, v0] at this
          rcases hb2 with c | c <;> rw [c] at hNN <;> omega
      have := hgt _ h1
      rw [vt] at this
      rw [this]
      decide
end GR
namespace GZ
open PySem PySem.Spec PyProof.Rows L2
end GZ
namespace L2
open PySem PySem.Spec PyProof.Rows
/-! ### a name, a starred one, a name: x, *ys, z = a tuple -/
section
variable {X : Cx}
def gStar3 (K : PySem.W.Frag) (t : TGs) : TG := fun v σ H Q => ∃ (a : Addr) (x z : V) (xs : List V), v = .ref a ∧ SqT K H a (x :: (xs ++ [z])) ∧ xs.length ≤ 16000 ∧ ∀ D, H D = none → t [x, .ref D, z] σ (upd H D (.lst xs)) Q
theorem unpack_star3 {prog : Program} {w : World} {A : Around} {E : Value → Shared → Prop} {s : Shared} {l : Addr} {items : Array Value} {Q : List Value → Shared → Prop} (hl : IsTup s.heap l items) (hh : A.handled = none) (h0 : 2 ≤ items.size) (hz : items.size ≤ 16384)
    (h : ∀ (h₂ : Heap) (tk : Nat), (∀ b o, s.heap.get? b = some o → h₂.get? b = some o) → Q (items.toList.take 1 ++ [.ref h₂.objs.size] ++ (items.toList.drop 1).drop (items.size - 2)) { s with heap := h₂.push { cls := .type "list", data := .seq ((items.toList.drop 1).take (items.size - 2)).toArray 0 }, toks := tk }) : wpAny (model prog w) A (unpackItems (.ref l) 3 (some 1)) Q E s := by
  have hlt : l ≠ s.heap.objs.size := by obtain ⟨o, ho, _⟩ := hl; exact Nat.ne_of_lt (Heap.lt_size ho)
  unfold unpackItems
  refine wpAny_bind ?_
  unfold notIterableAtAll
  refine wpAny_bind (wpAny_specialOf hl.typeIs slot_tuple_iter.lookup ?_)
  refine wpAny_pure ?_
  simp only [Bool.false_eq_true, if_false]
  refine wpAny_bind (wpAny_holding (iter_tuple hl ?_))
  refine wpAny_bind (wpAny_holding (draw_tuple hlt 1 0 _ _ ⟨_, Heap.get?_push_size _ rfl, rfl, rfl⟩ (hl.push _) (by omega) fun h₁ hit₁ hs₁ => ?_))
  have hl₁ : IsTup h₁ l items := (hl.push _).extBut hs₁.extBut hlt
  have hit₁' := hit₁
  obtain ⟨oi, hoi, _⟩ := hit₁'
  have hl₁' := hl₁
  obtain ⟨ol, hol, _⟩ := hl₁'
  rw [List.drop_zero]
  have hfl : (items.toList.take 1).length = 1 := by rw [List.length_take, Array.length_toList]; omega
  rw [if_neg (show ¬ ((items.toList.take 1).length < 1) by rw [hfl]; omega)]
  refine wpAny_bind (wpAny_holding (PySem.W.kun_collect (s := { s with heap := h₁ }) (T := "tuple_iterator") (.inr (.inr (.inr rfl))) (Walks.tuple (A := A.in1) hh s.heap.objs.size l hlt items) (fun j u st => st.1.typeIs) (k := 1) (by omega) ⟨hit₁, hl₁⟩ (Heap.lt_size hoi) (Heap.lt_size hol) (fun h₂ tk hk => ?_) (by rw [sizeLine_eq]; omega)))
  have hrl : (items.toList.drop 1).length = items.size - 1 := by rw [List.length_drop, Array.length_toList]
  show wpAny _ _ (if (items.toList.drop 1).length < 3 - 1 - 1 then _ else _) _ _ _
  rw [if_neg (by omega)]
  show wpAny _ _ (newList ((items.toList.drop 1).take ((items.toList.drop 1).length - (3 - 1 - 1))) >>= fun d => pure (items.toList.take 1 ++ [d] ++ (items.toList.drop 1).drop ((items.toList.drop 1).length - (3 - 1 - 1)))) _ _ _
  rw [show (items.toList.drop 1).length - (3 - 1 - 1) = items.size - 2 by rw [hrl]; omega]
  have he : ∀ b o, s.heap.get? b = some o → h₂.get? b = some o := fun b o e => hk b o (Nat.ne_of_lt (Heap.lt_size e)) (hs₁.extBut b o (Nat.ne_of_lt (Heap.lt_size e)) (Heap.get?_push_of_some _ e))
  refine wpAny_bind ?_
  unfold newList
  refine wpAny_newObj_type (wpAny_pure ?_) (by show ((items.toList.drop 1).take (items.size - 2)).toArray.size ≤ sizeLine; rw [List.size_toArray, List.length_take, List.length_drop, sizeLine_eq, Array.length_toList]; omega)
  exact h h₂ tk he
theorem pg_star3 {es : List Expr} {k : Nat} {pos : Pos} {t : TGs} (hc : X.calm = true) (h : PGs X es t)
    (hn : (assignEach es X.env).length = 3 := by rfl) (hst : (assignEach es X.env).findIdx? (·.1) = some 1 := by rfl) : PG X (.Tuple es k pos) (gStar3 X.K t) := by
  refine ⟨fun pins s σ H v u Q I r hw => ?_⟩
  obtain ⟨a, x, z, xs, e1, hq, hz, hw⟩ := hw
  subst e1
  cases r
  obtain ⟨its, rv, pl, hzz⟩ := I.tuple hq
  have hlen := rv.length
  rw [List.length_cons, List.length_append, List.length_singleton] at hlen
  rw [PyProof.Rows.assign_Tuple]
  refine wpAny_bind (wpAny_standAt ?_)
  unfold unpack
  rw [hn, hst]
  refine wpAny_bind (wpAny_holding (unpack_star3 pl (I.ok.hd hc) (by rw [List.size_toArray]; omega) (by rw [List.size_toArray]; omega) fun h' tk hx => ?_))
  have rt := rv.take 1
  have rd := (rv.drop 1).take (its.toArray.size - 2)
  have rl := (rv.drop 1).drop (its.toArray.size - 2)
  have sz : its.toArray.size - 2 = xs.length := by rw [List.size_toArray]; omega
  rw [sz] at rd rl ⊢
  rw [show (x :: (xs ++ [z])).drop 1 = xs ++ [z] from rfl, List.take_left' rfl] at rd
  rw [show (x :: (xs ++ [z])).drop 1 = xs ++ [z] from rfl, List.drop_left' rfl] at rl
  have I0 : Inv X pins σ H { s with heap := h', toks := tk } := I.kept (t' := tk) hx
  have I1 : Inv X pins σ (upd H h'.objs.size (.lst xs)) { s with heap := h'.push { cls := .type "list", data := .seq ((its.drop 1).take xs.length).toArray 0 }, toks := tk } := I0.laid (t' := tk) (o := .lst xs) (fun b u e => Heap.get?_push_of_some _ e) (Nat.le_refl _) ⟨by show xs.length ≤ sizeLine; rw [sizeLine_eq]; omega, _, 0, rd, Heap.get?_push_size _ rfl⟩
  exact h.run pins _ σ _ _ _ Q I1 ((rt.append (.cons (show RelV (.ref h'.objs.size) (.ref h'.objs.size) from rfl) .nil)).append rl) (hw _ (I0.hok.fresh (Nat.le_refl _)))
theorem pgs_star {e : Expr} {sp : Pos} {es : List Expr} {t : TG} {u : TGs} (h1 : PG X e t) (h2 : PGs X es u) : PGs X (.Starred e sp :: es) (gCons t u) := by
  refine ⟨fun pins s σ H vs us Q I r h => ?_⟩
  obtain ⟨v, vr, e1, h⟩ := h
  subst e1
  cases r with
  | cons r rr =>
    show wpAny _ _ (assignInOrder (assign e X.env :: (assignEach es X.env).map (·.2)) _) _ _ _
    refine assignInOrder_cons (thn (h1.run pins s σ H _ _ _ I r h) fun _ s1 ⟨σ1, H1, I1, q1⟩ => ?_)
    exact h2.run pins s1 σ1 H1 _ _ Q I1 rr q1
end
/-! ### d.get(k) of a dict of the module, its keys texts -/
structure KDcts (w : World) (K : PySem.W.Frag) (D : Addr) (kvs : List (Str × V)) : Prop where
  loc : ∃ es ep, K.lookup D = some ⟨.type "dict", none, .dict es ep, #[]⟩ ∧ PySem.W.KeysLit w.params es.toList ∧ Paired (fun (e : DictEntry) (kv : Str × V) => (∃ t, e.key = .str kv.1 t) ∧ RelV kv.2 e.val) es.toList kvs
  sm : (D == sysModules) = false
def kdV (kvs : List (Str × V)) (x : Str) : Option V := (kvs.find? fun kv => decide (kv.1 = x)).map (·.2)
theorem KDcts.ns {w : World} {K : PySem.W.Frag} {D : Addr} {kvs : List (Str × V)} (h : KDcts w K D kvs) (x : Str) : ∃ r, PySem.W.nsIn K D x = some r ∧ RelO (kdV kvs x) r := by
  obtain ⟨es, ep, hl, hk, hf⟩ := h.loc
  unfold PySem.W.nsIn
  rw [hl]
  dsimp only
  have : ∀ (l : List DictEntry) (m : List (Str × V)), Paired (fun (e : DictEntry) (kv : Str × V) => (∃ t, e.key = .str kv.1 t) ∧ RelV kv.2 e.val) l m → (∃ e, (l.find? fun d => d.key.isStr x) = some e ∧ RelO (kdV m x) (some e.val)) ∨ ((l.find? fun d => d.key.isStr x) = none ∧ RelO (kdV m x) none ∧ l.any (·.refKey) = false) := fun l m hm => by
    induction hm with
    | nil => exact .inr ⟨rfl, trivial, rfl⟩
    | @cons e kv l m h _ ih =>
      obtain ⟨⟨t, h2⟩, h3⟩ := h
      unfold kdV at ih ⊢
      have ek : e.key.isStr x = decide (kv.1 = x) := by
        rw [h2]
        by_cases c : kv.1 = x
        · rw [decide_eq_true c, c]
          simp [Value.isStr]
        · rw [decide_eq_false c]
          simp [Value.isStr]
          exact c
      rw [List.find?_cons, List.find?_cons, ek]
      by_cases c : kv.1 = x
      · rw [decide_eq_true c]
        exact .inl ⟨e, rfl, h3⟩
      · rw [decide_eq_false c]
        rcases ih with h | ⟨a1, a2, a3⟩
        · exact .inl h
        · refine .inr ⟨a1, a2, ?_⟩
          rw [List.any_cons, a3]
          have : e.refKey = false := by
            unfold DictEntry.refKey
            rw [h2]
          rw [this]
          rfl
  rcases this _ _ hf with ⟨e, h1, h2⟩ | ⟨h1, h2, h3⟩
  · rw [h1]
    exact ⟨_, rfl, h2⟩
  · rw [h1, h3]
    exact ⟨_, rfl, h2⟩
def tKGet (kvs : List (Str × V)) (ty : TE) : TE := fun σ H Q => ty σ H fun y H2 => ∃ x : Str, y = .str x ∧ Q ((kdV kvs x).getD .non) H2
theorem pe_kdget {X : Cx} {o e : Expr} {apos cpos : Pos} {D : Addr} {kvs : List (Str × V)} {ty : TE} (hD : KDcts X.w X.K D kvs) (ho : PE X o (tC (.ref D))) (he : PE X e ty) (m : M1 X o "get" apos e cpos) : PE X (.Call (.Attribute o "get" apos) [e] [] cpos) (tKGet kvs ty) := by
  refine ⟨fun pins s σ H Q I h => ?_⟩
  refine wpAny_Call_method m.base m.few m.line PySem.F.plainAttrs_dict PySem.F.slot_dict_get PySem.F.type_dict_get (thn (ho.run pins s σ H (fun v G => v = .ref D ∧ G = H) I ⟨rfl, rfl⟩) fun u s1 ⟨x, H1, I1, rx, q1⟩ => ?_)
  obtain ⟨rfl, rfl⟩ := q1
  obtain rfl : u = Value.ref D := rx
  obtain ⟨es, ep, hl, hk, hf⟩ := hD.loc
  have hm := fun (s2 : Shared) (k : X.K.In s2.heap) => PySem.W.mapOf_K (prog := X.prog) (w := X.w) k hl hk
  refine ⟨(hm s1 I1.kIn).typeIs, fun b q => (by cases q; exact ⟨_, I1.kIn _ _ hl, rfl⟩), ?_⟩
  rw [m.trees]
  refine Calls.callWith_builtin rfl (Calls.evalArgs_plain (Calls.spliced_cons (thn (he.run pins s1 σ H1 _ I1 h) fun iv s2 ⟨y, H2, I2, ry, x, ey, q2⟩ => Calls.spliced_nil ?_)))
  subst ey
  obtain ⟨t, rfl⟩ := (show ∃ t, iv = Value.str x t from ry)
  obtain ⟨r, hr, rr⟩ := hD.ns x
  refine call_meetsIn PySem.F.slot_dict_get (hm s2 I2.kIn).typeIs PySem.F.entry_dict_get (PySem.F.args_dict_get_2 _ _) (meets_dict_get (strKind X.prog X.w) D (strKind_is X.prog X.w x t) hD.sm) ⟨_, hm s2 I2.kIn, ?_⟩
  refine ⟨_, H2, I2.tok _, ?_, q2⟩
  rw [PySem.W.find_K hl hr]
  exact rr.getD rfl
end L2
/-! ### + and - of a truth and a number -/
namespace BA
open PySem
theorem gives_add_bi (p : Bool) (i : Int) (u : Tok) : Gives (Builtin.«int.__add__» ⟨[.bool p, .int i u], []⟩) (.int ((if p = true then (1 : Int) else 0) + i)) :=
  .of_wp fun M A E s Q h => by obtain ⟨hp, g, d, tk, os⟩ := s; wp_walk; exact ⟨_, rfl, h⟩
theorem gives_sub_bi (p : Bool) (i : Int) (u : Tok) : Gives (Builtin.«int.__sub__» ⟨[.bool p, .int i u], []⟩) (.int ((if p = true then (1 : Int) else 0) - i)) :=
  .of_wp fun M A E s Q h => by obtain ⟨hp, g, d, tk, os⟩ := s; wp_walk; exact ⟨_, rfl, h⟩
theorem gives_sub_ib (p : Bool) (i : Int) (u : Tok) : Gives (Builtin.«int.__sub__» ⟨[.int i u, .bool p], []⟩) (.int (i - (if p = true then (1 : Int) else 0))) :=
  .of_wp fun M A E s Q h => by obtain ⟨hp, g, d, tk, os⟩ := s; wp_walk; exact ⟨_, rfl, h⟩
theorem refl_ib_sub : reflectedDiffers (.type "int") (.type "bool") "sub" = pure false := by
  unfold reflectedDiffers
  show (typeLookup (.type "bool") (dunderR "sub") >>= fun rb => typeLookup (.type "int") (dunderR "sub") >>= fun ra => pure (rb.isSome && rb != ra)) = pure false
  rw [typeLookup_type, typeLookup_type, builtinLookup_eq_fast]; kernel_rfl
section
variable {prog : Program} {w : World} {A : Around} {E : Value → Shared → Prop} {s : Shared} {p : Bool} {i : Int} {u : Tok} {Q : Value → Shared → Prop}
theorem sub_ib (h : Q (.int (i - if p = true then (1 : Int) else 0) s.toks) { s with toks := s.toks + 1 }) : wpAny (model prog w) A (binaryOp .Sub (.int i u) (.bool p)) Q E s :=
  binaryOp_sub_gives (op := .Sub) (T := "int") (U := "bool") (by decide) (typeIs_int s i u) rfl F.fills_int_sub F.fills_bool_sub isSubtype_bool_int refl_ib_sub F.slot_int_sub F.entry_int_sub (F.args_int_sub_2 _ _) (gives_sub_ib p i u) trivial h
theorem add_bi (h : Q (.int ((if p = true then (1 : Int) else 0) + i) s.toks) { s with toks := s.toks + 1 }) : wpAny (model prog w) A (binaryOp .Add (.bool p) (.int i u)) Q E s :=
  binaryOp_left_gives (op := .Add) (T := "bool") (U := "int") (by decide) rfl (fun s' => typeIs_int s' i u) F.fills_bool_add F.fills_int_add F.sub_int_bool F.slot_bool_add F.slot_int_radd F.entry_int_add (F.args_int_add_2 _ _) (gives_add_bi p i u) trivial h
theorem sub_bi (h : Q (.int ((if p = true then (1 : Int) else 0) - i) s.toks) { s with toks := s.toks + 1 }) : wpAny (model prog w) A (binaryOp .Sub (.bool p) (.int i u)) Q E s :=
  binaryOp_left_gives (op := .Sub) (T := "bool") (U := "int") (by decide) rfl (fun s' => typeIs_int s' i u) F.fills_bool_sub F.fills_int_sub F.sub_int_bool F.slot_bool_sub F.slot_int_rsub F.entry_int_sub (F.args_int_sub_2 _ _) (gives_sub_bi p i u) trivial h
end
end BA
namespace L2
open PySem PySem.Spec PyProof.Rows
def nmV : V → Option Int
  | .int i => some i
  | .bl b => some (if b = true then 1 else 0)
  | _ => none
/-- a number or a truth, and a number -/
theorem op_addBN {X : Cx} : OpR X (binaryOp .Add) (fun x y H Q => ∃ n i, nmV x = some n ∧ y = .int i ∧ Q (.int (n + i)) H) := by
  intro pins s σ H x y v u Q I rx ry h
  obtain ⟨n, i, hn, rfl, q⟩ := h
  cases x with
  | int j =>
    cases hn
    exact op_add pins s σ H _ _ v u Q I rx ry ⟨_, _, rfl, rfl, q⟩
  | bl b =>
    cases hn
    cases (show v = Value.bool b from rx)
    obtain ⟨t, rfl⟩ := (show ∃ t, u = Value.int i t from ry)
    exact BA.add_bi ⟨.int _, H, I.tok _, ⟨_, rfl⟩, q⟩
  | _ => cases hn
theorem op_subBN {X : Cx} : OpR X (binaryOp .Sub) (fun x y H Q => ∃ n i, nmV x = some n ∧ y = .int i ∧ Q (.int (n - i)) H) := by
  intro pins s σ H x y v u Q I rx ry h
  obtain ⟨n, i, hn, rfl, q⟩ := h
  cases x with
  | int j =>
    cases hn
    exact op_sub pins s σ H _ _ v u Q I rx ry ⟨_, _, rfl, rfl, q⟩
  | bl b =>
    cases hn
    cases (show v = Value.bool b from rx)
    obtain ⟨t, rfl⟩ := (show ∃ t, u = Value.int i t from ry)
    exact BA.sub_bi ⟨.int _, H, I.tok _, ⟨_, rfl⟩, q⟩
  | _ => cases hn
theorem op_subNB {X : Cx} : OpR X (binaryOp .Sub) (fun x y H Q => ∃ i n, x = .int i ∧ nmV y = some n ∧ Q (.int (i - n)) H) := by
  intro pins s σ H x y v u Q I rx ry h
  obtain ⟨i, n, rfl, hn, q⟩ := h
  cases y with
  | int j =>
    cases hn
    exact op_sub pins s σ H _ _ v u Q I rx ry ⟨_, _, rfl, rfl, q⟩
  | bl b =>
    cases hn
    cases (show u = Value.bool b from ry)
    obtain ⟨t, rfl⟩ := (show ∃ t, v = Value.int i t from rx)
    exact BA.sub_ib ⟨.int _, H, I.tok _, ⟨_, rfl⟩, q⟩
  | _ => cases hn
end L2
namespace L2
open PySem PySem.Spec PyProof.Rows
/-! ### defs that tell lists as texts: around them no text of a list is under way -/
structure FnOkG (P : Program) (w : World) (K : PySem.W.Frag) (mg : Str → Option Value) (base : Heap) (CX : CXT) (k : Nat) (f : Addr) (fd : FuncData) (ps : List Str) (sp : Sp) : Prop where
  lenG : ∀ vs H Q E, sp vs H Q E → vs.length = ps.length
  runG : ∀ (B : Around) (ou : List Env) (u : Shared) (H : Hp) (ar : Args) (us : List Value) (vs : List V) (Q : VK) (E : XK), B.guards = some [] → Room k B → Env0 P w K mg base B ou u H → BindsTo u fd ar (ps.zip us) → Vals vs us → sp vs H Q E → codeAny (model P w) B (.call (.ref f) ar) (CR CX ou P w H u Q E) u
section
variable {P : Program} {w : World} {K : PySem.W.Frag} {mg : Str → Option Value} {base : Heap} {CX : CXT} {f : Addr} {fd : FuncData} {ps : List Str} {sp sq : Sp}
theorem FnOk.toG {k : Nat} (F : FnOk P w K mg base CX k f fd ps sp) : FnOkG P w K mg base CX k f fd ps sp := ⟨F.len, fun B ou u H ar us vs Q E _ r e b v h => F.run B ou u H ar us vs Q E r e b v h⟩
theorem FnOkG.mono {j k : Nat} (F : FnOkG P w K mg base CX j f fd ps sp) (l : j ≤ k) : FnOkG P w K mg base CX k f fd ps sp := ⟨F.lenG, fun B ou u H ar us vs Q E g r => F.runG B ou u H ar us vs Q E g (r.mono l)⟩
theorem FnOkG.imp {k : Nat} (F : FnOkG P w K mg base CX k f fd ps sp) (h : ∀ vs H Q E, sq vs H Q E → sp vs H Q E) : FnOkG P w K mg base CX k f fd ps sq := ⟨fun vs H Q E q => F.lenG vs H Q E (h vs H Q E q), fun B ou u H ar us vs Q E g r e b v z => F.runG B ou u H ar us vs Q E g r e b v (h vs H Q E z)⟩
end
theorem fnG_of {CX : CXT} {P : Program} {w : World} {K : PySem.W.Frag} {mg : Str → Option Value} {base : Heap} {k : Nat} {f : Addr} {nm qu : Str} {pr : Arguments} {bd : List Stmt} {sc : Scope} {dV kV doc pm cdv ct oc : Value} {an od : Option Addr}
    {osl : Array (Option Value)} {N ps : List Str} {sp : Sp} (lk : K.lookup f = some ⟨oc, od, .func (PySem.W.fnOf nm qu pr bd sc dV kV doc pm an cdv ct), osl⟩) (hcd : PySem.W.codeIn K cdv qu = true) (S : FnScope N ps sc)
    (ln : ∀ vs H Q E, sp vs H Q E → vs.length = ps.length)
    (hb : ∀ (B : Around) (ou : List Env) (u : Shared) (H : Hp) (vs : List V) (Q : VK) (E : XK), (B.deeper (envOfC qu sc u.heap.objs.size f cdv)).guards = some [] → Room k (B.deeper (envOfC qu sc u.heap.objs.size f cdv)) → sp vs H Q E →
      ∃ t, PSs (cxOf CX P w K mg base N qu sc f cdv B ou u H E) bd t ∧ t { nx := fun _ G => Q .non G, rt := Q } (start N vs) H) :
    FnOkG P w K mg base CX (k + 1) f (PySem.W.fnOf nm qu pr bd sc dV kV doc pm an cdv ct) ps sp := by
  refine ⟨ln, fun B ou u H ar us vs Q E hg rm e0 bi rv hs => ?_⟩
  have lv := ln _ _ _ _ hs
  have XK : K.In u.heap := e0.mod.kin.keeps fun b o e => (e0.bs b o e).1
  have NL : u.heap.NoLimit := e0.mod.nolimit.keeps fun b o e => (e0.bs b o e).1
  have kd : ∀ y ∈ ps.zip us, sc.names.lookup y.1 = some .local ∨ (sc.names.lookup y.1 = some .cell ∧ ((cellsFrom (u.heap.objs.size + 1) sc.names []).lookup y.1).isSome = true) := fun ⟨n, v⟩ hy => (S.par n (List.of_mem_zip hy).1).elim .inl fun q => .inr ⟨q, PySem.W.cellsFrom_some _ _ _ (.inl q)⟩
  refine codeAny_call_function rm.depth (XK _ _ lk) rfl S.co S.gen rfl (PySem.W.codeRec_of XK hcd) (bi _ _ _ _ ?_)
  refine wpAny_newFunctionEnv_cells S.kind kd fun en he t1 xc => ?_
  subst he
  refine ⟨NL.keeps xc.toInCall.keep, codeAny_func ?_⟩
  obtain ⟨t, ht, hq⟩ := hb B ou u H vs Q E hg (rm.deeper _) hs
  have J0 : Inv (cxOf CX P w K mg base N qu sc f cdv B ou u H E) [] (start N vs) H t1 := inv_start S rm.hd e0 lv rv xc
  refine wpAny_mono (ht.run [] t1 (start N vs) H _ J0 hq) (fun fl t2 z => ?_) fun _ _ z => z
  have done : ∀ {σ2 : St} {H2 : Hp} {v : V} {y : Value}, Inv (cxOf CX P w K mg base N qu sc f cdv B ou u H E) [] σ2 H2 t2 → RelV v y → Q v H2 → CE ou P w H u Q y t2 := fun {σ2 H2 v y} J rl q => ⟨v, H2, J.os, J.bare, J.base, J.hok, rl, q⟩
  match fl, z with
  | .ret y, ⟨v, σ2, H2, J, rl, q⟩ => exact done J rl q
  | .next, ⟨σ2, H2, J, q⟩ => exact done (v := V.non) (y := Value.none) J rfl q
  | .brk, ⟨_, _, _, q⟩ => exact q.elim
  | .cont, ⟨_, _, _, q⟩ => exact q.elim
theorem Fun.okG {P : Program} {w : World} {K : PySem.W.Frag} {mg : Str → Option Value} {base : Heap} {x qu : Str} {st : Stmt} {f : Addr} {fd : FuncData} {N ps : List Str} {k : Nat} {sp : Sp} (F : Fun K x qu st f fd) (S : FnScope N ps (defScope st)) (ln : ∀ vs H Q E, sp vs H Q E → vs.length = ps.length)
    (hb : ∀ (cdv : Value) (B : Around) (ou : List Env) (u : Shared) (H : Hp) (vs : List V) (Q : VK) (E : XK), (B.deeper (envOfC qu (defScope st) u.heap.objs.size f cdv)).guards = some [] → Room k (B.deeper (envOfC qu (defScope st) u.heap.objs.size f cdv)) → sp vs H Q E →
      ∃ t, PSs (cxOf CX0 P w K mg base N qu (defScope st) f cdv B ou u H E).nox (defBody st) t ∧ t { nx := fun _ G => Q .non G, rt := Q } (start N vs) H) : FnOkG P w K mg base CX0 (k + 1) f fd ps sp := by
  obtain ⟨oc, od, kV, doc, pm, an, cdv, ct, osl, rfl, lk, hc⟩ := F.ex
  refine fnG_of lk hc S ln fun B ou u H vs Q E hg rm hs => ?_
  obtain ⟨t, h, q⟩ := hb cdv B ou u H vs Q E hg rm hs
  exact ⟨t, h.nox, q⟩
section
variable {X : Cx} {CX : CXT} {k : Nat} {f : Addr} {fd : FuncData} {ps : List Str} {sp : Sp} {dvs : List V} {ds : List Value} {E : XK} {x : Str} {p pos : Pos} {e : Expr} {es : List Expr} {t : TA}
theorem runG_fn {pz : List (Addr × Obj)} {τ : St} {H : Hp} {u0 : Shared} {Q : VK} {us : List Value} {vs : List V} (F : FnOkG X.prog X.w X.K X.mg X.base CX k f fd ps sp) (gd : X.A.guards = some []) (hr : Room k X.A) (hb : Binds X.K fd ps ds) (hd : Vals dvs ds) (hx : Passes CX X E)
    (I : Inv X pz τ H u0) (r : Vals vs us) (h : sp (vs ++ dvs) H Q E) : wpAny (model X.prog X.w) X.A (call (.ref f) us) (EP X pz τ Q) X.xe u0 := by
  have ra : Vals (vs ++ dvs) (us ++ ds) := r.append hd
  have la : (us ++ ds).length = ps.length := ra.length.symm.trans (F.lenG _ _ _ _ h)
  refine wpAny_call (codeAny_mono (F.runG X.A X.stack u0 H ⟨us, []⟩ (us ++ ds) (vs ++ dvs) Q E gd hr I.env0 (hb u0 us I.kIn la) ra h) fun r1 t1 z => ?_)
  match r1 with
  | .error er => exact hx pz τ H u0 er t1 I z
  | .ok (.ret y) => exact I.after z
  | .ok .next => exact z.elim
  | .ok .brk => exact z.elim
  | .ok .cont => exact z.elim
theorem pe_callG (F : FnOkG X.prog X.w X.K X.mg X.base CX k f fd ps sp) (gd : X.A.guards = some []) (hr : Room k X.A) (hg : Gl X x) (hm : X.mg x = some (.ref f)) (hk : PySem.W.keepIn X.K (.ref f) = true) (hb : Binds X.K fd ps ds) (hd : Vals dvs ds) (hx : Passes CX X E)
    (ha : PA X (e :: es) t) (hdb : (x == ("__debug__" : Str)) = false := by decide) (he : starEach (e :: es) X.env = (false, eval e X.env) :: starEach es X.env := by rfl) (hpl : (backTo pos (starEach es X.env)).any (·.1) = false := by rfl) :
    PE X (.Call (.Name x p) (e :: es) [] pos) (tCall sp dvs E t) := by
  constructor
  intro pz u0 τ H Q I h
  refine wpAny_Call_Name_kw (ld_glob I hg hm (PySem.W.callWith_K (h₀ := X.base) I.ok.mod.kin hk (thn (ha.run pos pz u0 τ H _ I h) fun us t1 z => ?_) he hpl) hdb)
  obtain ⟨vs, H1, I1, r, q⟩ := z
  exact ⟨I1.kIn, runG_fn F gd hr hb hd hx I1 r q⟩
/-- str of a list or tuple -/
theorem call_strD (gd : X.A.guards = some []) (hu : X.A.units + 100 < cLine) : CallR X (.type "str") (fun xs H Q => ∃ (a : Addr) (d : PyData), xs = [.ref a] ∧ Dp X.K H (.ref a) d ∧ d.showable = true ∧ d.hasDict = false ∧ d.shown.length ≤ sizeLine ∧ d.depth ≤ 60 ∧ Q (.str d.shown) H) := by
  intro pz u0 τ H xs us Q I r h
  obtain ⟨a, d, rfl, hd, h1, h2, h3, h4, q⟩ := h
  obtain ⟨u, rfl, rv⟩ := vals1 r
  obtain ⟨as, rd⟩ := Dp.reads I d (.ref a) u hd rv
  cases (show u = Value.ref a from rv)
  exact str_of_reads rd h1 (fun z => by rw [h2] at z; cases z) gd (by omega) (fun b o e => e) (fun h' y tk k => ⟨.str _, H, I.kept k, ⟨_, rfl⟩, q⟩) h3
end
/-! ### the head for such a law -/
theorem law_callG {P : Program} {w : World} {K : PySem.W.Frag} {mg mb : Str → Option Value} {CX : CXT} {k : Nat} {fa sa : Addr} {fd : FuncData} {x : Str} {sp : Sp} {t1 : Shared} {vs : List Value} {ns : List Int}
    (XK : K.In t1.heap) (hn : t1.heap.Ns mainGlobals mg) (hb : t1.heap.Ns builtinsNs mb) (hbb : ∀ y : Str, y ≠ "__name__" → mb y = bootBuiltins y) (nl : t1.heap.NoLimit) (ge : t1.gens = #[])
    (ha : t1.heap.get? sa = some { cls := .type "list", data := .seq vs.toArray }) (hi : IntsAre vs ns) (hl : ns.length ≤ sizeLine) (rm : Room k callerA)
    (F : ∀ base : Heap, K.In base → base.Ns mainGlobals mg → FnOkG P w K mg base CX k fa fd [x] sp) (bi : ∀ (u : Shared) (v : Value), BindsTo u fd ⟨[v], []⟩ [(x, v)])
    (hsp : ∀ H : Hp, Only H → SqL K H sa (ns.map V.int) → sp [.ref sa] H (fun v _ => v = .bl true) fun _ _ _ => False)
    (hX : ∀ H e t2, CX [] H t1 (fun _ _ _ => False) e t2 → False) :
    codeAny (model P w) callerA (.call (.ref fa) ⟨[.ref sa], []⟩) (fun r t2 => r = .ok (.ret (.bool true)) ∧ OldK t1.heap t2.heap ∧ t2.os = t1.os ∧ AllBare t2.gens) t1 := by
  have rv := vals_ints hi
  have lv := hi.length
  have main : ∀ H : Hp, Only H → SqL K H sa (ns.map V.int) → HOk P w H t1.heap → (∀ b, H b ≠ none → b = sa) → (H sa ≠ none → K.lookup sa = none) → codeAny (model P w) callerA (.call (.ref fa) ⟨[.ref sa], []⟩) (fun r t2 => r = .ok (.ret (.bool true)) ∧ OldK t1.heap t2.heap ∧ t2.os = t1.os ∧ AllBare t2.gens) t1 := by
    intro H hO hS ok only notK
    have there : ∀ {b : Addr} {o : Obj}, t1.heap.get? b = some o → H b = none → (hidT t1.heap H).get? b = some o := fun e n => hidT_get e n
    have dicts : ∀ {b : Addr} {o : Obj} {es : Array DictEntry} {ep : Nat}, t1.heap.get? b = some o → o.data = .dict es ep → H b = none := fun {b o es ep} e d => by
      cases z : H b with
      | none => rfl
      | some y =>
        have eb : b = sa := only b (fun q => by rw [z] at q; cases q)
        rw [eb, ha] at e
        cases e
        exact absurd (show Data.seq vs.toArray _ = Data.dict es ep from d) (fun q => by cases q)
    have nsk : ∀ {b : Addr} {m : Str → Option Value}, t1.heap.Ns b m → (hidT t1.heap H).Ns b m := fun {b m} z => by
      obtain ⟨o, es, ep, e, d, r⟩ := z
      exact ⟨o, es, ep, there e (dicts e d), d, r⟩
    have inK : K.In (hidT t1.heap H) := fun b o e => there (XK b o e) (by
      cases z : H b with
      | none => rfl
      | some y =>
        have ny : H b ≠ none := fun q => by rw [z] at q; cases q
        have eb : b = sa := only b ny
        subst eb
        rw [notK ny] at e
        cases e)
    have md : Mod K mg (hidT t1.heap H) := ⟨inK, nsk hn, ⟨mb, nsk hb, hbb⟩, by obtain ⟨mc, z1, z2⟩ := nl; exact ⟨mc, nsk z1, z2⟩⟩
    have en : Env0 P w K mg (hidT t1.heap H) callerA [] t1 H := ⟨rfl, md, fun b o e => of_hidT e, Nat.le_of_eq (hidT_size _ _), trivial, fun b hb => absurd (show b ∈ ([] : List Addr) from hb) (by simp), ok, .of_eq ge⟩
    refine codeAny_mono ((F _ inK (nsk hn)).runG callerA [] t1 H ⟨[.ref sa], []⟩ [.ref sa] [.ref sa] _ _ rfl rm en (bi t1 (.ref sa)) (.cons rfl .nil) (hsp H hO hS)) fun r t2 z => ?_
    match r, z with
    | .error e, z => exact (hX H e t2 z).elim
    | .ok .next, z => exact z.elim
    | .ok .brk, z => exact z.elim
    | .ok .cont, z => exact z.elim
    | .ok (.ret y), z =>
      obtain ⟨v, H2, os, br, un, ok2, rl, q⟩ := z
      cases (show v = .bl true from q)
      cases (show y = Value.bool true from rl)
      refine ⟨rfl, OldK.of_keep fun b o e => ?_, os, br⟩
      cases z : H b with
      | none => exact un.keep b o e z (fun z => absurd (show b ∈ ([] : List Addr) from z) (by simp)) (by simp)
      | some y =>
        rcases hO b with n | ⟨ob, xs, n⟩
        · rw [z] at n
          cases n
        · obtain ⟨e1, _⟩ := ok b _ n
          obtain ⟨e2, _⟩ := ok2 b _ (un.frzs b ob _ n)
          rw [e] at e1
          cases e1
          exact e2
  cases hk : K.lookup sa with
  | some o =>
    have e := XK sa o hk
    rw [ha] at e
    cases e
    exact main (fun _ => none) (fun _ => .inl rfl) (.inr ⟨_, vs.toArray, _, hk, rfl, rfl, rfl, by rw [List.size_toArray, lv]; exact hl, by simpa using rv⟩) (fun b y z => absurd (show (none : Option HO) = some y from z) (fun q => by cases q)) (fun b z => absurd rfl z) fun z => absurd rfl z
  | none =>
    refine main (fun b => if b = sa then some (.frz { cls := .type "list", data := .seq vs.toArray } (.lst (ns.map V.int))) else none) (fun b => ?_) (.inl (.inr ⟨{ cls := .type "list", data := .seq vs.toArray }, if_pos rfl⟩)) (fun b y z => ?_) (fun b z => ?_) fun _ => hk
    · by_cases c : b = sa
      · exact .inr ⟨_, _, if_pos c⟩
      · exact .inl (if_neg c)
    · by_cases c : b = sa
      · cases ((if_pos c).symm.trans z)
        subst c
        exact ⟨ha, by rw [List.length_map]; exact hl, vs, _, rv, ha⟩
      · cases ((if_neg c).symm.trans z)
    · by_cases c : b = sa
      · exact c
      · exact absurd (if_neg c) z
theorem walkG {l : PySem.W.OpenLaw} {n k : Nat} {q : Program} {lo : List Str} {XP : (Str → Option Value) → Heap → Prop} {YP : World → Heap → Prop} {d : DefRec} {K : Params → PySem.W.Frag} {CX : World → CXT} {sp : World → Sp} {x : Str}
    (hn : l.most = some n) (hs : n ≤ sizeLine) (hdf : d.params.defaults = []) (rm : Room k callerA) (hY : ∀ (w : World) (h : Heap), YP w h → (K w.params).In h)
    (F : ∀ (w : World) (mg : Str → Option Value) (fa : Addr) (h : Heap), (K w.params).In h → h.Ns mainGlobals mg → mg d.name = some (.ref fa) → ∃ fd : FuncData, (∀ (u : Shared) (v : Value), BindsTo u fd ⟨[v], []⟩ [(x, v)]) ∧ ∀ base : Heap, (K w.params).In base → base.Ns mainGlobals mg → FnOkG l.prog w (K w.params) mg base (CX w) k fa fd [x] (sp w))
    (hsp : ∀ (w : World) (H : Hp) (a : Addr) (ns : List Int), ns.length ≤ n → Only H → SqL (K w.params) H a (ns.map V.int) → sp w [.ref a] H (fun v _ => v = .bl true) fun _ _ _ => False)
    (hX : ∀ (w : World) (H : Hp) (u : Shared) (e : Value) (u' : Shared), CX w [] H u (fun _ _ _ => False) e u' → False) : PySem.W.WalkO q lo XP YP l.row.toRowW d [] (fun f vs => PySem.call f vs) := by
  refine Att.attach_call hn hdf fun w t0 t1 mg mb fa o pm cd doc a vs ns G Y ho hd hc hm hobj hi hlen hg => ?_
  obtain ⟨fd, hb, hF⟩ := F w mg fa _ (hY w _ Y) G.T.g hm
  exact law_callG (hY w _ Y) G.T.g G.T.b G.T.builtins G.T.nolimit hg hobj hi (Nat.le_trans hlen hs) rm hF hb (fun H hO hS => hsp w H a ns hlen hO hS) fun H e t2 => hX w H t1 e t2
end L2
namespace L2
open PySem PySem.Spec PyProof.Rows
/-! ### data that can be told as a text: n leaves and lists at most, m deep -/
structure Shw (n m : Nat) (d : PyData) : Prop where
  sh : d.showable = true
  nd : d.hasDict = false
  ls : d.leavesShort 110 = true
  bk : d.bulk ≤ n
  dp : d.depth ≤ m
structure ShwA (n m : Nat) (ds : List PyData) : Prop where
  sh : PyData.showableAll ds = true
  nd : PyData.hasDictAll ds = false
  ls : PyData.leavesShortAll 110 ds = true
  bk : PyData.bulkAll ds ≤ n
  dp : PyData.depthAll ds ≤ m
theorem Shw.mono {n m n' m' : Nat} {d : PyData} (h : Shw n m d) (a : n ≤ n') (b : m ≤ m') : Shw n' m' d := ⟨h.sh, h.nd, h.ls, Nat.le_trans h.bk a, Nat.le_trans h.dp b⟩
theorem ShwA.mono {n m n' m' : Nat} {ds : List PyData} (h : ShwA n m ds) (a : n ≤ n') (b : m ≤ m') : ShwA n' m' ds := ⟨h.sh, h.nd, h.ls, Nat.le_trans h.bk a, Nat.le_trans h.dp b⟩
theorem Shw.non : Shw 0 0 .none := ⟨rfl, rfl, rfl, Nat.le_refl _, Nat.le_refl _⟩
theorem Shw.bl (b : Bool) : Shw 0 0 (.bool b) := ⟨rfl, rfl, rfl, Nat.le_refl _, Nat.le_refl _⟩
theorem Shw.int {i : Int} (h0 : -(2 ^ 100) < i) (h1 : i < 2 ^ 100) : Shw 0 0 (.int i) := by
  have hl : i.natAbs.log2 < 100 := by
    by_cases c : i.natAbs = 0
    · rw [c]
      decide
    · refine (Nat.log2_lt c).mpr ?_
      have : ((2 ^ 100 : Nat) : Int) = 2 ^ 100 := by decide
      omega
  refine ⟨decide_eq_true (by omega), rfl, decide_eq_true ?_, Nat.le_refl _, Nat.le_refl _⟩
  show (Str.ofString (toString i)).length ≤ 110
  rw [PySem.ofString_length]
  have := int_text_length_le (k := 100) (by decide) hl
  omega
theorem Shw.str {x : Str} (h : ∀ c ∈ x.cps.toList, c < 16 ^ 8) : Shw x.length 0 (.str x) := ⟨rfl, rfl, by simpa only [PyData.leavesShort, List.all_eq_true, decide_eq_true_eq] using h, Nat.le_refl _, Nat.le_refl _⟩
theorem ShwA.nil : ShwA 0 0 [] := ⟨rfl, rfl, rfl, Nat.le_refl _, Nat.le_refl _⟩
theorem ShwA.cons {n k m : Nat} {d : PyData} {ds : List PyData} (h : Shw n m d) (r : ShwA k m ds) : ShwA (n + 1 + k) m (d :: ds) :=
  ⟨by unfold PyData.showableAll; rw [h.sh, r.sh]; rfl, by unfold PyData.hasDictAll; rw [h.nd, r.nd]; rfl, by unfold PyData.leavesShortAll; rw [h.ls, r.ls]; rfl, by unfold PyData.bulkAll; have := h.bk; have := r.bk; omega, by unfold PyData.depthAll; exact Nat.max_le.mpr ⟨h.dp, r.dp⟩⟩
theorem Shw.lst {n m : Nat} {ds : List PyData} (h : ShwA n m ds) : Shw n (m + 1) (.list ds) := ⟨by unfold PyData.showable; exact h.sh, by unfold PyData.hasDict; exact h.nd, by unfold PyData.leavesShort; exact h.ls, by unfold PyData.bulk; exact h.bk, by unfold PyData.depth; exact Nat.succ_le_succ h.dp⟩
theorem Shw.tup {n m : Nat} {ds : List PyData} (h : ShwA n m ds) : Shw n (m + 1) (.tuple ds) := ⟨by unfold PyData.showable; exact h.sh, by unfold PyData.hasDict; exact h.nd, by unfold PyData.leavesShort; exact h.ls, by unfold PyData.bulk; exact h.bk, by unfold PyData.depth; exact Nat.succ_le_succ h.dp⟩
theorem ShwA.ints : ∀ ds : List Int, (∀ d ∈ ds, -(2 ^ 100) < d ∧ d < 2 ^ 100) → ShwA ds.length 0 (ds.map PyData.int)
  | [], _ => .nil
  | d :: ds, h => by
    have r := ShwA.ints ds fun e he => h e (List.mem_cons_of_mem _ he)
    have a := h d List.mem_cons_self
    exact (ShwA.cons (Shw.int a.1 a.2) r).mono (by rw [List.length_cons]; omega) (Nat.le_refl _)
theorem Shw.fits {n m : Nat} {d : PyData} (h : Shw n m d) (hn : n ≤ 100000) : d.shown.length ≤ sizeLine := by
  have a := PyData.shown_le_bulk 110 (by decide) d h.ls
  have b := h.bk
  rw [sizeLine_eq]
  omega
theorem roomS {k : Nat} {A : Around} (r : Room k A) : A.units + 100 < cLine := by
  have := r.un
  omega
def rStrL (K : PySem.W.Frag) : List V → Hp → VK → Prop := fun xs H Q => ∃ (a : Addr) (d : PyData) (n m : Nat), xs = [.ref a] ∧ Dp K H (.ref a) d ∧ Shw n m d ∧ n ≤ 100000 ∧ m ≤ 60 ∧ Q (.str d.shown) H
theorem call_strL {X : Cx} (gd : X.A.guards = some []) (hu : X.A.units + 100 < cLine) : CallR X (.type "str") (rStrL X.K) := by
  intro pz u0 τ H xs us Q I r h
  obtain ⟨a, d, n, m, rfl, hd, s, hn, hm, q⟩ := h
  exact call_strD gd hu pz u0 τ H [.ref a] us Q I r ⟨a, d, rfl, hd, s.sh, s.nd, s.fits hn, Nat.le_trans s.dp hm, q⟩
end L2
namespace L2
open PySem PySem.Spec PyProof.Rows
/-- repr of a list or tuple -/
theorem call_reprL {X : Cx} (gd : X.A.guards = some []) (hu : X.A.units + 100 < cLine) : CallR X (.builtin "repr") (rStrL X.K) := by
  intro pz u0 τ H xs us Q I r h
  obtain ⟨a, d, n, m, rfl, hd, s, hn, hm, q⟩ := h
  obtain ⟨u, rfl, rv⟩ := vals1 r
  obtain ⟨as, rd⟩ := Dp.reads I d (.ref a) u hd rv
  cases (show u = Value.ref a from rv)
  have := s.dp
  exact repr_of_reads' rd s.sh (fun z => by rw [s.nd] at z; cases z) gd (by omega) (fun b o e => e) (fun h' y tk k => ⟨.str _, H, I.kept k, ⟨_, rfl⟩, q⟩) (s.fits hn)
end L2
namespace L2
open PySem PySem.Spec PyProof.Rows
/-- repr of a thing that reads as data, a text, a number, None or a truth -/
def rReprA (K : PySem.W.Frag) : List V → Hp → VK → Prop := fun xs H Q => ∃ (v : V) (d : PyData) (n m : Nat), xs = [v] ∧ Dp K H v d ∧ Shw n m d ∧ n ≤ 100000 ∧ m ≤ 60 ∧ Q (.str d.shown) H
theorem call_reprA {X : Cx} (gd : X.A.guards = some []) (hu : X.A.units + 100 < cLine) : CallR X (.builtin "repr") (rReprA X.K) := by
  intro pz u0 τ H xs us Q I r h
  obtain ⟨v, d, n, m, rfl, hd, s, hn, hm, q⟩ := h
  obtain ⟨u, rfl, rv⟩ := vals1 r
  cases v with
  | ref a => exact call_reprL gd hu pz u0 τ H [.ref a] _ Q I r ⟨a, d, n, m, rfl, hd, s, hn, hm, q⟩
  | non =>
    cases hd
    cases (show u = Value.none from rv)
    exact PySem.P.repr_of_none ⟨.str _, H, I.tok _, ⟨_, rfl⟩, q⟩
  | bl b =>
    cases hd
    cases (show u = Value.bool b from rv)
    exact PySem.P.repr_of_bool ⟨.str _, H, I.tok _, ⟨_, rfl⟩, q⟩
  | int i =>
    cases hd
    obtain ⟨t, rfl⟩ := (show ∃ t, u = Value.int i t from rv)
    exact PySem.P.repr_of_int (of_decide_eq_true s.sh) ⟨.str _, H, I.tok _, ⟨_, rfl⟩, q⟩
  | str x =>
    cases hd
    obtain ⟨t, rfl⟩ := (show ∃ t, u = Value.str x t from rv)
    exact PySem.P.repr_of_str ⟨.str _, H, I.tok _, ⟨_, rfl⟩, q⟩ (s.fits hn)
  | _ => cases hd
end L2
namespace L2
open PySem PySem.Spec PyProof.Rows
/-- str of a thing that reads as data, a text, a number, None or a truth: some text -/
def rStrA (K : PySem.W.Frag) : List V → Hp → VK → Prop := fun xs H Q => ∃ (v : V) (d : PyData) (n m : Nat), xs = [v] ∧ Dp K H v d ∧ Shw n m d ∧ n ≤ 100000 ∧ m ≤ 60 ∧ ∀ x : Str, (∀ y, d = .str y → x = y) → ((∀ y, d ≠ .str y) → x = d.shown) → Q (.str x) H
theorem call_strA {X : Cx} (gd : X.A.guards = some []) (hu : X.A.units + 100 < cLine) : CallR X (.type "str") (rStrA X.K) := by
  intro pz u0 τ H xs us Q I r h
  obtain ⟨v, d, n, m, rfl, hd, s, hn, hm, q⟩ := h
  obtain ⟨u, rfl, rv⟩ := vals1 r
  cases v with
  | ref a => exact call_strL gd hu pz u0 τ H [.ref a] _ Q I r ⟨a, d, n, m, rfl, hd, s, hn, hm, q _ (fun y e => by subst e; cases hd) (fun _ => rfl)⟩
  | non =>
    cases hd
    cases (show u = Value.none from rv)
    exact PySem.P.str_of_none ⟨.str _, H, I.tok _, ⟨_, rfl⟩, q _ (fun y e => by cases e) (fun _ => rfl)⟩
  | bl b =>
    cases hd
    cases (show u = Value.bool b from rv)
    exact PySem.P.str_of_bool ⟨.str _, H, I.tok _, ⟨_, rfl⟩, q _ (fun y e => by cases e) (fun _ => rfl)⟩
  | int i =>
    cases hd
    obtain ⟨t, rfl⟩ := (show ∃ t, u = Value.int i t from rv)
    exact PySem.P.str_of_int (of_decide_eq_true s.sh) ⟨.str _, H, I.tok _, ⟨_, rfl⟩, q _ (fun y e => by cases e) (fun _ => rfl)⟩
  | str x =>
    cases hd
    obtain ⟨t, rfl⟩ := (show ∃ t, u = Value.str x t from rv)
    exact PySem.P.str_of_str ⟨.str _, H, I, ⟨_, rfl⟩, q _ (fun y e => by cases e; rfl) (fun z => absurd rfl (z x))⟩
  | _ => cases hd
end L2
namespace L2
open PySem PySem.Spec PyProof.Rows
theorem op_isB {X : Cx} : OpR X (compareOp .Is) (fun x y H Q => ∃ a b, x = .bl a ∧ y = .bl b ∧ Q (.bl (a == b)) H) := by
  intro pins s σ H x y v u Q I rx ry h
  obtain ⟨a, b, rfl, rfl, q⟩ := h
  cases rx
  cases ry
  refine wpAny_is_plain rfl (fin_bl I q ?_)
  cases a <;> cases b <;> rfl
end L2

namespace GZ
open PySem PySem.Spec PyProof.Rows L2
/-! ### x in a tuple, both read as data -/
theorem units65 {k : Nat} {A : Around} (r : Room k A) : A.units + 65 < cLine := by have := r.un; omega
section
variable {X : Cx}
def rInDT (K : PySem.W.Frag) : R2 := fun x y H Q => ∃ d ds, Dp K H x d ∧ Dp K H y (.tuple ds) ∧ d.plain = true ∧ PyData.plainAll ds = true ∧ PyData.depthAll ds ≤ 60 ∧ Q (.bl (ds.any fun z => PyData.eqv z d)) H
theorem op_inDT (hu : X.A.units + 65 < cLine) : OpR X (compareOp .In) (rInDT X.K) := by
  intro pins s σ H x y v u Q I rx ry h
  obtain ⟨d, ds, hd, he, sd, se, dd, q⟩ := h
  obtain ⟨as, r1⟩ := Dp.reads I d x v hd rx
  obtain ⟨bs, r2⟩ := Dp.reads I (.tuple ds) y u he ry
  refine PySem.SeqAt.in_tuple_data r2 r1 se sd ?_ ⟨.bl _, H, I, rfl, q⟩
  have := Nat.min_le_left (PyData.depthAll ds) d.depth
  omega
end
/-! ### == and != of things that read as data, whatever their texts -/
theorem op_nePl {X : Cx} (hu : X.A.units + 64 < cLine) : OpR X (compareOp .NotEq) (fun x y H Q => ∃ d e, Dp X.K H x d ∧ Dp X.K H y e ∧ d.plain = true ∧ e.plain = true ∧ d.depth ≤ 64 ∧ Q (.bl (!PyData.eqv d e)) H) := by
  intro pins s σ H x y v u Q I rx ry h
  obtain ⟨d, e, hd, he, sd, se, dd, q⟩ := h
  obtain ⟨as, r1⟩ := Dp.reads I d x v hd rx
  obtain ⟨bs, r2⟩ := Dp.reads I e y u he ry
  refine SeqAt.ne_plain r1 r2 sd se ?_ ⟨.bl _, H, I, rfl, q⟩
  have := Nat.min_le_left d.depth e.depth
  omega
theorem op_eqPl {X : Cx} (hu : X.A.units + 64 < cLine) : OpR X (compareOp .Eq) (fun x y H Q => ∃ d e, Dp X.K H x d ∧ Dp X.K H y e ∧ d.plain = true ∧ e.plain = true ∧ d.depth ≤ 64 ∧ Q (.bl (PyData.eqv d e)) H) := by
  intro pins s σ H x y v u Q I rx ry h
  obtain ⟨d, e, hd, he, sd, se, dd, q⟩ := h
  obtain ⟨as, r1⟩ := Dp.reads I d x v hd rx
  obtain ⟨bs, r2⟩ := Dp.reads I e y u he ry
  refine SeqAt.eq_plain r1 r2 sd se ?_ ⟨.bl _, H, I, rfl, q⟩
  have := Nat.min_le_left d.depth e.depth
  omega
def Sq2 (t : Bool) (K : PySem.W.Frag) (H : Hp) (a : Addr) (xs : List V) : Prop := bif t then SqT K H a xs else SqL K H a xs
/-! ### xs[::-1] of a list or a tuple; a starred name ahead of one -/
section
variable {prog : Program} {w : World} {A : Around} {E : Value → Shared → Prop} {s : Shared}
theorem fm_congr {α β : Type} {f g : α → Option β} : ∀ {l : List α}, (∀ x ∈ l, f x = g x) → l.filterMap f = l.filterMap g
  | [], _ => rfl
  | a :: l, h => by
    rw [List.filterMap_cons, List.filterMap_cons, h a (by simp), fm_congr fun x hx => h x (List.mem_cons_of_mem _ hx)]
theorem pick_rev (xs : Array Value) : ((List.range xs.size).filterMap fun (m : Nat) => xs[(((xs.size : Int) - 1) + (m : Int) * (-1)).toNat]?).toArray = xs.toList.reverse.toArray := by
  have e : (List.range xs.size).filterMap (fun (m : Nat) => xs[(((xs.size : Int) - 1) + (m : Int) * (-1)).toNat]?) = ((List.range xs.size).map fun k => xs.size - 1 - k).filterMap (xs[·]?) := by
    rw [List.filterMap_map]
    refine fm_congr fun m hm => ?_
    have := List.mem_range.mp hm
    show xs[(((xs.size : Int) - 1) + (m : Int) * (-1)).toNat]? = xs[xs.size - 1 - m]?
    rw [show (((xs.size : Int) - 1) + (m : Int) * (-1)).toNat = xs.size - 1 - m by omega]
  rw [e, PySem.W.krv_range, List.filterMap_reverse, PySem.W.krv_all]
theorem sliceApplied_rev {sl : Addr} {vs : Value} {n : Nat} {Q : Int × Int × Nat → Shared → Prop} (hs : s.heap.IsSliceOf sl .none .none vs) (ps : IsPart vs (some (-1)))
    (h : Q ((n : Int) - 1, -1, n) s) : wpAny (model prog w) A (Builtin.Slice.sliceApplied (.ref sl) (pure (n : Int))) Q E s := by
  obtain ⟨os, hos, hcs, hds⟩ := id hs
  unfold Builtin.Slice.sliceApplied Builtin.Slice.sliceFields
  refine wpAny_bind (wpAny_bind (wpAny_field hos hds (x := .none) rfl (wpAny_bind (wpAny_field hos hds (x := .none) rfl (wpAny_bind (wpAny_field hos hds (x := vs) rfl (wpAny_pure ?_)))))))
  refine wpAny_bind (HT.slicePart_ ps ?_)
  show wpAny _ _ (if ((-1 : Int) == 0) = true then _ else _) _ _ s
  rw [if_neg (by decide)]
  refine wpAny_bind (slicePart_none (wpAny_bind (slicePart_none (wpAny_bind (wpAny_pure ?_)))))
  have e : Builtin.Slice.slicePlaces ((n : Int) - 1) (-1) (-1) = n := by
    unfold Builtin.Slice.slicePlaces
    have h1 : ¬ ((-1 : Int) > 0) := by omega
    simp only [h1, if_false]
    split
    · rw [show (-(-1) : Int) = 1 by decide, Int.ediv_one]
      omega
    · omega
  show wpAny _ _ (pure (((n : Int) - 1), (-1 : Int), Builtin.Slice.slicePlaces ((n : Int) - 1) (-1) (-1))) _ _ s
  rw [e]
  exact wpAny_pure h
theorem getItem_tuple_rev {t sl : Addr} {items : Array Value} {vs : Value} {Q : Value → Shared → Prop} (ht : IsTup s.heap t items) (hs : s.heap.IsSliceOf sl .none .none vs) (ps : IsPart vs (some (-1)))
    (h : Q (.ref s.heap.objs.size) { s with heap := s.heap.push { cls := .type "tuple", data := .seq items.toList.reverse.toArray } })
    (hsz : items.size ≤ sizeLine) : wpAny (model prog w) A (getItem (.ref t) (.ref sl)) Q E s := by
  have htake : sizeOk (.seq items.toList.reverse.toArray) := by
    show items.toList.reverse.toArray.size ≤ sizeLine
    rw [List.size_toArray, List.length_reverse, Array.length_toList]
    exact hsz
  obtain ⟨os, hos, hcs, hds⟩ := id hs
  have hTs : s.TypeIs (.ref sl) "slice" := ⟨os, hos, hcs⟩
  unfold getItem
  try with_reducible refine wpAny_holding ?_
  first | refine wpAny_bind (wpAny_pure ?_) | skip
  refine wpAny_bind (wpAny_sequenceKey ht.typeIs (by decide) ?_)
  refine wpAny_bind (wpAny_callSpecial?_slot (name := Str.ofString "__getitem__") ht.typeIs PyProof.Rows.slot_tuple_getitem
    (wpAny_call_entry PyProof.Rows.slot_tuple_getitem ht.typeIs entry_tuple_getitem ?_ (args_tuple_getitem _ _)))
  show wpAny _ _ (Builtin.Tuple.tupleItemsOf (.ref t) >>= _) _ _ s
  refine wpAny_bind (tupleItemsOf_ ht ?_)
  refine wpAny_bind (wpAny_typeOf hTs ?_)
  rw [if_pos (by decide)]
  refine wpAny_bind (sliceApplied_rev hs ps ?_)
  have hno : ¬ ((((items.size : Int) - 1) == 0 && (-1 : Int) == 1 && items.size == items.size) = true) := by
    intro q
    rw [Bool.and_eq_true, Bool.and_eq_true] at q
    exact absurd q.1.2 (by decide)
  show wpAny _ _ (if (((items.size : Int) - 1) == 0 && (-1 : Int) == 1 && items.size == items.size) = true then _ else _) _ _ s
  rw [if_neg hno, pick_rev]
  first
    | exact wpAny_bind (m := Builtin.Tuple.tupleExact _) (wpAny_newObj_type (wpAny_pure ⟨_, rfl, wpAny_pure h⟩) htake)
    | exact wpAny_bind (m := Builtin.Tuple.tupleExact _) (wpAny_newObj_type (wpAny_bind (wpAny_pure (wpAny_pure ⟨_, rfl, wpAny_pure h⟩))) htake)
    | exact wpAny_bind (wpAny_bind (m := Builtin.Tuple.tupleExact _) (wpAny_newObj_type (wpAny_pure (wpAny_pure ⟨_, rfl, wpAny_pure h⟩)) htake))
    | exact wpAny_bind (wpAny_bind (m := Builtin.Tuple.tupleExact _) (wpAny_newObj_type (wpAny_pure ⟨_, rfl, wpAny_pure h⟩) htake))
end
section
variable {X : Cx}
def sqO (t : Bool) (xs : List V) : HO := bif t then .tup xs else .lst xs
def tRevS (K : PySem.W.Frag) (te : TE) : TE := fun σ H Q => te σ H fun x H1 => ∃ (t : Bool) (a : Addr) (xs : List V), x = .ref a ∧ Sq2 t K H1 a xs ∧ ∀ p, H1 p = none → Q (.ref p) (upd H1 p (sqO t xs.reverse))
theorem pe_revS {e : Expr} {te : TE} {k : Nat} {p1 p2 p3 pos : Pos} (he : PE X e te) : PE X (.Subscript e (.Slice none none (some (.UnaryOp .USub (.Constant (.int 1) k p1) p2)) p3) pos) (tRevS X.K te) := by
  refine ⟨fun pins s σ H Q I h => ?_⟩
  refine Subscript_ (thn (he.run pins s σ H _ I h) fun v s1 ⟨x, H1, I1, r1, q1⟩ => ?_)
  obtain ⟨t, a, xs, ex, hx, q⟩ := q1
  subst ex
  cases r1
  have hst : PO X (some (.UnaryOp .USub (.Constant (.int 1) k p1) p2)) (tPart (tUn (rU fun i => .int (-i)) (tC (.int 1)))) := po_some (pe_un un_neg pe_int)
  refine wpAny_Slice (thn (po_none.run pins s1 σ H1 (fun o H2 => o = none ∧ H2 = H1) I1 ⟨rfl, rfl⟩) fun vl s2 ⟨l, H2, I2, pl, el, e2⟩ => ?_)
  subst el e2
  refine thn (po_none.run pins s2 σ H2 (fun o H3 => o = none ∧ H3 = H2) I2 ⟨rfl, rfl⟩) fun vu s3 ⟨u, H3, I3, pu, eu, e3⟩ => ?_
  subst eu e3
  refine thn (hst.run pins s3 σ H3 (fun o H4 => o = some (-1) ∧ H4 = H3) I3 ⟨1, rfl, -1, rfl, rfl, rfl⟩) fun vs s4 ⟨o, H4, I4, ps, eo, e4⟩ => ?_
  subst eo e4
  have I5 : Inv X pins σ H4 { s4 with heap := s4.heap.push { cls := .type "slice", data := .fields #[vl, vu, vs] } } := I4.kept (t' := s4.toks) fun b ob q => Heap.get?_push_of_some _ q
  show wpAny (model X.prog X.w) X.A (subscriptTail e (.Slice none none (some (.UnaryOp .USub (.Constant (.int 1) k p1) p2)) p3) (.ref a) (.ref s4.heap.objs.size)) (EP X pins σ Q) X.xe { s4 with heap := s4.heap.push { cls := .type "slice", data := .fields #[vl, vu, vs] } }
  cases t
  · obtain ⟨its, r, ht, hz⟩ := I5.list hx
    have hlen := r.length
    refine tail_any (ops := [.ref a, .ref s4.heap.objs.size]) ht.isList.typeIs (PySem.slot_list_getitem.lookup) ?_ (by with_unfolding_all rfl)
    refine wpAny_getItem_list_slice ht.isList (Heap.IsSliceOf.new _ vl vu vs) pl pu ps (by decide) ?_ (by rw [List.size_toArray]; omega)
    rw [PySem.W.krv_pick]
    refine ⟨.ref _, _, I5.laid (t' := s4.toks) (o := .lst xs.reverse) (fun b ob q => Heap.get?_push_of_some _ q) (Nat.le_refl _) ?_, rfl, q _ (I5.hok.fresh (Nat.le_refl _))⟩
    exact ⟨by rw [List.length_reverse]; exact hz, _, 0, r.reverse, Heap.get?_push_size _ rfl⟩
  · obtain ⟨its, r, ht, hz⟩ := I5.tuple hx
    have hlen := r.length
    cases pl
    cases pu
    refine tail_any (ops := [.ref a, .ref s4.heap.objs.size]) ht.typeIs (PyProof.Rows.slot_tuple_getitem.lookup) ?_ (by with_unfolding_all rfl)
    refine getItem_tuple_rev ht (Heap.IsSliceOf.new _ _ _ vs) ps ?_ (by rw [List.size_toArray]; omega)
    refine ⟨.ref _, _, I5.laid (t' := s4.toks) (o := .tup xs.reverse) (fun b ob q => Heap.get?_push_of_some _ q) (Nat.le_refl _) ?_, rfl, q _ (I5.hok.fresh (Nat.le_refl _))⟩
    exact ⟨by rw [List.length_reverse]; exact hz, _, r.reverse, IsTup.new _ _⟩
theorem Sq2.new {t : Bool} {K : PySem.W.Frag} {H : Hp} {a : Addr} {xs : List V} : Sq2 t K (upd H a (sqO t xs)) a xs := by
  cases t
  · exact SqL.of upd_same
  · exact .inl (.inl upd_same)
/-- *xs, y = a list -/
def gStar1 (K : PySem.W.Frag) (t : TGs) : TG := fun v σ H Q => ∃ (a : Addr) (xs : List V) (y : V), v = .ref a ∧ SqL K H a (xs ++ [y]) ∧ xs.length ≤ 16000 ∧ ∀ D, H D = none → t [.ref D, y] σ (upd H D (.lst xs)) Q
theorem unpack_star1 {prog : Program} {w : World} {A : Around} {E : Value → Shared → Prop} {s : Shared} {l : Addr} {items : Array Value} {Q : List Value → Shared → Prop} (hl : s.heap.IsList l items) (hh : A.handled = none) (h0 : 1 ≤ items.size) (hz : items.size ≤ 16384)
    (h : ∀ (h₂ : Heap) (tk : Nat), (∀ b o, s.heap.get? b = some o → h₂.get? b = some o) → Q ([.ref h₂.objs.size] ++ items.toList.drop (items.size - 1)) { s with heap := h₂.push { cls := .type "list", data := .seq (items.toList.take (items.size - 1)).toArray 0 }, toks := tk }) : wpAny (model prog w) A (unpackItems (.ref l) 2 (some 0)) Q E s := by
  have hlt : l ≠ s.heap.objs.size := by obtain ⟨o, ho, _⟩ := hl; exact Nat.ne_of_lt (Heap.lt_size ho)
  unfold unpackItems
  refine wpAny_bind ?_
  unfold notIterableAtAll
  refine wpAny_bind (wpAny_specialOf hl.typeIs slot_list_iter.lookup ?_)
  refine wpAny_pure ?_
  simp only [Bool.false_eq_true, if_false]
  refine wpAny_bind (wpAny_holding (wpAny_pyIter_list hl ?_))
  refine wpAny_bind (wpAny_holding (PySem.W.kun_draw hlt 0 0 _ _ ⟨_, Heap.get?_push_size _ rfl, rfl, rfl⟩ (hl.push _) (by omega) fun h₁ hit₁ hs₁ => ?_))
  have hl₁ : h₁.IsList l items := (hl.push _).extBut hs₁.extBut hlt
  have hit₁' := hit₁
  obtain ⟨oi, hoi, _⟩ := hit₁'
  have hl₁' := hl₁
  obtain ⟨ol, hol, _⟩ := hl₁'
  rw [List.drop_zero, List.take_zero]
  rw [if_neg (show ¬ (([] : List Value).length < 0) by simp)]
  refine wpAny_bind (wpAny_holding (PySem.W.kun_collect (s := { s with heap := h₁ }) (T := "list_iterator") (.inr (.inr (.inl rfl))) (Walks.list (A := A.in1) hh s.heap.objs.size l hlt items) (fun j u st => st.1.typeIs) (k := 0) (by omega) ⟨hit₁, hl₁⟩ (Heap.lt_size hoi) (Heap.lt_size hol) (fun h₂ tk hk => ?_) (by rw [sizeLine_eq]; omega)))
  have hrl : (items.toList.drop 0).length = items.size := by rw [List.drop_zero, Array.length_toList]
  show wpAny _ _ (if (items.toList.drop 0).length < 2 - 1 - 0 then _ else _) _ _ _
  rw [if_neg (by rw [hrl]; omega)]
  show wpAny _ _ (newList ((items.toList.drop 0).take ((items.toList.drop 0).length - (2 - 1 - 0))) >>= fun d => pure ([] ++ [d] ++ (items.toList.drop 0).drop ((items.toList.drop 0).length - (2 - 1 - 0)))) _ _ _
  rw [hrl, List.drop_zero]
  have he : ∀ b o, s.heap.get? b = some o → h₂.get? b = some o := fun b o e => hk b o (Nat.ne_of_lt (Heap.lt_size e)) (hs₁.extBut b o (Nat.ne_of_lt (Heap.lt_size e)) (Heap.get?_push_of_some _ e))
  refine wpAny_bind ?_
  unfold newList
  refine wpAny_newObj_type (wpAny_pure ?_) (by show (items.toList.take (items.size - 1)).toArray.size ≤ sizeLine; rw [List.size_toArray, List.length_take, sizeLine_eq, Array.length_toList]; omega)
  exact h h₂ tk he
theorem pg_star1 {es : List Expr} {k : Nat} {pos : Pos} {t : TGs} (hc : X.calm = true) (h : PGs X es t)
    (hn : (assignEach es X.env).length = 2 := by rfl) (hst : (assignEach es X.env).findIdx? (·.1) = some 0 := by rfl) : PG X (.Tuple es k pos) (gStar1 X.K t) := by
  refine ⟨fun pins s σ H v u Q I r hw => ?_⟩
  obtain ⟨a, xs, y, e1, hq, hz, hw⟩ := hw
  subst e1
  cases r
  obtain ⟨its, rv, pl, hzz⟩ := I.list hq
  have hlen := rv.length
  rw [List.length_append, List.length_singleton] at hlen
  rw [PyProof.Rows.assign_Tuple]
  refine wpAny_bind (wpAny_standAt ?_)
  unfold unpack
  rw [hn, hst]
  refine wpAny_bind (wpAny_holding (unpack_star1 pl.isList (I.ok.hd hc) (by rw [List.size_toArray]; omega) (by rw [List.size_toArray]; omega) fun h' tk hx => ?_))
  have e3 : its.toArray.size - 1 = xs.length := by rw [List.size_toArray]; omega
  rw [e3]
  have rt := rv.take xs.length
  have rd := rv.drop xs.length
  rw [List.take_left' rfl] at rt
  rw [List.drop_left' rfl] at rd
  have I0 : Inv X pins σ H { s with heap := h', toks := tk } := I.kept (t' := tk) hx
  have I1 : Inv X pins σ (upd H h'.objs.size (.lst xs)) { s with heap := h'.push { cls := .type "list", data := .seq (its.take xs.length).toArray 0 }, toks := tk } := I0.laid (t' := tk) (o := .lst xs) (fun b u e => Heap.get?_push_of_some _ e) (Nat.le_refl _) ⟨by show xs.length ≤ sizeLine; rw [sizeLine_eq]; omega, _, 0, rt, Heap.get?_push_size _ rfl⟩
  exact h.run pins _ σ _ _ _ Q I1 (.cons (show RelV (.ref h'.objs.size) (.ref h'.objs.size) from rfl) rd) (hw _ (I0.hok.fresh (Nat.le_refl _)))
theorem pgs_star {e : Expr} {sp : Pos} {es : List Expr} {t : TG} {u : TGs} (h1 : PG X e t) (h2 : PGs X es u) : PGs X (.Starred e sp :: es) (gCons t u) := by
  refine ⟨fun pins s σ H vs us Q I r h => ?_⟩
  obtain ⟨v, vr, e1, h⟩ := h
  subst e1
  cases r with
  | cons r rr =>
    show wpAny _ _ (assignInOrder (assign e X.env :: (assignEach es X.env).map (·.2)) _) _ _ _
    refine assignInOrder_cons (thn (h1.run pins s σ H _ _ _ I r h) fun _ s1 ⟨σ1, H1, I1, q1⟩ => ?_)
    exact h2.run pins s1 σ1 H1 _ _ Q I1 rr q1
end
def pkz {α : Type} : α → List α → Nat → α
  | a, _, 0 => a
  | a, _, 1 => a
  | a, [], _ => a
  | _, b :: xs, n + 2 => pkz b xs (n + 1)
theorem val0 (t : Tok) : Vals [V.int 0] [Value.int 0 t] := .cons ⟨_, rfl⟩ .nil
/-! ### keyword-only parameters -/
theorem kbn_of {K : PySem.W.Frag} {x qual : Str} {st : Stmt} {D : Addr} {an : Option Addr} {doc pm cdv ct : Value} {ps ks : List Str} {n : Nat} {ml : List (Str × Value)} {g : List Value → List Value → List Value} {gV : List V → List V → List V} (hml : ∀ q ∈ ml, PySem.W.nsIn K D q.1 = some (some q.2))
    (h : ∀ us ws : List Value, us.length = n → ws.length = ks.length → KwChain D ml (bindArgs (PySem.W.fnOf x qual (defArgs st) (defBody st) (defScope st) .none (.ref D) doc pm an cdv ct) ⟨us, ks.zip ws⟩) (ps.zip (g us ws)))
    (rel : ∀ {vs : List V} {us : List Value} {zs : List V} {ws : List Value}, vs.length = n → zs.length = ks.length → Vals vs us → Vals zs ws → Vals (gV vs zs) (g us ws)) :
    ∀ (s : Shared) (us ws : List Value), K.In s.heap → us.length = n → ws.length = ks.length → BindsTo s (PySem.W.fnOf x qual (defArgs st) (defBody st) (defScope st) .none (.ref D) doc pm an cdv ct) ⟨us, ks.zip ws⟩ (ps.zip (g us ws)) :=
  fun s us ws X l1 l2 => BindsTo.of_looks fun M => KwChain.looks X hml (h us ws l1 l2)
theorem bnd_of {K : PySem.W.Frag} {x qual : Str} {st : Stmt} {D : Addr} {an : Option Addr} {doc pm cdv ct : Value} {ps : List Str} {ml : List (Str × Value)} {ds : List Value} (hml : ∀ q ∈ ml, PySem.W.nsIn K D q.1 = some (some q.2))
    (h : ∀ us : List Value, us.length + ds.length = ps.length → KwChain D ml (bindArgs (PySem.W.fnOf x qual (defArgs st) (defBody st) (defScope st) .none (.ref D) doc pm an cdv ct) ⟨us, []⟩) (ps.zip (us ++ ds))) :
    Binds K (PySem.W.fnOf x qual (defArgs st) (defBody st) (defScope st) .none (.ref D) doc pm an cdv ct) ps ds := fun s us X hl => by
  rw [List.length_append] at hl
  exact BindsTo.of_looks fun M => KwChain.looks X hml (h us hl)
/-! ### a def whose defaults aren't asked for -/
structure FunA (K : PySem.W.Frag) (x qual : Str) (st : Stmt) (f : Addr) (fd : FuncData) : Prop where
  ex : ∃ (oc : Value) (od : Option Addr) (dV kV doc pm : Value) (an : Option Addr) (cdv ct : Value) (osl : Array (Option Value)),
    fd = PySem.W.fnOf x qual (defArgs st) (defBody st) (defScope st) dV kV doc pm an cdv ct ∧ K.lookup f = some ⟨oc, od, .func fd, osl⟩ ∧ PySem.W.codeIn K cdv qual = true
  kp : PySem.W.keepIn K (.ref f) = true
theorem FunA.ok {P : Program} {w : World} {K : PySem.W.Frag} {mg : Str → Option Value} {base : Heap} {x qual : Str} {st : Stmt} {f : Addr} {fd : FuncData} {N ps : List Str} {k : Nat} {sp : Sp} (F : FunA K x qual st f fd) (S : FnScope N ps (defScope st)) (len : ∀ vs H Q E, sp vs H Q E → vs.length = ps.length)
    (hbody : ∀ (cdv : Value) (A : Around) (outer : List Env) (s : Shared) (H : Hp) (vs : List V) (Q : VK) (E : XK), Room k (A.deeper (envOfC qual (defScope st) s.heap.objs.size f cdv)) → sp vs H Q E →
      ∃ t, PSs (cxOf CX0 P w K mg base N qual (defScope st) f cdv A outer s H E).nox (defBody st) t ∧ t { nx := fun _ H' => Q .non H', rt := Q } (start N vs) H) : FnOk P w K mg base CX0 (k + 1) f fd ps sp := by
  obtain ⟨oc, od, dV, kV, doc, pm, an, cdv, ct, osl, rfl, lk, hcd⟩ := F.ex
  refine fn_of lk hcd S len fun A outer s H vs Q E hr hsp => ?_
  obtain ⟨t, h, q⟩ := hbody cdv A outer s H vs Q E hr hsp
  exact ⟨t, h.nox, q⟩
theorem bindsA {K : PySem.W.Frag} {x qual : Str} {st : Stmt} {f T : Addr} {oc oT vT : Value} {od an dT : Option Addr} {osl sT : Array (Option Value)} {kV doc pm cdv ct : Value} {nT : Nat} {ps : List Str} (l : K.lookup f = some ⟨oc, od, .func (PySem.W.fnOf x qual (defArgs st) (defBody st) (defScope st) (.ref T) kV doc pm an cdv ct), osl⟩)
    (lT : K.lookup T = some ⟨oT, dT, .seq #[vT] nT, sT⟩)
    (h : ∀ (kV doc pm : Value) (an : Option Addr) (cdv ct : Value) (us : List Value), us.length = ps.length → ∃ k, bindArgs (PySem.W.fnOf x qual (defArgs st) (defBody st) (defScope st) (.ref T) kV doc pm an cdv ct) ⟨us, []⟩ = seqItems? (.ref T) >>= k ∧ k (some #[vT]) = pure (ps.zip us)) : Binds K (PySem.W.fnOf x qual (defArgs st) (defBody st) (defScope st) (.ref T) kV doc pm an cdv ct) ps [] := by
  intro s us X hl
  rw [List.append_nil] at hl ⊢
  obtain ⟨k, e1, e2⟩ := h kV doc pm an cdv ct us hl
  refine BindsTo.of_looks fun M => ?_
  rw [e1]
  exact looks_items X lT rfl (.of_pure e2)
theorem bindsAD {K : PySem.W.Frag} {x qual : Str} {st : Stmt} {f T : Addr} {oc oT vT : Value} {od an dT : Option Addr} {osl sT : Array (Option Value)} {kV doc pm cdv ct : Value} {nT : Nat} {ps : List Str} (l : K.lookup f = some ⟨oc, od, .func (PySem.W.fnOf x qual (defArgs st) (defBody st) (defScope st) (.ref T) kV doc pm an cdv ct), osl⟩)
    (lT : K.lookup T = some ⟨oT, dT, .seq #[vT] nT, sT⟩)
    (h : ∀ (kV doc pm : Value) (an : Option Addr) (cdv ct : Value) (us : List Value), us.length + 1 = ps.length → ∃ k, bindArgs (PySem.W.fnOf x qual (defArgs st) (defBody st) (defScope st) (.ref T) kV doc pm an cdv ct) ⟨us, []⟩ = seqItems? (.ref T) >>= k ∧ k (some #[vT]) = pure (ps.zip (us ++ [vT]))) : Binds K (PySem.W.fnOf x qual (defArgs st) (defBody st) (defScope st) (.ref T) kV doc pm an cdv ct) ps [vT] := by
  intro s us X hl
  rw [List.length_append] at hl
  obtain ⟨k, e1, e2⟩ := h kV doc pm an cdv ct us hl
  refine BindsTo.of_looks fun M => ?_
  rw [e1]
  exact looks_items X lT rfl (.of_pure e2)
theorem kbindsA {x1 : Str} {K : PySem.W.Frag} {x qual : Str} {st : Stmt} {f T : Addr} {oc oT vT : Value} {od an dT : Option Addr} {osl sT : Array (Option Value)} {kV doc pm cdv ct : Value} {nT : Nat} {ps : List Str} (l : K.lookup f = some ⟨oc, od, .func (PySem.W.fnOf x qual (defArgs st) (defBody st) (defScope st) (.ref T) kV doc pm an cdv ct), osl⟩)
    (lT : K.lookup T = some ⟨oT, dT, .seq #[vT] nT, sT⟩)
    (h : ∀ (kV doc pm : Value) (an : Option Addr) (cdv ct u w : Value), ∃ k, bindArgs (PySem.W.fnOf x qual (defArgs st) (defBody st) (defScope st) (.ref T) kV doc pm an cdv ct) ⟨[u], [(x1, w)]⟩ = seqItems? (.ref T) >>= k ∧ k (some #[vT]) = pure (ps.zip [u, w])) : KBn K (PySem.W.fnOf x qual (defArgs st) (defBody st) (defScope st) (.ref T) kV doc pm an cdv ct) ps 1 [x1] (fun us ws => us ++ ws) (fun us ws => us ++ ws) := by
  refine ⟨fun s us ws X l1 l2 => ?_, fun r1 r2 => r1.append r2⟩
  match us, ws, l1, l2 with
  | [u], [w], _, _ =>
    obtain ⟨k, e1, e2⟩ := h kV doc pm an cdv ct u w
    refine BindsTo.of_looks fun M => ?_
    show PySem.W.Looks M s.heap (bindArgs (PySem.W.fnOf x qual (defArgs st) (defBody st) (defScope st) (.ref T) kV doc pm an cdv ct) ⟨[u], [(x1, w)]⟩) (ps.zip [u, w])
    rw [e1]
    exact looks_items X lT rfl (.of_pure e2)
theorem funA_mk {K : PySem.W.Frag} {x qual : Str} {st : Stmt} {f : Addr} {oc : Value} {od an : Option Addr} {osl : Array (Option Value)} {dV kV doc pm cdv ct : Value} (l : K.lookup f = some ⟨oc, od, .func (PySem.W.fnOf x qual (defArgs st) (defBody st) (defScope st) dV kV doc pm an cdv ct), osl⟩)
    (c : PySem.W.codeIn K cdv qual = true) (k : PySem.W.keepIn K (.ref f) = true) : FunA K x qual st f (PySem.W.fnOf x qual (defArgs st) (defBody st) (defScope st) dV kV doc pm an cdv ct) := ⟨⟨oc, od, dV, kV, doc, pm, an, cdv, ct, osl, rfl, l, c⟩, k⟩
def cellsKV : List (Str × V) := [("add", .int 3), ("take", .int 3), ("times", .int 3), ("over", .int 3), ("join", .int 4)]
section
variable {P : Program} {w : World} {K : PySem.W.Frag} {mg : Str → Option Value} {base : Heap}
theorem cutG {Cd A : Int → Int → Hp → Prop} {B : Prop} (h1 : ∀ n p H, Cd n p H → A n p H) (h2 : (∀ n p H, Cd n p H → A n p H) → B) : B := h2 h1
theorem cutA {Cd A : Addr → Hp → Prop} {B : Prop} (h1 : ∀ a H, Cd a H → A a H) (h2 : (∀ a H, Cd a H → A a H) → B) : B := h2 h1
theorem cutH {H : Hp} {A : Hp → Prop} {B : Prop} (h1 : ∀ H', Same H H' → A H') (h2 : (∀ H', Same H H' → A H') → B) : B := h2 h1
theorem cutP {A B : Prop} (h1 : A) (h2 : A → B) : B := h2 h1
theorem gB {i : Nat} {v u : Bool} {σ : L2.St} {H : Hp} {D : L2.St → Hp → Prop} (e : v = u) (h : gName i (V.bl u) σ H D) : gName i (V.bl v) σ H D := e ▸ h
theorem gI {i : Nat} {v u : Int} {σ : L2.St} {H : Hp} {D : L2.St → Hp → Prop} (e : v = u) (h : gName i (V.int u) σ H D) : gName i (V.int v) σ H D := e ▸ h
theorem dvi (a b : Int) : decide (V.int a = V.int b) = decide (a = b) := by
  by_cases c : a = b
  · rw [decide_eq_true c, decide_eq_true (congrArg V.int c)]
  · rw [decide_eq_false c, decide_eq_false (fun z => c (V.int.inj z))]
theorem dvs (a b : Str) : decide (V.str a = V.str b) = decide (a = b) := by
  by_cases c : a = b
  · rw [decide_eq_true c, decide_eq_true (congrArg V.str c)]
  · rw [decide_eq_false c, decide_eq_false (fun z => c (V.str.inj z))]
theorem bx1 {c : Int} {H : Hp} {b : Addr} (h : BoxAt (c + 2 ^ (1 - 1)) H b) : BoxAt (c + 1) H b := h
theorem Keep.none {b p : Addr} {H H' : Hp} (k : Keep b H H') (n : p ≠ b) (h : H' p = none) : H p = none := by
  cases q : H p with
  | none => rfl
  | some o =>
    rw [k p o q n] at h
    cases h
theorem dp_ints {H : Hp} : ∀ ds : List Int, DpAll K H (ds.map V.int) (ds.map PyData.int)
  | [] => .nil
  | d :: ds => .cons (.int d) (dp_ints ds)
theorem eqv_ints (ds : List Int) : PyData.eqv (.list (ds.map PyData.int)) (.list (ds.map PyData.int)) = true := PySem.SeqAt.eqv_refl _ (PySem.SeqAt.canLay_of_shaped (PySem.W.shaped_ints ds))
/-! ### the module's own WAYS -/
def WL : List Str := ["near", "cut", "up", "down"]
structure WG (K : PySem.W.Frag) (mg : Str → Option Value) (fa : Addr) : Prop where
  mgW : mg "WAYS" = some (.ref fa)
  sq : ∀ H, SqT K H fa (WL.map V.str)
/-! ### a form -/
/-- at x stands a Form of these two -/
def FAt (C : Addr) (H : Hp) (x : Addr) (sc tl : Nat) : Prop := ∃ dx, H x = some (.ins C dx [("scale", .int (sc : Int)), ("tail", .int (tl : Int))]) ∧ 2 ≤ sc ∧ sc ≤ 8 ∧ 1 ≤ tl ∧ tl ≤ 24
theorem FAt.keep {C : Addr} {b : Addr} {H H' : Hp} {x : Addr} {sc tl : Nat} (h : FAt C H x sc tl) (k : Keep b H H') (n : x ≠ b) : FAt C H' x sc tl := by
  obtain ⟨dx, e, r⟩ := h
  exact ⟨dx, k _ _ e n, r⟩
theorem FAt.same {C : Addr} {H H' : Hp} {x : Addr} {sc tl : Nat} (h : FAt C H x sc tl) (s : Same H H') : FAt C H' x sc tl := by
  obtain ⟨dx, e, r⟩ := h
  exact ⟨dx, s _ _ e, r⟩
structure FT (K : PySem.W.Frag) (mg : Str → Option Value) (C : Addr) : Prop where
  cl : Cls K C
  ns : NoAttr K C "scale"
  nt : NoAttr K C "tail"
  mgC : mg "Form" = some (.ref C)
theorem fl_s (a b : V) : List.lookup ("scale" : Str) ([("scale", a), ("tail", b)] : List (Str × V)) = some a := rfl
theorem fl_t (a b : V) : List.lookup ("tail" : Str) ([("scale", a), ("tail", b)] : List (Str × V)) = some b := rfl
/-- Form(scale, tail) makes one -/
theorem made {C : Addr} {H : Hp} {x dx : Addr} (nx : H x = none) (nd : H dx = none) (ne : dx ≠ x) {H' : Hp} (k : ∀ p o, (upd (upd H dx (.own x)) x (.ins C dx [])) p = some o → p ≠ x → H' p = some o) : Same H H' := fun p o e =>
  k p o (by rw [upd_ne (ne_of_none e nx), upd_ne (ne_of_none e nd)]; exact e) (ne_of_none e nx)
structure LL (K : PySem.W.Frag) (mg : Str → Option Value) (C : Addr) (za : Nat → Addr) (zl : Nat → FuncData) (t22 : Tok) (fW : Addr) (DC : Addr) (w : World) : Prop where
  F_is_number : Fun K "is_number" "is_number" s_is_number (za 1) (zl 1)
  m_is_number : mg "is_number" = some (.ref (za 1))
  b_is_number : Binds K (zl 1) ["thing"] []
  F_is_number_in : Fun K "is_number_in" "is_number_in" s_is_number_in (za 2) (zl 2)
  m_is_number_in : mg "is_number_in" = some (.ref (za 2))
  b_is_number_in : Binds K (zl 2) ["least", "greatest", "thing"] []
  F_is_deed : Fun K "is_deed" "is_deed" s_is_deed (za 3) (zl 3)
  m_is_deed : mg "is_deed" = some (.ref (za 3))
  b_is_deed : Binds K (zl 3) ["form", "thing"] []
  F__law_box : Fun K "_law_box" "_law_box" sBox (za 4) (zl 4)
  m__law_box : mg "_law_box" = some (.ref (za 4))
  b__law_box : Binds K (zl 4) ["_law_script", "_law_k"] []
  F__law_take : Fun K "_law_take" "_law_take" sTake (za 5) (zl 5)
  m__law_take : mg "_law_take" = some (.ref (za 5))
  b__law_take : Binds K (zl 5) ["_law_box_here", "_law_size"] []
  F__law_folded : Fun K "_law_folded" "_law_folded" sFolded (za 6) (zl 6)
  m__law_folded : mg "_law_folded" = some (.ref (za 6))
  b__law_folded : Binds K (zl 6) ["_law_script", "_law_size"] []
  F__law_form : Fun K "_law_form" "_law_form" s__law_form (za 7) (zl 7)
  m__law_form : mg "_law_form" = some (.ref (za 7))
  b__law_form : Binds K (zl 7) ["_law_box_here"] []
  F__law_word : Fun K "_law_word" "_law_word" s__law_word (za 8) (zl 8)
  m__law_word : mg "_law_word" = some (.ref (za 8))
  b__law_word : Binds K (zl 8) ["_law_box_here", "_law_scale", "_law_tail"] []
  F__law_begin_world : Fun K "_law_begin_world" "_law_begin_world" s__law_begin_world (za 9) (zl 9)
  m__law_begin_world : mg "_law_begin_world" = some (.ref (za 9))
  b__law_begin_world : Binds K (zl 9) ["_law_box_here"] []
  F__law_cell : Fun K "_law_cell" "_law_cell" s__law_cell (za 10) (zl 10)
  m__law_cell : mg "_law_cell" = some (.ref (za 10))
  b__law_cell : Binds K (zl 10) ["_law_box_here", "_law_w"] []
  F__law_deed : Fun K "_law_deed" "_law_deed" s__law_deed (za 11) (zl 11)
  m__law_deed : mg "_law_deed" = some (.ref (za 11))
  b__law_deed : Binds K (zl 11) ["_law_box_here", "_law_w"] []
  F__law_is_cell : Fun K "_law_is_cell" "_law_is_cell" s__law_is_cell (za 12) (zl 12)
  m__law_is_cell : mg "_law_is_cell" = some (.ref (za 12))
  b__law_is_cell : Binds K (zl 12) ["_law_thing"] []
  F__law_due : Fun K "_law_due" "_law_due" s__law_due (za 13) (zl 13)
  m__law_due : mg "_law_due" = some (.ref (za 13))
  b__law_due : Binds K (zl 13) ["_law_w", "_law_thing"] []
  F__law_part : Fun K "_law_part" "_law_part" s__law_part (za 14) (zl 14)
  m__law_part : mg "_law_part" = some (.ref (za 14))
  b__law_part : Binds K (zl 14) ["_law_box_here", "_law_w", "_law_part_here"] []
  F__law_bent : Fun K "_law_bent" "_law_bent" s__law_bent (za 15) (zl 15)
  m__law_bent : mg "_law_bent" = some (.ref (za 15))
  b__law_bent : Binds K (zl 15) ["_law_box_here", "_law_w", "_law_deed_here"] []
  F__law_right : Fun K "_law_right" "_law_right" s__law_right (za 16) (zl 16)
  m__law_right : mg "_law_right" = some (.ref (za 16))
  b__law_right : Binds K (zl 16) ["_law_box_here"] []
  T : FT K mg C
  M : Mk K C (za 17)
  F_Form___init__ : Fun K "__init__" "Form.__init__" s_Form___init__ (za 17) (zl 17)
  b_Form___init__ : Binds K (zl 17) ["self", "scale", "tail"] []
  F_Form_width : Fun K "width" "Form.width" s_Form_width (za 18) (zl 18)
  b_Form_width : Binds K (zl 18) ["self"] []
  M_Form_width : Meth K C "width" (za 18)
  F_Form_top : Fun K "top" "Form.top" s_Form_top (za 19) (zl 19)
  b_Form_top : Binds K (zl 19) ["self"] []
  M_Form_top : Meth K C "top" (za 19)
  F_Form_word_of : Fun K "word_of" "Form.word_of" s_Form_word_of (za 20) (zl 20)
  b_Form_word_of : Binds K (zl 20) ["self", "sign", "scale", "tail"] []
  M_Form_word_of : Meth K C "word_of" (za 20)
  F_Form_is_word : Fun K "is_word" "Form.is_word" s_Form_is_word (za 21) (zl 21)
  b_Form_is_word : Binds K (zl 21) ["self", "thing"] []
  M_Form_is_word : Meth K C "is_word" (za 21)
  F_Form_greatest : FunA K "greatest" "Form.greatest" s_Form_greatest (za 22) (zl 22)
  b_Form_greatest : Binds K (zl 22) ["self", "sign"] []
  M_Form_greatest : Meth K C "greatest" (za 22)
  d_Form_greatest : Binds K (zl 22) ["self", "sign"] [.int 0 t22]
  z_repr : mg "repr" = none
  W : WG K mg fW
  g_CELLS : ∃ t, mg "CELLS" = some (.int 8 t)
  g_CELLS_IN : mg "CELLS_IN" = some (.ref DC)
  d_CELLS_IN : KDcts w K DC cellsKV
variable {C : Addr} {za : Nat → Addr} {zl : Nat → FuncData} {t22 : Tok} {fW : Addr} {DC : Addr}

/-! ### is_number, is_number_in -/
inductive Th (K : PySem.W.Frag) (H : Hp) : V → Prop
  | non : Th K H .non
  | bl (b : Bool) : Th K H (.bl b)
  | int (i : Int) : Th K H (.int i)
  | str (x : Str) : Th K H (.str x)
  | lst {a : Addr} {xs : List V} (e : SqL K H a xs) : Th K H (.ref a)
  | tup {a : Addr} {xs : List V} (e : SqT K H a xs) : Th K H (.ref a)
def isI : V → Bool
  | .int _ => true
  | _ => false
def numIn (a b : Int) : V → Bool
  | .int z => decide (a ≤ z) && decide (z ≤ b)
  | _ => false
def spNum (K : PySem.W.Frag) : Sp := fun vs H Q _ => ∃ x : V, vs = [x] ∧ Th K H x ∧ Q (.bl (isI x)) H
theorem ok_is_number (B : Bl mg) (L : LL K mg C za zl t22 fW DC w) : FnOk P w K mg base CX0 1 (za 1) (zl 1) ["thing"] (spNum K) := by
  refine L.F_is_number.ok sc_is_number (fun vs H Q E h => ?_) (fun cdv A outer s H vs Q E hr h => ?_)
  · obtain ⟨x, rfl, _⟩ := h
    rfl
  obtain ⟨x, rfl, hx, q⟩ := h
  refine ⟨_, (pss_one (ps_ret (pe_and (pe_callB call_isi (by rfl) B.isinstance boot_isinstance (pa_cons (pv 0) (pa_cons (pe_bltn (v := .ty "int") (by rfl) B.int PyProof.Rows.boot_int rfl) pa_nil))) (pe_one (pe_not (pe_callB call_isi (by rfl) B.isinstance boot_isinstance (pa_cons (pv 0) (pa_cons (pe_bltn (v := .ty "bool") (by rfl) B.bool PyProof.Rows.boot_bool rfl) pa_nil)))))))), ?_⟩
  cases hx with
  | non => exact ⟨_, rfl, _, _, _, _, _, rfl, .ty _, .base .non, kit_ty (by decide +kernel : kitB "NoneType" "int" = some false), _, rfl, iteF q⟩
  | bl b =>
    refine ⟨_, rfl, _, _, _, _, _, rfl, .ty _, .base (.bl _), kit_ty (by decide +kernel : kitB "bool" "int" = some true), _, rfl, iteT ?_⟩
    exact ⟨_, rfl, _, _, _, _, _, rfl, .ty _, .base (.bl _), kit_ty (by decide +kernel : kitB "bool" "bool" = some true), _, rfl, q⟩
  | int i =>
    refine ⟨_, rfl, _, _, _, _, _, rfl, .ty _, .base (.int _), kit_ty (by decide +kernel : kitB "int" "int" = some true), _, rfl, iteT ?_⟩
    exact ⟨_, rfl, _, _, _, _, _, rfl, .ty _, .base (.int _), kit_ty (by decide +kernel : kitB "int" "bool" = some false), _, rfl, q⟩
  | str z => exact ⟨_, rfl, _, _, _, _, _, rfl, .ty _, .base (.str _), kit_ty (by decide +kernel : kitB "str" "int" = some false), _, rfl, iteF q⟩
  | lst e => exact ⟨_, rfl, _, _, _, _, _, rfl, .ty _, ty_lst e, kit_ty (by decide +kernel : kitB "list" "int" = some false), _, rfl, iteF q⟩
  | tup e => exact ⟨_, rfl, _, _, _, _, _, rfl, .ty _, ty_tup e, kit_ty (by decide +kernel : kitB "tuple" "int" = some false), _, rfl, iteF q⟩
def spNumIn (K : PySem.W.Frag) : Sp := fun vs H Q _ => ∃ (a b : Int) (x : V), vs = [.int a, .int b, x] ∧ Th K H x ∧ Q (.bl (numIn a b x)) H
theorem ok_is_number_in (B : Bl mg) (L : LL K mg C za zl t22 fW DC w) : FnOk P w K mg base CX0 2 (za 2) (zl 2) ["least", "greatest", "thing"] (spNumIn K) := by
  have G_is_number : FnOk P w K mg base CX0 1 (za 1) (zl 1) ["thing"] (spNum K) := (ok_is_number B L).mono (by decide)
  refine L.F_is_number_in.ok sc_is_number_in (fun vs H Q E h => ?_) (fun cdv A outer s H vs Q E hr h => ?_)
  · obtain ⟨a, b, x, rfl, _⟩ := h
    rfl
  obtain ⟨a, b, x, rfl, hx, q⟩ := h
  refine ⟨_, (pss_one (ps_ret (pe_and (pe_call G_is_number hr (by rfl) L.m_is_number L.F_is_number.kp L.b_is_number .nil pass0 (pa_cons (pv 2) pa_nil)) (pe_one (pe_chain op_le op_le (pv 0) (pv 2) (pv 1)))))), ?_⟩
  refine ⟨_, rfl, _, rfl, hx, _, rfl, ?_⟩
  cases hx with
  | non => exact iteF q
  | bl b => exact iteF q
  | str z => exact iteF q
  | lst e => exact iteF q
  | tup e => exact iteF q
  | int z =>
    refine iteT ?_
    refine ⟨_, rfl, _, rfl, _, _, rfl, rfl, _, rfl, ite2 (fun c => ?_) (fun c => ?_)⟩
    · refine ⟨_, rfl, _, _, rfl, rfl, ?_⟩
      rw [show numIn a b (.int z) = decide (z ≤ b) by show (decide (a ≤ z) && decide (z ≤ b)) = _; rw [c]; rfl] at q
      exact q
    · rw [show numIn a b (.int z) = false by show (decide (a ≤ z) && decide (z ≤ b)) = _; rw [Bool.eq_false_iff.mpr c]; rfl] at q
      exact q
/-! ### Form(scale, tail) and its words -/
def spInit (C : Addr) : Sp := fun vs H Q _ => ∃ (x dx : Addr) (sc tl : Nat), vs = [.ref x, .int (sc : Int), .int (tl : Int)] ∧ H x = some (.ins C dx []) ∧ 2 ≤ sc ∧ sc ≤ 8 ∧ 1 ≤ tl ∧ tl ≤ 24 ∧
  ∀ H', FAt C H' x sc tl → (∀ p o, H p = some o → p ≠ x → H' p = some o) → Q .non H'
theorem numIn_t {a b z : Int} (h1 : a ≤ z) (h2 : z ≤ b) : numIn a b (.int z) = true := by
  show (decide (a ≤ z) && decide (z ≤ b)) = true
  rw [decide_eq_true h1, decide_eq_true h2]
  rfl
theorem ok_Form___init__ (B : Bl mg) (L : LL K mg C za zl t22 fW DC w) : FnOk P w K mg base CX0 3 (za 17) (zl 17) ["self", "scale", "tail"] (spInit C) := by
  have G_is_number_in : FnOk P w K mg base CX0 2 (za 2) (zl 2) ["least", "greatest", "thing"] (spNumIn K) := (ok_is_number_in B L).mono (by decide)
  refine L.F_Form___init__.ok sc_Form___init__ (fun vs H Q E h => ?_) (fun cdv A outer s H vs Q E hr h => ?_)
  · obtain ⟨x, dx, sc, tl, rfl, _⟩ := h
    rfl
  obtain ⟨x, dx, sc, tl, rfl, hx, h1, h2, h3, h4, q⟩ := h
  refine ⟨_, (pss_cons (ps_if (pt_not (pt_val (pe_call G_is_number_in hr (by rfl) L.m_is_number_in L.F_is_number_in.kp L.b_is_number_in .nil pass0 (pa_cons pe_int (pa_cons pe_int (pa_cons (pv 1) pa_nil)))))) (pss_one ps_never) pss_nil)
    (pss_cons (ps_if (pt_not (pt_val (pe_call G_is_number_in hr (by rfl) L.m_is_number_in L.F_is_number_in.kp L.b_is_number_in .nil pass0 (pa_cons pe_int (pa_cons pe_int (pa_cons (pv 2) pa_nil)))))) (pss_one ps_never) pss_nil)
    (pss_cons (ps_fld (pv 0) (pv 1) rfl)
    (pss_one (ps_fld (pv 0) (pv 2) rfl))))), ?_⟩
  refine ⟨_, rfl, _, _, _, rfl, .int _, ?_⟩
  rw [numIn_t (by omega) (by omega)]
  refine ⟨_, rfl, iteF ?_⟩
  refine ⟨_, rfl, _, _, _, rfl, .int _, ?_⟩
  rw [numIn_t (by omega) (by omega)]
  refine ⟨_, rfl, iteF ?_⟩
  refine ⟨_, rfl, _, rfl, x, C, dx, _, rfl, hx, L.T.cl, L.T.ns, (by decide), ?_⟩
  refine ⟨_, rfl, _, rfl, x, C, dx, _, rfl, upd_same, L.T.cl, L.T.nt, (by show 1 < 1000; decide), ?_⟩
  refine q _ ⟨dx, upd_same, h1, h2, h3, h4⟩ fun p o e n => ?_
  rw [upd_ne n, upd_ne n]
  exact e
end
section
variable {P : Program} {w : World} {K : PySem.W.Frag} {mg : Str → Option Value} {base : Heap}
variable {C : Addr} {za : Nat → Addr} {zl : Nat → FuncData} {t22 : Tok} {fW : Addr} {DC : Addr}
def spForm : Sp := fun vs H Q _ => ∃ (b : Addr) (c : Int), vs = [.ref b] ∧ BoxAt c H b ∧ c ≤ 900000000 ∧
  ∀ (p : Addr) (sc tl : Nat) (H' : Hp), H' p = some (.tup [.int (sc : Int), .int (tl : Int)]) → 2 ≤ sc → sc ≤ 8 → 1 ≤ tl → tl ≤ 24 → BoxAt (c + 5) H' b → Keep b H H' → Q (.ref p) H'
theorem ok__law_form (B : Bl mg) (L : LL K mg C za zl t22 fW DC w) : FnOk P w K mg base CX0 2 (za 7) (zl 7) ["_law_box_here"] spForm := by
  have G__law_take : FnOk P w K mg base CX0 1 (za 5) (zl 5) ["_law_box_here", "_law_size"] (spTake 1) := (ok_take L.F__law_take L.b__law_take L.m__law_take B 1).mono (by decide)
  refine L.F__law_form.ok sc__law_form (fun vs H Q E h => ?_) (fun cdv A outer s H vs Q E hr h => ?_)
  · obtain ⟨b, c, rfl, _⟩ := h
    rfl
  obtain ⟨b, c, rfl, hB, hc, q⟩ := h
  refine ⟨_, (pss_cons (ps_set (i := 1) sc__law_form.nd rfl (.inl rfl) (pe_lst (pa_cons (pe_tup (pa_cons (pe_op op_add pe_int (pe_call G__law_take hr (by rfl) L.m__law_take L.F__law_take.kp L.b__law_take .nil pass0 (pa_cons (pv 0) (pa_cons pe_int pa_nil)))) (pa_cons (pe_op op_add pe_int (pe_call G__law_take hr (by rfl) L.m__law_take L.F__law_take.kp L.b__law_take .nil pass0 (pa_cons (pv 0) (pa_cons pe_int pa_nil)))) pa_nil))) (pa_cons (pe_tup (pa_cons (pe_op op_add pe_int (pe_call G__law_take hr (by rfl) L.m__law_take L.F__law_take.kp L.b__law_take .nil pass0 (pa_cons (pv 0) (pa_cons pe_int pa_nil)))) (pa_cons (pe_op op_add pe_int (pe_call G__law_take hr (by rfl) L.m__law_take L.F__law_take.kp L.b__law_take .nil pass0 (pa_cons (pv 0) (pa_cons pe_int pa_nil)))) pa_nil))) (pa_cons (pe_tup (pa_cons pe_int (pa_cons pe_int pa_nil))) pa_nil)))))
    (pss_one (ps_ret (pe_ix ix_list (pv 1) (pe_ix ix_list (pe_lst (pa_cons pe_int (pa_cons pe_int (pa_cons pe_int (pa_cons pe_int (pa_cons pe_int (pa_cons pe_int pa_nil))))))) (pe_call G__law_take hr (by rfl) L.m__law_take L.F__law_take.kp L.b__law_take .nil pass0 (pa_cons (pv 0) (pa_cons pe_int pa_nil))) (fun _ _ => rfl)) (fun _ _ => rfl))))), ?_⟩
  refine ⟨_, rfl, b, _, _, rfl, hB, (by decide), (by decide), (by decide), (by omega), (by decide), fun r1 H1 a1 a1' B1 k1 => ?_⟩
  replace B1 := bx1 B1
  refine ⟨_, _, rfl, rfl, _, rfl, b, _, _, rfl, B1, (by decide), (by decide), (by decide), (by omega), (by decide), fun r2 H2 a2 a2' B2 k2 => ?_⟩
  replace B2 := bx1 B2
  refine ⟨_, _, rfl, rfl, (by show 2 ≤ sizeLine; decide), fun t1 n1 => ?_⟩
  have n1b : t1 ≠ b := (B2.ne n1).symm
  refine ⟨_, rfl, b, _, _, rfl, B2.same (same_upd n1), (by decide), (by decide), (by decide), (by omega), (by decide), fun r3 H3 a3 a3' B3 k3 => ?_⟩
  replace B3 := bx1 B3
  have e1 := k3 _ _ upd_same n1b
  refine ⟨_, _, rfl, rfl, _, rfl, b, _, _, rfl, B3, (by decide), (by decide), (by decide), (by omega), (by decide), fun r4 H4 a4 a4' B4 k4 => ?_⟩
  replace B4 := bx1 B4
  have e1' := k4 _ _ e1 n1b
  refine ⟨_, _, rfl, rfl, (by show 2 ≤ sizeLine; decide), fun t2 n2 => ?_⟩
  refine ⟨(by show 2 ≤ sizeLine; decide), fun t3 n3 => ?_⟩
  refine ⟨(by show 3 ≤ sizeLine; decide), fun so nso => ?_⟩
  refine ⟨_, rfl, (by show 6 ≤ sizeLine; decide), fun ix nix => ?_⟩
  have s1 := same_upd (o := .tup [.int (2 + r3), .int (1 + r4)]) n2
  have s2 := same_upd (o := .tup [.int 8, .int 23]) n3
  have s3 := same_upd (o := .lst [.ref t1, .ref t2, .ref t3]) nso
  have s4 := same_upd (o := .lst [.int 0, .int 0, .int 1, .int 1, .int 1, .int 2]) nix
  have B5 := (((B4.same s1).same s2).same s3).same s4
  have n2b : t2 ≠ b := (B4.ne n2).symm
  have n3b : t3 ≠ b := ((B4.same s1).ne n3).symm
  have nsb : so ≠ b := (((B4.same s1).same s2).ne nso).symm
  have nxb : ix ≠ b := ((((B4.same s1).same s2).same s3).ne nix).symm
  refine ⟨_, rfl, b, _, _, rfl, B5, (by decide), (by decide), (by decide), (by omega), (by decide), fun r5 H5 a5 a5' B6 k5 => ?_⟩
  replace B6 := bx1 B6
  have ex := k5 _ _ upd_same nxb
  have es := k5 _ _ (s4 _ _ upd_same) nsb
  have f1 := k5 _ _ (s4 _ _ (s3 _ _ (s2 _ _ (s1 _ _ e1')))) n1b
  have f2 := k5 _ _ (s4 _ _ (s3 _ _ (s2 _ _ upd_same))) n2b
  have f3 := k5 _ _ (s4 _ _ (s3 _ _ upd_same)) n3b
  have kk : Keep b H H5 := (((k1.trans k2).trans ((Keep.new n1).trans k3)).trans k4).trans ((Keep.ofSame (s1.trans (s2.trans (s3.trans s4)))).trans k5)
  obtain ⟨j, hj, hj3⟩ : ∃ j : Nat, atI ([.int 0, .int 0, .int 1, .int 1, .int 1, .int 2] : List V) r5 = some (.int (j : Int)) ∧ j < 3 := by
    have c3 : r5 = 0 ∨ r5 = 1 ∨ r5 = 2 ∨ r5 = 3 ∨ r5 = 4 ∨ r5 = 5 := by omega
    rcases c3 with z | z | z | z | z | z <;> subst z
    · exact ⟨0, rfl, by decide⟩
    · exact ⟨0, rfl, by decide⟩
    · exact ⟨1, rfl, by decide⟩
    · exact ⟨1, rfl, by decide⟩
    · exact ⟨1, rfl, by decide⟩
    · exact ⟨2, rfl, by decide⟩
  obtain ⟨p, sc, tl, hp, ep, b1, b2, b3, b4⟩ : ∃ (p : Addr) (sc tl : Nat), atI ([.ref t1, .ref t2, .ref t3] : List V) (j : Int) = some (.ref p) ∧ H5 p = some (.tup [.int (sc : Int), .int (tl : Int)]) ∧ 2 ≤ sc ∧ sc ≤ 8 ∧ 1 ≤ tl ∧ tl ≤ 24 := by
    match j, hj3 with
    | 0, _ => exact ⟨t1, (2 + r1).toNat, (1 + r2).toNat, rfl, by rw [Int.toNat_of_nonneg (by omega), Int.toNat_of_nonneg (by omega)]; exact f1, by omega, by omega, by omega, by omega⟩
    | 1, _ => exact ⟨t2, (2 + r3).toNat, (1 + r4).toNat, rfl, by rw [Int.toNat_of_nonneg (by omega), Int.toNat_of_nonneg (by omega)]; exact f2, by omega, by omega, by omega, by omega⟩
    | 2, _ => exact ⟨t3, 8, 23, rfl, f3, by omega, by omega, by omega, by omega⟩
  refine ⟨ix, _, _, _, rfl, rfl, SqL.of ex, hj, ?_⟩
  refine ⟨so, _, _, _, rfl, rfl, SqL.of es, hp, ?_⟩
  exact q p sc tl H5 ep b1 b2 b3 b4 (B6.mono (by omega)) kk
theorem bx2 {c : Int} {H : Hp} {b : Addr} (h : BoxAt (c + 2 ^ (2 - 1)) H b) : BoxAt (c + 2) H b := h
def spWord : Sp := fun vs H Q _ => ∃ (b : Addr) (sc tl : Nat) (c : Int), vs = [.ref b, .int (sc : Int), .int (tl : Int)] ∧ 2 ≤ sc ∧ sc ≤ 8 ∧ 1 ≤ tl ∧ tl ≤ 24 ∧ BoxAt c H b ∧ c ≤ 900000000 ∧
  ∀ (r : Int) (H' : Hp), 0 ≤ r → r < 2 ^ (1 + sc + tl) → BoxAt (c + 20) H' b → Keep b H H' → Q (.int r) H'
theorem all8 {a0 a1 a2 a3 a4 a5 a6 a7 M : Int} {j : Nat} (hj : j < 8) (h0 : a0 < M) (h1 : a1 < M) (h2 : a2 < M) (h3 : a3 < M) (h4 : a4 < M) (h5 : a5 < M) (h6 : a6 < M) (h7 : a7 < M) :
    ∃ v : Int, atI ([.int a0, .int a1, .int a2, .int a3, .int a4, .int a5, .int a6, .int a7] : List V) (j : Int) = some (.int v) ∧ v < M := by
  match j, hj with
  | 0, _ => exact ⟨a0, rfl, h0⟩
  | 1, _ => exact ⟨a1, rfl, h1⟩
  | 2, _ => exact ⟨a2, rfl, h2⟩
  | 3, _ => exact ⟨a3, rfl, h3⟩
  | 4, _ => exact ⟨a4, rfl, h4⟩
  | 5, _ => exact ⟨a5, rfl, h5⟩
  | 6, _ => exact ⟨a6, rfl, h6⟩
  | 7, _ => exact ⟨a7, rfl, h7⟩
theorem at12 {r : Int} (h0 : 0 ≤ r) (h1 : r < 12) : ∃ j : Nat, atI ([.int 0, .int 0, .int 0, .int 0, .int 1, .int 2, .int 3, .int 4, .int 5, .int 6, .int 6, .int 7] : List V) r = some (.int (j : Int)) ∧ j < 8 := by
  obtain ⟨n, rfl⟩ : ∃ n : Nat, r = (n : Int) := ⟨r.toNat, by omega⟩
  have hn : n < 12 := by omega
  match n, hn with
  | 0, _ => exact ⟨0, rfl, by decide⟩
  | 1, _ => exact ⟨0, rfl, by decide⟩
  | 2, _ => exact ⟨0, rfl, by decide⟩
  | 3, _ => exact ⟨0, rfl, by decide⟩
  | 4, _ => exact ⟨1, rfl, by decide⟩
  | 5, _ => exact ⟨2, rfl, by decide⟩
  | 6, _ => exact ⟨3, rfl, by decide⟩
  | 7, _ => exact ⟨4, rfl, by decide⟩
  | 8, _ => exact ⟨5, rfl, by decide⟩
  | 9, _ => exact ⟨6, rfl, by decide⟩
  | 10, _ => exact ⟨6, rfl, by decide⟩
  | 11, _ => exact ⟨7, rfl, by decide⟩
theorem ok__law_word (B : Bl mg) (L : LL K mg C za zl t22 fW DC w) : FnOk P w K mg base CX0 3 (za 8) (zl 8) ["_law_box_here", "_law_scale", "_law_tail"] spWord := by
  have G__law_take : FnOk P w K mg base CX0 2 (za 5) (zl 5) ["_law_box_here", "_law_size"] (spTake 2) := (ok_take L.F__law_take L.b__law_take L.m__law_take B 2).mono (by decide)
  refine L.F__law_word.ok sc__law_word (fun vs H Q E h => ?_) (fun cdv A outer s H vs Q E hr h => ?_)
  · obtain ⟨b, sc, tl, c, rfl, _⟩ := h
    rfl
  obtain ⟨b, sc, tl, c, rfl, h1, h2, h3, h4, hB, hc, q⟩ := h
  refine ⟨_, (pss_cons (ps_set (i := 3) sc__law_word.nd rfl (.inl rfl) (pe_op op_add (pe_op op_mul pe_int pe_int) (pe_op op_shlN (pe_op op_sub (pe_op op_oneShl pe_int (pv 1)) pe_int) (pv 2))))
    (pss_cons (ps_set (i := 4) sc__law_word.nd rfl (.inl rfl) (pe_lst (pa_cons (pe_call G__law_take hr (by rfl) L.m__law_take L.F__law_take.kp L.b__law_take .nil pass0 (pa_cons (pv 0) (pa_cons (pv 3) pa_nil))) (pa_cons (pe_call G__law_take hr (by rfl) L.m__law_take L.F__law_take.kp L.b__law_take .nil pass0 (pa_cons (pv 0) (pa_cons pe_int pa_nil))) (pa_cons (pe_op op_add (pe_op op_sub (pe_op op_oneShl pe_int (pv 2)) pe_int) (pe_call G__law_take hr (by rfl) L.m__law_take L.F__law_take.kp L.b__law_take .nil pass0 (pa_cons (pv 0) (pa_cons pe_int pa_nil)))) (pa_cons (pe_op op_sub (pe_op op_sub (pv 3) pe_int) (pe_call G__law_take hr (by rfl) L.m__law_take L.F__law_take.kp L.b__law_take .nil pass0 (pa_cons (pv 0) (pa_cons pe_int pa_nil)))) pa_nil))))))
    (pss_cons (ps_set (i := 4) sc__law_word.nd rfl (.inl rfl) (pe_op op_cat (pv 4) (pe_lst (pa_cons (pv 3) (pa_cons (pe_op op_add (pe_op op_add (pv 3) pe_int) (pe_call G__law_take hr (by rfl) L.m__law_take L.F__law_take.kp L.b__law_take .nil pass0 (pa_cons (pv 0) (pa_cons (pe_orT (pe_op op_sub (pe_op op_oneShl pe_int (pv 2)) pe_int) (pe_one pe_int)) pa_nil)))) (pa_cons (pe_op op_shlN (pe_call G__law_take hr (by rfl) L.m__law_take L.F__law_take.kp L.b__law_take .nil pass0 (pa_cons (pv 0) (pa_cons (pe_op op_oneShl pe_int (pv 1)) pa_nil))) (pv 2)) (pa_cons pe_int pa_nil)))))))
    (pss_cons (ps_set (i := 5) sc__law_word.nd rfl (.inl rfl) (pe_ix ix_list (pe_lst (pa_cons pe_int (pa_cons pe_int (pa_cons pe_int (pa_cons pe_int (pa_cons pe_int (pa_cons pe_int (pa_cons pe_int (pa_cons pe_int (pa_cons pe_int (pa_cons pe_int (pa_cons pe_int (pa_cons pe_int pa_nil))))))))))))) (pe_call G__law_take hr (by rfl) L.m__law_take L.F__law_take.kp L.b__law_take .nil pass0 (pa_cons (pv 0) (pa_cons pe_int pa_nil))) (fun _ _ => rfl)))
    (pss_cons (ps_set (i := 6) sc__law_word.nd rfl (.inl rfl) (pe_ix ix_list (pv 4) (pv 5) (fun _ _ => rfl)))
    (pss_cons (ps_if (PW.pt (pw_and (pt_cmpR op_eq (pv 5) pe_int (nomark _)) (pw_and1 (pt_cmpR op_eq (pe_call G__law_take hr (by rfl) L.m__law_take L.F__law_take.kp L.b__law_take .nil pass0 (pa_cons (pv 0) (pa_cons pe_int pa_nil))) pe_int (nomark _))))) (pss_one (ps_set (i := 6) sc__law_word.nd rfl (.inl rfl) (pe_op op_orL (pe_op op_shlN (pe_op op_mod (pe_op op_add (pe_op op_sub (pe_op op_oneShl pe_int (pe_op op_sub (pv 1) pe_int)) pe_int) (pe_call G__law_take hr (by rfl) L.m__law_take L.F__law_take.kp L.b__law_take .nil pass0 (pa_cons (pv 0) (pa_cons pe_int pa_nil)))) (pe_op op_sub (pe_op op_oneShl pe_int (pv 1)) pe_int)) (pv 2)) (pe_op op_andM (pv 6) (pe_op op_sub (pe_op op_oneShl pe_int (pv 2)) pe_int))))) pss_nil)
    (pss_one (ps_ret (pe_op op_add (pe_op op_shlN (pe_call G__law_take hr (by rfl) L.m__law_take L.F__law_take.kp L.b__law_take .nil pass0 (pa_cons (pv 0) (pa_cons pe_int pa_nil))) (pe_op op_add (pv 1) (pv 2))) (pe_callB (call_max2 rfl) (by rfl) B.max boot_max (pa_cons pe_int (pa_cons (pv 6) pa_nil)))))))))))), ?_⟩
  have pS := GM.pow_pos' sc
  have pT := GM.pow_pos' tl
  have pS4 : (2 : Int) ^ 2 ≤ 2 ^ sc := GM.pow_le' h1
  have pS8 : (2 : Int) ^ sc ≤ 2 ^ 8 := GM.pow_le' h2
  have pT2 : (2 : Int) ^ 1 ≤ 2 ^ tl := GM.pow_le' h3
  have pT24 : (2 : Int) ^ tl ≤ 2 ^ 24 := GM.pow_le' h4
  have pST : (2 : Int) ^ (sc + tl) = 2 ^ sc * 2 ^ tl := GM.pow_add' sc tl
  have p1 : (2 : Int) ^ (1 + sc + tl) = 2 ^ (sc + tl) * 2 := by rw [← GM.pow_s]; congr 1; omega
  have p4T : 4 * 2 ^ tl ≤ (2 : Int) ^ (sc + tl) := by
    rw [pST]
    exact Int.mul_le_mul_of_nonneg_right pS4 (by omega)
  have p8T : (2 : Int) ^ (sc + tl) ≤ 256 * 2 ^ tl := by
    rw [pST]
    exact Int.mul_le_mul_of_nonneg_right pS8 (by omega)
  refine ⟨_, _, rfl, rfl, ?_⟩
  refine ⟨.inl (by decide), _, rfl, sc, rfl, rfl, by omega, _, _, rfl, rfl, _, rfl, _, tl, rfl, rfl, shl_ok (n := 9) (by omega) (by omega), _, _, rfl, rfl, ?_⟩
  obtain ⟨TP, eT, hT⟩ : ∃ TP : Int, ((2 ^ sc - 1) * 2 ^ tl : Int) = TP ∧ TP = 2 ^ (sc + tl) - 2 ^ tl := by
    refine ⟨_, rfl, ?_⟩
    rw [pST, Int.sub_mul]
    omega
  dsimp only
  rw [show (2 * 0 + (2 ^ sc - 1) * 2 ^ tl : Int) = (2 ^ sc - 1) * 2 ^ tl by omega, eT]
  have e14 : (10000000 : Int) ^ 2 = 100000000000000 := by decide
  refine ⟨_, rfl, _, rfl, b, _, _, rfl, hB, (by omega), (by rw [e14]; omega), (by omega), (by omega), (by decide), fun r1 H1 u1 v1 B1 k1 => ?_⟩
  replace B1 := bx2 B1
  refine ⟨_, rfl, b, _, _, rfl, B1, (by decide), (by decide), (by decide), (by omega), (by decide), fun r2 H2 u2 v2 B2 k2 => ?_⟩
  replace B2 := bx2 B2
  refine ⟨_, rfl, tl, rfl, rfl, by omega, _, _, rfl, rfl, _, rfl, b, _, _, rfl, B2, (by decide), (by decide), (by decide), (by omega), (by decide), fun r3 H3 u3 v3 B3 k3 => ?_⟩
  replace B3 := bx2 B3
  refine ⟨_, _, rfl, rfl, _, rfl, _, _, rfl, rfl, _, rfl, b, _, _, rfl, B3, (by decide), (by decide), (by decide), (by omega), (by decide), fun r4 H4 u4 v4 B4 k4 => ?_⟩
  replace B4 := bx2 B4
  refine ⟨_, _, rfl, rfl, (by show 4 ≤ sizeLine; decide), fun s1 n1 => ?_⟩
  have n1b : s1 ≠ b := (B4.ne n1).symm
  have B4' := B4.same (same_upd (o := .lst [.int r1, .int r2, .int (2 ^ tl - 2 + r3), .int (TP - 1 - r4)]) n1)
  refine ⟨_, rfl, _, rfl, _, rfl, _, _, rfl, rfl, _, rfl, _, rfl, tl, rfl, rfl, by omega, _, _, rfl, rfl, true, ?_, iteT ?_⟩
  · show true = ((2 ^ tl - 1 : Int) != 0)
    rw [eq_comm, bne_iff_ne]
    omega
  refine ⟨b, _, _, rfl, B4', (by omega), (by rw [e14]; omega), (by omega), (by omega), (by decide), fun r5 H5 u5 v5 B5 k5 => ?_⟩
  replace B5 := bx2 B5
  have es5 := k5 _ _ upd_same n1b
  refine ⟨_, _, rfl, rfl, _, rfl, _, rfl, sc, rfl, rfl, by omega, b, _, _, rfl, B5, (by omega), (by rw [e14]; omega), (by omega), (by omega), (by decide), fun r6 H6 u6 v6 B6 k6 => ?_⟩
  replace B6 := bx2 B6
  have es6 := k6 _ _ es5 n1b
  refine ⟨_, rfl, _, tl, rfl, rfl, shl_ok (n := 9) (by omega) (by omega), (by show 4 ≤ sizeLine; decide), fun s2 n2 => ?_⟩
  have sm2 := same_upd (o := .lst [.int TP, .int (TP + 1 + r5), .int (r6 * 2 ^ tl), .int 0]) n2
  refine ⟨s1, s2, _, _, rfl, rfl, sm2 _ _ es6, upd_same, (by show 4 + 4 ≤ sizeLine; decide), fun s3 n3 => ?_⟩
  have sm3 := same_upd (o := .lst [.int r1, .int r2, .int (2 ^ tl - 2 + r3), .int (TP - 1 - r4), .int TP, .int (TP + 1 + r5), .int (r6 * 2 ^ tl), .int 0]) n3
  have B7 := (B6.same sm2).same sm3
  have n3b : s3 ≠ b := ((B6.same sm2).ne n3).symm
  -- way
  refine ⟨(by show 12 ≤ sizeLine; decide), fun s4 n4 => ?_⟩
  have sm4 := same_upd (o := .lst [.int 0, .int 0, .int 0, .int 0, .int 1, .int 2, .int 3, .int 4, .int 5, .int 6, .int 6, .int 7]) n4
  have n4b : s4 ≠ b := (B7.ne n4).symm
  refine ⟨_, rfl, b, _, _, rfl, B7.same sm4, (by decide), (by decide), (by decide), (by omega), (by decide), fun r7 H8 u7 v7 B8 k8 => ?_⟩
  replace B8 := bx2 B8
  obtain ⟨j, hj, hj8⟩ := at12 u7 v7
  refine ⟨s4, _, _, _, rfl, rfl, SqL.of (k8 _ _ upd_same n4b), hj, ?_⟩
  have es3 := k8 _ _ (sm4 _ _ upd_same) n3b
  have h6 : r6 * 2 ^ tl < 2 ^ (sc + tl) := by
    rw [pST]
    exact Int.mul_lt_mul_of_pos_right v6 pT
  obtain ⟨wd, hw, hwl⟩ := all8 (a0 := r1) (a1 := r2) (a2 := 2 ^ tl - 2 + r3) (a3 := TP - 1 - r4) (a4 := TP) (a5 := TP + 1 + r5) (a6 := r6 * 2 ^ tl) (a7 := 0) (M := 2 ^ (sc + tl)) hj8 (by omega) (by omega) (by omega) (by omega) (by omega) (by omega) h6 (by omega)
  refine ⟨_, rfl, _, rfl, s3, _, _, _, rfl, rfl, SqL.of es3, hw, ?_⟩
  have kk : Keep b H H8 := (((((((k1.trans k2).trans k3).trans k4).trans (Keep.new n1)).trans k5).trans k6).trans (Keep.ofSame (sm2.trans (sm3.trans sm4)))).trans k8
  have wrap : ∀ (v r : Int), v < 2 ^ (sc + tl) → 0 ≤ r → r < 2 → 0 ≤ r * 2 ^ (sc + tl) + (if v > 0 then v else 0) ∧ r * 2 ^ (sc + tl) + (if v > 0 then v else 0) < 2 ^ (1 + sc + tl) := fun v r hv r0 r1 => by
    have : r = 0 ∨ r = 1 := by omega
    rw [p1]
    rcases this with z | z <;> subst z <;> split <;> omega
  refine ⟨_, rfl, rfl, _, rfl, ite2 (fun cw => ?_) (fun cw => ?_)⟩
  · refine ⟨_, rfl, b, _, _, rfl, B8, (by decide), (by decide), (by decide), (by omega), (by decide), fun r8 H9 u8 v8 B9 k9 => ?_⟩
    replace B9 := bx2 B9
    refine ⟨rfl, _, rfl, ite2 (fun cz => ?_) (fun cz => ?_)⟩
    · -- another scale
      refine ⟨_, rfl, _, _, rfl, rfl, sc - 1, rfl, congrArg V.int (by omega), by omega, _, _, rfl, rfl, _, rfl, b, _, _, rfl, B9, (by decide), (by decide), (by decide), (by omega), (by decide), fun r9 H10 u9 v9 B10 k10 => ?_⟩
      replace B10 := bx2 B10
      refine ⟨_, _, rfl, rfl, _, rfl, sc, rfl, rfl, by omega, _, _, rfl, rfl, _, _, rfl, rfl, (by show (0 : Int) < 2 ^ sc - 1; omega), ?_⟩
      dsimp only
      obtain ⟨z, ez, z0, z1⟩ : ∃ z : Int, (2 ^ (sc - 1) - 3 + r9) % (2 ^ sc - 1) = z ∧ 0 ≤ z ∧ z < 2 ^ sc - 1 := ⟨_, rfl, Int.emod_nonneg _ (by omega), Int.emod_lt_of_pos _ (by omega)⟩
      rw [ez]
      have m0 := Int.emod_nonneg wd (show (2 : Int) ^ tl ≠ 0 by omega)
      have m1 := Int.emod_lt_of_pos wd pT
      refine ⟨_, rfl, _, tl, rfl, rfl, shl_ok (n := 9) (by omega) (by omega), _, rfl, _, rfl, tl, rfl, rfl, by omega, _, _, rfl, rfl, _, tl, rfl, rfl, z, _, tl, rfl, rfl, ⟨z0, m0, m1⟩, ?_⟩
      have hz : z * 2 ^ tl + wd % 2 ^ tl < 2 ^ (sc + tl) := by
        have : z * 2 ^ tl ≤ (2 ^ sc - 2) * 2 ^ tl := Int.mul_le_mul_of_nonneg_right (by omega) (by omega)
        rw [Int.sub_mul, ← pST] at this
        omega
      refine ⟨_, rfl, b, _, _, rfl, B10, (by decide), (by decide), (by decide), (by omega), (by decide), fun r H11 u10 v10 B11 k11 => ?_⟩
      replace B11 := bx2 B11
      refine ⟨_, rfl, _, rfl, _, _, rfl, rfl, _, sc + tl, rfl, rfl, shl_ok (n := 2) (by omega) (by omega), _, rfl, _, _, rfl, _, _, rfl, rfl, ?_⟩
      have wr := wrap _ r hz u10 v10
      exact q _ _ wr.1 wr.2 (B11.mono (by omega)) (((kk.trans k9).trans k10).trans k11)
    · refine ⟨_, rfl, b, _, _, rfl, B9, (by decide), (by decide), (by decide), (by omega), (by decide), fun r H11 u10 v10 B11 k11 => ?_⟩
      replace B11 := bx2 B11
      refine ⟨_, rfl, _, rfl, _, _, rfl, rfl, _, sc + tl, rfl, rfl, shl_ok (n := 2) (by omega) (by omega), _, rfl, _, _, rfl, _, _, rfl, rfl, ?_⟩
      have wr := wrap _ r hwl u10 v10
      exact q _ _ wr.1 wr.2 (B11.mono (by omega)) ((kk.trans k9).trans k11)
  · refine iteF ?_
    refine ⟨_, rfl, b, _, _, rfl, B8, (by decide), (by decide), (by decide), (by omega), (by decide), fun r H11 u10 v10 B11 k11 => ?_⟩
    replace B11 := bx2 B11
    refine ⟨_, rfl, _, rfl, _, _, rfl, rfl, _, sc + tl, rfl, rfl, shl_ok (n := 2) (by omega) (by omega), _, rfl, _, _, rfl, _, _, rfl, rfl, ?_⟩
    have wr := wrap _ r hwl u10 v10
    exact q _ _ wr.1 wr.2 (B11.mono (by omega)) (kk.trans k11)
end
section
variable {P : Program} {w : World} {K : PySem.W.Frag} {mg : Str → Option Value} {base : Heap}
variable {C : Addr} {za : Nat → Addr} {zl : Nat → FuncData} {t22 : Tok} {fW : Addr} {DC : Addr}
theorem units1 {k : Nat} {A : Around} (r : Room k A) : A.units + 1 < cLine := by have := r.un; omega
/-! ### the signs of what is shown -/
open PySem.Builtin PySem.Builtin.Str in
theorem gd_char {q c : Nat} (hq : q < 16 ^ 8) (hc : c < 16 ^ 8) : ∀ x ∈ reprChar q c, x < 16 ^ 8 := by
  have hx : ∀ (w : Nat), ∀ x ∈ List.replicate (w - ((Nat.toDigits 16 c).map Char.toNat).length) 48 ++ (Nat.toDigits 16 c).map Char.toNat, x < 16 ^ 8 := fun w x h => by
    rcases List.mem_append.mp h with h | h
    · rw [List.eq_of_mem_replicate h]
      decide
    · obtain ⟨y, _, rfl⟩ := List.mem_map.mp h
      have := y.val.toNat_lt
      have e : y.toNat = y.val.toNat := rfl
      rw [e]
      omega
  unfold reprChar
  dsimp only
  intro x h
  repeat' split at h
  all_goals simp only [List.cons_append, List.nil_append, List.mem_cons, List.not_mem_nil, or_false] at h
  all_goals first | (rcases h with h | h <;> omega) | (subst h; assumption) | (rcases h with h | h | h <;> first | omega | exact hx _ _ h)
/-- all signs of a text are signs -/
def Gd (x : Str) : Prop := ∀ c ∈ x.cps.toList, c < 16 ^ 8
theorem gd_app {x y : Str} (hx : Gd x) (hy : Gd y) : Gd (x ++ y) := fun c h => by
  rw [show (x ++ y).cps.toList = x.cps.toList ++ y.cps.toList from Array.toList_append] at h
  rcases List.mem_append.mp h with h | h
  · exact hx c h
  · exact hy c h
theorem gd_lit {s : String} (h : (Str.ofString s).cps.toList.all (fun c => decide (c < 16 ^ 8)) = true) : Gd (Str.ofString s) := fun c hc => of_decide_eq_true (List.all_eq_true.mp h c hc)
theorem gd_fold {q : Nat} (hq : q < 16 ^ 8) : ∀ (l : List Nat) (acc : Array Nat), (∀ c ∈ l, c < 16 ^ 8) → (∀ c ∈ acc.toList, c < 16 ^ 8) → ∀ c ∈ (l.foldl (fun out c => out ++ (PySem.Builtin.Str.reprChar q c).toArray) acc).toList, c < 16 ^ 8
  | [], acc, _, h => h
  | x :: r, acc, hl, h => gd_fold hq r _ (fun c hc => hl c (List.mem_cons_of_mem _ hc)) fun c hc => by
    rw [Array.toList_append] at hc
    rcases List.mem_append.mp hc with hc | hc
    · exact h c hc
    · exact gd_char hq (hl x List.mem_cons_self) c hc
theorem gd_repr {x : Str} (h : Gd x) : Gd (reprText x) := by
  have hq : reprQuote x < 16 ^ 8 := by
    unfold reprQuote
    split <;> decide
  intro c hc
  have : c ∈ ((x.cps.foldl (fun out c => out ++ (PySem.Builtin.Str.reprChar (reprQuote x) c).toArray) #[reprQuote x]).push (reprQuote x)).toList := hc
  rw [Array.toList_push, ← Array.foldl_toList] at this
  rcases List.mem_append.mp this with h1 | h1
  · exact gd_fold hq _ _ h (fun c hc => by rw [List.mem_singleton.mp hc]; exact hq) c h1
  · rw [List.mem_singleton.mp h1]
    exact hq
theorem gd_from : ∀ (ts : List Str) (k : Nat) (acc : Str), (∀ t ∈ ts, Gd t) → Gd acc → Gd (textFrom k acc ts)
  | [], _, acc, _, h => h
  | t :: ts, k, acc, ht, h => gd_from ts (k + 1) _ (fun x hx => ht x (List.mem_cons_of_mem _ hx)) (gd_app (gd_app h (by split <;> exact gd_lit rfl)) (ht t List.mem_cons_self))
theorem gd_join {sep : Str} (hs : Gd sep) : ∀ ts : List Str, (∀ t ∈ ts, Gd t) → Gd (Str.join sep ts)
  | [], _ => fun c h => by cases h
  | [x], h => h x List.mem_cons_self
  | x :: y :: r, h => gd_app (gd_app (h x List.mem_cons_self) hs) (gd_join hs (y :: r) fun t ht => h t (List.mem_cons_of_mem _ ht))
theorem gd_list {ts : List Str} (h : ∀ t ∈ ts, Gd t) : Gd (listText ts) := gd_app (gd_from ts 0 _ h (gd_lit rfl)) (gd_lit rfl)
theorem gd_tuple {ts : List Str} (h : ∀ t ∈ ts, Gd t) : Gd (tupleText ts) := gd_app (gd_app (gd_lit rfl) (gd_join (gd_lit rfl) ts h)) (by split <;> exact gd_lit rfl)
theorem gd_str (s : String) : Gd (Str.ofString s) := fun c h => by
  rw [PySem.Str.ofString_eq_toList] at h
  obtain ⟨y, _, rfl⟩ := List.mem_map.mp h
  have := y.val.toNat_lt
  have e : y.toNat = y.val.toNat := rfl
  rw [e]
  omega
mutual
theorem gd_shown : ∀ d : PyData, d.hasDict = false → d.leavesShort 110 = true → Gd d.shown
  | .none, _, _ => gd_str _
  | .bool b, _, _ => by
    unfold PyData.shown
    split <;> exact gd_str _
  | .int i, _, _ => gd_str _
  | .str x, _, h => by
    unfold PyData.shown
    have h : ∀ c ∈ x.cps.toList, c < 16 ^ 8 := by simpa only [PyData.leavesShort, List.all_eq_true, decide_eq_true_eq] using h
    exact gd_repr h
  | .list xs, hn, h => by
    unfold PyData.shown
    exact gd_list (gd_shownAll xs (by simpa only [PyData.hasDict] using hn) (by simpa only [PyData.leavesShort] using h))
  | .tuple xs, hn, h => by
    unfold PyData.shown
    exact gd_tuple (gd_shownAll xs (by simpa only [PyData.hasDict] using hn) (by simpa only [PyData.leavesShort] using h))
  | .dict _, hn, _ => by simp [PyData.hasDict] at hn
theorem gd_shownAll : ∀ ds : List PyData, PyData.hasDictAll ds = false → PyData.leavesShortAll 110 ds = true → ∀ t ∈ PyData.shownAll ds, Gd t
  | [], _, _ => fun t h => by cases h
  | d :: ds, hn, h => fun t ht => by
    have hn : (d.hasDict || PyData.hasDictAll ds) = false := hn
    have h : (d.leavesShort 110 && PyData.leavesShortAll 110 ds) = true := h
    rw [Bool.or_eq_false_iff] at hn
    rw [Bool.and_eq_true_iff] at h
    rcases List.mem_cons.mp (show t ∈ d.shown :: PyData.shownAll ds from ht) with rfl | ht
    · exact gd_shown d hn.1 h.1
    · exact gd_shownAll ds hn.2 h.2 t ht
end
/-! ### a part of a thing: how large it is told -/
def lim : Nat → Nat
  | 0 => 5
  | 1 => 110
  | _ => 782
def nnL : Nat → Nat
  | 0 => 0
  | 1 => 6
  | _ => 111
structure PtOk (k : Nat) (d : PyData) : Prop where
  sh : Shw (lim k) k d
  nt : (∀ y, d ≠ .str y) → Shw (nnL k) k d
  it : ∀ i, d = .int i → -(2 ^ 40 + (k : Int)) ≤ i ∧ i ≤ 2 ^ 40 + (k : Int)
theorem lim_pos (k : Nat) : 5 ≤ lim k := by
  match k with
  | 0 => decide
  | 1 => decide
  | _ + 2 => show 5 ≤ 782; decide
theorem Shw.int40 {k : Nat} {i : Int} (hk : k ≤ 2) (a : -(2 ^ 40 + (k : Int)) ≤ i) (b : i ≤ 2 ^ 40 + (k : Int)) : Shw 0 0 (.int i) := Shw.int (by omega) (by omega)
theorem PtOk.int {k : Nat} {i : Int} (hk : k ≤ 2) (a : -(2 ^ 40 + (k : Int)) ≤ i) (b : i ≤ 2 ^ 40 + (k : Int)) : PtOk k (.int i) := ⟨(Shw.int40 hk a b).mono (Nat.zero_le _) (Nat.zero_le _), fun _ => (Shw.int40 hk a b).mono (Nat.zero_le _) (Nat.zero_le _), fun j e => by cases e; exact ⟨a, b⟩⟩
theorem PtOk.bl {k : Nat} (x : Bool) : PtOk k (.bool x) := ⟨(Shw.bl x).mono (Nat.zero_le _) (Nat.zero_le _), fun _ => (Shw.bl x).mono (Nat.zero_le _) (Nat.zero_le _), fun j e => by cases e⟩
theorem PtOk.non {k : Nat} : PtOk k .none := ⟨Shw.non.mono (Nat.zero_le _) (Nat.zero_le _), fun _ => Shw.non.mono (Nat.zero_le _) (Nat.zero_le _), fun j e => by cases e⟩
theorem PtOk.str {k : Nat} {x : Str} (hx : Gd x) (h : x.length ≤ lim k) : PtOk k (.str x) := ⟨(Shw.str hx).mono h (Nat.zero_le _), fun z => absurd rfl (z x), fun j e => by cases e⟩
theorem PtOk.lit {k : Nat} {s : String} (h : (Str.ofString s).length ≤ 5 := by decide) : PtOk k (.str (Str.ofString s)) := .str (gd_str s) (Nat.le_trans h (lim_pos k))
end
section
variable {P : Program} {w : World} {K : PySem.W.Frag} {mg : Str → Option Value} {base : Heap}
variable {C : Addr} {za : Nat → Addr} {zl : Nat → FuncData} {t22 : Tok} {fW : Addr} {DC : Addr}
/-! ### things that the box is no part of -/
/-- the heap without what stands at b -/
def off (b : Addr) (H : Hp) : Hp := fun a => if a = b then none else H a
theorem off_same (b : Addr) (H : Hp) : Same (off b H) H := fun a o e => by
  unfold off at e
  split at e
  · cases e
  · exact e
theorem off_keep {b : Addr} {H H' : Hp} (k : Keep b H H') : Same (off b H) (off b H') := fun a o e => by
  unfold off at e ⊢
  by_cases c : a = b
  · rw [if_pos c] at e
    cases e
  · rw [if_neg c] at e ⊢
    exact k _ _ e c
theorem off_ne {b a : Addr} {H : Hp} (n : a ≠ b) : off b H a = H a := if_neg n
theorem sq_same {K : PySem.W.Frag} {H H' : Hp} {a : Addr} {xs : List V} (e : Same H H') (h : SqL K H a xs) : SqL K H' a xs := by
  rcases h with (h | ⟨o, h⟩) | h
  · exact .inl (.inl (e _ _ h))
  · exact .inl (.inr ⟨o, e _ _ h⟩)
  · exact .inr h
mutual
theorem dp_same {K : PySem.W.Frag} {H H' : Hp} (s : Same H H') : ∀ {v : V} {d : PyData}, Dp K H v d → Dp K H' v d
  | _, _, .non => .non
  | _, _, .bl b => .bl b
  | _, _, .int i => .int i
  | _, _, .str x => .str x
  | _, _, .lst h k => .lst (sq_same s h) (dp_sameAll s k)
  | _, _, .tup h k => .tup (Same.seqT s h) (dp_sameAll s k)
theorem dp_sameAll {K : PySem.W.Frag} {H H' : Hp} (s : Same H H') : ∀ {vs : List V} {ds : List PyData}, DpAll K H vs ds → DpAll K H' vs ds
  | _, _, .nil => .nil
  | _, _, .cons h k => .cons (dp_same s h) (dp_sameAll s k)
end
theorem dpa_len {K : PySem.W.Frag} {H : Hp} : ∀ {vs : List V} {ds : List PyData}, DpAll K H vs ds → vs.length = ds.length
  | _, _, .nil => rfl
  | _, _, .cons _ k => by rw [List.length_cons, List.length_cons, dpa_len k]
def cellD : PyData → Bool
  | .int i => decide (0 ≤ i) && decide (i ≤ 7)
  | _ => false
def wordD (sc tl : Nat) : PyData → Bool
  | .int i => decide (0 ≤ i) && decide (i ≤ 2 ^ (1 + sc + tl) - 1)
  | _ => false
def wayD : PyData → Bool
  | .str x => WL.any fun y => y == x
  | _ => false
/-- how many cells a deed of this name has -/
def manyV (x : Str) : V := (kdV cellsKV x).getD .non
theorem big_lt {n : Nat} (h : n ≤ 20000) : n < sizeLine := by rw [sizeLine_eq]; omega
def deedL (sc tl : Nat) : List PyData → Bool
  | .str op :: ds => decide (2 ≤ ds.length) && (ds.dropLast.all cellD && (if op = "put" then decide (ds.length = 2) && wordD sc tl (ds.getLastD .none) else decide (manyV op = .int ((ds.length : Int) - 1)) && wayD (ds.getLastD .none)))
  | _ => false
def deedD (sc tl : Nat) : PyData → Bool
  | .tuple ds => deedL sc tl ds
  | _ => false
theorem Dp.th {K : PySem.W.Frag} {H : Hp} {v : V} {d : PyData} (h : Dp K H v d) : Th K H v := by
  cases h with
  | non => exact .non
  | bl b => exact .bl b
  | int i => exact .int i
  | str x => exact .str x
  | lst e _ => exact .lst e
  | tup e _ => exact .tup e
theorem numIn_cell {K : PySem.W.Frag} {H : Hp} {v : V} {d : PyData} (h : Dp K H v d) : numIn 0 7 v = cellD d := by
  cases h <;> rfl
theorem numIn_word {K : PySem.W.Frag} {H : Hp} {v : V} {d : PyData} {sc tl : Nat} (h : Dp K H v d) : numIn 0 (2 ^ (1 + sc + tl) - 1) v = wordD sc tl d := by
  cases h <;> rfl
theorem dpa_app {K : PySem.W.Frag} {H : Hp} : ∀ {ds es : List PyData} {vs : List V}, DpAll K H vs (ds ++ es) → ∃ us ws, vs = us ++ ws ∧ DpAll K H us ds ∧ DpAll K H ws es
  | [], _, vs, h => ⟨[], vs, rfl, .nil, h⟩
  | _ :: _, _, _, .cons h k => by
    obtain ⟨us, ws, rfl, h1, h2⟩ := dpa_app k
    exact ⟨_ :: us, ws, rfl, .cons h h1, h2⟩
/-- the first, those between, the last -/
theorem dpa_ends {K : PySem.W.Frag} {H : Hp} {vs : List V} {ds : List PyData} (h : DpAll K H vs ds) (n : 2 ≤ vs.length) : ∃ v cs z d es e, vs = v :: (cs ++ [z]) ∧ ds = d :: (es ++ [e]) ∧ Dp K H v d ∧ DpAll K H cs es ∧ Dp K H z e := by
  cases h with
  | nil => exact absurd n (by decide)
  | @cons v vs d ds h k =>
    have hl := dpa_len k
    rcases List.eq_nil_or_concat ds with rfl | ⟨es, e, rfl⟩
    · rw [List.length_cons, hl] at n
      exact absurd n (by decide)
    · rw [List.concat_eq_append] at k
      obtain ⟨us, ws, rfl, h1, h2⟩ := dpa_app k
      cases h2 with
      | cons h2 h3 => 
        cases h3
        exact ⟨_, _, _, _, _, _, rfl, by rw [List.concat_eq_append], h, h1, h2⟩
theorem dpa_get {K : PySem.W.Frag} {H : Hp} : ∀ {vs : List V} {ds : List PyData} {i : Nat} {v : V}, DpAll K H vs ds → vs[i]? = some v → ∃ d, ds[i]? = some d ∧ Dp K H v d
  | _, _, 0, _, .cons h _, e => by
    cases e
    exact ⟨_, rfl, h⟩
  | _, _, i + 1, _, .cons _ k, e => dpa_get (i := i) k e
theorem plain_mem : ∀ ds : List PyData, PyData.plainAll ds = true → ∀ d ∈ ds, d.plain = true
  | [], _ => fun d h => nomatch h
  | e :: ds, h => fun d hd => by
    have h : (e.plain && PyData.plainAll ds) = true := h
    rw [Bool.and_eq_true_iff] at h
    rcases List.mem_cons.mp hd with rfl | hd
    · exact h.1
    · exact plain_mem ds h.2 d hd
theorem many_scal (op : Str) (n : Int) : scal (manyV op) (.int n) = true := by
  unfold manyV kdV
  cases h : cellsKV.find? fun kv => decide (kv.1 = op) with
  | none => rfl
  | some kv =>
    have := List.mem_of_find?_eq_some h
    simp only [cellsKV, List.mem_cons, List.not_mem_nil, or_false] at this
    rcases this with rfl | rfl | rfl | rfl | rfl <;> rfl
theorem way_any (d : PyData) : ((WL.map PyData.str).any fun z => z.eqv d) = wayD d := by
  cases d <;> rfl
theorem dpa_ends3 {K : PySem.W.Frag} {H : Hp} {vs : List V} {ds : List PyData} (h : DpAll K H vs ds) (n : 3 ≤ vs.length) : ∃ u v cs z c d es e, vs = u :: v :: (cs ++ [z]) ∧ ds = c :: d :: (es ++ [e]) ∧ Dp K H u c ∧ Dp K H v d ∧ DpAll K H cs es ∧ Dp K H z e := by
  cases h with
  | nil => exact absurd n (by decide)
  | @cons v vs d ds h k =>
    obtain ⟨v1, cs, z, d1, es, e, rfl, rfl, h1, h2, h3⟩ := dpa_ends k (by rw [List.length_cons] at n; omega)
    exact ⟨_, _, _, _, _, _, _, _, rfl, rfl, h, h1, h2, h3⟩
theorem short_deed {sc tl : Nat} {ds : List PyData} (h : ds.length < 3) : deedD sc tl (.tuple ds) = false := by
  match ds, h with
  | [], _ => rfl
  | [d], _ => cases d <;> rfl
  | [d, _], _ => cases d <;> rfl
  | _ :: _ :: _ :: _, z => exact absurd z (by simp only [List.length_cons]; omega)
/-! ### is_deed -/
def spWidth (C : Addr) : Sp := fun vs H Q _ => ∃ (x : Addr) (sc tl : Nat), vs = [.ref x] ∧ FAt C H x sc tl ∧ Q (.int (1 + sc + tl : Nat)) H
theorem ok_Form_width (B : Bl mg) (L : LL K mg C za zl t22 fW DC w) : FnOk P w K mg base CX0 1 (za 18) (zl 18) ["self"] (spWidth C) := by
  refine L.F_Form_width.ok sc_Form_width (fun vs H Q E h => ?_) (fun cdv A outer s H vs Q E hr h => ?_)
  · obtain ⟨x, sc, tl, rfl, _⟩ := h
    rfl
  obtain ⟨x, sc, tl, rfl, ⟨dx, hx, h1, h2, h3, h4⟩, q⟩ := h
  refine ⟨_, (pss_one (ps_ret (pe_op op_add (pe_op op_add pe_int (pe_fld (pv 0) rfl)) (pe_fld (pv 0) rfl)))), ?_⟩
  refine ⟨_, rfl, x, C, dx, _, _, rfl, hx, L.T.cl, L.T.ns, fl_s _ _, _, _, rfl, rfl, _, rfl, x, C, dx, _, _, rfl, hx, L.T.cl, L.T.nt, fl_t _ _, _, _, rfl, rfl, ?_⟩
  have e : ((1 + sc + tl : Nat) : Int) = 1 + (sc : Int) + (tl : Int) := by omega
  dsimp only
  rw [← e]
  exact q
def spIsW (K : PySem.W.Frag) (C : Addr) : Sp := fun vs H Q _ => ∃ (x : Addr) (sc tl : Nat) (v : V) (d : PyData), vs = [.ref x, v] ∧ FAt C H x sc tl ∧ Dp K H v d ∧ Q (.bl (wordD sc tl d)) H
theorem ok_Form_is_word (B : Bl mg) (L : LL K mg C za zl t22 fW DC w) : FnOk P w K mg base CX0 3 (za 21) (zl 21) ["self", "thing"] (spIsW K C) := by
  have G_Form_width : FnOk P w K mg base CX0 2 (za 18) (zl 18) ["self"] (spWidth C) := (ok_Form_width B L).mono (by decide)
  have G_is_number_in : FnOk P w K mg base CX0 2 (za 2) (zl 2) ["least", "greatest", "thing"] (spNumIn K) := (ok_is_number_in B L).mono (by decide)
  refine L.F_Form_is_word.ok sc_Form_is_word (fun vs H Q E h => ?_) (fun cdv A outer s H vs Q E hr h => ?_)
  · obtain ⟨x, sc, tl, v, d, rfl, _⟩ := h
    rfl
  obtain ⟨x, sc, tl, v, d, rfl, hF, hd, q⟩ := h
  obtain ⟨dx, hx, h1, h2, h3, h4⟩ := id hF
  refine ⟨_, (pss_one (ps_ret (pe_call G_is_number_in hr (by rfl) L.m_is_number_in L.F_is_number_in.kp L.b_is_number_in .nil pass0 (pa_cons pe_int (pa_cons (pe_op op_sub (pe_op op_oneShl pe_int (pe_meth0 (pv 0) L.T.cl L.M_Form_width G_Form_width hr L.b_Form_width .nil pass0)) pe_int) (pa_cons (pv 1) pa_nil)))))), ?_⟩
  rw [← numIn_word hd] at q
  exact ⟨_, rfl, x, dx, _, rfl, hx, rfl, x, sc, tl, rfl, hF, 1 + sc + tl, rfl, rfl, by omega, _, _, rfl, rfl, _, rfl, _, _, _, rfl, Dp.th hd, q⟩
def spDeed (K : PySem.W.Frag) (C : Addr) : Sp := fun vs H Q _ => ∃ (x : Addr) (sc tl : Nat) (v : V) (d : PyData), vs = [.ref x, v] ∧ FAt C H x sc tl ∧ Dp K H v d ∧ d.plain = true ∧ (∀ ds, d = .tuple ds → ds.length ≤ 16000) ∧ ∀ H', Same H H' → Q (.bl (deedD sc tl d)) H'
theorem ok_is_deed (B : Bl mg) (L : LL K mg C za zl t22 fW DC w) : FnOk P w K mg base CX0 4 (za 3) (zl 3) ["form", "thing"] (spDeed K C) := by
  have G_Form_is_word : FnOk P w K mg base CX0 3 (za 21) (zl 21) ["self", "thing"] (spIsW K C) := (ok_Form_is_word B L).mono (by decide)
  have G_is_number_in : FnOk P w K mg base CX0 3 (za 2) (zl 2) ["least", "greatest", "thing"] (spNumIn K) := (ok_is_number_in B L).mono (by decide)
  refine L.F_is_deed.ok sc_is_deed (fun vs H Q E h => ?_) (fun cdv A outer s H vs Q E hr h => ?_)
  · obtain ⟨x, sc, tl, v, d, rfl, _⟩ := h
    rfl
  obtain ⟨x, sc, tl, v, d, rfl, hF, hd, hp, hz, q⟩ := h
  refine ⟨_, (pss_cons (ps_if (PW.pt (pw_or (pt_not (pt_val (pe_callB call_isi (by rfl) B.isinstance boot_isinstance (pa_cons (pv 1) (pa_cons (pe_bltn (v := .ty "tuple") (by rfl) B.tuple PyProof.Rows.boot_tuple rfl) pa_nil))))) (pw_or1 (pt_cmpR op_lt (pe_callB call_len_seq (by rfl) B.len PySem.boot_len (pa_cons (pv 1) pa_nil)) pe_int (nomark _))))) (pss_one (ps_ret pe_bl)) pss_nil)
    (pss_cons (ps_asg (pv 1) (pg_star3 rfl (pgs_cons (pg_name (i := 2) sc_is_deed.nd rfl (.inl rfl)) (pgs_star (pg_name (i := 3) sc_is_deed.nd rfl (.inl rfl)) (pgs_cons (pg_name (i := 4) sc_is_deed.nd rfl (.inl rfl)) pgs_nil)))))
    (pss_cons (ps_if (PW.pt (pw_or (pt_not (pt_val (pe_callB call_isi (by rfl) B.isinstance boot_isinstance (pa_cons (pv 2) (pa_cons (pe_bltn (v := .ty "str") (by rfl) B.str PyProof.Rows.boot_str rfl) pa_nil))))) (pw_or1 (pt_not (pt_val (pe_callB (cr_all rfl) (by rfl) B.all boot_all (pa_cons (pe_lc (own := [("cell", 5)]) (by rfl) sc_is_deed.nd (pi_list (pv 3)) (blkOk_by (own := [("cell", 5)]) (N := ["form", "thing", "op", "cells", "last", "cell"]) (sc := defScope s_is_deed) (by decide +kernel)) (fun _ _ _ _ _ => pg_name (i := 5) sc_is_deed.nd rfl (Or.inl rfl)) (fun _ _ _ _ _ => pts_nil) (fun _ _ _ _ _ => (pe_call G_is_number_in hr (by rfl) L.m_is_number_in L.F_is_number_in.kp L.b_is_number_in .nil pass0 (pa_cons pe_int (pa_cons (pe_op op_sub (pe_glob (v := .int 8) rfl (L.g_CELLS).choose_spec ⟨_, rfl⟩) pe_int) (pa_cons (pv 5) pa_nil)))))) pa_nil))))))) (pss_one (ps_ret pe_bl)) pss_nil)
    (pss_cons (ps_if (pt_cmpR op_eq (pv 2) pe_str (nomark _)) (pss_one (ps_ret (pe_and (pe_cmpR op_eq (pe_callB call_len_seq (by rfl) B.len PySem.boot_len (pa_cons (pv 3) pa_nil)) pe_int (nomark _)) (pe_one (pe_meth (pv 0) L.T.cl L.M_Form_is_word G_Form_is_word hr L.b_Form_is_word .nil pass0 (pa_cons (pv 4) pa_nil)))))) pss_nil)
    (pss_one (ps_ret (pe_and (pe_cmpR op_eq (pe_kdget L.d_CELLS_IN (pe_glob (v := .ref DC) rfl L.g_CELLS_IN rfl) (pv 2) ⟨rfl, rfl, rfl, rfl⟩) (pe_callB call_len_seq (by rfl) B.len PySem.boot_len (pa_cons (pv 3) pa_nil)) (nomark _)) (pe_one (pe_cmpR (op_inDT (units65 hr)) (pv 4) (pe_glob (v := .ref fW) rfl L.W.mgW rfl) (by rfl)))))))))), ?_⟩
  cases hd with
  | non => exact ⟨_, rfl, _, _, _, _, _, rfl, .ty _, .base .non, kit_ty (by decide +kernel : kitB "NoneType" "tuple" = some false), _, rfl, iteT (q H (Same.refl _))⟩
  | bl b => exact ⟨_, rfl, _, _, _, _, _, rfl, .ty _, .base (.bl _), kit_ty (by decide +kernel : kitB "bool" "tuple" = some false), _, rfl, iteT (q H (Same.refl _))⟩
  | int b => exact ⟨_, rfl, _, _, _, _, _, rfl, .ty _, .base (.int _), kit_ty (by decide +kernel : kitB "int" "tuple" = some false), _, rfl, iteT (q H (Same.refl _))⟩
  | str b => exact ⟨_, rfl, _, _, _, _, _, rfl, .ty _, .base (.str _), kit_ty (by decide +kernel : kitB "str" "tuple" = some false), _, rfl, iteT (q H (Same.refl _))⟩
  | lst e _ => exact ⟨_, rfl, _, _, _, _, _, rfl, .ty _, ty_lst e, kit_ty (by decide +kernel : kitB "list" "tuple" = some false), _, rfl, iteT (q H (Same.refl _))⟩
  | @tup a xs ds e ha =>
    have el : xs.length = ds.length := dpa_len ha
    have el16 := hz ds rfl
    refine ⟨_, rfl, _, _, _, _, _, rfl, .ty _, ty_tup e, kit_ty (by decide +kernel : kitB "tuple" "tuple" = some true), _, rfl, iteF ?_⟩
    refine ⟨_, rfl, a, xs, rfl, .inr e, _, _, rfl, rfl, _, rfl, ite2 (fun c => ?_) (fun c => ?_)⟩
    · have c' : (xs.length : Int) < 3 := of_decide_eq_true c
      have := q H (Same.refl _)
      rw [show deedD sc tl (.tuple ds) = false by
        match ds, el with
        | [], _ => rfl
        | [d], _ => cases d <;> rfl
        | [d, _], _ => cases d <;> rfl
        | _ :: _ :: _ :: _, z => rw [z, List.length_cons, List.length_cons, List.length_cons] at c'; omega] at this
      exact this
    have c' : ¬ (xs.length : Int) < 3 := of_decide_eq_false (Bool.eq_false_iff.mpr c)
    obtain ⟨v1, cs, vz, d1, es, dz, rfl, rfl, h1, hcs, hzz⟩ := dpa_ends ha (by omega)
    have n2 : 2 ≤ (cs ++ [vz]).length := by rw [List.length_cons] at c'; omega
    have ec := dpa_len hcs
    have l1 : cs.length = es.length := ec
    have lz : (d1 :: (es ++ [dz])).length = es.length + 2 := by rw [List.length_cons, List.length_append, List.length_singleton]
    refine ⟨_, rfl, a, v1, vz, cs, rfl, e, by omega, fun D nD => ?_⟩
    refine ⟨_, _, rfl, _, _, rfl, _, _, rfl, ?_⟩
    refine ⟨rfl, ?_⟩
    try simp only [L2.start, List.map_cons, List.map_nil, List.length_cons, List.length_nil, List.replicate_succ, List.replicate_zero, List.cons_append, List.nil_append, List.set_cons_succ, List.set_cons_zero, Nat.reduceAdd, Nat.reduceSub, Nat.zero_add]
    cases h1 with
    | non => exact ⟨_, rfl, _, _, _, _, _, rfl, .ty _, .base .non, kit_ty (by decide +kernel : kitB "NoneType" "str" = some false), _, rfl, iteT (q _ (same_upd (o := .lst cs) nD))⟩
    | bl b => exact ⟨_, rfl, _, _, _, _, _, rfl, .ty _, .base (.bl _), kit_ty (by decide +kernel : kitB "bool" "str" = some false), _, rfl, iteT (q _ (same_upd (o := .lst cs) nD))⟩
    | int b => exact ⟨_, rfl, _, _, _, _, _, rfl, .ty _, .base (.int _), kit_ty (by decide +kernel : kitB "int" "str" = some false), _, rfl, iteT (q _ (same_upd (o := .lst cs) nD))⟩
    | lst e' _ => exact ⟨_, rfl, _, _, _, _, _, rfl, .ty _, ty_lst (sq_same (same_upd (o := .lst cs) nD) e'), kit_ty (by decide +kernel : kitB "list" "str" = some false), _, rfl, iteT (q _ (same_upd (o := .lst cs) nD))⟩
    | tup e' _ => exact ⟨_, rfl, _, _, _, _, _, rfl, .ty _, ty_tup (Same.seqT (same_upd (o := .lst cs) nD) e'), kit_ty (by decide +kernel : kitB "tuple" "str" = some false), _, rfl, iteT (q _ (same_upd (o := .lst cs) nD))⟩
    | str op =>
      have sD := same_upd (o := .lst cs) nD
      refine ⟨_, rfl, _, _, _, _, _, rfl, .ty _, .base (.str _), kit_ty (by decide +kernel : kitB "str" "str" = some true), _, rfl, iteF ?_⟩
      have hDD : (upd H D (.lst cs)) D = some (.lst cs) := upd_same
      generalize upd H D (.lst cs) = H5 at *
      refine ⟨_, rfl, D, rfl, ⟨_, SqL.of hDD⟩, fun D2 nD2 => ?_⟩
      refine lc_list (K := K) (a := D) (xs := cs) (fun i H6 => Same H5 H6 ∧ H6 D2 = some (.lst (((es.map cellD).take i).map V.bl))) ⟨same_upd nD2, upd_same⟩ (fun i H6 _ ⟨s6, _⟩ => SqL.of (s6 _ _ hDD)) ?_ ?_
      · rintro j z H6 hj ⟨s6, eD⟩
        obtain ⟨e', he', hd'⟩ := dpa_get hcs hj
        have hj' : j < es.length := (List.getElem?_eq_some_iff.mp he').1
        refine ⟨rfl, yesT ?_⟩
        refine ⟨_, _, rfl, rfl, _, rfl, 0, 7, z, rfl, Dp.th (dp_same (sD.trans s6) hd'), ?_⟩
        rw [numIn_cell hd']
        refine ⟨_, eD, ?_, ⟨fun y o e => ?_, ?_⟩⟩
        · rw [List.length_map, List.length_take]
          exact big_lt (by omega)
        · rw [upd_ne (ne_of_none e nD2)]
          exact s6 _ _ e
        · rw [upd_same, List.take_add_one, List.getElem?_map, he', List.map_append]
          rfl
      · rintro H6 ⟨s6, eD⟩
        rw [List.take_of_length_le (by rw [List.length_map]; omega)] at eD
        refine ⟨D2, _, rfl, SqL.of eD, ?_⟩
        have sH : Same H H6 := sD.trans s6
        have e6 := s6 _ _ hDD
        rw [List.all_map, show (id ∘ cellD) = cellD from rfl]
        have el2 : (es ++ [dz]).dropLast = es := List.dropLast_concat
        have ez2 : (es ++ [dz]).getLastD .none = dz := List.getLastD_concat ..
        have q := q H6 sH
        have ed : deedD sc tl (.tuple (.str op :: (es ++ [dz]))) = (es.all cellD && (if op = "put" then decide (es.length = 1) && wordD sc tl dz else decide (manyV op = .int (es.length : Int)) && wayD dz)) := by
          show (decide (2 ≤ (es ++ [dz]).length) && ((es ++ [dz]).dropLast.all cellD && (if op = "put" then decide ((es ++ [dz]).length = 2) && wordD sc tl ((es ++ [dz]).getLastD .none) else decide (manyV op = .int (((es ++ [dz]).length : Int) - 1)) && wayD ((es ++ [dz]).getLastD .none)))) = _
          rw [el2, ez2, List.length_append, List.length_singleton, decide_eq_true (by omega), Bool.true_and]
          rw [show (((es.length + 1 : Nat) : Int) - 1) = (es.length : Int) by omega]
          congr 2
          rw [decide_eq_decide.mpr (show es.length + 1 = 2 ↔ es.length = 1 by omega)]
        rw [ed] at q
        clear ed
        refine ⟨_, rfl, ?_⟩
        cases ca : es.all cellD with
        | false =>
          rw [ca] at q
          exact iteT q
        | true =>
          rw [ca, Bool.true_and] at q
          refine iteF ?_
          try simp only [L2.start, List.map_cons, List.map_nil, List.length_cons, List.length_nil, List.replicate_succ, List.replicate_zero, List.cons_append, List.nil_append, List.set_cons_succ, List.set_cons_zero, Nat.reduceAdd, Nat.reduceSub, Nat.zero_add]
          have hz6 := dp_same sH hzz
          show tSeq _ _ _ _ _
          refine ⟨_, rfl, rfl, _, rfl, ?_⟩
          refine ite2 (fun c => ?_) (fun c => ?_)
          · have cp : op = "put" := by
              have := of_decide_eq_true c
              injection this
            rw [if_pos cp] at q
            refine ⟨_, rfl, D, cs, rfl, .inl (SqL.of e6), rfl, _, rfl, ?_⟩
            have e1 : decide (V.int (cs.length : Int) = V.int 1) = decide (es.length = 1) := by
              rw [decide_eq_decide, l1]
              constructor
              · intro z
                injection z with z
                omega
              · intro z
                rw [z]
                rfl
            rw [e1]
            cases c1 : decide (es.length = 1) with
            | false =>
              rw [c1] at q
              exact iteF q
            | true =>
              rw [c1, Bool.true_and] at q
              obtain ⟨dx, hx, hr⟩ := id (hF.same sH)
              exact iteT ⟨_, rfl, x, dx, _, rfl, hx, rfl, _, rfl, x, sc, tl, vz, dz, rfl, hF.same sH, hz6, q⟩
          · have cp : op ≠ "put" := fun z => c (decide_eq_true (congrArg V.str z))
            rw [if_neg cp] at q
            refine ⟨_, rfl, op, rfl, ?_⟩
            refine ⟨_, rfl, D, cs, rfl, .inl (SqL.of e6), ?_, _, rfl, ?_⟩
            · exact many_scal op _
            have e1 : decide (manyV op = V.int (cs.length : Int)) = decide (manyV op = V.int (es.length : Int)) := by rw [l1]
            show ite (decide (manyV op = V.int (cs.length : Int)) = true) _ _
            rw [e1]
            cases c1 : decide (manyV op = V.int (es.length : Int)) with
            | false =>
              rw [c1] at q
              exact iteF q
            | true =>
              rw [c1, Bool.true_and] at q
              refine iteT ⟨_, rfl, dz, WL.map PyData.str, hz6, ?_, ?_, rfl, by decide, ?_⟩
              · exact .tup (L.W.sq H6) (.cons (.str _) (.cons (.str _) (.cons (.str _) (.cons (.str _) .nil))))
              · exact plain_mem _ (show PyData.plainAll (.str op :: (es ++ [dz])) = true from hp) _ (List.mem_cons_of_mem _ (List.mem_append_right _ List.mem_cons_self))
              · rw [way_any]
                exact q
/-! ### tuples put together and cut -/
theorem dpa_appd {K : PySem.W.Frag} {H : Hp} : ∀ {xs ys : List V} {ds es : List PyData}, DpAll K H xs ds → DpAll K H ys es → DpAll K H (xs ++ ys) (ds ++ es)
  | [], _, [], _, _, k => k
  | _ :: _, _, _ :: _, _, .cons h r, k => .cons h (dpa_appd r k)
theorem dpa_drop {K : PySem.W.Frag} {H : Hp} : ∀ (n : Nat) {xs : List V} {ds : List PyData}, DpAll K H xs ds → DpAll K H (xs.drop n) (ds.drop n)
  | 0, _, _, h => h
  | _ + 1, _, _, .nil => .nil
  | n + 1, _, _, .cons _ r => dpa_drop n r
theorem dpa_take {K : PySem.W.Frag} {H : Hp} : ∀ (n : Nat) {xs : List V} {ds : List PyData}, DpAll K H xs ds → DpAll K H (xs.take n) (ds.take n)
  | 0, _, _, _ => .nil
  | _ + 1, _, _, .nil => .nil
  | n + 1, _, _, .cons h r => .cons h (dpa_take n r)
theorem BoxAt.some {c : Int} {H : Hp} {b : Addr} (h : BoxAt c H b) : H b ≠ none := by
  obtain ⟨x0, x1, x2, e, r⟩ := h
  rw [e]
  exact fun z => by cases z
theorem off_ofSame {b : Addr} {H H' : Hp} (s : Same H H') : Same (off b H) (off b H') := off_keep (Keep.ofSame s)
theorem off_at {b p : Addr} {H : Hp} {o : HO} (hb : H b ≠ none) (np : H p = none) : off b (upd H p o) p = some o := by
  have n : p ≠ b := fun z => hb (by rw [← z]; exact np)
  rw [off_ne n]
  exact upd_same
theorem catD_ev {K : PySem.W.Frag} {b : Addr} {x y : V} {ds es : List PyData} {H : Hp} {Q : VK} (hb : H b ≠ none) (h1 : Dp K (off b H) x (.tuple ds)) (h2 : Dp K (off b H) y (.tuple es)) (hz : ds.length + es.length ≤ 1000)
    (q : ∀ v H', Same H H' → Dp K (off b H') v (.tuple (ds ++ es)) → Q v H') : rCatA K x y H Q := by
  cases h1 with
  | @tup a xs _ e1 k1 =>
    cases h2 with
    | @tup a' ys _ e2 k2 =>
      have l1 := dpa_len k1
      have l2 := dpa_len k2
      refine ⟨a, a', xs, ys, rfl, rfl, Same.seqT (off_same b H) e1, Same.seqT (off_same b H) e2, by rw [sizeLine_eq]; omega, fun z => ?_, fun _ z => ?_, fun _ _ p np => ?_⟩
      · subst z
        cases k1
        exact q _ H (Same.refl _) (.tup e2 k2)
      · subst z
        cases k2
        refine q _ H (Same.refl _) ?_
        rw [List.append_nil]
        exact .tup e1 k1
      · have s := same_upd (o := .tup (xs ++ ys)) np
        exact q _ _ s (.tup (SqT.of (off_at hb np)) (dpa_appd (dp_sameAll (off_ofSame s) k1) (dp_sameAll (off_ofSame s) k2)))
def cutD (ds : List PyData) (lo hi : Option Int) : List PyData := (ds.drop (HT.sIx ds.length 0 lo)).take (HT.sIx ds.length ds.length hi - HT.sIx ds.length 0 lo)
theorem cutD_mem {ds : List PyData} {lo hi : Option Int} : ∀ d ∈ cutD ds lo hi, d ∈ ds := fun d h => List.mem_of_mem_drop (List.mem_of_mem_take h)
theorem cutD_le (ds : List PyData) (lo hi : Option Int) : (cutD ds lo hi).length ≤ ds.length := by
  unfold cutD
  rw [List.length_take, List.length_drop]
  omega
theorem slD_ev {K : PySem.W.Frag} {b : Addr} {x : V} {ds : List PyData} {lo hi : Option Int} {H : Hp} {Q : VK} (hb : H b ≠ none) (h1 : Dp K (off b H) x (.tuple ds))
    (q : ∀ v H', Same H H' → Dp K (off b H') v (.tuple (cutD ds lo hi)) → Q v H') : rSlA K x lo hi H Q := by
  cases h1 with
  | @tup a xs _ e1 k1 =>
    have l1 := dpa_len k1
    refine ⟨a, xs, rfl, Same.seqT (off_same b H) e1, fun z => ?_, fun _ p np => ?_⟩
    · refine q _ H (Same.refl _) ?_
      have : cutD ds lo hi = ds := by
        unfold cutD
        rw [← l1, z.1, z.2, Nat.sub_zero, List.drop_zero, l1, List.take_length]
      rw [this]
      exact .tup e1 k1
    · have s := same_upd (o := .tup (cutV xs lo hi)) np
      refine q _ _ s (.tup (SqT.of (off_at hb np)) ?_)
      unfold cutV cutD
      rw [← l1]
      exact dpa_take _ (dpa_drop _ (dp_sameAll (off_ofSame s) k1))
/-! ### deeds that are told -/
theorem deed_put {sc tl : Nat} {r w : Int} (a : 0 ≤ r) (a' : r ≤ 7) (h : 0 ≤ w) (h' : w < 2 ^ (1 + sc + tl)) : deedL sc tl [.str "put", .int r, .int w] = true := by
  show (decide (2 ≤ 2) && (((decide (0 ≤ r) && decide (r ≤ 7)) && true) && (if ("put" : Str) = "put" then decide (2 = 2) && (decide (0 ≤ w) && decide (w ≤ 2 ^ (1 + sc + tl) - 1)) else _))) = true
  rw [if_pos rfl, decide_eq_true a, decide_eq_true a', decide_eq_true h, decide_eq_true (show w ≤ 2 ^ (1 + sc + tl) - 1 by omega)]
  rfl
theorem deed_way {sc tl : Nat} {op way : Str} {cs : List Int} (h : ∀ c ∈ cs, 0 ≤ c ∧ c ≤ 7) (h1 : 1 ≤ cs.length) (n : op ≠ "put") (m : manyV op = .int (cs.length : Int)) (w : way ∈ WL) : deedL sc tl (.str op :: (cs.map PyData.int ++ [.str way])) = true := by
  show (decide (2 ≤ (cs.map PyData.int ++ [PyData.str way]).length) && ((cs.map PyData.int ++ [PyData.str way]).dropLast.all cellD && (if op = "put" then _ else decide (manyV op = .int (((cs.map PyData.int ++ [PyData.str way]).length : Int) - 1)) && wayD ((cs.map PyData.int ++ [PyData.str way]).getLastD .none)))) = true
  rw [if_neg n, List.dropLast_concat, List.getLastD_concat, List.length_append, List.length_map, List.length_singleton, decide_eq_true (by omega), m, decide_eq_true (by congr 1; omega), List.all_map]
  have e1 : cs.all (cellD ∘ PyData.int) = true := List.all_eq_true.mpr fun c hc => by
    obtain ⟨a, b⟩ := h c hc
    show (decide (0 ≤ c) && decide (c ≤ 7)) = true
    rw [decide_eq_true a, decide_eq_true b]
    rfl
  have e2 : wayD (.str way) = true := List.any_eq_true.mpr ⟨way, w, by simp⟩
  rw [e1, e2]
  rfl
end
section
variable {P : Program} {w : World} {K : PySem.W.Frag} {mg : Str → Option Value} {base : Heap}
variable {C : Addr} {za : Nat → Addr} {zl : Nat → FuncData} {t22 : Tok} {fW : Addr} {DC : Addr}
/-! ### the world, a cell, a deed -/
/-- what is drawn first: two numbers and some cells near each other, in a dict -/
def WdAt (H : Hp) (D l : Addr) (sc tl : Nat) (ns : List Int) : Prop := H D = some (.dK [(.inr "scale", .int (sc : Int)), (.inr "tail", .int (tl : Int)), (.inr "near", .ref l)]) ∧ H l = some (.lst (ns.map V.int)) ∧ 2 ≤ ns.length ∧ ns.length ≤ 8 ∧ (∀ n ∈ ns, 0 ≤ n ∧ n ≤ 7) ∧ 2 ≤ sc ∧ sc ≤ 8 ∧ 1 ≤ tl ∧ tl ≤ 24
theorem WdAt.keep {b D l : Addr} {H H' : Hp} {sc tl : Nat} {ns : List Int} (h : WdAt H D l sc tl ns) (k : Keep b H H') (nD : D ≠ b) (nl : l ≠ b) : WdAt H' D l sc tl ns := ⟨k _ _ h.1 nD, k _ _ h.2.1 nl, h.2.2⟩
def spWorld : Sp := fun vs H Q _ => ∃ (b : Addr) (c : Int), vs = [.ref b] ∧ BoxAt c H b ∧ c ≤ 900000000 ∧
  ∀ (D l : Addr) (sc tl : Nat) (ns : List Int) (H' : Hp), WdAt H' D l sc tl ns → D ≠ b → l ≠ b → BoxAt (c + 7) H' b → Keep b H H' → Q (.ref D) H'
theorem ok__law_begin_world (B : Bl mg) (L : LL K mg C za zl t22 fW DC w) : FnOk P w K mg base CX0 3 (za 9) (zl 9) ["_law_box_here"] spWorld := by
  have G__law_take : FnOk P w K mg base CX0 2 (za 5) (zl 5) ["_law_box_here", "_law_size"] (spTake 1) := (ok_take L.F__law_take L.b__law_take L.m__law_take B 1).mono (by decide)
  have G__law_form : FnOk P w K mg base CX0 2 (za 7) (zl 7) ["_law_box_here"] spForm := (ok__law_form B L).mono (by decide)
  refine L.F__law_begin_world.ok sc__law_begin_world (fun vs H Q E h => ?_) (fun cdv A outer s H vs Q E hr h => ?_)
  · obtain ⟨b, c, rfl, _⟩ := h
    rfl
  obtain ⟨b, c, rfl, hB, hc, q⟩ := h
  refine ⟨_, (pss_cons (ps_asg (pe_call G__law_form hr (by rfl) L.m__law_form L.F__law_form.kp L.b__law_form .nil pass0 (pa_cons (pv 0) pa_nil)) (pg_tup (by rfl) (pgs_cons (pg_name (i := 1) sc__law_begin_world.nd rfl (.inl rfl)) (pgs_cons (pg_name (i := 2) sc__law_begin_world.nd rfl (.inl rfl)) pgs_nil))))
    (pss_cons (ps_set (i := 3) sc__law_begin_world.nd rfl (.inr rfl) (pe_call G__law_take hr (by rfl) L.m__law_take L.F__law_take.kp L.b__law_take .nil pass0 (pa_cons (pv 0) (pa_cons pe_int pa_nil))))
    (pss_one (ps_ret (pe_disp (pps_cons pe_str (pv 1) (pps_cons pe_str (pv 2) (pps_cons pe_str (pe_lc (own := [("_law_k", 4)]) (by rfl) sc__law_begin_world.nd (pi_range1 (by rfl) B.range (pa_cons (pe_op op_add pe_int (pe_call G__law_take hr (by rfl) L.m__law_take L.F__law_take.kp L.b__law_take .nil pass0 (pa_cons (pv 0) (pa_cons pe_int pa_nil)))) pa_nil)) (blkOk_by (own := [("_law_k", 4)]) (N := ["_law_box_here", "_law_scale", "_law_tail", "_law_first", "_law_k"]) (sc := defScope s__law_begin_world) (by decide +kernel)) (fun _ _ _ _ _ => pg_name (i := 4) sc__law_begin_world.nd rfl (Or.inl rfl)) (fun _ _ _ _ _ => pts_nil) (fun _ _ _ _ _ => (pe_op op_mod (pe_op op_add (pv 3) (pv 4)) pe_int))) pps_nil))) rfl rfl (by decide) (by decide)))))), ?_⟩
  refine ⟨_, rfl, b, _, rfl, hB, by omega, fun p0 sc tl H1 e0 h1 h2 h3 h4 B1 k1 => ?_⟩
  refine ⟨p0, _, rfl, .inl (.inl e0), rfl, _, _, rfl, _, _, rfl, rfl, ?_⟩
  try simp only [L2.start, List.map_cons, List.map_nil, List.length_cons, List.length_nil, List.replicate_succ, List.replicate_zero, List.cons_append, List.nil_append, List.set_cons_succ, List.set_cons_zero, Nat.reduceAdd, Nat.reduceSub, Nat.zero_add]
  refine ⟨_, rfl, b, _, _, rfl, B1, (by decide), (by decide), (by decide), (by omega), (by decide), fun r H2 u0 u1 B2 k2 => ?_⟩
  replace B2 := bx1 B2
  try simp only [L2.start, List.map_cons, List.map_nil, List.length_cons, List.length_nil, List.replicate_succ, List.replicate_zero, List.cons_append, List.nil_append, List.set_cons_succ, List.set_cons_zero, Nat.reduceAdd, Nat.reduceSub, Nat.zero_add]
  intro D nD
  have nDb : D ≠ b := (B2.ne nD).symm
  have BD := B2.same (same_upd (o := .dK []) nD)
  refine ⟨_, rfl, _, rfl, ?_⟩
  refine ⟨_, rfl, b, _, _, rfl, BD, (by decide), (by decide), (by decide), (by omega), (by decide), fun r2 H3 v0 v1 B3 k3 => ?_⟩
  replace B3 := bx1 B3
  have eD := k3 _ _ upd_same nDb
  refine ⟨_, _, rfl, rfl, _, rfl, by omega, by omega, fun V1 nV => ?_⟩
  have nVb : V1 ≠ b := (B3.ne nV).symm
  have nVD : V1 ≠ D := fun z => by rw [z, eD] at nV; cases nV
  refine lc_range (n := (2 + r2).toNat) (fun i H9 => ∃ us : List Int, us.length = i ∧ (∀ u ∈ us, 0 ≤ u ∧ u ≤ 7) ∧ Same H3 H9 ∧ H9 V1 = some (.lst (us.map V.int))) ⟨[], rfl, (fun _ z => nomatch z), same_upd nV, upd_same⟩ ?_ ?_
  · rintro i H9 hi ⟨us, lu, hu, s9, e9⟩
    dsimp only [gName]
    refine ⟨rfl, yesT ?_⟩
    try simp only [L2.start, List.map_cons, List.map_nil, List.length_cons, List.length_nil, List.replicate_succ, List.replicate_zero, List.cons_append, List.nil_append, List.set_cons_succ, List.set_cons_zero, Nat.reduceAdd, Nat.reduceSub, Nat.zero_add]
    refine ⟨_, rfl, _, rfl, _, _, rfl, rfl, _, _, rfl, rfl, (by show (0 : Int) < 8; decide), ?_⟩
    refine ⟨_, e9, by rw [List.length_map, lu]; exact big_lt (by omega), us ++ [_], by rw [List.length_append, lu]; rfl, fun u hu' => ?_, fun y u e => ?_, by rw [upd_same, List.map_append]; rfl⟩
    · rcases List.mem_append.mp hu' with z | z
      · exact hu u z
      · rw [List.mem_singleton.mp z]
        have := Int.emod_nonneg (r + (0 + (i : Int))) (show (8 : Int) ≠ 0 by decide)
        have := Int.emod_lt_of_pos (r + (0 + (i : Int))) (show (0 : Int) < 8 by decide)
        omega
    rw [upd_ne (ne_of_none e nV)]
    exact s9 _ _ e
  rintro HD ⟨us, lu, hu, sD, eV⟩
  dsimp only [gName]
  refine ⟨sD _ _ eD, [(.inr "scale", .int (sc : Int)), (.inr "tail", .int (tl : Int)), (.inr "near", .ref V1)], rfl, (by show 3 ≤ 15; decide), ?_⟩
  refine q D V1 sc tl us _ ⟨upd_same, ?_, by omega, by omega, hu, h1, h2, h3, h4⟩ nDb nVb ?_ ?_
  · rw [upd_ne nVD]
    exact eV
  · exact ((B3.same sD).at (upd_ne nDb.symm)).mono (by omega)
  · intro p o e n
    have e2 := (k1.trans k2) p o e n
    rw [upd_ne (ne_of_none e2 nD)]
    exact sD _ _ (k3 _ _ ((same_upd nD) _ _ e2) n)
/-- a cell of the world -/
def spCell : Sp := fun vs H Q _ => ∃ (b D l : Addr) (sc tl : Nat) (ns : List Int) (c : Int), vs = [.ref b, .ref D] ∧ WdAt H D l sc tl ns ∧ D ≠ b ∧ l ≠ b ∧ BoxAt c H b ∧ c ≤ 900000000 ∧
  ∀ (r : Int) (H' : Hp), 0 ≤ r → r ≤ 7 → BoxAt (c + 2) H' b → Keep b H H' → Q (.int r) H'
theorem ok__law_cell (B : Bl mg) (L : LL K mg C za zl t22 fW DC w) : FnOk P w K mg base CX0 2 (za 10) (zl 10) ["_law_box_here", "_law_w"] spCell := by
  have G__law_take : FnOk P w K mg base CX0 1 (za 5) (zl 5) ["_law_box_here", "_law_size"] (spTake 1) := (ok_take L.F__law_take L.b__law_take L.m__law_take B 1).mono (by decide)
  refine L.F__law_cell.ok sc__law_cell (fun vs H Q E h => ?_) (fun cdv A outer s H vs Q E hr h => ?_)
  · obtain ⟨b, D, l, sc, tl, ns, c, rfl, _⟩ := h
    rfl
  obtain ⟨b, D, l, sc, tl, ns, c, rfl, hW, nD, nl, hB, hc, q⟩ := h
  refine ⟨_, (pss_one (ps_ret (pe_ifExp (pt_cmpR op_gt (pe_call G__law_take hr (by rfl) L.m__law_take L.F__law_take.kp L.b__law_take .nil pass0 (pa_cons (pv 0) (pa_cons pe_int pa_nil))) pe_int (nomark _)) (pe_ix ix_list (pe_dget (units1 hr) (pv 1) pe_str (fun _ _ => rfl)) (pe_call G__law_take hr (by rfl) L.m__law_take L.F__law_take.kp L.b__law_take .nil pass0 (pa_cons (pv 0) (pa_cons (pe_callB call_len_seq (by rfl) B.len PySem.boot_len (pa_cons (pe_dget (units1 hr) (pv 1) pe_str (fun _ _ => rfl)) pa_nil)) pa_nil))) (fun _ _ => rfl)) (pe_call G__law_take hr (by rfl) L.m__law_take L.F__law_take.kp L.b__law_take .nil pass0 (pa_cons (pv 0) (pa_cons pe_int pa_nil)))))), ?_⟩
  refine ⟨_, rfl, b, _, _, rfl, hB, (by decide), (by decide), (by decide), (by omega), (by decide), fun r1 H1 u0 u1 B1 k1 => ?_⟩
  replace B1 := bx1 B1
  have hW1 := hW.keep k1 nD nl
  refine ⟨_, _, rfl, rfl, _, rfl, ite2 (fun cw => ?_) (fun cw => ?_)⟩
  · obtain ⟨w1, w2, w3, w4, w5, w6⟩ := id hW1
    refine ⟨_, rfl, D, .ref l, rfl, DGet.k (k := .inr "near") w1, ?_⟩
    refine ⟨_, rfl, _, rfl, D, .ref l, rfl, DGet.k (k := .inr "near") w1, ?_⟩
    refine ⟨l, _, rfl, .inl (SqL.of w2), ?_⟩
    have e7 : (10000000 : Int) ^ 1 = 10000000 := by decide
    have el : ((List.map V.int ns).length : Int) = (ns.length : Int) := by rw [List.length_map]
    rw [el]
    refine ⟨b, _, _, rfl, B1, (by omega), (by rw [e7]; omega), (by omega), (by omega), (by decide), fun r2 H2 v0 v1 B2 k2 => ?_⟩
    have w2' := k2 _ _ w2 nl
    obtain ⟨n, hn⟩ : ∃ n, ns[r2.toNat]? = some n := ⟨_, List.getElem?_eq_getElem (by omega)⟩
    have := w5 n (List.mem_of_getElem? hn)
    refine ⟨l, _, _, _, rfl, rfl, SqL.of w2', ?_, q n H2 this.1 this.2 ((bx1 B2).mono (by omega)) (k1.trans k2)⟩
    have := atI_nat (xs := ns.map V.int) (j := r2.toNat) (v := V.int n) (by rw [List.getElem?_map, hn]; rfl)
    rwa [Int.toNat_of_nonneg v0] at this
  · refine ⟨_, rfl, b, _, _, rfl, B1, (by decide), (by decide), (by decide), (by omega), (by decide), fun r2 H2 v0 v1 B2 k2 => ?_⟩
    exact q _ _ v0 (by omega) ((bx1 B2).mono (by omega)) (k1.trans k2)
/-- a deed of the world -/
structure DdAt (K : PySem.W.Frag) (b : Addr) (H : Hp) (sc tl : Nat) (v : V) (ds : List PyData) : Prop where
  dp : Dp K (off b H) v (.tuple ds)
  ok : deedL sc tl ds = true
  pt : ∀ d ∈ ds, PtOk 0 d
  le : 3 ≤ ds.length
  ge : ds.length ≤ 6
theorem dd_way {K : PySem.W.Frag} {b : Addr} {H : Hp} {sc tl : Nat} {v : V} {op way : Str} {cs : List Int} (h : ∀ c ∈ cs, 0 ≤ c ∧ c ≤ 7) (l1 : 1 ≤ cs.length) (l4 : cs.length ≤ 4) (n : op ≠ "put") (m : manyV op = .int (cs.length : Int)) (w : way ∈ WL) (go : PtOk 0 (.str op))
    (d : Dp K (off b H) v (.tuple (.str op :: cs.map PyData.int ++ [.str way]))) : DdAt K b H sc tl v (.str op :: (cs.map PyData.int ++ [.str way])) := by
  refine ⟨d, deed_way h l1 n m w, fun d hd => ?_, ?_, ?_⟩
  · rcases List.mem_cons.mp hd with rfl | hd
    · exact go
    rcases List.mem_append.mp hd with hd | hd
    · obtain ⟨c, hc, rfl⟩ := List.mem_map.mp hd
      have := h c hc
      exact PtOk.int (by decide) (by omega) (by omega)
    · rw [List.mem_singleton.mp hd]
      simp only [WL, List.mem_cons, List.not_mem_nil, or_false] at w
      rcases w with rfl | rfl | rfl | rfl <;> exact PtOk.lit
  · rw [List.length_cons, List.length_append, List.length_map, List.length_singleton]
    omega
  · rw [List.length_cons, List.length_append, List.length_map, List.length_singleton]
    omega
def spDd (K : PySem.W.Frag) : Sp := fun vs H Q _ => ∃ (b D l : Addr) (sc tl : Nat) (ns : List Int) (c : Int), vs = [.ref b, .ref D] ∧ WdAt H D l sc tl ns ∧ D ≠ b ∧ l ≠ b ∧ BoxAt c H b ∧ c ≤ 800000000 ∧
  ∀ (v : V) (ds : List PyData) (H' : Hp), DdAt K b H' sc tl v ds → BoxAt (c + 30) H' b → Keep b H H' → Q v H'
theorem ok__law_deed (B : Bl mg) (L : LL K mg C za zl t22 fW DC w) : FnOk P w K mg base CX0 4 (za 11) (zl 11) ["_law_box_here", "_law_w"] (spDd K) := by
  have G__law_take : FnOk P w K mg base CX0 3 (za 5) (zl 5) ["_law_box_here", "_law_size"] (spTake 1) := (ok_take L.F__law_take L.b__law_take L.m__law_take B 1).mono (by decide)
  have G__law_cell : FnOk P w K mg base CX0 3 (za 10) (zl 10) ["_law_box_here", "_law_w"] spCell := (ok__law_cell B L).mono (by decide)
  have G__law_word : FnOk P w K mg base CX0 3 (za 8) (zl 8) ["_law_box_here", "_law_scale", "_law_tail"] spWord := (ok__law_word B L).mono (by decide)
  refine L.F__law_deed.ok sc__law_deed (fun vs H Q E h => ?_) (fun cdv A outer s H vs Q E hr h => ?_)
  · obtain ⟨b, D, l, sc, tl, ns, c, rfl, _⟩ := h
    rfl
  obtain ⟨b, D, l, sc, tl, ns, c, rfl, hW, nD, nl, hB, hc, q⟩ := h
  refine ⟨_, (pss_cons (ps_par (by rfl) sc__law_deed.nd (i := 2) (j := 3) rfl rfl (by decide) rfl rfl (pa_cons (pe_call G__law_take hr (by rfl) L.m__law_take L.F__law_take.kp L.b__law_take .nil pass0 (pa_cons (pv 0) (pa_cons pe_int pa_nil))) (pa_cons (pe_ix ix_list (pe_lst (pa_cons pe_str (pa_cons pe_str (pa_cons pe_str (pa_cons pe_str pa_nil))))) (pe_call G__law_take hr (by rfl) L.m__law_take L.F__law_take.kp L.b__law_take .nil pass0 (pa_cons (pv 0) (pa_cons pe_int pa_nil))) (fun _ _ => rfl)) pa_nil)) (by rfl))
    (pss_cons (ps_if (pt_cmpR op_lt (pv 2) pe_int (nomark _)) (pss_one (ps_ret (pe_tup (pa_cons pe_str (pa_cons (pe_call G__law_cell hr (by rfl) L.m__law_cell L.F__law_cell.kp L.b__law_cell .nil pass0 (pa_cons (pv 0) (pa_cons (pv 1) pa_nil))) (pa_cons (pe_call G__law_word hr (by rfl) L.m__law_word L.F__law_word.kp L.b__law_word .nil pass0 (pa_cons (pv 0) (pa_cons (pe_dget (units1 hr) (pv 1) pe_str (fun _ _ => rfl)) (pa_cons (pe_dget (units1 hr) (pv 1) pe_str (fun _ _ => rfl)) pa_nil)))) pa_nil)))))) pss_nil)
    (pss_cons (ps_set (i := 4) sc__law_deed.nd rfl (.inl rfl) (pe_callTy call_tuple_of (by rfl) B.tuple PyProof.Rows.boot_tuple (pa_cons (pe_lc (own := [("_law_turn", 5)]) (by rfl) sc__law_deed.nd (pi_range1 (by rfl) B.range (pa_cons pe_int pa_nil)) (blkOk_by (own := [("_law_turn", 5)]) (N := ["_law_box_here", "_law_w", "_law_op", "_law_mode", "_law_some", "_law_turn"]) (sc := defScope s__law_deed) (by decide +kernel)) (fun _ _ _ _ _ => pg_name (i := 5) sc__law_deed.nd rfl (Or.inl rfl)) (fun _ _ _ _ _ => pts_nil) (fun _ _ _ _ _ => (pe_call G__law_cell hr (by rfl) L.m__law_cell L.F__law_cell.kp L.b__law_cell .nil pass0 (pa_cons (pv 0) (pa_cons (pv 1) pa_nil))))) pa_nil)))
    (pss_cons (ps_if (pt_cmpR op_eq (pv 2) pe_int (nomark _)) (pss_one (ps_ret (pe_op op_catA (pe_op op_catA (pe_tup (pa_cons pe_str pa_nil)) (pv 4)) (pe_tup (pa_cons (pv 3) pa_nil))))) pss_nil)
    (pss_one (ps_ret (pe_op op_catA (pe_op op_catA (pe_tup (pa_cons (pe_ix ix_list (pe_lst (pa_cons pe_str (pa_cons pe_str (pa_cons pe_str (pa_cons pe_str (pa_cons pe_str pa_nil)))))) (pe_op op_sub (pv 2) pe_int) (fun _ _ => rfl)) pa_nil)) (pe_slice sl_tupA (pv 4) po_none (po_some pe_int))) (pe_tup (pa_cons (pv 3) pa_nil))))))))), ?_⟩
  obtain ⟨w1, w2, w3, w4, w5, h1, h2, h3, h4⟩ := id hW
  refine ⟨_, rfl, b, _, _, rfl, hB, (by decide), (by decide), (by decide), (by omega), (by decide), fun r1 H1 u0 u1 B1 k1 => ?_⟩
  replace B1 := bx1 B1
  refine ⟨(by show 4 ≤ sizeLine; decide), fun lm nm => ?_⟩
  have nmb : lm ≠ b := (B1.ne nm).symm
  refine ⟨_, rfl, b, _, _, rfl, B1.same (same_upd nm), (by decide), (by decide), (by decide), (by omega), (by decide), fun r2 H2 v0 v1 B2 k2 => ?_⟩
  replace B2 := bx1 B2
  obtain ⟨way, hway, hwW⟩ : ∃ way : Str, atI ([.str "near", .str "cut", .str "up", .str "down"] : List V) r2 = some (.str way) ∧ way ∈ WL := by
    have c4 : r2 = 0 ∨ r2 = 1 ∨ r2 = 2 ∨ r2 = 3 := by omega
    rcases c4 with z | z | z | z <;> subst z
    · exact ⟨"near", rfl, by decide⟩
    · exact ⟨"cut", rfl, by decide⟩
    · exact ⟨"up", rfl, by decide⟩
    · exact ⟨"down", rfl, by decide⟩
  refine ⟨lm, _, _, _, rfl, rfl, SqL.of (k2 _ _ upd_same nmb), hway, ?_⟩
  refine ⟨_, _, rfl, ?_⟩
  try simp only [L2.start, List.map_cons, List.map_nil, List.length_cons, List.length_nil, List.replicate_succ, List.replicate_zero, List.cons_append, List.nil_append, List.set_cons_succ, List.set_cons_zero, Nat.reduceAdd, Nat.reduceSub, Nat.zero_add]
  have kk2 : Keep b H H2 := k1.trans ((Keep.new nm).trans k2)
  have hW2 := hW.keep kk2 nD nl
  have p33 : (2 : Int) ^ (1 + sc + tl) ≤ 2 ^ 33 := GM.pow_le' (by omega)
  refine ⟨_, rfl, _, _, rfl, rfl, _, rfl, ite2 (fun cw => ?_) (fun cw => ?_)⟩
  · refine ⟨_, rfl, _, rfl, b, D, l, sc, tl, ns, _, rfl, hW2, nD, nl, B2, by omega, fun r3 H3 x0 x1 B3 k3 => ?_⟩
    have hW3 := hW2.keep k3 nD nl
    refine ⟨_, rfl, _, rfl, D, _, rfl, DGet.k (k := .inr "scale") hW3.1, _, rfl, D, _, rfl, DGet.k (k := .inr "tail") hW3.1, b, sc, tl, _, rfl, h1, h2, h3, h4, B3, by omega, fun r4 H4 y0 y1 B4 k4 => ?_⟩
    refine ⟨(by show 3 ≤ sizeLine; decide), fun p np => ?_⟩
    refine q _ [.str "put", .int r3, .int r4] _ ⟨.tup (SqT.of (off_at B4.some np)) (.cons (.str _) (.cons (.int _) (.cons (.int _) .nil))), deed_put x0 x1 y0 y1, fun d hd => ?_, Nat.le_refl 3, (by decide : 3 ≤ 6)⟩ ((B4.same (same_upd np)).mono (by omega)) (((kk2.trans k3).trans k4).trans (Keep.new np))
    rcases List.mem_cons.mp hd with rfl | hd
    · exact PtOk.lit
    rcases List.mem_cons.mp hd with rfl | hd
    · exact PtOk.int (by decide) (by omega) (by omega)
    rw [List.mem_singleton.mp hd]
    exact PtOk.int (by decide) (by omega) (by omega)
  try simp only [L2.start, List.map_cons, List.map_nil, List.length_cons, List.length_nil, List.replicate_succ, List.replicate_zero, List.cons_append, List.nil_append, List.set_cons_succ, List.set_cons_zero, Nat.reduceAdd, Nat.reduceSub, Nat.zero_add]
  refine ⟨_, rfl, by decide, by decide, fun V1 nV => ?_⟩
  have nVb : V1 ≠ b := (B2.ne nV).symm
  refine lc_range (n := 4) (fun i H9 => ∃ us : List Int, us.length = i ∧ (∀ u ∈ us, 0 ≤ u ∧ u ≤ 7) ∧ Keep b H2 H9 ∧ BoxAt (c + 2 + 2 * i) H9 b ∧ H9 V1 = some (.lst (us.map V.int))) ⟨[], rfl, (fun _ z => nomatch z), Keep.new nV, (B2.same (same_upd nV)).mono (by omega), upd_same⟩ ?_ ?_
  · rintro i H9 hi ⟨us, lu, hu, k9, B9, e9⟩
    dsimp only [gName]
    refine ⟨rfl, yesT ?_⟩
    try simp only [L2.start, List.map_cons, List.map_nil, List.length_cons, List.length_nil, List.replicate_succ, List.replicate_zero, List.cons_append, List.nil_append, List.set_cons_succ, List.set_cons_zero, Nat.reduceAdd, Nat.reduceSub, Nat.zero_add]
    refine ⟨_, rfl, _, rfl, b, D, l, sc, tl, ns, _, rfl, hW2.keep k9 nD nl, nD, nl, B9, by omega, fun r3 H3 x0 x1 B3 k3 => ?_⟩
    refine ⟨_, k3 _ _ e9 nVb, by rw [List.length_map, lu]; exact big_lt (by omega), us ++ [r3], by rw [List.length_append, lu]; rfl, fun u hu' => ?_, fun y u e n => ?_, ?_, by rw [upd_same, List.map_append]; rfl⟩
    · rcases List.mem_append.mp hu' with z | z
      · exact hu u z
      · rw [List.mem_singleton.mp z]
        exact ⟨x0, x1⟩
    · rw [upd_ne (ne_of_none e nV)]
      exact k3 _ _ (k9 _ _ e n) n
    · exact (B3.at (upd_ne nVb.symm)).mono (by omega)
  rintro HD ⟨us, lu, hu, kD, BD, eV⟩
  dsimp only [gName]
  refine ⟨V1, _, rfl, .inl ⟨SqL.of eV, fun lt nt => ?_⟩⟩
  have nt1 : lt ≠ b := (BD.ne nt).symm
  have st := same_upd (o := .tup (us.map V.int)) nt
  have BT := BD.same st
  have eT : (upd HD lt (.tup (us.map V.int))) lt = some (.tup (us.map V.int)) := upd_same
  have kT : Keep b H (upd HD lt (.tup (us.map V.int))) := (kk2.trans kD).trans (Keep.new nt)
  generalize upd HD lt (.tup (us.map V.int)) = HT at *
  have dT : Dp K (off b HT) (.ref lt) (.tuple (us.map PyData.int)) := .tup (SqT.of (by rw [off_ne nt1]; exact eT)) (dp_ints us)
  try simp only [L2.start, List.map_cons, List.map_nil, List.length_cons, List.length_nil, List.replicate_succ, List.replicate_zero, List.cons_append, List.nil_append, List.set_cons_succ, List.set_cons_zero, Nat.reduceAdd, Nat.reduceSub, Nat.zero_add]
  refine ⟨_, rfl, rfl, _, rfl, ite2 (fun cj => ?_) (fun cj => ?_)⟩
  · refine ⟨(by show 1 ≤ sizeLine; decide), fun p1 np1 => ?_⟩
    refine ⟨_, rfl, ?_⟩
    have s1 := same_upd (o := .tup [.str "join"]) np1
    have B1' := BT.same s1
    refine catD_ev (b := b) (ds := [.str "join"]) (es := us.map PyData.int) B1'.some (.tup (SqT.of (off_at BT.some np1)) (.cons (.str _) .nil)) (dp_same (off_ofSame s1) dT) (by rw [List.length_map, lu]; decide) fun v5 H5 s5 d5 => ?_
    refine ⟨_, rfl, (by show 1 ≤ sizeLine; decide), fun p2 np2 => ?_⟩
    have s2 := same_upd (o := .tup [.str way]) np2
    have B5 := B1'.same s5
    refine catD_ev (b := b) (ds := .str "join" :: us.map PyData.int) (es := [.str way]) (B5.same s2).some (dp_same (off_ofSame s2) d5) (.tup (SqT.of (off_at B5.some np2)) (.cons (.str _) .nil)) (by rw [List.length_cons, List.length_map, lu]; show 5 + 1 ≤ 1000; decide) fun v6 H6 s6 d6 => ?_
    exact q v6 _ H6 (dd_way hu (by omega) (by omega) (by decide) (by rw [lu]; rfl) hwW PtOk.lit d6) (((B5.same s2).same s6).mono (by omega)) (kT.trans (Keep.ofSame (s1.trans (s5.trans (s2.trans s6)))))
  · have n3 : r1 ≠ 3 := fun z => cj (by rw [z]; exact decide_eq_true rfl)
    have c3 : ¬ r1 < 3 := of_decide_eq_false (Bool.eq_false_iff.mpr cw)
    obtain ⟨op, hop, ho1, ho2, ho3⟩ : ∃ op : Str, atI ([.str "add", .str "take", .str "times", .str "over", .str "add"] : List V) (r1 - 4) = some (.str op) ∧ op ≠ "put" ∧ manyV op = .int 3 ∧ PtOk 0 (.str op) := by
      have c5 : r1 = 4 ∨ r1 = 5 ∨ r1 = 6 ∨ r1 = 7 ∨ r1 = 8 := by omega
      rcases c5 with z | z | z | z | z <;> subst z
      · exact ⟨"add", rfl, by decide, rfl, PtOk.lit⟩
      · exact ⟨"take", rfl, by decide, rfl, PtOk.lit⟩
      · exact ⟨"times", rfl, by decide, rfl, PtOk.lit⟩
      · exact ⟨"over", rfl, by decide, rfl, PtOk.lit⟩
      · exact ⟨"add", rfl, by decide, rfl, PtOk.lit⟩
    refine ⟨(by show 5 ≤ sizeLine; decide), fun lo no => ?_⟩
    refine ⟨_, rfl, _, _, rfl, rfl, ?_⟩
    refine ⟨lo, _, _, _, rfl, rfl, SqL.of upd_same, hop, ?_⟩
    have s0 := same_upd (o := .lst [.str "add", .str "take", .str "times", .str "over", .str "add"]) no
    have B0 := BT.same s0
    refine ⟨(by show 1 ≤ sizeLine; decide), fun p1 np1 => ?_⟩
    refine ⟨_, rfl, ?_⟩
    have s1 := same_upd (o := .tup [.str op]) np1
    have B1' := B0.same s1
    refine ⟨3, rfl, ?_⟩
    have e3 : cutD (us.map PyData.int) none (some 3) = (us.take 3).map PyData.int := by
      match us, lu with
      | [_, _, _, _], _ => rfl
    refine slD_ev (b := b) (ds := us.map PyData.int) B1'.some (dp_same (off_ofSame (s0.trans s1)) dT) fun v4 H4 s4 d4 => ?_
    rw [e3] at d4
    have hu3 : ∀ u ∈ us.take 3, 0 ≤ u ∧ u ≤ 7 := fun u hu' => hu u (List.mem_of_mem_take hu')
    have lu3 : (us.take 3).length = 3 := by rw [List.length_take, lu]; rfl
    generalize us.take 3 = u3 at *
    have B4' := B1'.same s4
    refine catD_ev (b := b) (ds := [.str op]) (es := u3.map PyData.int) B4'.some (dp_same (off_ofSame s4) (.tup (SqT.of (off_at B0.some np1)) (.cons (.str _) .nil))) d4 (by rw [List.length_map, lu3]; show 1 + 3 ≤ 1000; decide) fun v5 H5 s5 d5 => ?_
    refine ⟨_, rfl, (by show 1 ≤ sizeLine; decide), fun p2 np2 => ?_⟩
    have s2 := same_upd (o := .tup [.str way]) np2
    have B5 := B4'.same s5
    refine catD_ev (b := b) (ds := .str op :: u3.map PyData.int) (es := [.str way]) (B5.same s2).some (dp_same (off_ofSame s2) d5) (.tup (SqT.of (off_at B5.some np2)) (.cons (.str _) .nil)) (by rw [List.length_cons, List.length_map, lu3]; show 4 + 1 ≤ 1000; decide) fun v6 H6 s6 d6 => ?_
    exact q v6 _ H6 (dd_way hu3 (by omega) (by omega) ho1 (by rw [lu3]; exact ho2) hwW ho3 d6) (((B5.same s2).same s6).mono (by omega)) (kT.trans (Keep.ofSame (s0.trans (s1.trans (s4.trans (s5.trans (s2.trans s6)))))))
end
section
variable {P : Program} {w : World} {K : PySem.W.Frag} {mg : Str → Option Value} {base : Heap}
variable {C : Addr} {za : Nat → Addr} {zl : Nat → FuncData} {t22 : Tok} {fW : Addr} {DC : Addr}
/-! ### what is due -/
def spIsCell (K : PySem.W.Frag) : Sp := fun vs H Q _ => ∃ (v : V) (d : PyData), vs = [v] ∧ Dp K H v d ∧ Q (.bl (cellD d)) H
theorem ok__law_is_cell (B : Bl mg) (L : LL K mg C za zl t22 fW DC w) : FnOk P w K mg base CX0 1 (za 12) (zl 12) ["_law_thing"] (spIsCell K) := by
  refine L.F__law_is_cell.ok sc__law_is_cell (fun vs H Q E h => ?_) (fun cdv A outer s H vs Q E hr h => ?_)
  · obtain ⟨v, d, rfl, _⟩ := h
    rfl
  obtain ⟨v, d, rfl, hd, q⟩ := h
  refine ⟨_, (pss_one (ps_ret (pe_and (pe_callB call_isi (by rfl) B.isinstance boot_isinstance (pa_cons (pv 0) (pa_cons (pe_bltn (v := .ty "int") (by rfl) B.int PyProof.Rows.boot_int rfl) pa_nil))) (pe_and (pe_not (pe_callB call_isi (by rfl) B.isinstance boot_isinstance (pa_cons (pv 0) (pa_cons (pe_bltn (v := .ty "bool") (by rfl) B.bool PyProof.Rows.boot_bool rfl) pa_nil)))) (pe_one (pe_chain op_le op_le pe_int (pv 0) pe_int)))))), ?_⟩
  cases hd with
  | non => exact ⟨_, rfl, _, _, _, _, _, rfl, .ty _, .base .non, kit_ty (by decide +kernel : kitB "NoneType" "int" = some false), _, rfl, iteF q⟩
  | bl b =>
    refine ⟨_, rfl, _, _, _, _, _, rfl, .ty _, .base (.bl _), kit_ty (by decide +kernel : kitB "bool" "int" = some true), _, rfl, iteT ?_⟩
    exact ⟨_, rfl, _, _, _, _, _, rfl, .ty _, .base (.bl _), kit_ty (by decide +kernel : kitB "bool" "bool" = some true), _, rfl, _, rfl, iteF q⟩
  | str z => exact ⟨_, rfl, _, _, _, _, _, rfl, .ty _, .base (.str _), kit_ty (by decide +kernel : kitB "str" "int" = some false), _, rfl, iteF q⟩
  | lst e _ => exact ⟨_, rfl, _, _, _, _, _, rfl, .ty _, ty_lst e, kit_ty (by decide +kernel : kitB "list" "int" = some false), _, rfl, iteF q⟩
  | tup e _ => exact ⟨_, rfl, _, _, _, _, _, rfl, .ty _, ty_tup e, kit_ty (by decide +kernel : kitB "tuple" "int" = some false), _, rfl, iteF q⟩
  | int z =>
    refine ⟨_, rfl, _, _, _, _, _, rfl, .ty _, .base (.int _), kit_ty (by decide +kernel : kitB "int" "int" = some true), _, rfl, iteT ?_⟩
    refine ⟨_, rfl, _, _, _, _, _, rfl, .ty _, .base (.int _), kit_ty (by decide +kernel : kitB "int" "bool" = some false), _, rfl, _, rfl, iteT ?_⟩
    have e : cellD (.int z) = (decide (0 ≤ z) && decide (z ≤ 7)) := rfl
    rw [e] at q
    refine ⟨_, rfl, _, _, rfl, rfl, _, rfl, ite2 (fun c => ?_) (fun c => ?_)⟩
    · rw [show decide (0 ≤ z) = true from c, Bool.true_and] at q
      exact ⟨_, _, rfl, rfl, q⟩
    · rw [show decide (0 ≤ z) = false from Bool.eq_false_iff.mpr c, Bool.false_and] at q
      exact q
def lawKV : List (Key × V) := [(.inr "add", .int 5), (.inr "take", .int 5), (.inr "times", .int 5), (.inr "over", .int 5), (.inr "join", .int 6)]
def manyL (op : Str) : V := (valV (mergeK [] lawKV) (.inr op)).getD (.int 0)
theorem merge_law : mergeK [] lawKV = lawKV := by decide
theorem many_two (op : Str) : (manyV op = .int 3 ∧ manyL op = .int 5) ∨ (manyV op = .int 4 ∧ manyL op = .int 6) ∨ (manyV op = .non ∧ manyL op = .int 0) := by
  unfold manyL
  rw [merge_law]
  unfold manyV kdV valV cellsKV lawKV
  by_cases h1 : op = "add"
  · subst h1
    exact .inl ⟨rfl, rfl⟩
  by_cases h2 : op = "take"
  · subst h2
    exact .inl ⟨rfl, rfl⟩
  by_cases h3 : op = "times"
  · subst h3
    exact .inl ⟨rfl, rfl⟩
  by_cases h4 : op = "over"
  · subst h4
    exact .inl ⟨rfl, rfl⟩
  by_cases h5 : op = "join"
  · subst h5
    exact .inr (.inl ⟨rfl, rfl⟩)
  refine .inr (.inr ⟨?_, ?_⟩)
  · rw [List.find?_eq_none.mpr]
    · rfl
    · intro kv hk
      simp only [List.mem_cons, List.not_mem_nil, or_false] at hk
      rcases hk with rfl | rfl | rfl | rfl | rfl <;> simp only [decide_eq_true_eq] <;> exact fun z => by first | exact h1 z.symm | exact h2 z.symm | exact h3 z.symm | exact h4 z.symm | exact h5 z.symm
  · rw [List.find?_eq_none.mpr]
    · rfl
    · intro kv hk
      simp only [List.mem_cons, List.not_mem_nil, or_false] at hk
      rcases hk with rfl | rfl | rfl | rfl | rfl <;> simp only [decide_eq_true_eq] <;> exact fun z => by
        injection z with z
        first | exact h1 z.symm | exact h2 z.symm | exact h3 z.symm | exact h4 z.symm | exact h5 z.symm
theorem deed3 {sc tl : Nat} {op : Str} {d1 dz : PyData} {es : List PyData} : deedD sc tl (.tuple (.str op :: d1 :: (es ++ [dz]))) = (cellD d1 && (es.all cellD && (if op = "put" then decide (es.length = 0) && wordD sc tl dz else decide (manyV op = .int ((es.length : Int) + 1)) && wayD dz))) := by
  have el2 : (d1 :: (es ++ [dz])).dropLast = d1 :: es := by rw [← List.cons_append, List.dropLast_concat]
  have ez2 : (d1 :: (es ++ [dz])).getLastD .none = dz := by rw [← List.cons_append, List.getLastD_concat]
  have ll : (d1 :: (es ++ [dz])).length = es.length + 2 := by rw [List.length_cons, List.length_append, List.length_singleton]
  show (decide (2 ≤ (d1 :: (es ++ [dz])).length) && ((d1 :: (es ++ [dz])).dropLast.all cellD && (if op = "put" then decide ((d1 :: (es ++ [dz])).length = 2) && wordD sc tl ((d1 :: (es ++ [dz])).getLastD .none) else decide (manyV op = .int (((d1 :: (es ++ [dz])).length : Int) - 1)) && wayD ((d1 :: (es ++ [dz])).getLastD .none)))) = _
  rw [el2, ez2, ll, decide_eq_true (by omega), Bool.true_and, List.all_cons, Bool.and_assoc]
  rw [show (((es.length + 2 : Nat) : Int) - 1) = (es.length : Int) + 1 by omega, decide_eq_decide.mpr (show es.length + 2 = 2 ↔ es.length = 0 by omega)]
theorem slP_ev {K : PySem.W.Frag} {x : V} {ds : List PyData} {lo hi : Option Int} {H : Hp} {Q : VK} (h1 : Dp K H x (.tuple ds))
    (q : ∀ t us H', Same H H' → SqT K H' t us → DpAll K H' us (cutD ds lo hi) → Q (.ref t) H') : rSlA K x lo hi H Q := by
  cases h1 with
  | @tup a xs _ e1 k1 =>
    have l1 := dpa_len k1
    refine ⟨a, xs, rfl, e1, fun z => ?_, fun _ p np => ?_⟩
    · have : cutD ds lo hi = ds := by
        unfold cutD
        rw [← l1, z.1, z.2, Nat.sub_zero, List.drop_zero, l1, List.take_length]
      refine q a xs H (Same.refl _) e1 ?_
      rw [this]
      exact k1
    · have s := same_upd (o := .tup (cutV xs lo hi)) np
      refine q p _ _ s (SqT.of upd_same) ?_
      unfold cutV cutD
      rw [← l1]
      exact dpa_take _ (dpa_drop _ (dp_sameAll s k1))
theorem cut_mid64 (c d e : PyData) (es : List PyData) : cutD (c :: d :: (es ++ [e])) (some 2) (some (-1)) = es := by
  have ll : (c :: d :: (es ++ [e])).length = es.length + 3 := by rw [List.length_cons, List.length_cons, List.length_append, List.length_singleton]
  unfold cutD
  have e2 : HT.sIx (es.length + 3) 0 (some 2) = 2 := (HT.sIx_nat (es.length + 3) 0 2).trans (by omega)
  have e1 : HT.sIx (es.length + 3) (es.length + 3) (some (-1)) = es.length + 2 := by
    unfold HT.sIx
    dsimp only
    rw [if_pos (by decide)]
    omega
  rw [ll, e1, e2]
  show (es ++ [e]).take (es.length + 2 - 2) = es
  rw [Nat.add_sub_cancel, List.take_left' rfl]
theorem atI_last3 (u v : V) (cs : List V) (z : V) : atI (u :: v :: (cs ++ [z])) (-1) = some z := atI_last (u :: v :: cs) z
def spDue (K : PySem.W.Frag) : Sp := fun vs H Q _ => ∃ (D l : Addr) (sc tl : Nat) (ns : List Int) (v : V) (d : PyData), vs = [.ref D, v] ∧ WdAt H D l sc tl ns ∧ Dp K H v d ∧ d.plain = true ∧ (∀ ds, d = .tuple ds → ds.length ≤ 16000) ∧ ∀ H', Same H H' → Q (.bl (deedD sc tl d)) H'
theorem ok__law_due (B : Bl mg) (L : LL K mg C za zl t22 fW DC w) : FnOk P w K mg base CX0 3 (za 13) (zl 13) ["_law_w", "_law_thing"] (spDue K) := by
  have G__law_is_cell : FnOk P w K mg base CX0 2 (za 12) (zl 12) ["_law_thing"] (spIsCell K) := (ok__law_is_cell B L).mono (by decide)
  refine L.F__law_due.ok sc__law_due (fun vs H Q E h => ?_) (fun cdv A outer s H vs Q E hr h => ?_)
  · obtain ⟨D, l, sc, tl, ns, v, d, rfl, _⟩ := h
    rfl
  obtain ⟨D, l, sc, tl, ns, v, d, rfl, hW, hd, hp, hz, q⟩ := h
  refine ⟨_, (pss_cons (ps_if (PW.pt (pw_or (pt_not (pt_val (pe_callB call_isi (by rfl) B.isinstance boot_isinstance (pa_cons (pv 1) (pa_cons (pe_bltn (v := .ty "tuple") (by rfl) B.tuple PyProof.Rows.boot_tuple rfl) pa_nil))))) (pw_or (pt_cmpR op_lt (pe_callB call_len_seq (by rfl) B.len PySem.boot_len (pa_cons (pv 1) pa_nil)) pe_int (nomark _)) (pw_or (pt_not (pt_val (pe_call G__law_is_cell hr (by rfl) L.m__law_is_cell L.F__law_is_cell.kp L.b__law_is_cell .nil pass0 (pa_cons (pe_ix ix_tup (pv 1) pe_int (fun _ _ => rfl)) pa_nil)))) (pw_or1 (pt_not (pt_val (pe_callB call_isi (by rfl) B.isinstance boot_isinstance (pa_cons (pe_ix ix_tup (pv 1) pe_int (fun _ _ => rfl)) (pa_cons (pe_bltn (v := .ty "str") (by rfl) B.str PyProof.Rows.boot_str rfl) pa_nil)))))))))) (pss_one (ps_ret pe_bl)) pss_nil)
    (pss_cons (ps_if (pt_cmpR op_eq (pe_ix ix_tup (pv 1) pe_int (fun _ _ => rfl)) pe_str (nomark _)) (pss_cons (ps_set (i := 2) sc__law_due.nd rfl (.inl rfl) (pe_ix ix_tup (pv 1) pe_int (fun _ _ => rfl)))
    (pss_cons (ps_if (PW.pt (pw_or (pt_cmpR op_gt (pe_callB call_len_seq (by rfl) B.len PySem.boot_len (pa_cons (pv 1) pa_nil)) pe_int (nomark _)) (pw_or (pt_not (pt_val (pe_callB call_isi (by rfl) B.isinstance boot_isinstance (pa_cons (pv 2) (pa_cons (pe_bltn (v := .ty "int") (by rfl) B.int PyProof.Rows.boot_int rfl) pa_nil))))) (pw_or1 (pt_val (pe_callB call_isi (by rfl) B.isinstance boot_isinstance (pa_cons (pv 2) (pa_cons (pe_bltn (v := .ty "bool") (by rfl) B.bool PyProof.Rows.boot_bool rfl) pa_nil)))))))) (pss_one (ps_ret pe_bl)) pss_nil)
    (pss_one (ps_ret (pe_chain op_le op_lt pe_int (pv 2) (pe_op op_oneShl pe_int (pe_op op_add (pe_op op_add pe_int (pe_dget (units1 hr) (pv 0) pe_str (fun _ _ => rfl))) (pe_dget (units1 hr) (pv 0) pe_str (fun _ _ => rfl))))))))) pss_nil)
    (pss_cons (ps_set (i := 3) sc__law_due.nd rfl (.inl rfl) (pe_dget2 (units1 hr) (pe_disp (pps_cons pe_str pe_int (pps_cons pe_str pe_int (pps_cons pe_str pe_int (pps_cons pe_str pe_int (pps_cons pe_str pe_int pps_nil))))) rfl rfl (by decide) (by decide)) (pe_ix ix_tup (pv 1) pe_int (fun _ _ => rfl)) pe_int ⟨rfl, rfl, rfl, rfl⟩))
    (pss_cons (ps_if (PW.pt (pw_or (pt_cmpR op_ne (pe_callB call_len_seq (by rfl) B.len PySem.boot_len (pa_cons (pv 1) pa_nil)) (pv 3) (nomark _)) (pw_or1 (pt_not (pt_val (pe_callB (cr_all rfl) (by rfl) B.all boot_all (pa_cons (pe_lc (own := [("_law_one", 4)]) (by rfl) sc__law_due.nd (pi_tup (pe_slice sl_tupA (pv 1) (po_some pe_int) (po_some (pe_un un_neg pe_int)))) (blkOk_by (own := [("_law_one", 4)]) (N := ["_law_w", "_law_thing", "_law_word_here", "_law_many", "_law_one"]) (sc := defScope s__law_due) (by decide +kernel)) (fun _ _ _ _ _ => pg_name (i := 4) sc__law_due.nd rfl (Or.inl rfl)) (fun _ _ _ _ _ => pts_nil) (fun _ _ _ _ _ => (pe_call G__law_is_cell hr (by rfl) L.m__law_is_cell L.F__law_is_cell.kp L.b__law_is_cell .nil pass0 (pa_cons (pv 4) pa_nil)))) pa_nil))))))) (pss_one (ps_ret pe_bl)) pss_nil)
    (pss_one (ps_ret (pe_and (pe_callB call_isi (by rfl) B.isinstance boot_isinstance (pa_cons (pe_ix ix_tup (pv 1) (pe_un un_neg pe_int) (fun _ _ => rfl)) (pa_cons (pe_bltn (v := .ty "str") (by rfl) B.str PyProof.Rows.boot_str rfl) pa_nil))) (pe_one (pe_cmpR (op_inDT (units65 hr)) (pe_ix ix_tup (pv 1) (pe_un un_neg pe_int) (fun _ _ => rfl)) (pe_tup (pa_cons pe_str (pa_cons pe_str (pa_cons pe_str (pa_cons pe_str pa_nil))))) (by rfl)))))))))), ?_⟩
  cases hd with
  | non => exact ⟨_, rfl, _, _, _, _, _, rfl, .ty _, .base .non, kit_ty (by decide +kernel : kitB "NoneType" "tuple" = some false), _, rfl, iteT (q H (Same.refl _))⟩
  | bl b => exact ⟨_, rfl, _, _, _, _, _, rfl, .ty _, .base (.bl _), kit_ty (by decide +kernel : kitB "bool" "tuple" = some false), _, rfl, iteT (q H (Same.refl _))⟩
  | int b => exact ⟨_, rfl, _, _, _, _, _, rfl, .ty _, .base (.int _), kit_ty (by decide +kernel : kitB "int" "tuple" = some false), _, rfl, iteT (q H (Same.refl _))⟩
  | str b => exact ⟨_, rfl, _, _, _, _, _, rfl, .ty _, .base (.str _), kit_ty (by decide +kernel : kitB "str" "tuple" = some false), _, rfl, iteT (q H (Same.refl _))⟩
  | lst e _ => exact ⟨_, rfl, _, _, _, _, _, rfl, .ty _, ty_lst e, kit_ty (by decide +kernel : kitB "list" "tuple" = some false), _, rfl, iteT (q H (Same.refl _))⟩
  | @tup a xs ds e ha =>
    have el : xs.length = ds.length := dpa_len ha
    have el16 := hz ds rfl
    refine ⟨_, rfl, _, _, _, _, _, rfl, .ty _, ty_tup e, kit_ty (by decide +kernel : kitB "tuple" "tuple" = some true), _, rfl, iteF ?_⟩
    refine ⟨_, rfl, a, xs, rfl, .inr e, _, _, rfl, rfl, _, rfl, ite2 (fun c => ?_) (fun c => ?_)⟩
    · have c' : (xs.length : Int) < 3 := of_decide_eq_true c
      have := q H (Same.refl _)
      rw [short_deed (by omega)] at this
      exact this
    have c' : ¬ (xs.length : Int) < 3 := of_decide_eq_false (Bool.eq_false_iff.mpr c)
    obtain ⟨v0, v1, cs, vz, d0, d1, es, dz, rfl, rfl, h0, h1, hcs, hzz⟩ := dpa_ends3 ha (by omega)
    refine ⟨_, rfl, a, _, _, _, rfl, rfl, e, atI_nat (j := 1) rfl, v1, d1, rfl, h1, _, rfl, ?_⟩
    cases c1 : cellD d1 with
    | false =>
      have q := q H (Same.refl _)
      rw [show deedD sc tl (.tuple (d0 :: d1 :: (es ++ [dz]))) = false by
        cases d0 with
        | str op => rw [deed3, c1]; rfl
        | _ => rfl] at q
      exact iteT q
    | true =>
      refine iteF ?_
      cases h0 with
      | non => exact ⟨_, rfl, a, _, _, _, rfl, rfl, e, atI_nat (j := 0) rfl, _, _, _, _, _, rfl, .ty _, .base .non, kit_ty (by decide +kernel : kitB "NoneType" "str" = some false), _, rfl, iteT (q H (Same.refl _))⟩
      | bl b => exact ⟨_, rfl, a, _, _, _, rfl, rfl, e, atI_nat (j := 0) rfl, _, _, _, _, _, rfl, .ty _, .base (.bl _), kit_ty (by decide +kernel : kitB "bool" "str" = some false), _, rfl, iteT (q H (Same.refl _))⟩
      | int b => exact ⟨_, rfl, a, _, _, _, rfl, rfl, e, atI_nat (j := 0) rfl, _, _, _, _, _, rfl, .ty _, .base (.int _), kit_ty (by decide +kernel : kitB "int" "str" = some false), _, rfl, iteT (q H (Same.refl _))⟩
      | lst e' _ => exact ⟨_, rfl, a, _, _, _, rfl, rfl, e, atI_nat (j := 0) rfl, _, _, _, _, _, rfl, .ty _, ty_lst e', kit_ty (by decide +kernel : kitB "list" "str" = some false), _, rfl, iteT (q H (Same.refl _))⟩
      | tup e' _ => exact ⟨_, rfl, a, _, _, _, rfl, rfl, e, atI_nat (j := 0) rfl, _, _, _, _, _, rfl, .ty _, ty_tup e', kit_ty (by decide +kernel : kitB "tuple" "str" = some false), _, rfl, iteT (q H (Same.refl _))⟩
      | str op =>
        refine ⟨_, rfl, a, _, _, _, rfl, rfl, e, atI_nat (j := 0) rfl, _, _, _, _, _, rfl, .ty _, .base (.str _), kit_ty (by decide +kernel : kitB "str" "str" = some true), _, rfl, iteF ?_⟩
        rw [deed3, c1, Bool.true_and] at q
        try simp only [L2.start, List.map_cons, List.map_nil, List.length_cons, List.length_nil, List.replicate_succ, List.replicate_zero, List.cons_append, List.nil_append, List.set_cons_succ, List.set_cons_zero, Nat.reduceAdd, Nat.reduceSub, Nat.zero_add]
        refine ⟨_, rfl, a, _, _, _, rfl, rfl, e, atI_nat (j := 0) rfl, rfl, _, rfl, ite2 (fun c => ?_) (fun c => ?_)⟩
        · have cp : op = "put" := by
            have := of_decide_eq_true c
            injection this
          rw [if_pos cp] at q
          cases hcs with
          | @cons v2 cs2 d2 es2 h2 hr =>
            refine ⟨_, rfl, a, _, _, v2, rfl, rfl, e, atI_nat (j := 2) rfl, ?_⟩
            try simp only [L2.start, List.map_cons, List.map_nil, List.length_cons, List.length_nil, List.replicate_succ, List.replicate_zero, List.cons_append, List.nil_append, List.set_cons_succ, List.set_cons_zero, Nat.reduceAdd, Nat.reduceSub, Nat.zero_add]
            refine ⟨_, rfl, a, _, rfl, .inr e, _, _, rfl, rfl, _, rfl, ite2 (fun c3 => ?_) (fun c3 => ?_)⟩
            · have q := q H (Same.refl _)
              rw [show (decide ((d2 :: es2).length = 0)) = false from decide_eq_false (by rw [List.length_cons]; omega), Bool.false_and, Bool.and_false] at q
              exact q
            · exact absurd (decide_eq_true (by simp only [List.length_cons, List.length_append]; omega)) c3
          | nil =>
            refine ⟨_, rfl, a, _, _, vz, rfl, rfl, e, atI_nat (j := 2) rfl, ?_⟩
            try simp only [L2.start, List.map_cons, List.map_nil, List.length_cons, List.length_nil, List.replicate_succ, List.replicate_zero, List.cons_append, List.nil_append, List.set_cons_succ, List.set_cons_zero, Nat.reduceAdd, Nat.reduceSub, Nat.zero_add]
            refine ⟨_, rfl, a, _, rfl, .inr e, _, _, rfl, rfl, _, rfl, ite2 (fun c3 => absurd (of_decide_eq_true c3) (by simp only [List.length_cons, List.nil_append, List.length_nil]; omega)) (fun c3 => ?_)⟩
            cases hzz with
            | non => exact ⟨_, rfl, _, _, _, _, _, rfl, .ty _, .base .non, kit_ty (by decide +kernel : kitB "NoneType" "int" = some false), _, rfl, iteT (q H (Same.refl _))⟩
            | str x => exact ⟨_, rfl, _, _, _, _, _, rfl, .ty _, .base (.str _), kit_ty (by decide +kernel : kitB "str" "int" = some false), _, rfl, iteT (q H (Same.refl _))⟩
            | lst e' _ => exact ⟨_, rfl, _, _, _, _, _, rfl, .ty _, ty_lst e', kit_ty (by decide +kernel : kitB "list" "int" = some false), _, rfl, iteT (q H (Same.refl _))⟩
            | tup e' _ => exact ⟨_, rfl, _, _, _, _, _, rfl, .ty _, ty_tup e', kit_ty (by decide +kernel : kitB "tuple" "int" = some false), _, rfl, iteT (q H (Same.refl _))⟩
            | bl x =>
              refine ⟨_, rfl, _, _, _, _, _, rfl, .ty _, .base (.bl _), kit_ty (by decide +kernel : kitB "bool" "int" = some true), _, rfl, iteF ?_⟩
              exact ⟨_, rfl, _, _, _, _, _, rfl, .ty _, .base (.bl _), kit_ty (by decide +kernel : kitB "bool" "bool" = some true), _, rfl, iteT (q H (Same.refl _))⟩
            | int z =>
              refine ⟨_, rfl, _, _, _, _, _, rfl, .ty _, .base (.int _), kit_ty (by decide +kernel : kitB "int" "int" = some true), _, rfl, iteF ?_⟩
              refine ⟨_, rfl, _, _, _, _, _, rfl, .ty _, .base (.int _), kit_ty (by decide +kernel : kitB "int" "bool" = some false), _, rfl, iteF ?_⟩
              try simp only [L2.start, List.map_cons, List.map_nil, List.length_cons, List.length_nil, List.replicate_succ, List.replicate_zero, List.cons_append, List.nil_append, List.set_cons_succ, List.set_cons_zero, Nat.reduceAdd, Nat.reduceSub, Nat.zero_add]
              have q := q H (Same.refl _)
              rw [show (([] : List PyData).all cellD && (decide (([] : List PyData).length = 0) && wordD sc tl (.int z))) = (decide (0 ≤ z) && decide (z ≤ 2 ^ (1 + sc + tl) - 1)) from rfl] at q
              obtain ⟨_, _, _, _, _, g1, g2, g3, g4⟩ := id hW
              refine ⟨_, rfl, _, _, rfl, rfl, _, rfl, ite2 (fun c => ?_) (fun c => ?_)⟩
              · rw [show decide (0 ≤ z) = true from c, Bool.true_and] at q
                refine ⟨_, rfl, D, _, rfl, DGet.k (k := .inr "scale") hW.1, _, _, rfl, rfl, _, rfl, D, _, rfl, DGet.k (k := .inr "tail") hW.1, _, _, rfl, rfl, 1 + sc + tl, rfl, congrArg V.int (by omega), by omega, _, _, rfl, rfl, ?_⟩
                have ez : decide (z < 2 ^ (1 + sc + tl)) = decide (z ≤ 2 ^ (1 + sc + tl) - 1) := decide_eq_decide.mpr (by omega)
                show Q (.bl (decide (z < 2 ^ (1 + sc + tl)))) H
                rw [ez]
                exact q
              · rw [show decide (0 ≤ z) = false from Bool.eq_false_iff.mpr c, Bool.false_and] at q
                exact q
        · have cp : op ≠ "put" := fun z => c (decide_eq_true (congrArg V.str z))
          rw [if_neg cp] at q
          refine fun D2 nD2 => ⟨upd_same, lawKV, rfl, (by decide), ?_⟩
          rw [upd_upd]
          have sD2 := same_upd (o := .dK (mergeK [] lawKV)) nD2
          have eD2 : (upd H D2 (.dK (mergeK [] lawKV))) D2 = some (.dK (mergeK [] lawKV)) := upd_same
          generalize upd H D2 (.dK (mergeK [] lawKV)) = HD at *
          have e2 := Same.seqT sD2 e
          refine ⟨D2, rfl, .inl ⟨_, .inl eD2⟩, _, rfl, a, _, _, _, rfl, rfl, e2, atI_nat (j := 0) rfl, _, DGet.k (k := .inr op) eD2, ?_⟩
          rw [show (valV (mergeK [] lawKV) (.inr op)).getD (.int 0) = manyL op from rfl]
          try simp only [L2.start, List.map_cons, List.map_nil, List.length_cons, List.length_nil, List.replicate_succ, List.replicate_zero, List.cons_append, List.nil_append, List.set_cons_succ, List.set_cons_zero, Nat.reduceAdd, Nat.reduceSub, Nat.zero_add]
          have hm2 := many_two op
          obtain ⟨m, hm⟩ : ∃ m, manyL op = .int m := by
            rcases hm2 with ⟨_, z⟩ | ⟨_, z⟩ | ⟨_, z⟩ <;> exact ⟨_, z⟩
          rw [hm]
          have lc := dpa_len hcs
          have hn : (((V.str op :: v1 :: (cs ++ [vz])).length : Nat) : Int) = (es.length : Int) + 3 := by
            rw [List.length_cons, List.length_cons, List.length_append, List.length_singleton]
            omega
          have hde : decide (manyV op = .int ((es.length : Int) + 1)) = decide ((es.length : Int) + 3 = m) := by
            rcases hm2 with ⟨x, z⟩ | ⟨x, z⟩ | ⟨x, z⟩
            · rw [hm] at z
              injection z with z
              subst z
              rw [x]
              exact decide_eq_decide.mpr ⟨fun h => by injection h with h; omega, fun h => congrArg V.int (by omega)⟩
            · rw [hm] at z
              injection z with z
              subst z
              rw [x]
              exact decide_eq_decide.mpr ⟨fun h => by injection h with h; omega, fun h => congrArg V.int (by omega)⟩
            · rw [hm] at z
              injection z with z
              subst z
              rw [x]
              exact decide_eq_decide.mpr ⟨fun h => (by cases h), fun h => by omega⟩
          have q0 := q
          have q := q HD sD2
          rw [hde] at q
          refine ⟨_, rfl, a, _, rfl, .inr e2, _, rfl, rfl, _, rfl, ?_⟩
          rw [hn]
          have hdd : decide (V.int ((es.length : Int) + 3) = V.int m) = decide ((es.length : Int) + 3 = m) := decide_eq_decide.mpr ⟨fun h => by injection h, fun h => congrArg V.int h⟩
          rw [hdd]
          cases c2 : decide ((es.length : Int) + 3 = m) with
          | false =>
            rw [c2, Bool.false_and, Bool.and_false] at q
            exact iteT q
          | true =>
            rw [c2, Bool.true_and] at q
            refine iteF ?_
            try simp only [L2.start, List.map_cons, List.map_nil, List.length_cons, List.length_nil, List.replicate_succ, List.replicate_zero, List.cons_append, List.nil_append, List.set_cons_succ, List.set_cons_zero, Nat.reduceAdd, Nat.reduceSub, Nat.zero_add]
            refine ⟨_, rfl, 2, rfl, _, rfl, -1, rfl, ?_⟩
            refine slP_ev (ds := .str op :: d1 :: (es ++ [dz])) (.tup e2 (dp_sameAll sD2 ha)) fun t us H5 s5 e5 k5 => ?_
            rw [cut_mid64] at k5
            have sH5 := sD2.trans s5
            have lu := dpa_len k5
            refine ⟨t, rfl, ⟨_, e5⟩, fun D3 nD3 => ?_⟩
            refine lc_tup (K := K) (a := t) (xs := us) (fun i H6 => Same H5 H6 ∧ H6 D3 = some (.lst (((es.map cellD).take i).map V.bl))) ⟨same_upd nD3, upd_same⟩ (fun i H6 _ ⟨s6, _⟩ => Same.seqT s6 e5) ?_ ?_
            · rintro j z H6 hj ⟨s6, eD⟩
              obtain ⟨e', he', hd'⟩ := dpa_get k5 hj
              have hj' : j < es.length := (List.getElem?_eq_some_iff.mp he').1
              refine ⟨rfl, yesT ?_⟩
              refine ⟨_, rfl, z, e', rfl, dp_same s6 hd', ?_⟩
              refine ⟨_, eD, ?_, ⟨fun y o e => ?_, ?_⟩⟩
              · rw [List.length_map, List.length_take]
                rw [List.length_cons, List.length_cons, List.length_append] at el16
                exact big_lt (by omega)
              · rw [upd_ne (ne_of_none e nD3)]
                exact s6 _ _ e
              · rw [upd_same, List.take_add_one, List.getElem?_map, he', List.map_append]
                rfl
            rintro H6 ⟨s6, eD⟩
            rw [List.take_of_length_le (by rw [List.length_map]; omega)] at eD
            refine ⟨D3, _, rfl, SqL.of eD, ?_⟩
            rw [List.all_map, show (id ∘ cellD) = cellD from rfl]
            have sH6 := sH5.trans s6
            have e6 := Same.seqT sH6 e
            have q := q0 H6 sH6
            rw [hde, c2, Bool.true_and] at q
            refine ⟨_, rfl, ?_⟩
            cases ca : es.all cellD with
            | false =>
              rw [ca, Bool.false_and] at q
              exact iteT q
            | true =>
              rw [ca, Bool.true_and] at q
              refine iteF ?_
              try simp only [L2.start, List.map_cons, List.map_nil, List.length_cons, List.length_nil, List.replicate_succ, List.replicate_zero, List.cons_append, List.nil_append, List.set_cons_succ, List.set_cons_zero, Nat.reduceAdd, Nat.reduceSub, Nat.zero_add]
              cases hzz with
              | non => exact ⟨_, rfl, _, rfl, a, _, _, _, rfl, rfl, e6, atI_last3 _ _ _ _, _, _, _, _, _, rfl, .ty _, .base .non, kit_ty (by decide +kernel : kitB "NoneType" "str" = some false), _, rfl, iteF q⟩
              | bl x => exact ⟨_, rfl, _, rfl, a, _, _, _, rfl, rfl, e6, atI_last3 _ _ _ _, _, _, _, _, _, rfl, .ty _, .base (.bl _), kit_ty (by decide +kernel : kitB "bool" "str" = some false), _, rfl, iteF q⟩
              | int x => exact ⟨_, rfl, _, rfl, a, _, _, _, rfl, rfl, e6, atI_last3 _ _ _ _, _, _, _, _, _, rfl, .ty _, .base (.int _), kit_ty (by decide +kernel : kitB "int" "str" = some false), _, rfl, iteF q⟩
              | lst e' _ => exact ⟨_, rfl, _, rfl, a, _, _, _, rfl, rfl, e6, atI_last3 _ _ _ _, _, _, _, _, _, rfl, .ty _, ty_lst (sq_same sH6 e'), kit_ty (by decide +kernel : kitB "list" "str" = some false), _, rfl, iteF q⟩
              | tup e' _ => exact ⟨_, rfl, _, rfl, a, _, _, _, rfl, rfl, e6, atI_last3 _ _ _ _, _, _, _, _, _, rfl, .ty _, ty_tup (Same.seqT sH6 e'), kit_ty (by decide +kernel : kitB "tuple" "str" = some false), _, rfl, iteF q⟩
              | str x =>
                refine ⟨_, rfl, _, rfl, a, _, _, _, rfl, rfl, e6, atI_last3 _ _ _ _, _, _, _, _, _, rfl, .ty _, .base (.str _), kit_ty (by decide +kernel : kitB "str" "str" = some true), _, rfl, iteT ?_⟩
                refine ⟨_, rfl, _, rfl, a, _, _, _, rfl, rfl, e6, atI_last3 _ _ _ _, (by show 4 ≤ sizeLine; decide), fun tw nw => ?_⟩
                refine ⟨.str x, WL.map PyData.str, .str x, .tup (SqT.of upd_same) (.cons (.str _) (.cons (.str _) (.cons (.str _) (.cons (.str _) .nil)))), rfl, rfl, by decide, ?_⟩
                rw [way_any]
                have := q0 _ (sH6.trans (same_upd (o := .tup [.str "near", .str "cut", .str "up", .str "down"]) nw))
                rw [hde, c2, Bool.true_and, ca, Bool.true_and] at this
                exact this
end
section
variable {P : Program} {w : World} {K : PySem.W.Frag} {mg : Str → Option Value} {base : Heap}
variable {C : Addr} {za : Nat → Addr} {zl : Nat → FuncData} {t22 : Tok} {fW : Addr} {DC : Addr}
/-! ### a part bent -/
theorem PtOk.up {k : Nat} {d : PyData} (h : PtOk k d) (hk : k ≤ 1) : PtOk (k + 1) d := by
  have l : lim k ≤ lim (k + 1) ∧ nnL k ≤ nnL (k + 1) := by
    match k, hk with
    | 0, _ => decide
    | 1, _ => decide
  exact ⟨h.sh.mono l.1 (by omega), fun n => (h.nt n).mono l.2 (by omega), fun i e => by have := h.it i e; omega⟩
theorem PtOk.wrap {k : Nat} {d : PyData} (h : PtOk k d) (hk : k ≤ 1) : Shw (nnL (k + 1)) (k + 1) (.list [d]) ∧ Shw (nnL (k + 1)) (k + 1) (.tuple [d]) := by
  have l : lim k + 1 ≤ nnL (k + 1) := by
    match k, hk with
    | 0, _ => decide
    | 1, _ => decide
  have a : ShwA (lim k + 1 + 0) k [d] := ShwA.cons h.sh (ShwA.nil.mono (Nat.le_refl _) (Nat.zero_le _))
  exact ⟨(Shw.lst a).mono l (Nat.le_refl _), (Shw.tup a).mono l (Nat.le_refl _)⟩
theorem lim_nn (k : Nat) (hk : k ≤ 2) : nnL k ≤ lim k := by
  match k, hk with
  | 0, _ => decide
  | 1, _ => decide
  | 2, _ => decide
theorem PtOk.lst {k : Nat} {d : PyData} (h : PtOk k d) (hk : k ≤ 1) : PtOk (k + 1) (.list [d]) := ⟨(h.wrap hk).1.mono (lim_nn _ (by omega)) (Nat.le_refl _), fun _ => (h.wrap hk).1, fun i e => by cases e⟩
theorem PtOk.tup {k : Nat} {d : PyData} (h : PtOk k d) (hk : k ≤ 1) : PtOk (k + 1) (.tuple [d]) := ⟨(h.wrap hk).2.mono (lim_nn _ (by omega)) (Nat.le_refl _), fun _ => (h.wrap hk).2, fun i e => by cases e⟩
theorem PtOk.lst0 {k : Nat} : PtOk (k + 1) (.list []) := by
  have : Shw 0 (k + 1) (.list []) := (Shw.lst ShwA.nil).mono (Nat.le_refl _) (by omega)
  exact ⟨this.mono (Nat.zero_le _) (Nat.le_refl _), fun _ => this.mono (Nat.zero_le _) (Nat.le_refl _), fun i e => by cases e⟩
theorem PtOk.tup0 {k : Nat} : PtOk (k + 1) (.tuple []) := by
  have : Shw 0 (k + 1) (.tuple []) := (Shw.tup ShwA.nil).mono (Nat.le_refl _) (by omega)
  exact ⟨this.mono (Nat.zero_le _) (Nat.le_refl _), fun _ => this.mono (Nat.zero_le _) (Nat.le_refl _), fun i e => by cases e⟩
/-- what str tells of a part -/
theorem PtOk.txt {k : Nat} {d : PyData} (h : PtOk k d) (hk : k ≤ 1) {x : Str} (h1 : ∀ y, d = .str y → x = y) (h2 : (∀ y, d ≠ .str y) → x = d.shown) : PtOk (k + 1) (.str x) := by
  by_cases c : ∃ y, d = .str y
  · obtain ⟨y, rfl⟩ := c
    rw [h1 y rfl]
    exact h.up hk
  · have c' : ∀ y, d ≠ .str y := fun y z => c ⟨y, z⟩
    rw [h2 c']
    have s := h.nt c'
    have a := PyData.shown_le_bulk 110 (by decide) d s.ls
    have b := s.bk
    refine .str (gd_shown d s.nd s.ls) ?_
    match k, hk with
    | 0, _ => 
      have : d.bulk ≤ 0 := b
      show d.shown.length ≤ 110
      omega
    | 1, _ =>
      have : d.bulk ≤ 6 := b
      show d.shown.length ≤ 782
      omega
def spPart (K : PySem.W.Frag) : Sp := fun vs H Q _ => ∃ (b D l : Addr) (sc tl : Nat) (ns : List Int) (v : V) (d : PyData) (k : Nat) (c : Int), vs = [.ref b, .ref D, v] ∧ WdAt H D l sc tl ns ∧ D ≠ b ∧ l ≠ b ∧ Dp K (off b H) v d ∧ PtOk k d ∧ k ≤ 1 ∧ BoxAt c H b ∧ c ≤ 800000000 ∧
  ∀ (v' : V) (d' : PyData) (H' : Hp), Dp K (off b H') v' d' → PtOk (k + 1) d' → BoxAt (c + 1) H' b → Keep b H H' → Q v' H'
theorem ok__law_part (B : Bl mg) (L : LL K mg C za zl t22 fW DC w) : FnOkG P w K mg base CX0 2 (za 14) (zl 14) ["_law_box_here", "_law_w", "_law_part_here"] (spPart K) := by
  have G__law_take : FnOk P w K mg base CX0 1 (za 5) (zl 5) ["_law_box_here", "_law_size"] (spTake 1) := (ok_take L.F__law_take L.b__law_take L.m__law_take B 1).mono (by decide)
  refine L.F__law_part.okG sc__law_part (fun vs H Q E h => ?_) (fun cdv A outer s H vs Q E gd hr h => ?_)
  · obtain ⟨b, D, l, sc, tl, ns, v, d, k, c, rfl, _⟩ := h
    rfl
  obtain ⟨b, D, l, sc, tl, ns, v, d, k, c, rfl, hW, nD, nl, hd, hp, hk, hB, hc, q⟩ := h
  refine ⟨_, (pss_cons (ps_set (i := 3) sc__law_part.nd rfl (.inl rfl) (pe_lst (pa_cons (pe_un un_neg pe_int) (pa_cons pe_int (pa_cons pe_int (pa_cons pe_int (pa_cons pe_bl (pa_cons pe_bl (pa_cons pe_non (pa_cons pe_str (pa_cons pe_str (pa_cons pe_str (pa_cons pe_str (pa_cons pe_str (pa_cons pe_str (pa_cons pe_str (pa_cons pe_str (pa_cons (pe_lst (pa_cons (pv 2) pa_nil)) (pa_cons (pe_tup (pa_cons (pv 2) pa_nil)) pa_nil)))))))))))))))))))
    (pss_cons (ps_set (i := 3) sc__law_part.nd rfl (.inl rfl) (pe_op op_cat (pv 3) (pe_lst (pa_cons (pe_op op_oneShl pe_int (pe_op op_add (pe_op op_add pe_int (pe_dget (units1 hr) (pv 1) pe_str (fun _ _ => rfl))) (pe_dget (units1 hr) (pv 1) pe_str (fun _ _ => rfl)))) (pa_cons (pe_op op_sub (pe_op op_oneShl pe_int (pe_op op_add (pe_op op_add pe_int (pe_dget (units1 hr) (pv 1) pe_str (fun _ _ => rfl))) (pe_dget (units1 hr) (pv 1) pe_str (fun _ _ => rfl)))) pe_int) (pa_cons (pe_callTy (call_strA gd (roomS hr)) (by rfl) B.str PyProof.Rows.boot_str (pa_cons (pv 2) pa_nil)) (pa_cons (pe_lst pa_nil) (pa_cons (pe_tup pa_nil) pa_nil))))))))
    (pss_cons (ps_if (pt_val (pe_callB call_isi (by rfl) B.isinstance boot_isinstance (pa_cons (pv 2) (pa_cons (pe_bltn (v := .ty "int") (by rfl) B.int PyProof.Rows.boot_int rfl) pa_nil)))) (pss_one (ps_set (i := 3) sc__law_part.nd rfl (.inl rfl) (pe_op op_cat (pv 3) (pe_lst (pa_cons (pe_op op_addBN (pv 2) pe_int) (pa_cons (pe_op op_subBN (pv 2) pe_int) (pa_cons (pe_op op_subNB pe_int (pv 2)) pa_nil))))))) pss_nil)
    (pss_one (ps_ret (pe_ix ix_list (pv 3) (pe_call G__law_take hr (by rfl) L.m__law_take L.F__law_take.kp L.b__law_take .nil pass0 (pa_cons (pv 0) (pa_cons (pe_callB call_len_seq (by rfl) B.len PySem.boot_len (pa_cons (pv 3) pa_nil)) pa_nil))) (fun _ _ => rfl))))))), ?_⟩
  have hb := hB.some
  obtain ⟨_, _, _, _, _, g1, g2, g3, g4⟩ := id hW
  refine ⟨_, rfl, _, rfl, ?_⟩
  refine ⟨(by show 1 ≤ sizeLine; decide), fun l1 n1 => ?_⟩
  have n1b : l1 ≠ b := (hB.ne n1).symm
  have sA := same_upd (o := .lst [v]) n1
  have eA : (upd H l1 (.lst [v])) l1 = some (.lst [v]) := upd_same
  generalize upd H l1 (.lst [v]) = HA at *
  have BA := hB.same sA
  refine ⟨_, rfl, (by show 1 ≤ sizeLine; decide), fun t1 n2 => ?_⟩
  have n2b : t1 ≠ b := (BA.ne n2).symm
  have sB := same_upd (o := .tup [v]) n2
  have eB : (upd HA t1 (.tup [v])) t1 = some (.tup [v]) := upd_same
  generalize upd HA t1 (.tup [v]) = HB at *
  have BB := BA.same sB
  refine ⟨(by show 17 ≤ sizeLine; decide), fun s1 n3 => ?_⟩
  have n3b : s1 ≠ b := (BB.ne n3).symm
  obtain ⟨vs1, ev1⟩ : ∃ vs1 : List V, vs1 = [.int (-1), .int 0, .int 7, .int 8, .bl true, .bl false, .non, .str "", .str "put", .str "Put", .str "join", .str "adds", .str "near", .str "Near", .str "up ", .ref l1, .ref t1] := ⟨_, rfl⟩
  have s3 := same_upd (o := .lst vs1) n3
  have e3 : (upd HB s1 (.lst vs1)) s1 = some (.lst vs1) := upd_same
  rw [show upd HB s1 (.lst [.int (-1), .int 0, .int 7, .int 8, .bl true, .bl false, .non, .str "", .str "put", .str "Put", .str "join", .str "adds", .str "near", .str "Near", .str "up ", .ref l1, .ref t1]) = upd HB s1 (.lst vs1) from congrArg (fun z => upd HB s1 (.lst z)) ev1.symm]
  generalize upd HB s1 (.lst vs1) = HC at *
  have BC := BB.same s3
  have sHC : Same H HC := sA.trans (sB.trans s3)
  try simp only [L2.start, List.map_cons, List.map_nil, List.length_cons, List.length_nil, List.replicate_succ, List.replicate_zero, List.cons_append, List.nil_append, List.set_cons_succ, List.set_cons_zero, Nat.reduceAdd, Nat.reduceSub, Nat.zero_add]
  have hWC := hW.keep (Keep.ofSame sHC) nD nl
  have oC := dp_same (off_ofSame sHC) hd
  have dC := dp_same (off_same b HC) oC
  have hl : lim k ≤ 100000 := by
    match k, hk with
    | 0, _ => decide
    | 1, _ => decide
  refine ⟨_, rfl, ?_⟩
  refine ⟨_, rfl, D, _, rfl, DGet.k (k := .inr "scale") hWC.1, _, _, rfl, rfl, _, rfl, D, _, rfl, DGet.k (k := .inr "tail") hWC.1, _, _, rfl, rfl, 1 + sc + tl, rfl, congrArg V.int (by omega), by omega, ?_⟩
  refine ⟨_, rfl, D, _, rfl, DGet.k (k := .inr "scale") hWC.1, _, _, rfl, rfl, _, rfl, D, _, rfl, DGet.k (k := .inr "tail") hWC.1, _, _, rfl, rfl, 1 + sc + tl, rfl, congrArg V.int (by omega), by omega, _, _, rfl, rfl, ?_⟩
  refine ⟨_, rfl, v, d, lim k, k, rfl, dC, hp.sh, hl, by omega, fun x x1 x2 => ?_⟩
  refine ⟨(by show 0 ≤ sizeLine; decide), fun l2 n4 => ?_⟩
  have n4b : l2 ≠ b := (BC.ne n4).symm
  have s4 := same_upd (o := .lst []) n4
  have e4 : (upd HC l2 (.lst [])) l2 = some (.lst []) := upd_same
  generalize upd HC l2 (.lst []) = HD at *
  have BD := BC.same s4
  refine ⟨(by show 0 ≤ sizeLine; decide), fun t2 n5 => ?_⟩
  have n5b : t2 ≠ b := (BD.ne n5).symm
  have s5 := same_upd (o := .tup []) n5
  have e5 : (upd HD t2 (.tup [])) t2 = some (.tup []) := upd_same
  generalize upd HD t2 (.tup []) = HE at *
  have BE := BD.same s5
  refine ⟨(by show 5 ≤ sizeLine; decide), fun s2 n6 => ?_⟩
  have n6b : s2 ≠ b := (BE.ne n6).symm
  obtain ⟨vs2, ev2⟩ : ∃ vs2 : List V, vs2 = [.int (2 ^ (1 + sc + tl)), .int (2 ^ (1 + sc + tl) - 1), .str x, .ref l2, .ref t2] := ⟨_, rfl⟩
  have s6 := same_upd (o := .lst vs2) n6
  have e6 : (upd HE s2 (.lst vs2)) s2 = some (.lst vs2) := upd_same
  rw [show upd HE s2 (.lst [.int (2 ^ (1 + sc + tl)), .int (2 ^ (1 + sc + tl) - 1), .str x, .ref l2, .ref t2]) = upd HE s2 (.lst vs2) from congrArg (fun z => upd HE s2 (.lst z)) ev2.symm]
  generalize upd HE s2 (.lst vs2) = HF at *
  have BF := BE.same s6
  have sHF : Same H HF := sHC.trans (s4.trans (s5.trans s6))
  have k1 : DpAll K (off b HF) vs1 [.int (-1), .int 0, .int 7, .int 8, .bool true, .bool false, .none, .str "", .str "put", .str "Put", .str "join", .str "adds", .str "near", .str "Near", .str "up ", .list [d], .tuple [d]] := by
    have o1 : Dp K (off b HF) (.ref l1) (.list [d]) := .lst (SqL.of (by rw [off_ne n1b]; exact s6 _ _ (s5 _ _ (s4 _ _ (s3 _ _ (sB _ _ eA)))))) (.cons (dp_same (off_ofSame sHF) hd) .nil)
    have o2 : Dp K (off b HF) (.ref t1) (.tuple [d]) := .tup (SqT.of (by rw [off_ne n2b]; exact s6 _ _ (s5 _ _ (s4 _ _ (s3 _ _ eB))))) (.cons (dp_same (off_ofSame sHF) hd) .nil)
    rw [ev1]
    exact .cons (.int _) (.cons (.int _) (.cons (.int _) (.cons (.int _) (.cons (.bl _) (.cons (.bl _) (.cons .non (.cons (.str _) (.cons (.str _) (.cons (.str _) (.cons (.str _) (.cons (.str _) (.cons (.str _) (.cons (.str _) (.cons (.str _) (.cons o1 (.cons o2 .nil))))))))))))))))
  have k2 : DpAll K (off b HF) vs2 [.int (2 ^ (1 + sc + tl)), .int (2 ^ (1 + sc + tl) - 1), .str x, .list [], .tuple []] := by
    have o1 : Dp K (off b HF) (.ref l2) (.list []) := .lst (SqL.of (by rw [off_ne n4b]; exact s6 _ _ (s5 _ _ e4))) .nil
    have o2 : Dp K (off b HF) (.ref t2) (.tuple []) := .tup (SqT.of (by rw [off_ne n5b]; exact s6 _ _ e5)) .nil
    rw [ev2]
    exact .cons (.int _) (.cons (.int _) (.cons (.str _) (.cons o1 (.cons o2 .nil))))
  have p33 : (2 : Int) ^ (1 + sc + tl) ≤ 2 ^ 33 := GM.pow_le' (by omega)
  have p0 : (1 : Int) ≤ 2 ^ (1 + sc + tl) := GM.pow_pos' _
  have hk1 : k + 1 ≤ 2 := by omega
  have t1ok : ∀ e ∈ ([.int (-1), .int 0, .int 7, .int 8, .bool true, .bool false, .none, .str "", .str "put", .str "Put", .str "join", .str "adds", .str "near", .str "Near", .str "up ", .list [d], .tuple [d]] : List PyData), PtOk (k + 1) e := by
    simp only [List.forall_mem_cons]
    exact ⟨.int hk1 (by omega) (by omega), .int hk1 (by omega) (by omega), .int hk1 (by omega) (by omega), .int hk1 (by omega) (by omega), .bl _, .bl _, .non, .lit, .lit, .lit, .lit, .lit, .lit, .lit, .lit, hp.lst hk, hp.tup hk, fun _ z => nomatch z⟩
  have t2ok : ∀ e ∈ ([.int (2 ^ (1 + sc + tl)), .int (2 ^ (1 + sc + tl) - 1), .str x, .list [], .tuple []] : List PyData), PtOk (k + 1) e := by
    simp only [List.forall_mem_cons]
    exact ⟨.int hk1 (by omega) (by omega), .int hk1 (by omega) (by omega), hp.txt hk x1 x2, .lst0, .tup0, fun _ z => nomatch z⟩
  have lv1 : vs1.length = 17 := by rw [ev1]; rfl
  have lv2 : vs2.length = 5 := by rw [ev2]; rfl
  refine ⟨s1, s2, vs1, vs2, rfl, rfl, s6 _ _ (s5 _ _ (s4 _ _ e3)), e6, by rw [lv1, lv2, sizeLine_eq]; decide, fun s9 n7 => ?_⟩
  have k3 := dpa_appd k1 k2
  have t3ok := fun e he => (List.mem_append.mp he).elim (t1ok e) (t2ok e)
  have lv3 : (vs1 ++ vs2).length = 22 := by rw [List.length_append, lv1, lv2]
  generalize ([.int (-1), .int 0, .int 7, .int 8, .bool true, .bool false, .none, .str "", .str "put", .str "Put", .str "join", .str "adds", .str "near", .str "Near", .str "up ", .list [d], .tuple [d]] ++ [.int (2 ^ (1 + sc + tl)), .int (2 ^ (1 + sc + tl) - 1), .str x, .list [], .tuple []] : List PyData) = ds3 at *
  generalize vs1 ++ vs2 = vs3 at *
  have n7b : s9 ≠ b := (BF.ne n7).symm
  have s7 := same_upd (o := .lst vs3) n7
  have e7 : (upd HF s9 (.lst vs3)) s9 = some (.lst vs3) := upd_same
  generalize upd HF s9 (.lst vs3) = HG at *
  have BG := BF.same s7
  have sHG := sHF.trans s7
  have k3 := dp_sameAll (off_ofSame s7) k3
  dsimp only [gName]
  try simp only [L2.start, List.map_cons, List.map_nil, List.length_cons, List.length_nil, List.replicate_succ, List.replicate_zero, List.cons_append, List.nil_append, List.set_cons_succ, List.set_cons_zero, Nat.reduceAdd, Nat.reduceSub, Nat.zero_add]
  have sHx : Same (off b H) HG := (off_same b H).trans sHG
  cases hd with
  | non =>
    refine ⟨_, rfl, _, _, _, _, _, rfl, .ty _, .base .non, kit_ty (by decide +kernel : kitB "NoneType" "int" = some false), _, rfl, iteF ?_⟩
    try simp only [L2.start, List.map_cons, List.map_nil, List.length_cons, List.length_nil, List.replicate_succ, List.replicate_zero, List.cons_append, List.nil_append, List.set_cons_succ, List.set_cons_zero, Nat.reduceAdd, Nat.reduceSub, Nat.zero_add]
    refine ⟨_, rfl, _, rfl, _, rfl, s9, vs3, rfl, .inl (SqL.of e7), b, _, _, rfl, BG, (by rw [lv3]; decide), (by rw [lv3]; decide), (by rw [lv3]; decide), (by omega), (by decide), fun r HR u0 u1 BR kR => ?_⟩
    rw [lv3] at u1
    have u1 : r < 22 := u1
    obtain ⟨y, hy⟩ : ∃ y, vs3[r.toNat]? = some y := ⟨_, List.getElem?_eq_getElem (by omega)⟩
    obtain ⟨dy, hdy, hD⟩ := dpa_get k3 hy
    have ay : atI vs3 r = some y := by
      have := atI_nat hy
      rwa [Int.toNat_of_nonneg u0] at this
    refine ⟨s9, _, _, _, rfl, rfl, SqL.of (kR _ _ e7 n7b), ay, ?_⟩
    exact q y dy HR (dp_same (off_keep kR) hD) (t3ok dy (List.mem_of_getElem? hdy)) (bx1 BR) ((Keep.ofSame sHG).trans kR)
  | str x0 =>
    refine ⟨_, rfl, _, _, _, _, _, rfl, .ty _, .base (.str _), kit_ty (by decide +kernel : kitB "str" "int" = some false), _, rfl, iteF ?_⟩
    try simp only [L2.start, List.map_cons, List.map_nil, List.length_cons, List.length_nil, List.replicate_succ, List.replicate_zero, List.cons_append, List.nil_append, List.set_cons_succ, List.set_cons_zero, Nat.reduceAdd, Nat.reduceSub, Nat.zero_add]
    refine ⟨_, rfl, _, rfl, _, rfl, s9, vs3, rfl, .inl (SqL.of e7), b, _, _, rfl, BG, (by rw [lv3]; decide), (by rw [lv3]; decide), (by rw [lv3]; decide), (by omega), (by decide), fun r HR u0 u1 BR kR => ?_⟩
    rw [lv3] at u1
    have u1 : r < 22 := u1
    obtain ⟨y, hy⟩ : ∃ y, vs3[r.toNat]? = some y := ⟨_, List.getElem?_eq_getElem (by omega)⟩
    obtain ⟨dy, hdy, hD⟩ := dpa_get k3 hy
    have ay : atI vs3 r = some y := by
      have := atI_nat hy
      rwa [Int.toNat_of_nonneg u0] at this
    refine ⟨s9, _, _, _, rfl, rfl, SqL.of (kR _ _ e7 n7b), ay, ?_⟩
    exact q y dy HR (dp_same (off_keep kR) hD) (t3ok dy (List.mem_of_getElem? hdy)) (bx1 BR) ((Keep.ofSame sHG).trans kR)
  | lst e' _ =>
    refine ⟨_, rfl, _, _, _, _, _, rfl, .ty _, ty_lst (sq_same sHx e'), kit_ty (by decide +kernel : kitB "list" "int" = some false), _, rfl, iteF ?_⟩
    try simp only [L2.start, List.map_cons, List.map_nil, List.length_cons, List.length_nil, List.replicate_succ, List.replicate_zero, List.cons_append, List.nil_append, List.set_cons_succ, List.set_cons_zero, Nat.reduceAdd, Nat.reduceSub, Nat.zero_add]
    refine ⟨_, rfl, _, rfl, _, rfl, s9, vs3, rfl, .inl (SqL.of e7), b, _, _, rfl, BG, (by rw [lv3]; decide), (by rw [lv3]; decide), (by rw [lv3]; decide), (by omega), (by decide), fun r HR u0 u1 BR kR => ?_⟩
    rw [lv3] at u1
    have u1 : r < 22 := u1
    obtain ⟨y, hy⟩ : ∃ y, vs3[r.toNat]? = some y := ⟨_, List.getElem?_eq_getElem (by omega)⟩
    obtain ⟨dy, hdy, hD⟩ := dpa_get k3 hy
    have ay : atI vs3 r = some y := by
      have := atI_nat hy
      rwa [Int.toNat_of_nonneg u0] at this
    refine ⟨s9, _, _, _, rfl, rfl, SqL.of (kR _ _ e7 n7b), ay, ?_⟩
    exact q y dy HR (dp_same (off_keep kR) hD) (t3ok dy (List.mem_of_getElem? hdy)) (bx1 BR) ((Keep.ofSame sHG).trans kR)
  | tup e' _ =>
    refine ⟨_, rfl, _, _, _, _, _, rfl, .ty _, ty_tup (Same.seqT sHx e'), kit_ty (by decide +kernel : kitB "tuple" "int" = some false), _, rfl, iteF ?_⟩
    try simp only [L2.start, List.map_cons, List.map_nil, List.length_cons, List.length_nil, List.replicate_succ, List.replicate_zero, List.cons_append, List.nil_append, List.set_cons_succ, List.set_cons_zero, Nat.reduceAdd, Nat.reduceSub, Nat.zero_add]
    refine ⟨_, rfl, _, rfl, _, rfl, s9, vs3, rfl, .inl (SqL.of e7), b, _, _, rfl, BG, (by rw [lv3]; decide), (by rw [lv3]; decide), (by rw [lv3]; decide), (by omega), (by decide), fun r HR u0 u1 BR kR => ?_⟩
    rw [lv3] at u1
    have u1 : r < 22 := u1
    obtain ⟨y, hy⟩ : ∃ y, vs3[r.toNat]? = some y := ⟨_, List.getElem?_eq_getElem (by omega)⟩
    obtain ⟨dy, hdy, hD⟩ := dpa_get k3 hy
    have ay : atI vs3 r = some y := by
      have := atI_nat hy
      rwa [Int.toNat_of_nonneg u0] at this
    refine ⟨s9, _, _, _, rfl, rfl, SqL.of (kR _ _ e7 n7b), ay, ?_⟩
    exact q y dy HR (dp_same (off_keep kR) hD) (t3ok dy (List.mem_of_getElem? hdy)) (bx1 BR) ((Keep.ofSame sHG).trans kR)
  | bl z =>
    refine ⟨_, rfl, _, _, _, _, _, rfl, .ty _, .base (.bl _), kit_ty (by decide +kernel : kitB "bool" "int" = some true), _, rfl, iteT ?_⟩
    try simp only [L2.start, List.map_cons, List.map_nil, List.length_cons, List.length_nil, List.replicate_succ, List.replicate_zero, List.cons_append, List.nil_append, List.set_cons_succ, List.set_cons_zero, Nat.reduceAdd, Nat.reduceSub, Nat.zero_add]
    have hi : ∃ i : Int, nmV (.bl z) = some i ∧ -(2 ^ 40 + (k : Int)) ≤ i ∧ i ≤ 2 ^ 40 + (k : Int) := ⟨_, rfl, by split <;> omega, by split <;> omega⟩
    obtain ⟨i, hi0, hi1, hi2⟩ := hi
    refine ⟨_, rfl, _, rfl, i, 1, hi0, rfl, _, rfl, i, 1, hi0, rfl, _, rfl, 0, i, rfl, hi0, (by show 3 ≤ sizeLine; decide), fun s10 n8 => ?_⟩
    have s8 := same_upd (o := .lst [.int (i + 1), .int (i - 1), .int (0 - i)]) n8
    have B8 := BG.same s8
    refine ⟨s9, s10, vs3, _, rfl, rfl, s8 _ _ e7, upd_same, by rw [lv3, sizeLine_eq]; (show 22 + 3 ≤ _); decide, fun s11 n9 => ?_⟩
    have n9b : s11 ≠ b := (B8.ne n9).symm
    have s9' := same_upd (o := .lst (vs3 ++ [.int (i + 1), .int (i - 1), .int (0 - i)])) n9
    have e9 : (upd (upd HG s10 (.lst [.int (i + 1), .int (i - 1), .int (0 - i)])) s11 (.lst (vs3 ++ [.int (i + 1), .int (i - 1), .int (0 - i)]))) s11 = some (.lst (vs3 ++ [.int (i + 1), .int (i - 1), .int (0 - i)])) := upd_same
    have B9 := B8.same s9'
    have sHJ := sHG.trans (s8.trans s9')
    generalize upd (upd HG s10 (.lst [.int (i + 1), .int (i - 1), .int (0 - i)])) s11 (.lst (vs3 ++ [.int (i + 1), .int (i - 1), .int (0 - i)])) = HJ at *
    have k9 : DpAll K (off b HJ) (vs3 ++ [.int (i + 1), .int (i - 1), .int (0 - i)]) (ds3 ++ [.int (i + 1), .int (i - 1), .int (0 - i)]) := dpa_appd (dp_sameAll (off_ofSame (s8.trans s9')) k3) (.cons (.int _) (.cons (.int _) (.cons (.int _) .nil)))
    have t9ok : ∀ e ∈ ds3 ++ [PyData.int (i + 1), PyData.int (i - 1), PyData.int (0 - i)], PtOk (k + 1) e := fun e he => by
      rcases List.mem_append.mp he with he | he
      · exact t3ok e he
      · simp only [List.mem_cons, List.not_mem_nil, or_false] at he
        rcases he with rfl | rfl | rfl <;> exact .int hk1 (by omega) (by omega)
    have lv9 : (vs3 ++ [V.int (i + 1), V.int (i - 1), V.int (0 - i)]).length = 25 := by rw [List.length_append, lv3]; rfl
    generalize vs3 ++ [V.int (i + 1), V.int (i - 1), V.int (0 - i)] = vs9 at *
    dsimp only [gName]
    try simp only [L2.start, List.map_cons, List.map_nil, List.length_cons, List.length_nil, List.replicate_succ, List.replicate_zero, List.cons_append, List.nil_append, List.set_cons_succ, List.set_cons_zero, Nat.reduceAdd, Nat.reduceSub, Nat.zero_add]
    refine ⟨_, rfl, _, rfl, _, rfl, s11, vs9, rfl, .inl (SqL.of e9), b, _, _, rfl, B9, (by rw [lv9]; decide), (by rw [lv9]; decide), (by rw [lv9]; decide), (by omega), (by decide), fun r HR u0 u1 BR kR => ?_⟩
    rw [lv9] at u1
    have u1 : r < 25 := u1
    obtain ⟨y, hy⟩ : ∃ y, vs9[r.toNat]? = some y := ⟨_, List.getElem?_eq_getElem (by omega)⟩
    obtain ⟨dy, hdy, hD⟩ := dpa_get k9 hy
    have ay : atI vs9 r = some y := by
      have := atI_nat hy
      rwa [Int.toNat_of_nonneg u0] at this
    refine ⟨s11, _, _, _, rfl, rfl, SqL.of (kR _ _ e9 n9b), ay, ?_⟩
    exact q y dy HR (dp_same (off_keep kR) hD) (t9ok dy (List.mem_of_getElem? hdy)) (bx1 BR) ((Keep.ofSame sHJ).trans kR)
  | int z =>
    refine ⟨_, rfl, _, _, _, _, _, rfl, .ty _, .base (.int _), kit_ty (by decide +kernel : kitB "int" "int" = some true), _, rfl, iteT ?_⟩
    try simp only [L2.start, List.map_cons, List.map_nil, List.length_cons, List.length_nil, List.replicate_succ, List.replicate_zero, List.cons_append, List.nil_append, List.set_cons_succ, List.set_cons_zero, Nat.reduceAdd, Nat.reduceSub, Nat.zero_add]
    have hi : ∃ i : Int, nmV (.int z) = some i ∧ -(2 ^ 40 + (k : Int)) ≤ i ∧ i ≤ 2 ^ 40 + (k : Int) := ⟨_, rfl, (hp.it z rfl).1, (hp.it z rfl).2⟩
    obtain ⟨i, hi0, hi1, hi2⟩ := hi
    refine ⟨_, rfl, _, rfl, i, 1, hi0, rfl, _, rfl, i, 1, hi0, rfl, _, rfl, 0, i, rfl, hi0, (by show 3 ≤ sizeLine; decide), fun s10 n8 => ?_⟩
    have s8 := same_upd (o := .lst [.int (i + 1), .int (i - 1), .int (0 - i)]) n8
    have B8 := BG.same s8
    refine ⟨s9, s10, vs3, _, rfl, rfl, s8 _ _ e7, upd_same, by rw [lv3, sizeLine_eq]; (show 22 + 3 ≤ _); decide, fun s11 n9 => ?_⟩
    have n9b : s11 ≠ b := (B8.ne n9).symm
    have s9' := same_upd (o := .lst (vs3 ++ [.int (i + 1), .int (i - 1), .int (0 - i)])) n9
    have e9 : (upd (upd HG s10 (.lst [.int (i + 1), .int (i - 1), .int (0 - i)])) s11 (.lst (vs3 ++ [.int (i + 1), .int (i - 1), .int (0 - i)]))) s11 = some (.lst (vs3 ++ [.int (i + 1), .int (i - 1), .int (0 - i)])) := upd_same
    have B9 := B8.same s9'
    have sHJ := sHG.trans (s8.trans s9')
    generalize upd (upd HG s10 (.lst [.int (i + 1), .int (i - 1), .int (0 - i)])) s11 (.lst (vs3 ++ [.int (i + 1), .int (i - 1), .int (0 - i)])) = HJ at *
    have k9 : DpAll K (off b HJ) (vs3 ++ [.int (i + 1), .int (i - 1), .int (0 - i)]) (ds3 ++ [.int (i + 1), .int (i - 1), .int (0 - i)]) := dpa_appd (dp_sameAll (off_ofSame (s8.trans s9')) k3) (.cons (.int _) (.cons (.int _) (.cons (.int _) .nil)))
    have t9ok : ∀ e ∈ ds3 ++ [PyData.int (i + 1), PyData.int (i - 1), PyData.int (0 - i)], PtOk (k + 1) e := fun e he => by
      rcases List.mem_append.mp he with he | he
      · exact t3ok e he
      · simp only [List.mem_cons, List.not_mem_nil, or_false] at he
        rcases he with rfl | rfl | rfl <;> exact .int hk1 (by omega) (by omega)
    have lv9 : (vs3 ++ [V.int (i + 1), V.int (i - 1), V.int (0 - i)]).length = 25 := by rw [List.length_append, lv3]; rfl
    generalize vs3 ++ [V.int (i + 1), V.int (i - 1), V.int (0 - i)] = vs9 at *
    dsimp only [gName]
    try simp only [L2.start, List.map_cons, List.map_nil, List.length_cons, List.length_nil, List.replicate_succ, List.replicate_zero, List.cons_append, List.nil_append, List.set_cons_succ, List.set_cons_zero, Nat.reduceAdd, Nat.reduceSub, Nat.zero_add]
    refine ⟨_, rfl, _, rfl, _, rfl, s11, vs9, rfl, .inl (SqL.of e9), b, _, _, rfl, B9, (by rw [lv9]; decide), (by rw [lv9]; decide), (by rw [lv9]; decide), (by omega), (by decide), fun r HR u0 u1 BR kR => ?_⟩
    rw [lv9] at u1
    have u1 : r < 25 := u1
    obtain ⟨y, hy⟩ : ∃ y, vs9[r.toNat]? = some y := ⟨_, List.getElem?_eq_getElem (by omega)⟩
    obtain ⟨dy, hdy, hD⟩ := dpa_get k9 hy
    have ay : atI vs9 r = some y := by
      have := atI_nat hy
      rwa [Int.toNat_of_nonneg u0] at this
    refine ⟨s11, _, _, _, rfl, rfl, SqL.of (kR _ _ e9 n9b), ay, ?_⟩
    exact q y dy HR (dp_same (off_keep kR) hD) (t9ok dy (List.mem_of_getElem? hdy)) (bx1 BR) ((Keep.ofSame sHJ).trans kR)
end
section
variable {P : Program} {w : World} {K : PySem.W.Frag} {mg : Str → Option Value} {base : Heap}
variable {C : Addr} {za : Nat → Addr} {zl : Nat → FuncData} {t22 : Tok} {fW : Addr} {DC : Addr}
/-! ### a deed bent -/
theorem dpa_snoc {K : PySem.W.Frag} {H : Hp} {v : V} {d : PyData} (h : Dp K H v d) : ∀ {vs : List V} {ds : List PyData}, DpAll K H vs ds → DpAll K H (vs ++ [v]) (ds ++ [d])
  | [], [], _ => .cons h .nil
  | _ :: _, _ :: _, .cons a r => .cons a (dpa_snoc h r)
theorem dpa_rev {K : PySem.W.Frag} {H : Hp} : ∀ {vs : List V} {ds : List PyData}, DpAll K H vs ds → DpAll K H vs.reverse ds.reverse
  | [], [], _ => .nil
  | _ :: _, _ :: _, .cons a r => by
    rw [List.reverse_cons, List.reverse_cons]
    exact dpa_snoc a (dpa_rev r)
/-- a tuple of parts, the box no part of it -/
structure TpAt (K : PySem.W.Frag) (b : Addr) (H : Hp) (k n : Nat) (v : V) (ds : List PyData) : Prop where
  dp : Dp K (off b H) v (.tuple ds)
  pt : ∀ d ∈ ds, PtOk k d
  le : ds.length ≤ n
theorem TpAt.keep {K : PySem.W.Frag} {b : Addr} {H H' : Hp} {k n : Nat} {v : V} {ds : List PyData} (h : TpAt K b H k n v ds) (s : Keep b H H') : TpAt K b H' k n v ds := ⟨dp_same (off_keep s) h.dp, h.pt, h.le⟩
theorem cutD_lo {ds : List PyData} {r : Int} (h : 0 ≤ r) : cutD ds none (some r) = ds.take r.toNat := by
  obtain ⟨m, rfl⟩ : ∃ m : Nat, r = (m : Int) := ⟨r.toNat, by omega⟩
  unfold cutD
  rw [show HT.sIx ds.length 0 none = 0 from rfl, HT.sIx_nat, Int.toNat_natCast, List.drop_zero, Nat.sub_zero]
  by_cases c : m ≤ ds.length
  · rw [Nat.min_eq_left c]
  · rw [Nat.min_eq_right (by omega), List.take_length, List.take_of_length_le (by omega)]
theorem cutD_hi {ds : List PyData} {r : Int} (h : 0 ≤ r) : cutD ds (some r) none = ds.drop r.toNat := by
  obtain ⟨m, rfl⟩ : ∃ m : Nat, r = (m : Int) := ⟨r.toNat, by omega⟩
  unfold cutD
  rw [show HT.sIx ds.length ds.length none = ds.length from rfl, HT.sIx_nat, Int.toNat_natCast]
  by_cases c : m ≤ ds.length
  · rw [Nat.min_eq_left c, List.take_of_length_le (by rw [List.length_drop]; omega)]
  · rw [Nat.min_eq_right (by omega), List.drop_length, List.drop_of_length_le (by omega), List.take_nil]
theorem cutD_len {ds : List PyData} {r q : Int} (h : 0 ≤ r) (h' : r ≤ q) : (cutD ds (some r) (some q)).length ≤ min q.toNat ds.length - min r.toNat ds.length := by
  obtain ⟨m, rfl⟩ : ∃ m : Nat, r = (m : Int) := ⟨r.toNat, by omega⟩
  obtain ⟨p, rfl⟩ : ∃ p : Nat, q = (p : Int) := ⟨q.toNat, by omega⟩
  unfold cutD
  rw [HT.sIx_nat, HT.sIx_nat, Int.toNat_natCast, Int.toNat_natCast]
  exact List.length_take_le _ _
def spBent (K : PySem.W.Frag) : Sp := fun vs H Q _ => ∃ (b D l : Addr) (sc tl : Nat) (ns : List Int) (v : V) (ds : List PyData) (k n : Nat) (c : Int), vs = [.ref b, .ref D, v] ∧ WdAt H D l sc tl ns ∧ D ≠ b ∧ l ≠ b ∧ TpAt K b H k n v ds ∧ 1 ≤ ds.length ∧ n ≤ 10 ∧ k ≤ 1 ∧ BoxAt c H b ∧ c ≤ 700000000 ∧
  ∀ (v' : V) (ds' : List PyData) (H' : Hp), TpAt K b H' (k + 1) (n + 1) v' ds' → BoxAt (c + 3) H' b → Keep b H H' → Q v' H'
theorem ok__law_bent (B : Bl mg) (L : LL K mg C za zl t22 fW DC w) : FnOkG P w K mg base CX0 3 (za 15) (zl 15) ["_law_box_here", "_law_w", "_law_deed_here"] (spBent K) := by
  have G__law_take : FnOk P w K mg base CX0 2 (za 5) (zl 5) ["_law_box_here", "_law_size"] (spTake 1) := (ok_take L.F__law_take L.b__law_take L.m__law_take B 1).mono (by decide)
  have G__law_part : FnOkG P w K mg base CX0 2 (za 14) (zl 14) ["_law_box_here", "_law_w", "_law_part_here"] (spPart K) := (ok__law_part B L).mono (by decide)
  refine L.F__law_bent.okG sc__law_bent (fun vs H Q E h => ?_) (fun cdv A outer s H vs Q E gd hr h => ?_)
  · obtain ⟨b, D, l, sc, tl, ns, v, ds, k, n, c, rfl, _⟩ := h
    rfl
  obtain ⟨b, D, l, sc, tl, ns, v, ds, k, n, c, rfl, hW, nD, nl, hT, hl1, hn, hk, hB, hc, q⟩ := h
  refine ⟨_, (pss_cons (ps_par (by rfl) sc__law_bent.nd (i := 3) (j := 4) rfl rfl (by decide) rfl rfl (pa_cons (pe_call G__law_take hr (by rfl) L.m__law_take L.F__law_take.kp L.b__law_take .nil pass0 (pa_cons (pv 0) (pa_cons (pe_callB call_len_seq (by rfl) B.len PySem.boot_len (pa_cons (pv 2) pa_nil)) pa_nil))) (pa_cons (pe_call G__law_take hr (by rfl) L.m__law_take L.F__law_take.kp L.b__law_take .nil pass0 (pa_cons (pv 0) (pa_cons pe_int pa_nil))) pa_nil)) (by rfl))
    (pss_cons (ps_if (pt_cmpR op_lt (pv 4) pe_int (nomark _)) (pss_one (ps_ret (pe_op op_catA (pe_op op_catA (pe_slice sl_tupA (pv 2) po_none (po_some (pv 3))) (pe_tup (pa_cons (pe_callG G__law_part gd hr (by rfl) L.m__law_part L.F__law_part.kp L.b__law_part .nil pass0 (pa_cons (pv 0) (pa_cons (pv 1) (pa_cons (pe_ix ix_tup (pv 2) (pv 3) (fun _ _ => rfl)) pa_nil)))) pa_nil))) (pe_slice sl_tupA (pv 2) (po_some (pe_op op_add (pv 3) pe_int)) po_none)))) pss_nil)
    (pss_cons (ps_if (pt_cmpR op_eq (pv 4) pe_int (nomark _)) (pss_one (ps_ret (pe_op op_catA (pe_slice sl_tupA (pv 2) po_none (po_some (pv 3))) (pe_slice sl_tupA (pv 2) (po_some (pe_op op_add (pv 3) pe_int)) po_none)))) pss_nil)
    (pss_cons (ps_if (pt_cmpR op_eq (pv 4) pe_int (nomark _)) (pss_one (ps_ret (pe_op op_catA (pe_op op_catA (pe_slice sl_tupA (pv 2) po_none (po_some (pv 3))) (pe_slice sl_tupA (pv 2) (po_some (pv 3)) (po_some (pe_op op_add (pv 3) pe_int)))) (pe_slice sl_tupA (pv 2) (po_some (pv 3)) po_none)))) pss_nil)
    (pss_cons (ps_if (pt_cmpR op_eq (pv 4) pe_int (nomark _)) (pss_one (ps_ret (pe_op op_catA (pe_op op_catA (pe_slice sl_tupA (pv 2) po_none (po_some (pv 3))) (pe_revS (pe_slice sl_tupA (pv 2) (po_some (pv 3)) (po_some (pe_op op_add (pv 3) pe_int))))) (pe_slice sl_tupA (pv 2) (po_some (pe_op op_add (pv 3) pe_int)) po_none)))) pss_nil)
    (pss_one (ps_ret (pe_op op_catA (pv 2) (pe_tup (pa_cons (pe_callG G__law_part gd hr (by rfl) L.m__law_part L.F__law_part.kp L.b__law_part .nil pass0 (pa_cons (pv 0) (pa_cons (pv 1) (pa_cons pe_int pa_nil)))) pa_nil)))))))))), ?_⟩
  obtain ⟨a, xs, rfl, e0, k0⟩ : ∃ a xs, v = .ref a ∧ SqT K (off b H) a xs ∧ DpAll K (off b H) xs ds := by
    cases hT.dp with
    | tup e k => exact ⟨_, _, rfl, e, k⟩
  have hle := hT.le
  have lx := dpa_len k0
  have e7 : (10000000 : Int) ^ 1 = 10000000 := by decide
  refine ⟨_, rfl, _, rfl, a, xs, rfl, .inr (Same.seqT (off_same b H) e0), ?_⟩
  rw [show ((xs.length : Nat) : Int) = (ds.length : Int) by rw [lx]]
  refine ⟨b, _, _, rfl, hB, (by omega), (by rw [e7]; omega), (by omega), (by omega), (by decide), fun r1 H1 u0 u1 B1 k1 => ?_⟩
  replace B1 := bx1 B1
  refine ⟨_, rfl, b, _, _, rfl, B1, (by decide), (by decide), (by decide), (by omega), (by decide), fun r2 H2 v0 v1 B2 k2 => ?_⟩
  replace B2 := bx1 B2
  refine ⟨_, _, rfl, ?_⟩
  try simp only [L2.start, List.map_cons, List.map_nil, List.length_cons, List.length_nil, List.replicate_succ, List.replicate_zero, List.cons_append, List.nil_append, List.set_cons_succ, List.set_cons_zero, Nat.reduceAdd, Nat.reduceSub, Nat.zero_add]
  have kk2 := k1.trans k2
  have T2 := hT.keep kk2
  have hW2 := hW.keep kk2 nD nl
  have e2 := Same.seqT (off_same b H2) (Same.seqT (off_keep kk2) e0)
  have k20 := dp_sameAll (off_keep kk2) k0
  have hr : r1.toNat < ds.length := by omega
  obtain ⟨y, hy⟩ : ∃ y, xs[r1.toNat]? = some y := ⟨_, List.getElem?_eq_getElem (by omega)⟩
  obtain ⟨dy, hdy, hDy⟩ := dpa_get k20 hy
  have ay : atI xs r1 = some y := by
    have := atI_nat hy
    rwa [Int.toNat_of_nonneg u0] at this
  have ptu : ∀ d ∈ ds, PtOk (k + 1) d := fun d hd => (hT.pt d hd).up hk
  refine ⟨_, rfl, _, _, rfl, rfl, _, rfl, ite2 (fun c1 => ?_) (fun c1 => ?_)⟩
  · refine ⟨_, rfl, _, rfl, r1, rfl, ?_⟩
    refine slD_ev (b := b) B2.some T2.dp fun w1 H3 s3 d3 => ?_
    rw [cutD_lo u0] at d3
    have B3 := B2.same s3
    refine ⟨_, rfl, _, rfl, _, rfl, _, rfl, a, xs, r1, y, rfl, rfl, Same.seqT s3 e2, ay, ?_⟩
    refine ⟨b, D, l, sc, tl, ns, y, dy, k, _, rfl, hW2.keep (Keep.ofSame s3) nD nl, nD, nl, dp_same (off_ofSame s3) hDy, hT.pt dy (List.mem_of_getElem? hdy), hk, B3, by omega, fun w2 d2 H4 dp2 pt2 B4 k4 => ?_⟩
    refine ⟨(by show 1 ≤ sizeLine; decide), fun t1 n1 => ?_⟩
    have s5 := same_upd (o := .tup [w2]) n1
    have B5 := B4.same s5
    refine catD_ev (b := b) (ds := ds.take r1.toNat) (es := [d2]) B5.some (dp_same (off_ofSame s5) (dp_same (off_keep k4) d3)) (.tup (SqT.of (off_at B4.some n1)) (.cons (dp_same (off_ofSame s5) dp2) .nil)) (by rw [List.length_take, List.length_singleton]; omega) fun w3 H6 s6 d6 => ?_
    have B6 := B5.same s6
    have k6 : Keep b H2 H6 := ((Keep.ofSame s3).trans k4).trans (Keep.ofSame (s5.trans s6))
    refine ⟨_, rfl, _, rfl, _, _, rfl, rfl, _, rfl, ?_⟩
    dsimp only [tNoPart]
    refine slD_ev (b := b) B6.some (dp_same (off_keep k6) T2.dp) fun w4 H7 s7 d7 => ?_
    rw [cutD_hi (by omega)] at d7
    refine catD_ev (b := b) (B6.same s7).some (dp_same (off_ofSame s7) d6) d7 (by rw [List.length_append, List.length_take, List.length_drop, List.length_singleton]; omega) fun w5 H8 s8 d8 => ?_
    refine q w5 _ H8 ⟨d8, fun d hd => ?_, ?_⟩ (((B6.same s7).same s8).mono (by omega)) ((kk2.trans k6).trans (Keep.ofSame (s7.trans s8)))
    · rcases List.mem_append.mp hd with hd | hd
      · rcases List.mem_append.mp hd with hd | hd
        · exact ptu d (List.mem_of_mem_take hd)
        · rw [List.mem_singleton.mp hd]
          exact pt2
      · exact ptu d (List.mem_of_mem_drop hd)
    · rw [List.length_append, List.length_append, List.length_take, List.length_drop, List.length_singleton]
      omega
  try simp only [L2.start, List.map_cons, List.map_nil, List.length_cons, List.length_nil, List.replicate_succ, List.replicate_zero, List.cons_append, List.nil_append, List.set_cons_succ, List.set_cons_zero, Nat.reduceAdd, Nat.reduceSub, Nat.zero_add]
  refine ⟨_, rfl, rfl, _, rfl, ite2 (fun c2 => ?_) (fun c2 => ?_)⟩
  · refine ⟨_, rfl, _, rfl, r1, rfl, ?_⟩
    refine slD_ev (b := b) B2.some T2.dp fun w1 H3 s3 d3 => ?_
    rw [cutD_lo u0] at d3
    have B3 := B2.same s3
    refine ⟨_, rfl, _, rfl, _, _, rfl, rfl, _, rfl, ?_⟩
    dsimp only [tNoPart]
    refine slD_ev (b := b) B3.some (dp_same (off_ofSame s3) T2.dp) fun w4 H7 s7 d7 => ?_
    rw [cutD_hi (by omega)] at d7
    refine catD_ev (b := b) (B3.same s7).some (dp_same (off_ofSame s7) d3) d7 (by rw [List.length_take, List.length_drop]; omega) fun w5 H8 s8 d8 => ?_
    refine q w5 _ H8 ⟨d8, fun d hd => ?_, ?_⟩ (((B3.same s7).same s8).mono (by omega)) (kk2.trans (Keep.ofSame (s3.trans (s7.trans s8))))
    · rcases List.mem_append.mp hd with hd | hd
      · exact ptu d (List.mem_of_mem_take hd)
      · exact ptu d (List.mem_of_mem_drop hd)
    · rw [List.length_append, List.length_take, List.length_drop]
      omega
  try simp only [L2.start, List.map_cons, List.map_nil, List.length_cons, List.length_nil, List.replicate_succ, List.replicate_zero, List.cons_append, List.nil_append, List.set_cons_succ, List.set_cons_zero, Nat.reduceAdd, Nat.reduceSub, Nat.zero_add]
  refine ⟨_, rfl, rfl, _, rfl, ite2 (fun c3 => ?_) (fun c3 => ?_)⟩
  · refine ⟨_, rfl, _, rfl, r1, rfl, ?_⟩
    refine slD_ev (b := b) B2.some T2.dp fun w1 H3 s3 d3 => ?_
    rw [cutD_lo u0] at d3
    have B3 := B2.same s3
    refine ⟨_, rfl, _, rfl, r1, rfl, _, rfl, _, _, rfl, rfl, _, rfl, ?_⟩
    refine slD_ev (b := b) B3.some (dp_same (off_ofSame s3) T2.dp) fun w2 H4 s4 d4 => ?_
    have B4 := B3.same s4
    have c5 := cutD_len (ds := ds) u0 (show r1 ≤ r1 + 1 by omega)
    refine catD_ev (b := b) B4.some (dp_same (off_ofSame s4) d3) d4 (by rw [List.length_take]; omega) fun w3 H5 s5 d5 => ?_
    have B5 := B4.same s5
    refine ⟨_, rfl, _, rfl, r1, rfl, ?_⟩
    dsimp only [tNoPart]
    refine slD_ev (b := b) B5.some (dp_same (off_ofSame (s3.trans (s4.trans s5))) T2.dp) fun w4 H7 s7 d7 => ?_
    rw [cutD_hi u0] at d7
    refine catD_ev (b := b) (B5.same s7).some (dp_same (off_ofSame s7) d5) d7 (by rw [List.length_append, List.length_take, List.length_drop]; omega) fun w5 H8 s8 d8 => ?_
    refine q w5 _ H8 ⟨d8, fun d hd => ?_, ?_⟩ (((B5.same s7).same s8).mono (by omega)) (kk2.trans (Keep.ofSame (s3.trans (s4.trans (s5.trans (s7.trans s8))))))
    · rcases List.mem_append.mp hd with hd | hd
      · rcases List.mem_append.mp hd with hd | hd
        · exact ptu d (List.mem_of_mem_take hd)
        · exact ptu d (cutD_mem d hd)
      · exact ptu d (List.mem_of_mem_drop hd)
    · rw [List.length_append, List.length_append, List.length_take, List.length_drop]
      omega
  try simp only [L2.start, List.map_cons, List.map_nil, List.length_cons, List.length_nil, List.replicate_succ, List.replicate_zero, List.cons_append, List.nil_append, List.set_cons_succ, List.set_cons_zero, Nat.reduceAdd, Nat.reduceSub, Nat.zero_add]
  refine ⟨_, rfl, rfl, _, rfl, ite2 (fun c4 => ?_) (fun c4 => ?_)⟩
  · refine ⟨_, rfl, _, rfl, r1, rfl, ?_⟩
    refine slD_ev (b := b) B2.some T2.dp fun w1 H3 s3 d3 => ?_
    rw [cutD_lo u0] at d3
    have B3 := B2.same s3
    refine ⟨_, rfl, _, rfl, r1, rfl, _, rfl, _, _, rfl, rfl, _, rfl, ?_⟩
    refine slD_ev (b := b) B3.some (dp_same (off_ofSame s3) T2.dp) fun w2 H4 s4 d4 => ?_
    have B4 := B3.same s4
    have c5 := cutD_len (ds := ds) u0 (show r1 ≤ r1 + 2 by omega)
    obtain ⟨a4, x4, rfl, e4, k4'⟩ : ∃ a4 x4, w2 = .ref a4 ∧ SqT K (off b H4) a4 x4 ∧ DpAll K (off b H4) x4 (cutD ds (some r1) (some (r1 + 2))) := by
      cases d4 with
      | tup e k => exact ⟨_, _, rfl, e, k⟩
    refine ⟨true, a4, x4, rfl, Same.seqT (off_same b H4) e4, fun p4 np4 => ?_⟩
    have s4' := same_upd (o := .tup x4.reverse) np4
    have d4' : Dp K (off b (upd H4 p4 (.tup x4.reverse))) (.ref p4) (.tuple (cutD ds (some r1) (some (r1 + 2))).reverse) := .tup (SqT.of (off_at B4.some np4)) (dpa_rev (dp_sameAll (off_ofSame s4') k4'))
    rw [show upd H4 p4 (sqO true x4.reverse) = upd H4 p4 (.tup x4.reverse) from rfl]
    generalize upd H4 p4 (.tup x4.reverse) = H4' at *
    have B4' := B4.same s4'
    refine catD_ev (b := b) B4'.some (dp_same (off_ofSame (s4.trans s4')) d3) d4' (by rw [List.length_take, List.length_reverse]; omega) fun w3 H5 s5 d5 => ?_
    have B5 := B4'.same s5
    refine ⟨_, rfl, _, rfl, _, _, rfl, rfl, _, rfl, ?_⟩
    dsimp only [tNoPart]
    refine slD_ev (b := b) B5.some (dp_same (off_ofSame (s3.trans (s4.trans (s4'.trans s5)))) T2.dp) fun w4 H7 s7 d7 => ?_
    rw [cutD_hi (by omega)] at d7
    refine catD_ev (b := b) (B5.same s7).some (dp_same (off_ofSame s7) d5) d7 (by rw [List.length_append, List.length_take, List.length_drop, List.length_reverse]; omega) fun w5 H8 s8 d8 => ?_
    refine q w5 _ H8 ⟨d8, fun d hd => ?_, ?_⟩ (((B5.same s7).same s8).mono (by omega)) (kk2.trans (Keep.ofSame (s3.trans (s4.trans (s4'.trans (s5.trans (s7.trans s8)))))))
    · rcases List.mem_append.mp hd with hd | hd
      · rcases List.mem_append.mp hd with hd | hd
        · exact ptu d (List.mem_of_mem_take hd)
        · exact ptu d (cutD_mem d (List.mem_reverse.mp hd))
      · exact ptu d (List.mem_of_mem_drop hd)
    · rw [List.length_append, List.length_append, List.length_take, List.length_drop, List.length_reverse]
      omega
  try simp only [L2.start, List.map_cons, List.map_nil, List.length_cons, List.length_nil, List.replicate_succ, List.replicate_zero, List.cons_append, List.nil_append, List.set_cons_succ, List.set_cons_zero, Nat.reduceAdd, Nat.reduceSub, Nat.zero_add]
  refine ⟨_, rfl, _, rfl, _, rfl, b, D, l, sc, tl, ns, .int 3, .int 3, k, _, rfl, hW2, nD, nl, .int _, .int (by omega) (by omega) (by omega), hk, B2, by omega, fun w2 d2 H4 dp2 pt2 B4 k4 => ?_⟩
  refine ⟨(by show 1 ≤ sizeLine; decide), fun t1 n1 => ?_⟩
  have s5 := same_upd (o := .tup [w2]) n1
  have B5 := B4.same s5
  refine catD_ev (b := b) (ds := ds) (es := [d2]) B5.some (dp_same (off_ofSame s5) (dp_same (off_keep k4) T2.dp)) (.tup (SqT.of (off_at B4.some n1)) (.cons (dp_same (off_ofSame s5) dp2) .nil)) (by rw [List.length_singleton]; omega) fun w3 H6 s6 d6 => ?_
  refine q w3 _ H6 ⟨d6, fun d hd => ?_, ?_⟩ ((B5.same s6).mono (by omega)) ((kk2.trans k4).trans (Keep.ofSame (s5.trans s6)))
  · rcases List.mem_append.mp hd with hd | hd
    · exact ptu d hd
    · rw [List.mem_singleton.mp hd]
      exact pt2
  · rw [List.length_append, List.length_singleton]
    omega
end
section
variable {P : Program} {w : World} {K : PySem.W.Frag} {mg : Str → Option Value} {base : Heap}
variable {C : Addr} {za : Nat → Addr} {zl : Nat → FuncData} {t22 : Tok} {fW : Addr} {DC : Addr}
/-! ### a deed and its like -/
theorem units64 {k : Nat} {A : Around} (r : Room k A) : A.units + 64 < cLine := by have := r.un; omega
mutual
theorem plain_nd : ∀ d : PyData, d.hasDict = false → d.plain = true
  | .none, _ => rfl
  | .bool _, _ => rfl
  | .int _, _ => rfl
  | .str _, _ => rfl
  | .list xs, h => plain_ndA xs (by simpa only [PyData.hasDict] using h)
  | .tuple xs, h => plain_ndA xs (by simpa only [PyData.hasDict] using h)
  | .dict _, h => by simp [PyData.hasDict] at h
theorem plain_ndA : ∀ ds : List PyData, PyData.hasDictAll ds = false → PyData.plainAll ds = true
  | [], _ => rfl
  | d :: ds, h => by
    have h : (d.hasDict || PyData.hasDictAll ds) = false := h
    rw [Bool.or_eq_false_iff] at h
    show (d.plain && PyData.plainAll ds) = true
    rw [plain_nd d h.1, plain_ndA ds h.2]
    rfl
end
theorem ShwA.all {n m : Nat} : ∀ ds : List PyData, (∀ d ∈ ds, Shw n m d) → ShwA (ds.length * (n + 1)) m ds
  | [], _ => ShwA.nil.mono (Nat.zero_le _) (Nat.zero_le _)
  | d :: ds, h => by
    have r := ShwA.all ds fun e he => h e (List.mem_cons_of_mem _ he)
    exact (ShwA.cons (h d List.mem_cons_self) r).mono (by rw [List.length_cons, Nat.add_mul]; omega) (Nat.le_refl _)
/-- a thing that is asked -/
structure Ask (d : PyData) : Prop where
  sh : Shw 50000 10 d
  le : ∀ ds, d = .tuple ds → ds.length ≤ 16000
theorem lim_le (k : Nat) (hk : k ≤ 2) : lim k ≤ 782 := by
  match k, hk with
  | 0, _ => decide
  | 1, _ => decide
  | 2, _ => decide
theorem shwA_pt {k n : Nat} {ds : List PyData} (hk : k ≤ 2) (h : ∀ d ∈ ds, PtOk k d) (hn : ds.length ≤ n) (h10 : n ≤ 10) : ShwA 8000 2 ds := by
  have a := ShwA.all (n := 782) (m := 2) ds fun d hd => (h d hd).sh.mono (lim_le k hk) hk
  refine a.mono ?_ (Nat.le_refl _)
  have : ds.length * 783 ≤ 10 * 783 := Nat.mul_le_mul_right _ (by omega)
  omega
theorem ask_tup {k n : Nat} {ds : List PyData} (hk : k ≤ 2) (h : ∀ d ∈ ds, PtOk k d) (hn : ds.length ≤ n) (h10 : n ≤ 10) : Ask (.tuple ds) := ⟨(Shw.tup (shwA_pt hk h hn h10)).mono (by decide) (by decide), fun es e => by cases e; omega⟩
theorem ask_lst {k n : Nat} {ds : List PyData} (hk : k ≤ 2) (h : ∀ d ∈ ds, PtOk k d) (hn : ds.length ≤ n) (h10 : n ≤ 10) : Ask (.list ds) := ⟨(Shw.lst (shwA_pt hk h hn h10)).mono (by decide) (by decide), fun es e => by cases e⟩
theorem ask_tt {k n : Nat} {ds : List PyData} (hk : k ≤ 2) (h : ∀ d ∈ ds, PtOk k d) (hn : ds.length ≤ n) (h10 : n ≤ 10) : Ask (.tuple [.tuple ds]) := by
  have a : ShwA (8000 + 1 + 0) 3 [.tuple ds] := ShwA.cons (Shw.tup (shwA_pt hk h hn h10)) (ShwA.nil.mono (Nat.le_refl _) (Nat.zero_le _))
  exact ⟨(Shw.tup a).mono (by decide) (by decide), fun es e => by cases e; show 1 ≤ 16000; decide⟩
theorem ask_tl {k n : Nat} {ds : List PyData} (hk : k ≤ 2) (h : ∀ d ∈ ds, PtOk k d) (hn : ds.length ≤ n) (h10 : n ≤ 10) : Ask (.tuple (ds.take 1 ++ [.list (ds.drop 1)])) := by
  have a1 := Shw.lst (shwA_pt (ds := ds.drop 1) hk (fun d hd => h d (List.mem_of_mem_drop hd)) (by rw [List.length_drop]; omega) h10)
  have a2 : ∀ d ∈ ds.take 1 ++ [.list (ds.drop 1)], Shw 8000 3 d := fun d hd => by
    rcases List.mem_append.mp hd with hd | hd
    · exact (h d (List.mem_of_mem_take hd)).sh.mono (Nat.le_trans (lim_le k hk) (by decide)) (by omega)
    · rw [List.mem_singleton.mp hd]
      exact a1
  have a3 := ShwA.all _ a2
  have l : (ds.take 1 ++ [PyData.list (ds.drop 1)]).length ≤ 2 := by
    rw [List.length_append, List.length_take, List.length_singleton]
    omega
  refine ⟨(Shw.tup a3).mono ?_ (by decide), fun es e => by cases e; omega⟩
  have : (ds.take 1 ++ [PyData.list (ds.drop 1)]).length * 8001 ≤ 2 * 8001 := Nat.mul_le_mul_right _ l
  omega
/-- the list of things -/
structure TgAt (K : PySem.W.Frag) (b : Addr) (H : Hp) (s : Addr) (vs : List V) (ds : List PyData) (i : Nat) : Prop where
  at_ : H s = some (.lst vs)
  ne : s ≠ b
  dp : DpAll K (off b H) vs ds
  ask : ∀ d ∈ ds, Ask d
  len : vs.length = 10 + 5 * i
theorem TgAt.keep {K : PySem.W.Frag} {b : Addr} {H H' : Hp} {s : Addr} {vs : List V} {ds : List PyData} {i : Nat} (h : TgAt K b H s vs ds i) (k : Keep b H H') : TgAt K b H' s vs ds i := ⟨k _ _ h.at_ h.ne, h.ne, dp_sameAll (off_keep k) h.dp, h.ask, h.len⟩
theorem ask_0 : ∀ d ∈ ([.none, .int 5, .bool true, .str "", .str "put", .tuple [], .list [], .tuple [.tuple []], .tuple [.str "put"], .tuple [.str "put", .int 0]] : List PyData), Ask d := by
  simp only [List.forall_mem_cons]
  have p : Shw 5 0 (.str "put") := (Shw.str (gd_str "put")).mono (by decide) (Nat.le_refl _)
  have z : Shw 0 0 (.int 0) := Shw.int (by decide) (by decide)
  have e : Shw 0 1 (.tuple []) := Shw.tup ShwA.nil
  have nt : ∀ {d : PyData}, Shw 50000 10 d → (∀ ds, d ≠ .tuple ds) → Ask d := fun h n => ⟨h, fun ds q => absurd q (n ds)⟩
  refine ⟨nt (Shw.non.mono (by decide) (by decide)) (fun _ q => by cases q), nt ((Shw.int (by decide) (by decide)).mono (by decide) (by decide)) (fun _ q => by cases q), nt ((Shw.bl _).mono (by decide) (by decide)) (fun _ q => by cases q), nt ((Shw.str (gd_str "")).mono (by decide) (by decide)) (fun _ q => by cases q), nt (p.mono (by decide) (by decide)) (fun _ q => by cases q),
    ⟨e.mono (by decide) (by decide), fun ds q => by cases q; decide⟩, nt ((Shw.lst ShwA.nil).mono (by decide) (by decide)) (fun _ q => by cases q), ⟨?_, fun ds q => by cases q; decide⟩, ⟨?_, fun ds q => by cases q; decide⟩, ⟨?_, fun ds q => by cases q; decide⟩, fun _ q => nomatch q⟩
  · have a : ShwA (0 + 1 + 0) 1 [.tuple []] := ShwA.cons e (ShwA.nil.mono (Nat.le_refl _) (Nat.zero_le _))
    exact (Shw.tup a).mono (by decide) (by decide)
  · have a : ShwA (5 + 1 + 0) 0 [.str "put"] := ShwA.cons p ShwA.nil
    exact (Shw.tup a).mono (by decide) (by decide)
  · have a : ShwA (5 + 1 + (0 + 1 + 0)) 0 [.str "put", .int 0] := ShwA.cons p (ShwA.cons z ShwA.nil)
    exact (Shw.tup a).mono (by decide) (by decide)
def spRight64 : Sp := fun vs H Q _ => ∃ (b : Addr) (c : Int), vs = [.ref b] ∧ BoxAt c H b ∧ c ≤ 100 ∧ ∀ H', Keep b H H' → Q (.bl true) H'
theorem ok__law_right (B : Bl mg) (L : LL K mg C za zl t22 fW DC w) : FnOkG P w K mg base CX0 5 (za 16) (zl 16) ["_law_box_here"] spRight64 := by
  have G__law_begin_world : FnOk P w K mg base CX0 4 (za 9) (zl 9) ["_law_box_here"] spWorld := (ok__law_begin_world B L).mono (by decide)
  have G__law_deed : FnOk P w K mg base CX0 4 (za 11) (zl 11) ["_law_box_here", "_law_w"] (spDd K) := (ok__law_deed B L).mono (by decide)
  have G__law_bent : FnOkG P w K mg base CX0 4 (za 15) (zl 15) ["_law_box_here", "_law_w", "_law_deed_here"] (spBent K) := (ok__law_bent B L).mono (by decide)
  have G__law_take : FnOk P w K mg base CX0 4 (za 5) (zl 5) ["_law_box_here", "_law_size"] (spTake 1) := (ok_take L.F__law_take L.b__law_take L.m__law_take B 1).mono (by decide)
  have G_is_deed : FnOk P w K mg base CX0 4 (za 3) (zl 3) ["form", "thing"] (spDeed K C) := (ok_is_deed B L).mono (by decide)
  have G__law_due : FnOk P w K mg base CX0 4 (za 13) (zl 13) ["_law_w", "_law_thing"] (spDue K) := (ok__law_due B L).mono (by decide)
  have G_Form___init__ : FnOk P w K mg base CX0 3 (za 17) (zl 17) ["self", "scale", "tail"] (spInit C) := (ok_Form___init__ B L).mono (by decide)
  refine L.F__law_right.okG sc__law_right (fun vs H Q E h => ?_) (fun cdv A outer s H vs Q E gd hr h => ?_)
  · obtain ⟨b, c, rfl, _⟩ := h
    rfl
  obtain ⟨b, c, rfl, hB, hc, q⟩ := h
  refine ⟨_, (pss_cons (ps_set (i := 1) sc__law_right.nd rfl (.inl rfl) (pe_call G__law_begin_world hr (by rfl) L.m__law_begin_world L.F__law_begin_world.kp L.b__law_begin_world .nil pass0 (pa_cons (pv 0) pa_nil)))
    (pss_cons (ps_par (by rfl) sc__law_right.nd (i := 2) (j := 3) rfl rfl (by decide) rfl rfl (pa_cons (pe_make L.M G_Form___init__ hr (by rfl) L.T.mgC L.b_Form___init__ .nil pass0 (pa_cons (pe_dget (units1 hr) (pv 1) pe_str (fun _ _ => rfl)) (pa_cons (pe_dget (units1 hr) (pv 1) pe_str (fun _ _ => rfl)) pa_nil))) (pa_cons (pe_lst (pa_cons pe_non (pa_cons pe_int (pa_cons pe_bl (pa_cons pe_str (pa_cons pe_str (pa_cons (pe_tup pa_nil) (pa_cons (pe_lst pa_nil) (pa_cons (pe_tup (pa_cons (pe_tup pa_nil) pa_nil)) (pa_cons (pe_tup (pa_cons pe_str pa_nil)) (pa_cons (pe_tup (pa_cons pe_str (pa_cons pe_int pa_nil))) pa_nil))))))))))) pa_nil)) (by rfl))
    (pss_cons (ps_for PassesOwn.never rfl (pi_range1 (by rfl) B.range (pa_cons pe_int pa_nil)) (pg_name (i := 4) sc__law_right.nd rfl (.inl rfl)) (pss_cons (ps_set (i := 5) sc__law_right.nd rfl (.inl rfl) (pe_call G__law_deed hr (by rfl) L.m__law_deed L.F__law_deed.kp L.b__law_deed .nil pass0 (pa_cons (pv 0) (pa_cons (pv 1) pa_nil))))
    (pss_cons (ps_set (i := 6) sc__law_right.nd rfl (.inl rfl) (pe_callG G__law_bent gd hr (by rfl) L.m__law_bent L.F__law_bent.kp L.b__law_bent .nil pass0 (pa_cons (pv 0) (pa_cons (pv 1) (pa_cons (pv 5) pa_nil)))))
    (pss_cons (ps_if (PW.pt (pw_and (pt_cmpR op_eq (pe_call G__law_take hr (by rfl) L.m__law_take L.F__law_take.kp L.b__law_take .nil pass0 (pa_cons (pv 0) (pa_cons pe_int pa_nil))) pe_int (nomark _)) (pw_and1 (pt_cmpR (op_nePl (units64 hr)) (pv 6) (pe_tup pa_nil) (nomark _))))) (pss_one (ps_set (i := 6) sc__law_right.nd rfl (.inl rfl) (pe_callG G__law_bent gd hr (by rfl) L.m__law_bent L.F__law_bent.kp L.b__law_bent .nil pass0 (pa_cons (pv 0) (pa_cons (pv 1) (pa_cons (pv 6) pa_nil)))))) pss_nil)
    (pss_one (ps_set (i := 3) sc__law_right.nd rfl (.inl rfl) (pe_op op_cat (pv 3) (pe_lst (pa_cons (pv 5) (pa_cons (pv 6) (pa_cons (pe_callTy call_list_of (by rfl) B.list PyProof.Rows.boot_list (pa_cons (pv 5) pa_nil)) (pa_cons (pe_tup (pa_cons (pv 5) pa_nil)) (pa_cons (pe_op op_catA (pe_slice sl_tupA (pv 5) po_none (po_some pe_int)) (pe_tup (pa_cons (pe_callTy call_list_of (by rfl) B.list PyProof.Rows.boot_list (pa_cons (pe_slice sl_tupA (pv 5) (po_some pe_int) po_none) pa_nil)) pa_nil))) pa_nil)))))))))))))
    (pss_cons (ps_for PassesOwn.never rfl (pi_list (pv 3)) (pg_name (i := 7) sc__law_right.nd rfl (.inl rfl)) (pss_cons (ps_par (by rfl) sc__law_right.nd (i := 8) (j := 9) rfl rfl (by decide) rfl rfl (pa_cons (pe_callB (call_reprA gd (roomS hr)) (by rfl) L.z_repr PyProof.Rows.boot_repr (pa_cons (pv 7) pa_nil)) (pa_cons (pe_call G_is_deed hr (by rfl) L.m_is_deed L.F_is_deed.kp L.b_is_deed .nil pass0 (pa_cons (pv 2) (pa_cons (pv 7) pa_nil))) pa_nil)) (by rfl))
    (pss_one (ps_if (PW.pt (pw_or (pt_not (pt_val (pe_callB call_isi (by rfl) B.isinstance boot_isinstance (pa_cons (pv 9) (pa_cons (pe_bltn (v := .ty "bool") (by rfl) B.bool PyProof.Rows.boot_bool rfl) pa_nil))))) (pw_or (pt_cmpR op_ne (pv 9) (pe_call G__law_due hr (by rfl) L.m__law_due L.F__law_due.kp L.b__law_due .nil pass0 (pa_cons (pv 1) (pa_cons (pv 7) pa_nil))) (nomark _)) (pw_or1 (pt_cmpR op_ne (pe_callB (call_reprA gd (roomS hr)) (by rfl) L.z_repr PyProof.Rows.boot_repr (pa_cons (pv 7) pa_nil)) (pv 8) (nomark _)))))) (pss_one (ps_ret pe_bl)) pss_nil))))
    (pss_one (ps_ret (pe_cmpR op_isB (pe_call G_is_deed hr (by rfl) L.m_is_deed L.F_is_deed.kp L.b_is_deed .nil pass0 (pa_cons (pv 2) (pa_cons (pe_call G__law_deed hr (by rfl) L.m__law_deed L.F__law_deed.kp L.b__law_deed .nil pass0 (pa_cons (pv 0) (pa_cons (pv 1) pa_nil))) pa_nil))) pe_bl (nomark _)))))))), ?_⟩
  refine ⟨_, rfl, b, _, rfl, hB, by omega, fun D l sc tl ns H1 hW nD nl B1 k1 => ?_⟩
  dsimp only [gName]
  try simp only [L2.start, List.map_cons, List.map_nil, List.length_cons, List.length_nil, List.replicate_succ, List.replicate_zero, List.cons_append, List.nil_append, List.set_cons_succ, List.set_cons_zero, Nat.reduceAdd, Nat.reduceSub, Nat.zero_add]
  obtain ⟨_, _, _, _, _, h1, h2, h3, h4⟩ := id hW
  refine ⟨_, rfl, D, _, rfl, DGet.k (k := .inr "scale") hW.1, _, rfl, D, _, rfl, DGet.k (k := .inr "tail") hW.1, fun x dx nx ndx ne => ?_⟩
  refine ⟨x, dx, sc, tl, rfl, upd_same, h1, h2, h3, h4, fun H3 F3 kp => ⟨rfl, ?_⟩⟩
  have s13 : Same H1 H3 := made nx ndx ne kp
  have B3 := B1.same s13
  have bx : x ≠ b := (B1.ne nx).symm
  have hW3 := hW.keep (Keep.ofSame s13) nD nl
  refine ⟨(by show 0 ≤ sizeLine; decide), fun a1 na1 => ?_⟩
  have sa1 := same_upd (o := .tup []) na1
  have ea1 : (upd H3 a1 (.tup [])) a1 = some (.tup []) := upd_same
  have ba1 : a1 ≠ b := (B3.ne na1).symm
  generalize upd H3 a1 (.tup []) = H4 at *
  have B4 := B3.same sa1
  refine ⟨(by show 0 ≤ sizeLine; decide), fun a2 na2 => ?_⟩
  have sa2 := same_upd (o := .lst []) na2
  have ea2 : (upd H4 a2 (.lst [])) a2 = some (.lst []) := upd_same
  have ba2 : a2 ≠ b := (B4.ne na2).symm
  generalize upd H4 a2 (.lst []) = H5 at *
  have B5 := B4.same sa2
  refine ⟨(by show 0 ≤ sizeLine; decide), fun a3 na3 => ?_⟩
  have sa3 := same_upd (o := .tup []) na3
  have ea3 : (upd H5 a3 (.tup [])) a3 = some (.tup []) := upd_same
  have ba3 : a3 ≠ b := (B5.ne na3).symm
  generalize upd H5 a3 (.tup []) = H6 at *
  have B6 := B5.same sa3
  refine ⟨(by show 1 ≤ sizeLine; decide), fun a4 na4 => ?_⟩
  have sa4 := same_upd (o := .tup [.ref a3]) na4
  have ea4 : (upd H6 a4 (.tup [.ref a3])) a4 = some (.tup [.ref a3]) := upd_same
  have ba4 : a4 ≠ b := (B6.ne na4).symm
  generalize upd H6 a4 (.tup [.ref a3]) = H7 at *
  have B7 := B6.same sa4
  refine ⟨(by show 1 ≤ sizeLine; decide), fun a5 na5 => ?_⟩
  have sa5 := same_upd (o := .tup [.str "put"]) na5
  have ea5 : (upd H7 a5 (.tup [.str "put"])) a5 = some (.tup [.str "put"]) := upd_same
  have ba5 : a5 ≠ b := (B7.ne na5).symm
  generalize upd H7 a5 (.tup [.str "put"]) = H8 at *
  have B8 := B7.same sa5
  refine ⟨(by show 2 ≤ sizeLine; decide), fun a6 na6 => ?_⟩
  have sa6 := same_upd (o := .tup [.str "put", .int 0]) na6
  have ea6 : (upd H8 a6 (.tup [.str "put", .int 0])) a6 = some (.tup [.str "put", .int 0]) := upd_same
  have ba6 : a6 ≠ b := (B8.ne na6).symm
  generalize upd H8 a6 (.tup [.str "put", .int 0]) = H9 at *
  have B9 := B8.same sa6
  refine ⟨(by show 10 ≤ sizeLine; decide), fun t0 nt0 => ?_⟩
  have st0 := same_upd (o := .lst [.non, .int 5, .bl true, .str "", .str "put", .ref a1, .ref a2, .ref a4, .ref a5, .ref a6]) nt0
  have et0 : (upd H9 t0 (.lst [.non, .int 5, .bl true, .str "", .str "put", .ref a1, .ref a2, .ref a4, .ref a5, .ref a6])) t0 = some (.lst [.non, .int 5, .bl true, .str "", .str "put", .ref a1, .ref a2, .ref a4, .ref a5, .ref a6]) := upd_same
  have bt0 : t0 ≠ b := (B9.ne nt0).symm
  generalize upd H9 t0 (.lst [.non, .int 5, .bl true, .str "", .str "put", .ref a1, .ref a2, .ref a4, .ref a5, .ref a6]) = H10 at *
  have B10 := B9.same st0
  refine ⟨_, _, rfl, ?_⟩
  have sA : Same H3 H10 := sa1.trans (sa2.trans (sa3.trans (sa4.trans (sa5.trans (sa6.trans st0)))))
  have hW10 := hW3.keep (Keep.ofSame sA) nD nl
  have F10 := F3.same sA
  have k10 : Keep b H H10 := k1.trans (Keep.ofSame (s13.trans sA))
  have T0 : TgAt K b H10 t0 [.non, .int 5, .bl true, .str "", .str "put", .ref a1, .ref a2, .ref a4, .ref a5, .ref a6] [.none, .int 5, .bool true, .str "", .str "put", .tuple [], .list [], .tuple [.tuple []], .tuple [.str "put"], .tuple [.str "put", .int 0]] 0 := by
    have o1 : Dp K (off b H10) (.ref a1) (.tuple []) := .tup (SqT.of (by rw [off_ne ba1]; exact st0 _ _ (sa6 _ _ (sa5 _ _ (sa4 _ _ (sa3 _ _ (sa2 _ _ ea1))))))) .nil
    have o2 : Dp K (off b H10) (.ref a2) (.list []) := .lst (SqL.of (by rw [off_ne ba2]; exact st0 _ _ (sa6 _ _ (sa5 _ _ (sa4 _ _ (sa3 _ _ ea2)))))) .nil
    have o3 : Dp K (off b H10) (.ref a3) (.tuple []) := .tup (SqT.of (by rw [off_ne ba3]; exact st0 _ _ (sa6 _ _ (sa5 _ _ (sa4 _ _ ea3))))) .nil
    have o4 : Dp K (off b H10) (.ref a4) (.tuple [.tuple []]) := .tup (SqT.of (by rw [off_ne ba4]; exact st0 _ _ (sa6 _ _ (sa5 _ _ ea4)))) (.cons o3 .nil)
    have o5 : Dp K (off b H10) (.ref a5) (.tuple [.str "put"]) := .tup (SqT.of (by rw [off_ne ba5]; exact st0 _ _ (sa6 _ _ ea5))) (.cons (.str _) .nil)
    have o6 : Dp K (off b H10) (.ref a6) (.tuple [.str "put", .int 0]) := .tup (SqT.of (by rw [off_ne ba6]; exact st0 _ _ ea6)) (.cons (.str _) (.cons (.int _) .nil))
    exact ⟨et0, bt0, .cons .non (.cons (.int _) (.cons (.bl _) (.cons (.str _) (.cons (.str _) (.cons o1 (.cons o2 (.cons o4 (.cons o5 (.cons o6 .nil))))))))), ask_0, rfl⟩
  generalize ([.non, .int 5, .bl true, .str "", .str "put", .ref a1, .ref a2, .ref a4, .ref a5, .ref a6] : List V) = vs0 at *
  generalize ([.none, .int 5, .bool true, .str "", .str "put", .tuple [], .list [], .tuple [.tuple []], .tuple [.str "put"], .tuple [.str "put", .int 0]] : List PyData) = ds0 at *
  clear sa1 sa2 sa3 sa4 sa5 sa6 st0 ea1 ea2 ea3 ea4 ea5 ea6 et0
  try simp only [L2.start, List.map_cons, List.map_nil, List.length_cons, List.length_nil, List.replicate_succ, List.replicate_zero, List.cons_append, List.nil_append, List.set_cons_succ, List.set_cons_zero, Nat.reduceAdd, Nat.reduceSub, Nat.zero_add]
  refine ⟨_, rfl, by decide, by decide, ?_⟩
  refine for_range (n := 12) (fun i σ H9 => ∃ (s : Addr) (vs : List V) (ds : List PyData) (y4 y5 y6 : Option V), σ = [some (.ref b), some (.ref D), some (.ref x), some (.ref s), y4, y5, y6, none, none, none] ∧ TgAt K b H9 s vs ds i ∧ Keep b H10 H9 ∧ BoxAt (c + 7 + 37 * i) H9 b) ⟨t0, vs0, ds0, none, none, none, rfl, T0, Keep.refl _ _, B10.mono (by omega)⟩ ?_ ?_
  · rintro i σ H9 hi ⟨s, vs, ds, y4, y5, y6, rfl, T9, k9, B9⟩
    dsimp only [gName]
    try simp only [L2.start, List.map_cons, List.map_nil, List.length_cons, List.length_nil, List.replicate_succ, List.replicate_zero, List.cons_append, List.nil_append, List.set_cons_succ, List.set_cons_zero, Nat.reduceAdd, Nat.reduceSub, Nat.zero_add]
    refine ⟨_, rfl, _, rfl, b, D, l, sc, tl, ns, _, rfl, hW10.keep k9 nD nl, nD, nl, B9, by omega, fun v1 d1 H11 D11 B11 k11 => ?_⟩
    dsimp only [gName]
    try simp only [L2.start, List.map_cons, List.map_nil, List.length_cons, List.length_nil, List.replicate_succ, List.replicate_zero, List.cons_append, List.nil_append, List.set_cons_succ, List.set_cons_zero, Nat.reduceAdd, Nat.reduceSub, Nat.zero_add]
    refine ⟨_, rfl, _, rfl, _, rfl, b, D, l, sc, tl, ns, v1, d1, 0, 6, _, rfl, (hW10.keep k9 nD nl).keep k11 nD nl, nD, nl, ⟨D11.dp, D11.pt, D11.ge⟩, (by have := D11.le; omega), by decide, by decide, B11, by omega, fun v2 d2 H12 T12 B12 k12 => ?_⟩
    dsimp only [gName]
    try simp only [L2.start, List.map_cons, List.map_nil, List.length_cons, List.length_nil, List.replicate_succ, List.replicate_zero, List.cons_append, List.nil_append, List.set_cons_succ, List.set_cons_zero, Nat.reduceAdd, Nat.reduceSub, Nat.zero_add]
    refine ⟨_, rfl, b, _, _, rfl, B12, (by decide), (by decide), (by decide), (by omega), (by decide), fun r H13 u0 u1 B13 k13 => ?_⟩
    replace B13 := bx1 B13
    have T13 := T12.keep k13
    refine ⟨rfl, _, rfl, ite2 (fun c1 => ?_) (fun c1 => ?_)⟩
    · refine ⟨_, rfl, (by show 0 ≤ sizeLine; decide), fun te nte => ?_⟩
      have ste := same_upd (o := .tup []) nte
      have ete : (upd H13 te (.tup [])) te = some (.tup []) := upd_same
      generalize upd H13 te (.tup []) = H14 at *
      have B14 := B13.same ste
      have T14 := T13.keep (Keep.ofSame ste)
      have sh14 := Shw.tup (shwA_pt (by decide) T14.pt T14.le (by decide))
      refine ⟨.tuple d2, .tuple [], dp_same (off_same b _) T14.dp, .tup (SqT.of ete) .nil, plain_nd _ sh14.nd, rfl, Nat.le_trans sh14.dp (by decide), _, rfl, ite2 (fun c2 => ?_) (fun c2 => ?_)⟩
      · have l2 : 1 ≤ d2.length := by
          cases d2 with
          | nil => exact absurd c2 (by decide)
          | cons _ _ => rw [List.length_cons]; omega
        refine ⟨_, rfl, _, rfl, _, rfl, b, D, l, sc, tl, ns, v2, d2, 1, 7, _, rfl, (hW10.keep (k9.trans (k11.trans (k12.trans (k13.trans (Keep.ofSame ste))))) nD nl), nD, nl, T14, l2, by decide, by decide, B14, by omega, fun v3 d3 H15 T15 B15 k15 => ?_⟩
        dsimp only [gName]
        try simp only [L2.start, List.map_cons, List.map_nil, List.length_cons, List.length_nil, List.replicate_succ, List.replicate_zero, List.cons_append, List.nil_append, List.set_cons_succ, List.set_cons_zero, Nat.reduceAdd, Nat.reduceSub, Nat.zero_add]
        have kN : Keep b H11 H15 := (((k12.trans k13).trans (Keep.ofSame ste)).trans k15)
        have TN := T15
        have BN := B15
        have T1 : TpAt K b H15 0 6 v1 d1 := (TpAt.mk D11.dp D11.pt D11.ge).keep kN
        have TS := T9.keep (k11.trans kN)
        have k9N : Keep b H10 H15 := k9.trans (k11.trans kN)
        obtain ⟨a1', x1', rfl, q1, q2⟩ : ∃ a1' x1', v1 = .ref a1' ∧ SqT K (off b H15) a1' x1' ∧ DpAll K (off b H15) x1' d1 := by
          cases T1.dp with
          | tup e k => exact ⟨_, _, rfl, e, k⟩
        refine ⟨_, rfl, _, rfl, _, rfl, _, rfl, a1', x1', rfl, .inr (Same.seqT (off_same b _) q1), fun w1 nw1 => ?_⟩
        have bw1 : w1 ≠ b := (BN.ne nw1).symm
        have sw1 := same_upd (o := .lst x1') nw1
        have ew1 : (upd H15 w1 (.lst x1')) w1 = some (.lst x1') := upd_same
        generalize upd H15 w1 (.lst x1') = W1 at *
        have BW1 := BN.same sw1
        refine ⟨_, rfl, (by show 1 ≤ sizeLine; decide), fun w2 nw2 => ?_⟩
        have bw2 : w2 ≠ b := (BW1.ne nw2).symm
        have sw2 := same_upd (o := .tup [.ref a1']) nw2
        have ew2 : (upd W1 w2 (.tup [.ref a1'])) w2 = some (.tup [.ref a1']) := upd_same
        generalize upd W1 w2 (.tup [.ref a1']) = W2 at *
        have BW2 := BW1.same sw2
        refine ⟨_, rfl, 1, rfl, ?_⟩
        refine slD_ev (b := b) (ds := d1) BW2.some (dp_same (off_ofSame (sw1.trans sw2)) T1.dp) fun z1 W3 sw3 dz1 => ?_
        rw [cutD_lo (by decide)] at dz1
        have BW3 := BW2.same sw3
        refine ⟨_, rfl, 1, rfl, ?_⟩
        dsimp only [tNoPart]
        refine slD_ev (b := b) (ds := d1) BW3.some (dp_same (off_ofSame (sw1.trans (sw2.trans sw3))) T1.dp) fun z2 W4 sw4 dz2 => ?_
        rw [cutD_hi (by decide)] at dz2
        have BW4 := BW3.same sw4
        obtain ⟨a2', x2', rfl, q3, q4⟩ : ∃ a2' x2', z2 = .ref a2' ∧ SqT K (off b W4) a2' x2' ∧ DpAll K (off b W4) x2' (d1.drop (1 : Int).toNat) := by
          cases dz2 with
          | tup e k => exact ⟨_, _, rfl, e, k⟩
        refine ⟨a2', x2', rfl, .inr (Same.seqT (off_same b _) q3), fun w5 nw5 => ?_⟩
        have bw5 : w5 ≠ b := (BW4.ne nw5).symm
        have sw5 := same_upd (o := .lst x2') nw5
        have ew5 : (upd W4 w5 (.lst x2')) w5 = some (.lst x2') := upd_same
        generalize upd W4 w5 (.lst x2') = W5 at *
        have BW5 := BW4.same sw5
        have dl5 : Dp K (off b W5) (.ref w5) (.list (d1.drop 1)) := .lst (SqL.of (by rw [off_ne bw5]; exact ew5)) (dp_sameAll (off_ofSame sw5) q4)
        refine ⟨(by show 1 ≤ sizeLine; decide), fun w6 nw6 => ?_⟩
        have sw6 := same_upd (o := .tup [.ref w5]) nw6
        have dt6 : Dp K (off b (upd W5 w6 (.tup [.ref w5]))) (.ref w6) (.tuple [.list (d1.drop 1)]) := .tup (SqT.of (off_at BW5.some nw6)) (.cons (dp_same (off_ofSame sw6) dl5) .nil)
        generalize upd W5 w6 (.tup [.ref w5]) = W6 at *
        have BW6 := BW5.same sw6
        refine catD_ev (b := b) (ds := d1.take 1) (es := [.list (d1.drop 1)]) BW6.some (dp_same (off_ofSame (sw4.trans (sw5.trans sw6))) dz1) dt6 (by rw [List.length_take, List.length_singleton]; omega) fun z7 W7 sw7 dz7 => ?_
        have dz7 : Dp K (off b W7) z7 (.tuple (d1.take 1 ++ [.list (d1.drop 1)])) := dz7
        have BW7 := BW6.same sw7
        refine ⟨(by show 5 ≤ sizeLine; decide), fun w8 nw8 => ?_⟩
        have sw8 := same_upd (o := .lst [.ref a1', v3, .ref w1, .ref w2, z7]) nw8
        have ew8 : (upd W7 w8 (.lst [.ref a1', v3, .ref w1, .ref w2, z7])) w8 = some (.lst [.ref a1', v3, .ref w1, .ref w2, z7]) := upd_same
        generalize upd W7 w8 (.lst [.ref a1', v3, .ref w1, .ref w2, z7]) = W8 at *
        have BW8 := BW7.same sw8
        have sN7 : Same H15 W7 := sw1.trans (sw2.trans (sw3.trans (sw4.trans (sw5.trans (sw6.trans sw7)))))
        have sN8 := sN7.trans sw8
        have TS8 := TS.keep (Keep.ofSame sN8)
        have l5 := TS8.len
        refine ⟨s, w8, vs, _, rfl, rfl, TS8.at_, ew8, by rw [l5, sizeLine_eq]; show 10 + 5 * i + 5 ≤ _; omega, fun w9 nw9 => ?_⟩
        have bw9 : w9 ≠ b := (BW8.ne nw9).symm
        have sw9 := same_upd (o := .lst (vs ++ [.ref a1', v3, .ref w1, .ref w2, z7])) nw9
        have sN9 := sN8.trans sw9
        have s79 : Same W7 (upd W8 w9 (.lst (vs ++ [.ref a1', v3, .ref w1, .ref w2, z7]))) := sw8.trans sw9
        have o1 := dp_same (off_ofSame sN9) T1.dp
        have o3 := dp_sameAll (off_ofSame sN9) q2
        have s19 : Same W1 (upd W8 w9 (.lst (vs ++ [.ref a1', v3, .ref w1, .ref w2, z7]))) := sw2.trans (sw3.trans (sw4.trans (sw5.trans (sw6.trans (sw7.trans s79)))))
        have s29 : Same W2 (upd W8 w9 (.lst (vs ++ [.ref a1', v3, .ref w1, .ref w2, z7]))) := sw3.trans (sw4.trans (sw5.trans (sw6.trans (sw7.trans s79))))
        refine ⟨w9, vs ++ [.ref a1', v3, .ref w1, .ref w2, z7], ds ++ [.tuple d1, .tuple d3, .list d1, .tuple [.tuple d1], .tuple (d1.take 1 ++ [.list (d1.drop 1)])], _, _, _, rfl, ⟨upd_same, bw9, dpa_appd (dp_sameAll (off_ofSame sN9) TS.dp) (.cons o1 (.cons (dp_same (off_ofSame sN9) TN.dp) (.cons (.lst (SqL.of (by rw [off_ne bw1]; exact s19 _ _ ew1)) o3) (.cons (.tup (SqT.of (by rw [off_ne bw2]; exact s29 _ _ ew2)) (.cons o1 .nil)) (.cons (dp_same (off_ofSame s79) dz7) .nil))))), fun e he => ?_, ?_⟩, k9N.trans (Keep.ofSame sN9), (BN.same sN9).mono (by omega)⟩
        · rcases List.mem_append.mp he with he | he
          · exact TS.ask e he
          · simp only [List.mem_cons, List.not_mem_nil, or_false] at he
            rcases he with rfl | rfl | rfl | rfl | rfl
            · exact ask_tup (by decide) T1.pt T1.le (by decide)
            · exact ask_tup (by decide) TN.pt TN.le (by decide)
            · exact ask_lst (by decide) T1.pt T1.le (by decide)
            · exact ask_tt (by decide) T1.pt T1.le (by decide)
            · exact ask_tl (by decide) T1.pt T1.le (by decide)
        · rw [List.length_append, l5]
          show 10 + 5 * i + 5 = 10 + 5 * (i + 1)
          omega
      · try simp only [L2.start, List.map_cons, List.map_nil, List.length_cons, List.length_nil, List.replicate_succ, List.replicate_zero, List.cons_append, List.nil_append, List.set_cons_succ, List.set_cons_zero, Nat.reduceAdd, Nat.reduceSub, Nat.zero_add]
        have kN : Keep b H11 H14 := ((k12.trans k13).trans (Keep.ofSame ste))
        have TN := T14
        have BN := B14
        have T1 : TpAt K b H14 0 6 v1 d1 := (TpAt.mk D11.dp D11.pt D11.ge).keep kN
        have TS := T9.keep (k11.trans kN)
        have k9N : Keep b H10 H14 := k9.trans (k11.trans kN)
        obtain ⟨a1', x1', rfl, q1, q2⟩ : ∃ a1' x1', v1 = .ref a1' ∧ SqT K (off b H14) a1' x1' ∧ DpAll K (off b H14) x1' d1 := by
          cases T1.dp with
          | tup e k => exact ⟨_, _, rfl, e, k⟩
        refine ⟨_, rfl, _, rfl, _, rfl, _, rfl, a1', x1', rfl, .inr (Same.seqT (off_same b _) q1), fun w1 nw1 => ?_⟩
        have bw1 : w1 ≠ b := (BN.ne nw1).symm
        have sw1 := same_upd (o := .lst x1') nw1
        have ew1 : (upd H14 w1 (.lst x1')) w1 = some (.lst x1') := upd_same
        generalize upd H14 w1 (.lst x1') = W1 at *
        have BW1 := BN.same sw1
        refine ⟨_, rfl, (by show 1 ≤ sizeLine; decide), fun w2 nw2 => ?_⟩
        have bw2 : w2 ≠ b := (BW1.ne nw2).symm
        have sw2 := same_upd (o := .tup [.ref a1']) nw2
        have ew2 : (upd W1 w2 (.tup [.ref a1'])) w2 = some (.tup [.ref a1']) := upd_same
        generalize upd W1 w2 (.tup [.ref a1']) = W2 at *
        have BW2 := BW1.same sw2
        refine ⟨_, rfl, 1, rfl, ?_⟩
        refine slD_ev (b := b) (ds := d1) BW2.some (dp_same (off_ofSame (sw1.trans sw2)) T1.dp) fun z1 W3 sw3 dz1 => ?_
        rw [cutD_lo (by decide)] at dz1
        have BW3 := BW2.same sw3
        refine ⟨_, rfl, 1, rfl, ?_⟩
        dsimp only [tNoPart]
        refine slD_ev (b := b) (ds := d1) BW3.some (dp_same (off_ofSame (sw1.trans (sw2.trans sw3))) T1.dp) fun z2 W4 sw4 dz2 => ?_
        rw [cutD_hi (by decide)] at dz2
        have BW4 := BW3.same sw4
        obtain ⟨a2', x2', rfl, q3, q4⟩ : ∃ a2' x2', z2 = .ref a2' ∧ SqT K (off b W4) a2' x2' ∧ DpAll K (off b W4) x2' (d1.drop (1 : Int).toNat) := by
          cases dz2 with
          | tup e k => exact ⟨_, _, rfl, e, k⟩
        refine ⟨a2', x2', rfl, .inr (Same.seqT (off_same b _) q3), fun w5 nw5 => ?_⟩
        have bw5 : w5 ≠ b := (BW4.ne nw5).symm
        have sw5 := same_upd (o := .lst x2') nw5
        have ew5 : (upd W4 w5 (.lst x2')) w5 = some (.lst x2') := upd_same
        generalize upd W4 w5 (.lst x2') = W5 at *
        have BW5 := BW4.same sw5
        have dl5 : Dp K (off b W5) (.ref w5) (.list (d1.drop 1)) := .lst (SqL.of (by rw [off_ne bw5]; exact ew5)) (dp_sameAll (off_ofSame sw5) q4)
        refine ⟨(by show 1 ≤ sizeLine; decide), fun w6 nw6 => ?_⟩
        have sw6 := same_upd (o := .tup [.ref w5]) nw6
        have dt6 : Dp K (off b (upd W5 w6 (.tup [.ref w5]))) (.ref w6) (.tuple [.list (d1.drop 1)]) := .tup (SqT.of (off_at BW5.some nw6)) (.cons (dp_same (off_ofSame sw6) dl5) .nil)
        generalize upd W5 w6 (.tup [.ref w5]) = W6 at *
        have BW6 := BW5.same sw6
        refine catD_ev (b := b) (ds := d1.take 1) (es := [.list (d1.drop 1)]) BW6.some (dp_same (off_ofSame (sw4.trans (sw5.trans sw6))) dz1) dt6 (by rw [List.length_take, List.length_singleton]; omega) fun z7 W7 sw7 dz7 => ?_
        have dz7 : Dp K (off b W7) z7 (.tuple (d1.take 1 ++ [.list (d1.drop 1)])) := dz7
        have BW7 := BW6.same sw7
        refine ⟨(by show 5 ≤ sizeLine; decide), fun w8 nw8 => ?_⟩
        have sw8 := same_upd (o := .lst [.ref a1', v2, .ref w1, .ref w2, z7]) nw8
        have ew8 : (upd W7 w8 (.lst [.ref a1', v2, .ref w1, .ref w2, z7])) w8 = some (.lst [.ref a1', v2, .ref w1, .ref w2, z7]) := upd_same
        generalize upd W7 w8 (.lst [.ref a1', v2, .ref w1, .ref w2, z7]) = W8 at *
        have BW8 := BW7.same sw8
        have sN7 : Same H14 W7 := sw1.trans (sw2.trans (sw3.trans (sw4.trans (sw5.trans (sw6.trans sw7)))))
        have sN8 := sN7.trans sw8
        have TS8 := TS.keep (Keep.ofSame sN8)
        have l5 := TS8.len
        refine ⟨s, w8, vs, _, rfl, rfl, TS8.at_, ew8, by rw [l5, sizeLine_eq]; show 10 + 5 * i + 5 ≤ _; omega, fun w9 nw9 => ?_⟩
        have bw9 : w9 ≠ b := (BW8.ne nw9).symm
        have sw9 := same_upd (o := .lst (vs ++ [.ref a1', v2, .ref w1, .ref w2, z7])) nw9
        have sN9 := sN8.trans sw9
        have s79 : Same W7 (upd W8 w9 (.lst (vs ++ [.ref a1', v2, .ref w1, .ref w2, z7]))) := sw8.trans sw9
        have o1 := dp_same (off_ofSame sN9) T1.dp
        have o3 := dp_sameAll (off_ofSame sN9) q2
        have s19 : Same W1 (upd W8 w9 (.lst (vs ++ [.ref a1', v2, .ref w1, .ref w2, z7]))) := sw2.trans (sw3.trans (sw4.trans (sw5.trans (sw6.trans (sw7.trans s79)))))
        have s29 : Same W2 (upd W8 w9 (.lst (vs ++ [.ref a1', v2, .ref w1, .ref w2, z7]))) := sw3.trans (sw4.trans (sw5.trans (sw6.trans (sw7.trans s79))))
        refine ⟨w9, vs ++ [.ref a1', v2, .ref w1, .ref w2, z7], ds ++ [.tuple d1, .tuple d2, .list d1, .tuple [.tuple d1], .tuple (d1.take 1 ++ [.list (d1.drop 1)])], _, _, _, rfl, ⟨upd_same, bw9, dpa_appd (dp_sameAll (off_ofSame sN9) TS.dp) (.cons o1 (.cons (dp_same (off_ofSame sN9) TN.dp) (.cons (.lst (SqL.of (by rw [off_ne bw1]; exact s19 _ _ ew1)) o3) (.cons (.tup (SqT.of (by rw [off_ne bw2]; exact s29 _ _ ew2)) (.cons o1 .nil)) (.cons (dp_same (off_ofSame s79) dz7) .nil))))), fun e he => ?_, ?_⟩, k9N.trans (Keep.ofSame sN9), (BN.same sN9).mono (by omega)⟩
        · rcases List.mem_append.mp he with he | he
          · exact TS.ask e he
          · simp only [List.mem_cons, List.not_mem_nil, or_false] at he
            rcases he with rfl | rfl | rfl | rfl | rfl
            · exact ask_tup (by decide) T1.pt T1.le (by decide)
            · exact ask_tup (by decide) TN.pt TN.le (by decide)
            · exact ask_lst (by decide) T1.pt T1.le (by decide)
            · exact ask_tt (by decide) T1.pt T1.le (by decide)
            · exact ask_tl (by decide) T1.pt T1.le (by decide)
        · rw [List.length_append, l5]
          show 10 + 5 * i + 5 = 10 + 5 * (i + 1)
          omega
    · try simp only [L2.start, List.map_cons, List.map_nil, List.length_cons, List.length_nil, List.replicate_succ, List.replicate_zero, List.cons_append, List.nil_append, List.set_cons_succ, List.set_cons_zero, Nat.reduceAdd, Nat.reduceSub, Nat.zero_add]
      have kN : Keep b H11 H13 := (k12.trans k13)
      have TN := T13
      have BN := B13
      have T1 : TpAt K b H13 0 6 v1 d1 := (TpAt.mk D11.dp D11.pt D11.ge).keep kN
      have TS := T9.keep (k11.trans kN)
      have k9N : Keep b H10 H13 := k9.trans (k11.trans kN)
      obtain ⟨a1', x1', rfl, q1, q2⟩ : ∃ a1' x1', v1 = .ref a1' ∧ SqT K (off b H13) a1' x1' ∧ DpAll K (off b H13) x1' d1 := by
        cases T1.dp with
        | tup e k => exact ⟨_, _, rfl, e, k⟩
      refine ⟨_, rfl, _, rfl, _, rfl, _, rfl, a1', x1', rfl, .inr (Same.seqT (off_same b _) q1), fun w1 nw1 => ?_⟩
      have bw1 : w1 ≠ b := (BN.ne nw1).symm
      have sw1 := same_upd (o := .lst x1') nw1
      have ew1 : (upd H13 w1 (.lst x1')) w1 = some (.lst x1') := upd_same
      generalize upd H13 w1 (.lst x1') = W1 at *
      have BW1 := BN.same sw1
      refine ⟨_, rfl, (by show 1 ≤ sizeLine; decide), fun w2 nw2 => ?_⟩
      have bw2 : w2 ≠ b := (BW1.ne nw2).symm
      have sw2 := same_upd (o := .tup [.ref a1']) nw2
      have ew2 : (upd W1 w2 (.tup [.ref a1'])) w2 = some (.tup [.ref a1']) := upd_same
      generalize upd W1 w2 (.tup [.ref a1']) = W2 at *
      have BW2 := BW1.same sw2
      refine ⟨_, rfl, 1, rfl, ?_⟩
      refine slD_ev (b := b) (ds := d1) BW2.some (dp_same (off_ofSame (sw1.trans sw2)) T1.dp) fun z1 W3 sw3 dz1 => ?_
      rw [cutD_lo (by decide)] at dz1
      have BW3 := BW2.same sw3
      refine ⟨_, rfl, 1, rfl, ?_⟩
      dsimp only [tNoPart]
      refine slD_ev (b := b) (ds := d1) BW3.some (dp_same (off_ofSame (sw1.trans (sw2.trans sw3))) T1.dp) fun z2 W4 sw4 dz2 => ?_
      rw [cutD_hi (by decide)] at dz2
      have BW4 := BW3.same sw4
      obtain ⟨a2', x2', rfl, q3, q4⟩ : ∃ a2' x2', z2 = .ref a2' ∧ SqT K (off b W4) a2' x2' ∧ DpAll K (off b W4) x2' (d1.drop (1 : Int).toNat) := by
        cases dz2 with
        | tup e k => exact ⟨_, _, rfl, e, k⟩
      refine ⟨a2', x2', rfl, .inr (Same.seqT (off_same b _) q3), fun w5 nw5 => ?_⟩
      have bw5 : w5 ≠ b := (BW4.ne nw5).symm
      have sw5 := same_upd (o := .lst x2') nw5
      have ew5 : (upd W4 w5 (.lst x2')) w5 = some (.lst x2') := upd_same
      generalize upd W4 w5 (.lst x2') = W5 at *
      have BW5 := BW4.same sw5
      have dl5 : Dp K (off b W5) (.ref w5) (.list (d1.drop 1)) := .lst (SqL.of (by rw [off_ne bw5]; exact ew5)) (dp_sameAll (off_ofSame sw5) q4)
      refine ⟨(by show 1 ≤ sizeLine; decide), fun w6 nw6 => ?_⟩
      have sw6 := same_upd (o := .tup [.ref w5]) nw6
      have dt6 : Dp K (off b (upd W5 w6 (.tup [.ref w5]))) (.ref w6) (.tuple [.list (d1.drop 1)]) := .tup (SqT.of (off_at BW5.some nw6)) (.cons (dp_same (off_ofSame sw6) dl5) .nil)
      generalize upd W5 w6 (.tup [.ref w5]) = W6 at *
      have BW6 := BW5.same sw6
      refine catD_ev (b := b) (ds := d1.take 1) (es := [.list (d1.drop 1)]) BW6.some (dp_same (off_ofSame (sw4.trans (sw5.trans sw6))) dz1) dt6 (by rw [List.length_take, List.length_singleton]; omega) fun z7 W7 sw7 dz7 => ?_
      have dz7 : Dp K (off b W7) z7 (.tuple (d1.take 1 ++ [.list (d1.drop 1)])) := dz7
      have BW7 := BW6.same sw7
      refine ⟨(by show 5 ≤ sizeLine; decide), fun w8 nw8 => ?_⟩
      have sw8 := same_upd (o := .lst [.ref a1', v2, .ref w1, .ref w2, z7]) nw8
      have ew8 : (upd W7 w8 (.lst [.ref a1', v2, .ref w1, .ref w2, z7])) w8 = some (.lst [.ref a1', v2, .ref w1, .ref w2, z7]) := upd_same
      generalize upd W7 w8 (.lst [.ref a1', v2, .ref w1, .ref w2, z7]) = W8 at *
      have BW8 := BW7.same sw8
      have sN7 : Same H13 W7 := sw1.trans (sw2.trans (sw3.trans (sw4.trans (sw5.trans (sw6.trans sw7)))))
      have sN8 := sN7.trans sw8
      have TS8 := TS.keep (Keep.ofSame sN8)
      have l5 := TS8.len
      refine ⟨s, w8, vs, _, rfl, rfl, TS8.at_, ew8, by rw [l5, sizeLine_eq]; show 10 + 5 * i + 5 ≤ _; omega, fun w9 nw9 => ?_⟩
      have bw9 : w9 ≠ b := (BW8.ne nw9).symm
      have sw9 := same_upd (o := .lst (vs ++ [.ref a1', v2, .ref w1, .ref w2, z7])) nw9
      have sN9 := sN8.trans sw9
      have s79 : Same W7 (upd W8 w9 (.lst (vs ++ [.ref a1', v2, .ref w1, .ref w2, z7]))) := sw8.trans sw9
      have o1 := dp_same (off_ofSame sN9) T1.dp
      have o3 := dp_sameAll (off_ofSame sN9) q2
      have s19 : Same W1 (upd W8 w9 (.lst (vs ++ [.ref a1', v2, .ref w1, .ref w2, z7]))) := sw2.trans (sw3.trans (sw4.trans (sw5.trans (sw6.trans (sw7.trans s79)))))
      have s29 : Same W2 (upd W8 w9 (.lst (vs ++ [.ref a1', v2, .ref w1, .ref w2, z7]))) := sw3.trans (sw4.trans (sw5.trans (sw6.trans (sw7.trans s79))))
      refine ⟨w9, vs ++ [.ref a1', v2, .ref w1, .ref w2, z7], ds ++ [.tuple d1, .tuple d2, .list d1, .tuple [.tuple d1], .tuple (d1.take 1 ++ [.list (d1.drop 1)])], _, _, _, rfl, ⟨upd_same, bw9, dpa_appd (dp_sameAll (off_ofSame sN9) TS.dp) (.cons o1 (.cons (dp_same (off_ofSame sN9) TN.dp) (.cons (.lst (SqL.of (by rw [off_ne bw1]; exact s19 _ _ ew1)) o3) (.cons (.tup (SqT.of (by rw [off_ne bw2]; exact s29 _ _ ew2)) (.cons o1 .nil)) (.cons (dp_same (off_ofSame s79) dz7) .nil))))), fun e he => ?_, ?_⟩, k9N.trans (Keep.ofSame sN9), (BN.same sN9).mono (by omega)⟩
      · rcases List.mem_append.mp he with he | he
        · exact TS.ask e he
        · simp only [List.mem_cons, List.not_mem_nil, or_false] at he
          rcases he with rfl | rfl | rfl | rfl | rfl
          · exact ask_tup (by decide) T1.pt T1.le (by decide)
          · exact ask_tup (by decide) TN.pt TN.le (by decide)
          · exact ask_lst (by decide) T1.pt T1.le (by decide)
          · exact ask_tt (by decide) T1.pt T1.le (by decide)
          · exact ask_tl (by decide) T1.pt T1.le (by decide)
      · rw [List.length_append, l5]
        show 10 + 5 * i + 5 = 10 + 5 * (i + 1)
        omega
  · rintro σ H9 ⟨s, vs, ds, y4, y5, y6, rfl, T9, k9, B9⟩
    show tSeq _ _ _ _ _
    have hW9 := hW10.keep k9 nD nl
    have F9 := F10.keep k9 bx
    refine ⟨_, rfl, s, rfl, ⟨_, SqL.of T9.at_⟩, ?_⟩
    refine for_list (K := K) (a := s) (xs := vs) (fun i σ H2 => ∃ (y7 y8 y9 : Option V), σ = [some (.ref b), some (.ref D), some (.ref x), some (.ref s), y4, y5, y6, y7, y8, y9] ∧ Same H9 H2) ⟨none, none, none, rfl, Same.refl _⟩ (fun i σ H2 _ ⟨_, _, _, _, s2⟩ => SqL.of (s2 _ _ T9.at_)) ?_ ?_
    · rintro i z σ H2 hi ⟨y7, y8, y9, rfl, s2⟩
      dsimp only [gName]
      try simp only [L2.start, List.map_cons, List.map_nil, List.length_cons, List.length_nil, List.replicate_succ, List.replicate_zero, List.cons_append, List.nil_append, List.set_cons_succ, List.set_cons_zero, Nat.reduceAdd, Nat.reduceSub, Nat.zero_add]
      obtain ⟨d, hd, hdz⟩ := dpa_get T9.dp hi
      have ak := T9.ask d (List.mem_of_getElem? hd)
      have dz := dp_same (off_same b H2) (dp_same (off_ofSame s2) hdz)
      have pl := plain_nd _ ak.sh.nd
      refine ⟨_, rfl, z, d, 50000, 10, rfl, dz, ak.sh, by decide, by decide, ?_⟩
      refine ⟨_, rfl, _, rfl, x, sc, tl, z, d, rfl, F9.same s2, dz, pl, ak.le, fun H4 s4 => ?_⟩
      refine ⟨_, _, rfl, ?_⟩
      try simp only [L2.start, List.map_cons, List.map_nil, List.length_cons, List.length_nil, List.replicate_succ, List.replicate_zero, List.cons_append, List.nil_append, List.set_cons_succ, List.set_cons_zero, Nat.reduceAdd, Nat.reduceSub, Nat.zero_add]
      refine ⟨_, rfl, _, _, _, _, _, rfl, .ty _, .base (.bl _), kit_ty (by decide +kernel : kitB "bool" "bool" = some true), _, rfl, iteF ?_⟩
      refine ⟨_, rfl, _, rfl, _, rfl, D, l, sc, tl, ns, z, d, rfl, hW9.keep (Keep.ofSame (s2.trans s4)) nD nl, dp_same s4 dz, pl, ak.le, fun H5 s5 => ?_⟩
      refine ⟨rfl, _, rfl, ite2 (fun c1 => absurd c1 (by simp)) (fun c1 => ?_)⟩
      refine ⟨_, rfl, z, d, 50000, 10, rfl, dp_same s5 (dp_same s4 dz), ak.sh, by decide, by decide, ?_⟩
      refine ⟨_, rfl, rfl, _, rfl, ite2 (fun c2 => absurd c2 (by simp)) (fun c2 => ?_)⟩
      exact ⟨_, _, _, rfl, s2.trans (s4.trans s5)⟩
    · rintro σ H2 ⟨y7, y8, y9, rfl, s2⟩
      have k2 := k9.trans (Keep.ofSame s2)
      have B2 := B9.same s2
      refine ⟨_, rfl, _, rfl, _, rfl, b, D, l, sc, tl, ns, _, rfl, hW10.keep k2 nD nl, nD, nl, B2, by omega, fun v1 d1 H5 D5 B5 k5 => ?_⟩
      have a5 := ask_tup (by decide) D5.pt D5.ge (by decide)
      refine ⟨x, sc, tl, v1, .tuple d1, rfl, F10.keep (k2.trans k5) bx, dp_same (off_same b _) D5.dp, plain_nd _ a5.sh.nd, a5.le, fun H6 s6 => ?_⟩
      refine ⟨_, true, rfl, rfl, ?_⟩
      rw [show deedD sc tl (.tuple d1) = true from D5.ok]
      exact q H6 (k10.trans ((k2.trans k5).trans (Keep.ofSame s6)))
end
section
variable {P : Program} {w : World} {K : PySem.W.Frag} {mg : Str → Option Value} {base : Heap}
variable {C : Addr} {za : Nat → Addr} {zl : Nat → FuncData} {t22 : Tok} {fW : Addr} {DC : Addr}
def spLaw (K : PySem.W.Frag) : Sp := fun vs H Q _ => ∃ (a : Addr) (ns : List Int), vs = [.ref a] ∧ SqL K H a (ns.map V.int) ∧ ns.length ≤ 63 ∧ ∀ H', Q (.bl true) H'
theorem ok_law {f : Addr} {fd : FuncData} (F : Fun K "law" "law" s_law f fd) (B : Bl mg) (L : LL K mg C za zl t22 fW DC w) : FnOkG P w K mg base CX0 12 f fd ["_law_script"] (spLaw K) := by
  have G__law_folded : FnOk P w K mg base CX0 11 (za 6) (zl 6) ["_law_script", "_law_size"] (spFolded K) := ok_folded L.F__law_folded B
  have G__law_box : FnOk P w K mg base CX0 11 (za 4) (zl 4) ["_law_script", "_law_k"] (spBox K) := ok_box L.F__law_box B
  have G__law_right : FnOkG P w K mg base CX0 11 (za 16) (zl 16) ["_law_box_here"] spRight64 := (ok__law_right B L).mono (by decide)
  refine F.okG sc_law (fun vs H Q E h => ?_) (fun cdv A outer s H vs Q E gd hr h => ?_)
  · obtain ⟨a, ns, rfl, _⟩ := h
    rfl
  obtain ⟨a, ns, rfl, hS, h63, q⟩ := h
  refine ⟨_, (pss_cons (ps_set (i := 1) sc_law.nd rfl (.inr rfl) (pe_call G__law_folded hr (by rfl) L.m__law_folded L.F__law_folded.kp L.b__law_folded .nil pass0 (pa_cons (pv 0) (pa_cons pe_int pa_nil))))
    (pss_one (ps_ret (pe_callB (cr_all rfl) (by rfl) B.all boot_all (pa_cons (pe_lc (own := [("_law_k", 2)]) (by rfl) sc_law.nd (pi_range1 (by rfl) B.range (pa_cons (pe_callB (call_max2 rfl) (by rfl) B.max boot_max (pa_cons pe_int (pa_cons (pe_callB call_len_seq (by rfl) B.len PySem.boot_len (pa_cons (pv 1) pa_nil)) pa_nil))) pa_nil)) (blkOk_by (own := [("_law_k", 2)]) (N := ["_law_script", "_law_cells", "_law_k"]) (sc := defScope s_law) (by decide +kernel)) (fun _ _ _ _ _ => pg_name (i := 2) sc_law.nd rfl (Or.inl rfl)) (fun _ _ _ _ _ => pts_nil) (fun _ _ _ _ _ => (pe_callG G__law_right gd hr (by rfl) L.m__law_right L.F__law_right.kp L.b__law_right .nil pass0 (pa_cons (pe_call G__law_box hr (by rfl) L.m__law_box L.F__law_box.kp L.b__law_box .nil pass0 (pa_cons (pv 1) (pa_cons (pv 2) pa_nil))) pa_nil)))) pa_nil))))), ?_⟩
  refine ⟨_, rfl, a, ns, 6, rfl, hS, h63, by decide, by decide, fun p H1 zs np s1 ep lz => ?_⟩
  have lz2 : zs.length ≤ 6 := by omega
  refine ⟨_, rfl, p, _, rfl, .inl (SqL.of ep), _, _, rfl, ?_⟩
  obtain ⟨n, en, hn⟩ : ∃ n : Nat, (if (((zs.map V.int).length : Nat) : Int) > 2 then (((zs.map V.int).length : Nat) : Int) else 2) = (n : Int) ∧ n ≤ 6 := by
    rw [List.length_map]
    split
    · exact ⟨zs.length, rfl, lz2⟩
    · exact ⟨2, rfl, by decide⟩
  rw [en]
  refine ⟨_, rfl, by omega, by omega, fun D nD => ?_⟩
  rw [Int.toNat_natCast]
  refine lc_range (n := n) (fun j H7 => Same H1 H7 ∧ H7 D = some (.lst (List.replicate j (.bl true)))) ⟨same_upd nD, upd_same⟩ ?_ ?_
  · rintro j H7 hj ⟨s7, eD⟩
    refine ⟨rfl, yesT ?_⟩
    refine ⟨_, rfl, _, rfl, p, zs, _, rfl, SqL.of (s7 _ _ ep), by omega, by omega, fun b H8 nb s8 B8 => ?_⟩
    refine ⟨b, _, rfl, B8, by omega, fun H9 k9 => ?_⟩
    have nDb : D ≠ b := ne_of_none eD nb
    refine ⟨_, k9 _ _ (s8 _ _ eD) nDb, ?_, fun x u e => ?_, ?_⟩
    · rw [List.length_replicate]
      exact small1000 (by omega)
    · rw [upd_ne (ne_of_none e nD)]
      exact k9 _ _ (s8 _ _ (s7 _ _ e)) (ne_of_none (s7 _ _ e) nb)
    · rw [upd_same, repl_snoc]
  · rintro H7 ⟨s7, eD⟩
    refine ⟨D, List.replicate n true, rfl, .inl (.inl (by rw [List.map_replicate]; exact eD)), ?_⟩
    rw [all_repl]
    exact q _
end
theorem all_mk {l : PySem.W.OpenLaw} {w : World} {K : PySem.W.Frag} {h : Heap} {mg : Str → Option Value} {fa f1 f2 f3 f4 f5 f6 f7 f8 f9 f10 f11 f12 f13 f14 f15 f16 f17 f18 f19 f20 f21 f22 f23 C : Addr} (X : K.In h) (G : h.Ns mainGlobals mg) (hfa : mg "law" = some (.ref fa))
    {od1 an1 od2 an2 od3 an3 od4 an4 od5 an5 od6 an6 od7 an7 od8 an8 od9 an9 od10 an10 od11 an11 od12 an12 od13 an13 od14 an14 od15 an15 od16 an16 od17 an17 od18 an18 od19 an19 od20 an20 od21 an21 od22 an22 od23 an23 : Option Addr} {sl1 sl2 sl3 sl4 sl5 sl6 sl7 sl8 sl9 sl10 sl11 sl12 sl13 sl14 sl15 sl16 sl17 sl18 sl19 sl20 sl21 sl22 sl23 : Array (Option Value)} {oc1 kV1 dc1 pm1 cd1 ct1 oc2 kV2 dc2 pm2 cd2 ct2 oc3 kV3 dc3 pm3 cd3 ct3 oc4 kV4 dc4 pm4 cd4 ct4 oc5 kV5 dc5 pm5 cd5 ct5 oc6 kV6 dc6 pm6 cd6 ct6 oc7 kV7 dc7 pm7 cd7 ct7 oc8 kV8 dc8 pm8 cd8 ct8 oc9 kV9 dc9 pm9 cd9 ct9 oc10 kV10 dc10 pm10 cd10 ct10 oc11 kV11 dc11 pm11 cd11 ct11 oc12 kV12 dc12 pm12 cd12 ct12 oc13 kV13 dc13 pm13 cd13 ct13 oc14 kV14 dc14 pm14 cd14 ct14 oc15 kV15 dc15 pm15 cd15 ct15 oc16 kV16 dc16 pm16 cd16 ct16 oc17 kV17 dc17 pm17 cd17 ct17 oc18 kV18 dc18 pm18 cd18 ct18 oc19 kV19 dc19 pm19 cd19 ct19 oc20 kV20 dc20 pm20 cd20 ct20 oc21 kV21 dc21 pm21 cd21 ct21 oc22 kV22 dc22 pm22 cd22 ct22 oc23 kV23 dc23 pm23 cd23 ct23 oT23 : Value}
    {vT23 : Tok}
    {T23 : Addr} {dT23 : Option Addr} {nT23 : Nat} {sT23 : Array (Option Value)}
    {fF DCI : Addr} {odF : Option Addr} {slF : Array (Option Value)} {nF nCI : Nat} {u1 u2 u3 u4 u5 u6 u7 u8 u9 v1 v2 v3 v4 v5 tCE : Tok} {h1 h2 h3 h4 h5 : Int}
    (a1 : PySem.W.nsIn K mainGlobals "is_number" = some (some (.ref f1))) (l1 : K.lookup f1 = some ⟨oc1, od1, .func (PySem.W.fnOf "is_number" "is_number" (defArgs s_is_number) (defBody s_is_number) (defScope s_is_number) .none kV1 dc1 pm1 an1 cd1 ct1), sl1⟩) (c1 : PySem.W.codeIn K cd1 "is_number" = true) (k1 : PySem.W.keepIn K (.ref f1) = true)
    (a2 : PySem.W.nsIn K mainGlobals "is_number_in" = some (some (.ref f2))) (l2 : K.lookup f2 = some ⟨oc2, od2, .func (PySem.W.fnOf "is_number_in" "is_number_in" (defArgs s_is_number_in) (defBody s_is_number_in) (defScope s_is_number_in) .none kV2 dc2 pm2 an2 cd2 ct2), sl2⟩) (c2 : PySem.W.codeIn K cd2 "is_number_in" = true) (k2 : PySem.W.keepIn K (.ref f2) = true)
    (a3 : PySem.W.nsIn K mainGlobals "is_deed" = some (some (.ref f3))) (l3 : K.lookup f3 = some ⟨oc3, od3, .func (PySem.W.fnOf "is_deed" "is_deed" (defArgs s_is_deed) (defBody s_is_deed) (defScope s_is_deed) .none kV3 dc3 pm3 an3 cd3 ct3), sl3⟩) (c3 : PySem.W.codeIn K cd3 "is_deed" = true) (k3 : PySem.W.keepIn K (.ref f3) = true)
    (a4 : PySem.W.nsIn K mainGlobals "_law_box" = some (some (.ref f4))) (l4 : K.lookup f4 = some ⟨oc4, od4, .func (PySem.W.fnOf "_law_box" "_law_box" (defArgs sBox) (defBody sBox) (defScope sBox) .none kV4 dc4 pm4 an4 cd4 ct4), sl4⟩) (c4 : PySem.W.codeIn K cd4 "_law_box" = true) (k4 : PySem.W.keepIn K (.ref f4) = true)
    (a5 : PySem.W.nsIn K mainGlobals "_law_take" = some (some (.ref f5))) (l5 : K.lookup f5 = some ⟨oc5, od5, .func (PySem.W.fnOf "_law_take" "_law_take" (defArgs sTake) (defBody sTake) (defScope sTake) .none kV5 dc5 pm5 an5 cd5 ct5), sl5⟩) (c5 : PySem.W.codeIn K cd5 "_law_take" = true) (k5 : PySem.W.keepIn K (.ref f5) = true)
    (a6 : PySem.W.nsIn K mainGlobals "_law_folded" = some (some (.ref f6))) (l6 : K.lookup f6 = some ⟨oc6, od6, .func (PySem.W.fnOf "_law_folded" "_law_folded" (defArgs sFolded) (defBody sFolded) (defScope sFolded) .none kV6 dc6 pm6 an6 cd6 ct6), sl6⟩) (c6 : PySem.W.codeIn K cd6 "_law_folded" = true) (k6 : PySem.W.keepIn K (.ref f6) = true)
    (a7 : PySem.W.nsIn K mainGlobals "_law_form" = some (some (.ref f7))) (l7 : K.lookup f7 = some ⟨oc7, od7, .func (PySem.W.fnOf "_law_form" "_law_form" (defArgs s__law_form) (defBody s__law_form) (defScope s__law_form) .none kV7 dc7 pm7 an7 cd7 ct7), sl7⟩) (c7 : PySem.W.codeIn K cd7 "_law_form" = true) (k7 : PySem.W.keepIn K (.ref f7) = true)
    (a8 : PySem.W.nsIn K mainGlobals "_law_word" = some (some (.ref f8))) (l8 : K.lookup f8 = some ⟨oc8, od8, .func (PySem.W.fnOf "_law_word" "_law_word" (defArgs s__law_word) (defBody s__law_word) (defScope s__law_word) .none kV8 dc8 pm8 an8 cd8 ct8), sl8⟩) (c8 : PySem.W.codeIn K cd8 "_law_word" = true) (k8 : PySem.W.keepIn K (.ref f8) = true)
    (a9 : PySem.W.nsIn K mainGlobals "_law_begin_world" = some (some (.ref f9))) (l9 : K.lookup f9 = some ⟨oc9, od9, .func (PySem.W.fnOf "_law_begin_world" "_law_begin_world" (defArgs s__law_begin_world) (defBody s__law_begin_world) (defScope s__law_begin_world) .none kV9 dc9 pm9 an9 cd9 ct9), sl9⟩) (c9 : PySem.W.codeIn K cd9 "_law_begin_world" = true) (k9 : PySem.W.keepIn K (.ref f9) = true)
    (a10 : PySem.W.nsIn K mainGlobals "_law_cell" = some (some (.ref f10))) (l10 : K.lookup f10 = some ⟨oc10, od10, .func (PySem.W.fnOf "_law_cell" "_law_cell" (defArgs s__law_cell) (defBody s__law_cell) (defScope s__law_cell) .none kV10 dc10 pm10 an10 cd10 ct10), sl10⟩) (c10 : PySem.W.codeIn K cd10 "_law_cell" = true) (k10 : PySem.W.keepIn K (.ref f10) = true)
    (a11 : PySem.W.nsIn K mainGlobals "_law_deed" = some (some (.ref f11))) (l11 : K.lookup f11 = some ⟨oc11, od11, .func (PySem.W.fnOf "_law_deed" "_law_deed" (defArgs s__law_deed) (defBody s__law_deed) (defScope s__law_deed) .none kV11 dc11 pm11 an11 cd11 ct11), sl11⟩) (c11 : PySem.W.codeIn K cd11 "_law_deed" = true) (k11 : PySem.W.keepIn K (.ref f11) = true)
    (a12 : PySem.W.nsIn K mainGlobals "_law_is_cell" = some (some (.ref f12))) (l12 : K.lookup f12 = some ⟨oc12, od12, .func (PySem.W.fnOf "_law_is_cell" "_law_is_cell" (defArgs s__law_is_cell) (defBody s__law_is_cell) (defScope s__law_is_cell) .none kV12 dc12 pm12 an12 cd12 ct12), sl12⟩) (c12 : PySem.W.codeIn K cd12 "_law_is_cell" = true) (k12 : PySem.W.keepIn K (.ref f12) = true)
    (a13 : PySem.W.nsIn K mainGlobals "_law_due" = some (some (.ref f13))) (l13 : K.lookup f13 = some ⟨oc13, od13, .func (PySem.W.fnOf "_law_due" "_law_due" (defArgs s__law_due) (defBody s__law_due) (defScope s__law_due) .none kV13 dc13 pm13 an13 cd13 ct13), sl13⟩) (c13 : PySem.W.codeIn K cd13 "_law_due" = true) (k13 : PySem.W.keepIn K (.ref f13) = true)
    (a14 : PySem.W.nsIn K mainGlobals "_law_part" = some (some (.ref f14))) (l14 : K.lookup f14 = some ⟨oc14, od14, .func (PySem.W.fnOf "_law_part" "_law_part" (defArgs s__law_part) (defBody s__law_part) (defScope s__law_part) .none kV14 dc14 pm14 an14 cd14 ct14), sl14⟩) (c14 : PySem.W.codeIn K cd14 "_law_part" = true) (k14 : PySem.W.keepIn K (.ref f14) = true)
    (a15 : PySem.W.nsIn K mainGlobals "_law_bent" = some (some (.ref f15))) (l15 : K.lookup f15 = some ⟨oc15, od15, .func (PySem.W.fnOf "_law_bent" "_law_bent" (defArgs s__law_bent) (defBody s__law_bent) (defScope s__law_bent) .none kV15 dc15 pm15 an15 cd15 ct15), sl15⟩) (c15 : PySem.W.codeIn K cd15 "_law_bent" = true) (k15 : PySem.W.keepIn K (.ref f15) = true)
    (a16 : PySem.W.nsIn K mainGlobals "_law_right" = some (some (.ref f16))) (l16 : K.lookup f16 = some ⟨oc16, od16, .func (PySem.W.fnOf "_law_right" "_law_right" (defArgs s__law_right) (defBody s__law_right) (defScope s__law_right) .none kV16 dc16 pm16 an16 cd16 ct16), sl16⟩) (c16 : PySem.W.codeIn K cd16 "_law_right" = true) (k16 : PySem.W.keepIn K (.ref f16) = true)
    (a17 : PySem.W.nsIn K mainGlobals "law" = some (some (.ref f17))) (l17 : K.lookup f17 = some ⟨oc17, od17, .func (PySem.W.fnOf "law" "law" (defArgs s_law) (defBody s_law) (defScope s_law) .none kV17 dc17 pm17 an17 cd17 ct17), sl17⟩) (c17 : PySem.W.codeIn K cd17 "law" = true) (k17 : PySem.W.keepIn K (.ref f17) = true)
    (aC : PySem.W.nsIn K mainGlobals "Form" = some (some (.ref C)))
    (pgC : PySem.W.plainGet K C Str.empty = true) (hdC : PySem.W.hasDictIn K C = true) (poC : PySem.W.plainOver K C = true) (saC : PySem.W.findIn K (.ref C) "__setattr__" = some (some (.builtin "object.__setattr__"))) (mkC : PySem.W.makesIn K C = true) (kcC : PySem.W.keepIn K (.ref C) = true)
    (naC0 : PySem.W.findIn K (.ref C) "scale" = some none)
    (naC1 : PySem.W.findIn K (.ref C) "tail" = some none)
    (a18 : PySem.W.findIn K (.ref C) "__init__" = some (some (.ref f18))) (i18 : PySem.W.isFn K (.ref f18) = true) (l18 : K.lookup f18 = some ⟨oc18, od18, .func (PySem.W.fnOf "__init__" "Form.__init__" (defArgs s_Form___init__) (defBody s_Form___init__) (defScope s_Form___init__) .none kV18 dc18 pm18 an18 cd18 ct18), sl18⟩) (c18 : PySem.W.codeIn K cd18 "Form.__init__" = true) (k18 : PySem.W.keepIn K (.ref f18) = true)
    (a19 : PySem.W.findIn K (.ref C) "width" = some (some (.ref f19))) (i19 : PySem.W.isFn K (.ref f19) = true) (l19 : K.lookup f19 = some ⟨oc19, od19, .func (PySem.W.fnOf "width" "Form.width" (defArgs s_Form_width) (defBody s_Form_width) (defScope s_Form_width) .none kV19 dc19 pm19 an19 cd19 ct19), sl19⟩) (c19 : PySem.W.codeIn K cd19 "Form.width" = true) (k19 : PySem.W.keepIn K (.ref f19) = true)
    (a20 : PySem.W.findIn K (.ref C) "top" = some (some (.ref f20))) (i20 : PySem.W.isFn K (.ref f20) = true) (l20 : K.lookup f20 = some ⟨oc20, od20, .func (PySem.W.fnOf "top" "Form.top" (defArgs s_Form_top) (defBody s_Form_top) (defScope s_Form_top) .none kV20 dc20 pm20 an20 cd20 ct20), sl20⟩) (c20 : PySem.W.codeIn K cd20 "Form.top" = true) (k20 : PySem.W.keepIn K (.ref f20) = true)
    (a21 : PySem.W.findIn K (.ref C) "word_of" = some (some (.ref f21))) (i21 : PySem.W.isFn K (.ref f21) = true) (l21 : K.lookup f21 = some ⟨oc21, od21, .func (PySem.W.fnOf "word_of" "Form.word_of" (defArgs s_Form_word_of) (defBody s_Form_word_of) (defScope s_Form_word_of) .none kV21 dc21 pm21 an21 cd21 ct21), sl21⟩) (c21 : PySem.W.codeIn K cd21 "Form.word_of" = true) (k21 : PySem.W.keepIn K (.ref f21) = true)
    (a22 : PySem.W.findIn K (.ref C) "is_word" = some (some (.ref f22))) (i22 : PySem.W.isFn K (.ref f22) = true) (l22 : K.lookup f22 = some ⟨oc22, od22, .func (PySem.W.fnOf "is_word" "Form.is_word" (defArgs s_Form_is_word) (defBody s_Form_is_word) (defScope s_Form_is_word) .none kV22 dc22 pm22 an22 cd22 ct22), sl22⟩) (c22 : PySem.W.codeIn K cd22 "Form.is_word" = true) (k22 : PySem.W.keepIn K (.ref f22) = true)
    (a23 : PySem.W.findIn K (.ref C) "greatest" = some (some (.ref f23))) (i23 : PySem.W.isFn K (.ref f23) = true) (l23 : K.lookup f23 = some ⟨oc23, od23, .func (PySem.W.fnOf "greatest" "Form.greatest" (defArgs s_Form_greatest) (defBody s_Form_greatest) (defScope s_Form_greatest) (.ref T23) kV23 dc23 pm23 an23 cd23 ct23), sl23⟩) (c23 : PySem.W.codeIn K cd23 "Form.greatest" = true) (k23 : PySem.W.keepIn K (.ref f23) = true)
    (t23 : K.lookup T23 = some ⟨oT23, dT23, .seq #[.int 0 vT23] nT23, sT23⟩)
    (z1 : PySem.W.nsIn K mainGlobals "len" = some none)
    (z2 : PySem.W.nsIn K mainGlobals "abs" = some none)
    (z3 : PySem.W.nsIn K mainGlobals "int" = some none)
    (z4 : PySem.W.nsIn K mainGlobals "divmod" = some none)
    (z5 : PySem.W.nsIn K mainGlobals "list" = some none)
    (z6 : PySem.W.nsIn K mainGlobals "enumerate" = some none)
    (z7 : PySem.W.nsIn K mainGlobals "isinstance" = some none)
    (z8 : PySem.W.nsIn K mainGlobals "tuple" = some none)
    (z9 : PySem.W.nsIn K mainGlobals "str" = some none)
    (z10 : PySem.W.nsIn K mainGlobals "bool" = some none)
    (z11 : PySem.W.nsIn K mainGlobals "zip" = some none)
    (z12 : PySem.W.nsIn K mainGlobals "all" = some none)
    (z13 : PySem.W.nsIn K mainGlobals "range" = some none)
    (z14 : PySem.W.nsIn K mainGlobals "max" = some none)
    (z15 : PySem.W.nsIn K mainGlobals "any" = some none)
    (z16 : PySem.W.nsIn K mainGlobals "min" = some none)
    (z17 : PySem.W.nsIn K mainGlobals "sum" = some none)
    (zrepr : PySem.W.nsIn K mainGlobals "repr" = some none)
    (aW : PySem.W.nsIn K mainGlobals "WAYS" = some (some (.ref fF)))
    (lW : K.lookup fF = some ⟨.type "tuple", odF, .seq #[.str "near" u1, .str "cut" u2, .str "up" u3, .str "down" u4] nF, slF⟩)
    (aCE : PySem.W.nsIn K mainGlobals "CELLS" = some (some (.int 8 tCE)))
    (aCI : PySem.W.nsIn K mainGlobals "CELLS_IN" = some (some (.ref DCI)))
    (lCI : K.lookup DCI = some ⟨.type "dict", none, .dict #[⟨h1, .str "add" u5, .int 3 v1⟩, ⟨h2, .str "take" u6, .int 3 v2⟩, ⟨h3, .str "times" u7, .int 3 v3⟩, ⟨h4, .str "over" u8, .int 3 v4⟩, ⟨h5, .str "join" u9, .int 4 v5⟩] nCI, #[]⟩)
    (kCI : PySem.W.KeysLit w.params [⟨h1, .str "add" u5, .int 3 v1⟩, ⟨h2, .str "take" u6, .int 3 v2⟩, ⟨h3, .str "times" u7, .int 3 v3⟩, ⟨h4, .str "over" u8, .int 3 v4⟩, ⟨h5, .str "join" u9, .int 4 v5⟩])
    (sCI : (DCI == sysModules) = false)
    : ∃ fd : FuncData, (∀ (s : Shared) (v : Value), BindsTo s fd ⟨[v], []⟩ [("_law_script", v)]) ∧ ∀ base : Heap, K.In base → base.Ns mainGlobals mg → FnOkG l.prog w K mg base CX0 12 fa fd ["_law_script"] (spLaw K) := by
  have e := hfa.symm.trans (PySem.W.mg_of X G a17)
  cases e
  have F1 := fun_mk (st := s_is_number) l1 c1 k1
  have b1 := F1.binds (ps := ["thing"]) fun _ _ _ _ _ _ us hl => match us, hl with | [_], _ => rfl
  have m1 := PySem.W.mg_of X G a1
  have F2 := fun_mk (st := s_is_number_in) l2 c2 k2
  have b2 := F2.binds (ps := ["least", "greatest", "thing"]) fun _ _ _ _ _ _ us hl => match us, hl with | [_, _, _], _ => rfl
  have m2 := PySem.W.mg_of X G a2
  have F3 := fun_mk (st := s_is_deed) l3 c3 k3
  have b3 := F3.binds (ps := ["form", "thing"]) fun _ _ _ _ _ _ us hl => match us, hl with | [_, _], _ => rfl
  have m3 := PySem.W.mg_of X G a3
  have F4 := fun_mk (st := sBox) l4 c4 k4
  have b4 := F4.binds (ps := ["_law_script", "_law_k"]) fun _ _ _ _ _ _ us hl => match us, hl with | [_, _], _ => rfl
  have m4 := PySem.W.mg_of X G a4
  have F5 := fun_mk (st := sTake) l5 c5 k5
  have b5 := F5.binds (ps := ["_law_box_here", "_law_size"]) fun _ _ _ _ _ _ us hl => match us, hl with | [_, _], _ => rfl
  have m5 := PySem.W.mg_of X G a5
  have F6 := fun_mk (st := sFolded) l6 c6 k6
  have b6 := F6.binds (ps := ["_law_script", "_law_size"]) fun _ _ _ _ _ _ us hl => match us, hl with | [_, _], _ => rfl
  have m6 := PySem.W.mg_of X G a6
  have F7 := fun_mk (st := s__law_form) l7 c7 k7
  have b7 := F7.binds (ps := ["_law_box_here"]) fun _ _ _ _ _ _ us hl => match us, hl with | [_], _ => rfl
  have m7 := PySem.W.mg_of X G a7
  have F8 := fun_mk (st := s__law_word) l8 c8 k8
  have b8 := F8.binds (ps := ["_law_box_here", "_law_scale", "_law_tail"]) fun _ _ _ _ _ _ us hl => match us, hl with | [_, _, _], _ => rfl
  have m8 := PySem.W.mg_of X G a8
  have F9 := fun_mk (st := s__law_begin_world) l9 c9 k9
  have b9 := F9.binds (ps := ["_law_box_here"]) fun _ _ _ _ _ _ us hl => match us, hl with | [_], _ => rfl
  have m9 := PySem.W.mg_of X G a9
  have F10 := fun_mk (st := s__law_cell) l10 c10 k10
  have b10 := F10.binds (ps := ["_law_box_here", "_law_w"]) fun _ _ _ _ _ _ us hl => match us, hl with | [_, _], _ => rfl
  have m10 := PySem.W.mg_of X G a10
  have F11 := fun_mk (st := s__law_deed) l11 c11 k11
  have b11 := F11.binds (ps := ["_law_box_here", "_law_w"]) fun _ _ _ _ _ _ us hl => match us, hl with | [_, _], _ => rfl
  have m11 := PySem.W.mg_of X G a11
  have F12 := fun_mk (st := s__law_is_cell) l12 c12 k12
  have b12 := F12.binds (ps := ["_law_thing"]) fun _ _ _ _ _ _ us hl => match us, hl with | [_], _ => rfl
  have m12 := PySem.W.mg_of X G a12
  have F13 := fun_mk (st := s__law_due) l13 c13 k13
  have b13 := F13.binds (ps := ["_law_w", "_law_thing"]) fun _ _ _ _ _ _ us hl => match us, hl with | [_, _], _ => rfl
  have m13 := PySem.W.mg_of X G a13
  have F14 := fun_mk (st := s__law_part) l14 c14 k14
  have b14 := F14.binds (ps := ["_law_box_here", "_law_w", "_law_part_here"]) fun _ _ _ _ _ _ us hl => match us, hl with | [_, _, _], _ => rfl
  have m14 := PySem.W.mg_of X G a14
  have F15 := fun_mk (st := s__law_bent) l15 c15 k15
  have b15 := F15.binds (ps := ["_law_box_here", "_law_w", "_law_deed_here"]) fun _ _ _ _ _ _ us hl => match us, hl with | [_, _, _], _ => rfl
  have m15 := PySem.W.mg_of X G a15
  have F16 := fun_mk (st := s__law_right) l16 c16 k16
  have b16 := F16.binds (ps := ["_law_box_here"]) fun _ _ _ _ _ _ us hl => match us, hl with | [_], _ => rfl
  have m16 := PySem.W.mg_of X G a16
  have F17 := fun_mk (st := s_law) l17 c17 k17
  have F18 := fun_mk (st := s_Form___init__) l18 c18 k18
  have b18 := F18.binds (ps := ["self", "scale", "tail"]) fun _ _ _ _ _ _ us hl => match us, hl with | [_, _, _], _ => rfl
  have M18 : Meth K C "__init__" f18 := ⟨a18, i18, k18⟩
  have F19 := fun_mk (st := s_Form_width) l19 c19 k19
  have b19 := F19.binds (ps := ["self"]) fun _ _ _ _ _ _ us hl => match us, hl with | [_], _ => rfl
  have M19 : Meth K C "width" f19 := ⟨a19, i19, k19⟩
  have F20 := fun_mk (st := s_Form_top) l20 c20 k20
  have b20 := F20.binds (ps := ["self"]) fun _ _ _ _ _ _ us hl => match us, hl with | [_], _ => rfl
  have M20 : Meth K C "top" f20 := ⟨a20, i20, k20⟩
  have F21 := fun_mk (st := s_Form_word_of) l21 c21 k21
  have b21 := F21.binds (ps := ["self", "sign", "scale", "tail"]) fun _ _ _ _ _ _ us hl => match us, hl with | [_, _, _, _], _ => rfl
  have M21 : Meth K C "word_of" f21 := ⟨a21, i21, k21⟩
  have F22 := fun_mk (st := s_Form_is_word) l22 c22 k22
  have b22 := F22.binds (ps := ["self", "thing"]) fun _ _ _ _ _ _ us hl => match us, hl with | [_, _], _ => rfl
  have M22 : Meth K C "is_word" f22 := ⟨a22, i22, k22⟩
  have F23 := funA_mk (st := s_Form_greatest) l23 c23 k23
  have b23 := bindsA (st := s_Form_greatest) (ps := ["self", "sign"]) l23 t23 fun _ _ _ _ _ _ us hl => match us, hl with | [_, _], _ => ⟨_, rfl, rfl⟩
  have d23 := bindsAD (st := s_Form_greatest) (ps := ["self", "sign"]) l23 t23 fun _ _ _ _ _ _ us hl => match us, hl with | [_], _ => ⟨_, rfl, rfl⟩
  have kb23 := kbindsA (x1 := "sign") (st := s_Form_greatest) (ps := ["self", "sign"]) l23 t23 fun _ _ _ _ _ _ _ _ => ⟨_, rfl, rfl⟩
  have M23 : Meth K C "greatest" f23 := ⟨a23, i23, k23⟩
  have clC : Cls K C := ⟨pgC, hdC, poC, saC⟩
  have mgC := PySem.W.mg_of X G aC
  have B : Bl mg := ⟨PySem.W.mg_none_of X G z1, PySem.W.mg_none_of X G z2, PySem.W.mg_none_of X G z3, PySem.W.mg_none_of X G z4, PySem.W.mg_none_of X G z5, PySem.W.mg_none_of X G z6, PySem.W.mg_none_of X G z7, PySem.W.mg_none_of X G z8, PySem.W.mg_none_of X G z9, PySem.W.mg_none_of X G z10, PySem.W.mg_none_of X G z11, PySem.W.mg_none_of X G z12, PySem.W.mg_none_of X G z13, PySem.W.mg_none_of X G z14, PySem.W.mg_none_of X G z15, PySem.W.mg_none_of X G z16, PySem.W.mg_none_of X G z17⟩
  refine ⟨PySem.W.fnOf "law" "law" (defArgs s_law) (defBody s_law) (defScope s_law) .none kV17 dc17 pm17 an17 cd17 ct17, fun s v => .of_eq rfl, fun base _ _ => ?_⟩
  have L : LL K mg C (pkz f1 [f2, f3, f4, f5, f6, f7, f8, f9, f10, f11, f12, f13, f14, f15, f16, f18, f19, f20, f21, f22, f23]) (pkz _ [_, _, _, _, _, _, _, _, _, _, _, _, _, _, _, _, _, _, _, _, _]) vT23 fF DCI w := ⟨F1, m1, b1, F2, m2, b2, F3, m3, b3, F4, m4, b4, F5, m5, b5, F6, m6, b6, F7, m7, b7, F8, m8, b8, F9, m9, b9, F10, m10, b10, F11, m11, b11, F12, m12, b12, F13, m13, b13, F14, m14, b14, F15, m15, b15, F16, m16, b16, ⟨clC, naC0, naC1, mgC⟩, ⟨mkC, a18, i18, kcC⟩, F18, b18, F19, b19, M19, F20, b20, M20, F21, b21, M21, F22, b22, M22, F23, b23, M23, d23, PySem.W.mg_none_of X G zrepr, ⟨PySem.W.mg_of X G aW, fun H => .inr ⟨_, _, _, lW, rfl, rfl, (by show 4 ≤ sizeLine; decide), .cons ⟨_, rfl⟩ (.cons ⟨_, rfl⟩ (.cons ⟨_, rfl⟩ (.cons ⟨_, rfl⟩ .nil)))⟩⟩, ⟨_, PySem.W.mg_of X G aCE⟩, PySem.W.mg_of X G aCI, ⟨⟨_, _, lCI, kCI, .cons ⟨⟨_, rfl⟩, ⟨_, rfl⟩⟩ (.cons ⟨⟨_, rfl⟩, ⟨_, rfl⟩⟩ (.cons ⟨⟨_, rfl⟩, ⟨_, rfl⟩⟩ (.cons ⟨⟨_, rfl⟩, ⟨_, rfl⟩⟩ (.cons ⟨⟨_, rfl⟩, ⟨_, rfl⟩⟩ .nil))))⟩, sCI⟩⟩
  exact ok_law F17 B L
end GZ
open PySem PySem.W PyProof.Rows
set_option maxRecDepth 100000 in
set_option maxHeartbeats 0 in
theorem PySem.Challenge.cw_guessedzeros_k64_what_deeds_are_holds : PySem.Challenge.rw_guessedzeros_k64_what_deeds_are.Holds := by
  w_on; o_law; k_headLK; (case hw => w_witness2)
  k_fill
  refine L2.walkG (l := PySem.Challenge.rw_guessedzeros_k64_what_deeds_are) (n := 63) (k := 12) (x := "_law_script") (CX := fun _ => L2.CX0) (sp := fun w => GZ.spLaw _) rfl (by decide) rfl ⟨rfl, by decide, by decide⟩ (fun w h Y => PySem.W.kIn_of Y) ?F (fun _ _ a ns hl _ hS => ⟨a, ns, rfl, hS, hl, fun _ => rfl⟩) (fun _ _ _ _ _ h => h)
  case F =>
    intro w mg fa h KX G hmg
    refine' GZ.all_mk KX G hmg ?a1 ?l1 ?c1 ?k1 ?a2 ?l2 ?c2 ?k2 ?a3 ?l3 ?c3 ?k3 ?a4 ?l4 ?c4 ?k4 ?a5 ?l5 ?c5 ?k5 ?a6 ?l6 ?c6 ?k6 ?a7 ?l7 ?c7 ?k7 ?a8 ?l8 ?c8 ?k8 ?a9 ?l9 ?c9 ?k9 ?a10 ?l10 ?c10 ?k10 ?a11 ?l11 ?c11 ?k11 ?a12 ?l12 ?c12 ?k12 ?a13 ?l13 ?c13 ?k13 ?a14 ?l14 ?c14 ?k14 ?a15 ?l15 ?c15 ?k15 ?a16 ?l16 ?c16 ?k16 ?a17 ?l17 ?c17 ?k17 ?aC ?pgC ?hdC ?poC ?saC ?mkC ?kcC ?naC0 ?naC1 ?a18 ?i18 ?l18 ?c18 ?k18 ?a19 ?i19 ?l19 ?c19 ?k19 ?a20 ?i20 ?l20 ?c20 ?k20 ?a21 ?i21 ?l21 ?c21 ?k21 ?a22 ?i22 ?l22 ?c22 ?k22 ?a23 ?i23 ?l23 ?c23 ?k23 ?t23 ?z1 ?z2 ?z3 ?z4 ?z5 ?z6 ?z7 ?z8 ?z9 ?z10 ?z11 ?z12 ?z13 ?z14 ?z15 ?z16 ?z17 ?zrepr ?aW ?lW ?aCE ?aCI ?lCI ?kCI ?sCI
    (case a1 => k_is)
    (case l1 => k_is)
    (case c1 => k_is)
    (case k1 => k_is)
    (case a2 => k_is)
    (case l2 => k_is)
    (case c2 => k_is)
    (case k2 => k_is)
    (case a3 => k_is)
    (case l3 => k_is)
    (case c3 => k_is)
    (case k3 => k_is)
    (case a4 => k_is)
    (case l4 => k_is)
    (case c4 => k_is)
    (case k4 => k_is)
    (case a5 => k_is)
    (case l5 => k_is)
    (case c5 => k_is)
    (case k5 => k_is)
    (case a6 => k_is)
    (case l6 => k_is)
    (case c6 => k_is)
    (case k6 => k_is)
    (case a7 => k_is)
    (case l7 => k_is)
    (case c7 => k_is)
    (case k7 => k_is)
    (case a8 => k_is)
    (case l8 => k_is)
    (case c8 => k_is)
    (case k8 => k_is)
    (case a9 => k_is)
    (case l9 => k_is)
    (case c9 => k_is)
    (case k9 => k_is)
    (case a10 => k_is)
    (case l10 => k_is)
    (case c10 => k_is)
    (case k10 => k_is)
    (case a11 => k_is)
    (case l11 => k_is)
    (case c11 => k_is)
    (case k11 => k_is)
    (case a12 => k_is)
    (case l12 => k_is)
    (case c12 => k_is)
    (case k12 => k_is)
    (case a13 => k_is)
    (case l13 => k_is)
    (case c13 => k_is)
    (case k13 => k_is)
    (case a14 => k_is)
    (case l14 => k_is)
    (case c14 => k_is)
    (case k14 => k_is)
    (case a15 => k_is)
    (case l15 => k_is)
    (case c15 => k_is)
    (case k15 => k_is)
    (case a16 => k_is)
    (case l16 => k_is)
    (case c16 => k_is)
    (case k16 => k_is)
    (case a17 => k_is)
    (case l17 => k_is)
    (case c17 => k_is)
    (case k17 => k_is)
    (case aC => k_is)
    (case pgC => k_is)
    (case hdC => k_is)
    (case poC => k_is)
    (case saC => k_is)
    (case mkC => k_is)
    (case kcC => k_is)
    (case naC0 => k_is)
    (case naC1 => k_is)
    (case a18 => k_is)
    (case i18 => k_is)
    (case l18 => k_is)
    (case c18 => k_is)
    (case k18 => k_is)
    (case a19 => k_is)
    (case i19 => k_is)
    (case l19 => k_is)
    (case c19 => k_is)
    (case k19 => k_is)
    (case a20 => k_is)
    (case i20 => k_is)
    (case l20 => k_is)
    (case c20 => k_is)
    (case k20 => k_is)
    (case a21 => k_is)
    (case i21 => k_is)
    (case l21 => k_is)
    (case c21 => k_is)
    (case k21 => k_is)
    (case a22 => k_is)
    (case i22 => k_is)
    (case l22 => k_is)
    (case c22 => k_is)
    (case k22 => k_is)
    (case a23 => k_is)
    (case i23 => k_is)
    (case l23 => k_is)
    (case c23 => k_is)
    (case k23 => k_is)
    (case t23 => k_is)
    (case z1 => k_is)
    (case z2 => k_is)
    (case z3 => k_is)
    (case z4 => k_is)
    (case z5 => k_is)
    (case z6 => k_is)
    (case z7 => k_is)
    (case z8 => k_is)
    (case z9 => k_is)
    (case z10 => k_is)
    (case z11 => k_is)
    (case z12 => k_is)
    (case z13 => k_is)
    (case z14 => k_is)
    (case z15 => k_is)
    (case z16 => k_is)
    (case z17 => k_is)
    (case zrepr => k_is)
    (case aW => k_is)
    (case lW => k_is)
    (case aCE => k_is)
    (case aCI => k_is)
    (case lCI => k_is)
    (case kCI => exact ⟨⟨_, _, rfl, rfl⟩, ⟨_, _, rfl, rfl⟩, ⟨_, _, rfl, rfl⟩, ⟨_, _, rfl, rfl⟩, ⟨_, _, rfl, rfl⟩, trivial⟩)
    (case sCI => first | rfl | decide)

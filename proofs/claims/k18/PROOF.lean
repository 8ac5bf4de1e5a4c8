import PyProof.Rows.All
import Wide.All
import OpenK.AllK
import Wide.FinOn
import HandS.ForMost
import HandS.Walk
import HandS.Zip
import HandS.WideBits
import HandS.IsInst
import OpenK.KEqL
import HandS.More
import HandS.Flow
import HandS.NoneIn
import HandS.Defaults
import HandS.Wide
import HandS.Style
import HandS.Star
import HandS.Text
import HandS.Replace
import HandS.Codes
import HandS.Sort
import PySem.Challenge.RW_guessedzeros_k18_words_of_all_sorts
set_option Elab.async false
set_option linter.all false
set_option maxRecDepth 100000
set_option maxHeartbeats 40000000
namespace GZ
open PySem PySem.Spec PyProof.Rows L2
/-! ### the text by places -/
def topS (i : Nat) : Stmt := PySem.Challenge.pw_guessedzeros_k18_words_of_all_sorts.main.body.getD i (.Pass ⟨0, 0, 0, 0⟩)
abbrev s_cut_off : Stmt := topS 10
theorem sc_cut_off : FnScope ["number", "by", "kept"] ["number", "by"] (defScope s_cut_off) := ⟨rfl, rfl, rfl, by decide +kernel, rfl, by decide +kernel, by decide +kernel⟩
abbrev s_last_power : Stmt := topS 11
theorem sc_last_power : FnScope ["form", "number", "power"] ["form", "number", "power"] (defScope s_last_power) := ⟨rfl, rfl, rfl, by decide +kernel, rfl, by decide +kernel, by decide +kernel⟩
abbrev s_least_power : Stmt := topS 12
theorem sc_least_power : FnScope ["form"] ["form"] (defScope s_least_power) := ⟨rfl, rfl, rfl, by decide +kernel, rfl, by decide +kernel, by decide +kernel⟩
abbrev s_rounded : Stmt := topS 13
theorem sc_rounded : FnScope ["form", "sign", "number", "power", "way", "more", "last", "many", "rest", "size"] ["form", "sign", "number", "power", "way", "more"] (defScope s_rounded) := ⟨rfl, rfl, rfl, by decide +kernel, rfl, by decide +kernel, by decide +kernel⟩
abbrev s_parted : Stmt := topS 14
theorem sc_parted : FnScope ["number", "by", "more", "halves", "below"] ["number", "by", "more"] (defScope s_parted) := ⟨rfl, rfl, rfl, by decide +kernel, rfl, by decide +kernel, by decide +kernel⟩
abbrev s_goes_up : Stmt := topS 15
theorem sc_goes_up : FnScope ["way", "sign", "many", "rest"] ["way", "sign", "many", "rest"] (defScope s_goes_up) := ⟨rfl, rfl, rfl, by decide +kernel, rfl, by decide +kernel, by decide +kernel⟩
abbrev s_goes_away : Stmt := topS 16
theorem sc_goes_away : FnScope ["way", "sign"] ["way", "sign"] (defScope s_goes_away) := ⟨rfl, rfl, rfl, by decide +kernel, rfl, by decide +kernel, by decide +kernel⟩
abbrev s_word_beyond : Stmt := topS 17
theorem sc_word_beyond : FnScope ["form", "sign", "way"] ["form", "sign", "way"] (defScope s_word_beyond) := ⟨rfl, rfl, rfl, by decide +kernel, rfl, by decide +kernel, by decide +kernel⟩
abbrev s_flags_of_rest : Stmt := topS 18
theorem sc_flags_of_rest : FnScope ["form", "number", "power", "rest"] ["form", "number", "power", "rest"] (defScope s_flags_of_rest) := ⟨rfl, rfl, rfl, by decide +kernel, rfl, by decide +kernel, by decide +kernel⟩
abbrev s_added : Stmt := topS 20
theorem sc_added : FnScope ["form", "a", "b", "way"] ["form", "a", "b", "way"] (defScope s_added) := ⟨rfl, rfl, rfl, by decide +kernel, rfl, by decide +kernel, by decide +kernel⟩
abbrev s_taken : Stmt := topS 21
theorem sc_taken : FnScope ["form", "a", "b", "way"] ["form", "a", "b", "way"] (defScope s_taken) := ⟨rfl, rfl, rfl, by decide +kernel, rfl, by decide +kernel, by decide +kernel⟩
abbrev s_multiplied : Stmt := topS 22
theorem sc_multiplied : FnScope ["form", "a", "b", "way", "sign", "worth", "number", "power"] ["form", "a", "b", "way"] (defScope s_multiplied) := ⟨rfl, rfl, rfl, by decide +kernel, rfl, by decide +kernel, by decide +kernel⟩
abbrev s_divided : Stmt := topS 23
theorem sc_divided : FnScope ["form", "a", "b", "way", "one", "other", "sign"] ["form", "a", "b", "way"] (defScope s_divided) := ⟨rfl, rfl, rfl, by decide +kernel, rfl, by decide +kernel, by decide +kernel⟩
abbrev s_joined : Stmt := topS 24
theorem sc_joined : FnScope ["form", "a", "b", "c", "way"] ["form", "a", "b", "c", "way"] (defScope s_joined) := ⟨rfl, rfl, rfl, by decide +kernel, rfl, by decide +kernel, by decide +kernel⟩
abbrev s_has_none : Stmt := topS 25
theorem sc_has_none : FnScope ["form", "words", "word"] ["form", "words"] (defScope s_has_none) := ⟨rfl, rfl, rfl, by decide +kernel, rfl, by decide +kernel, by decide +kernel⟩
abbrev s_bad : Stmt := topS 26
theorem sc_bad : FnScope ["form"] ["form"] (defScope s_bad) := ⟨rfl, rfl, rfl, by decide +kernel, rfl, by decide +kernel, by decide +kernel⟩
abbrev s_is_endless_by_nought : Stmt := topS 27
theorem sc_is_endless_by_nought : FnScope ["form", "a", "b", "sorts"] ["form", "a", "b"] (defScope s_is_endless_by_nought) := ⟨rfl, rfl, rfl, by decide +kernel, rfl, by decide +kernel, by decide +kernel⟩
abbrev s_sign_of : Stmt := topS 28
theorem sc_sign_of : FnScope ["form", "word"] ["form", "word"] (defScope s_sign_of) := ⟨rfl, rfl, rfl, by decide +kernel, rfl, by decide +kernel, by decide +kernel⟩
abbrev s_unlike_sign : Stmt := topS 29
theorem sc_unlike_sign : FnScope ["form", "a", "b"] ["form", "a", "b"] (defScope s_unlike_sign) := ⟨rfl, rfl, rfl, by decide +kernel, rfl, by decide +kernel, by decide +kernel⟩
abbrev s_term_of : Stmt := topS 30
theorem sc_term_of : FnScope ["form", "word"] ["form", "word"] (defScope s_term_of) := ⟨rfl, rfl, rfl, by decide +kernel, rfl, by decide +kernel, by decide +kernel⟩
abbrev s_product_of : Stmt := topS 31
theorem sc_product_of : FnScope ["form", "a", "b", "sign", "one", "other"] ["form", "a", "b"] (defScope s_product_of) := ⟨rfl, rfl, rfl, by decide +kernel, rfl, by decide +kernel, by decide +kernel⟩
abbrev s_terms_added : Stmt := topS 32
theorem sc_terms_added : FnScope ["form", "one", "other", "way", "sign", "worth", "other_sign", "other_worth", "total", "power"] ["form", "one", "other", "way"] (defScope s_terms_added) := ⟨rfl, rfl, rfl, by decide +kernel, rfl, by decide +kernel, by decide +kernel⟩
abbrev s_nought_sign : Stmt := topS 33
theorem sc_nought_sign : FnScope ["sign", "other_sign", "way"] ["sign", "other_sign", "way"] (defScope s_nought_sign) := ⟨rfl, rfl, rfl, by decide +kernel, rfl, by decide +kernel, by decide +kernel⟩
abbrev s_worths_added : Stmt := topS 34
theorem sc_worths_added : FnScope ["one", "other", "number", "power", "other_number", "other_power", "least"] ["one", "other"] (defScope s_worths_added) := ⟨rfl, rfl, rfl, by decide +kernel, rfl, by decide +kernel, by decide +kernel⟩
abbrev s_quotient_rounded : Stmt := topS 35
theorem sc_quotient_rounded : FnScope ["form", "sign", "one", "other", "way", "number", "power", "divisor", "divisor_power", "by", "quotient", "rest"] ["form", "sign", "one", "other", "way"] (defScope s_quotient_rounded) := ⟨rfl, rfl, rfl, by decide +kernel, rfl, by decide +kernel, by decide +kernel⟩
abbrev s_is_number : Stmt := topS 37
theorem sc_is_number : FnScope ["thing"] ["thing"] (defScope s_is_number) := ⟨rfl, rfl, rfl, by decide +kernel, rfl, by decide +kernel, by decide +kernel⟩
abbrev s_is_number_in : Stmt := topS 38
theorem sc_is_number_in : FnScope ["least", "greatest", "thing"] ["least", "greatest", "thing"] (defScope s_is_number_in) := ⟨rfl, rfl, rfl, by decide +kernel, rfl, by decide +kernel, by decide +kernel⟩
abbrev s_Form___init__ : Stmt := inClass (topS 40) 0
theorem sc_Form___init__ : FnScope ["self", "scale", "tail"] ["self", "scale", "tail"] (defScope s_Form___init__) := ⟨rfl, rfl, rfl, by decide +kernel, rfl, by decide +kernel, by decide +kernel⟩
abbrev s_Form_bias : Stmt := inClass (topS 40) 2
theorem sc_Form_bias : FnScope ["self"] ["self"] (defScope s_Form_bias) := ⟨rfl, rfl, rfl, by decide +kernel, rfl, by decide +kernel, by decide +kernel⟩
abbrev s_Form_top : Stmt := inClass (topS 40) 3
theorem sc_Form_top : FnScope ["self"] ["self"] (defScope s_Form_top) := ⟨rfl, rfl, rfl, by decide +kernel, rfl, by decide +kernel, by decide +kernel⟩
abbrev s_Form_parts : Stmt := inClass (topS 40) 4
theorem sc_Form_parts : FnScope ["self", "word", "sign", "scale", "tail"] ["self", "word"] (defScope s_Form_parts) := ⟨rfl, rfl, rfl, by decide +kernel, rfl, by decide +kernel, by decide +kernel⟩
abbrev s_Form_word_of : Stmt := inClass (topS 40) 5
theorem sc_Form_word_of : FnScope ["self", "sign", "scale", "tail"] ["self", "sign", "scale", "tail"] (defScope s_Form_word_of) := ⟨rfl, rfl, rfl, by decide +kernel, rfl, by decide +kernel, by decide +kernel⟩
abbrev s_Form_sort_of : Stmt := inClass (topS 40) 7
theorem sc_Form_sort_of : FnScope ["self", "word", "sign", "scale", "tail"] ["self", "word"] (defScope s_Form_sort_of) := ⟨rfl, rfl, rfl, by decide +kernel, rfl, by decide +kernel, by decide +kernel⟩
abbrev s_Form_nought : Stmt := inClass (topS 40) 8
theorem sc_Form_nought : FnScope ["self", "sign"] ["self", "sign"] (defScope s_Form_nought) := ⟨rfl, rfl, rfl, by decide +kernel, rfl, by decide +kernel, by decide +kernel⟩
abbrev s_Form_endless : Stmt := inClass (topS 40) 9
theorem sc_Form_endless : FnScope ["self", "sign"] ["self", "sign"] (defScope s_Form_endless) := ⟨rfl, rfl, rfl, by decide +kernel, rfl, by decide +kernel, by decide +kernel⟩
abbrev s_Form_greatest : Stmt := inClass (topS 40) 10
theorem sc_Form_greatest : FnScope ["self", "sign"] ["self", "sign"] (defScope s_Form_greatest) := ⟨rfl, rfl, rfl, by decide +kernel, rfl, by decide +kernel, by decide +kernel⟩
abbrev s_Form_none_word : Stmt := inClass (topS 40) 12
theorem sc_Form_none_word : FnScope ["self"] ["self"] (defScope s_Form_none_word) := ⟨rfl, rfl, rfl, by decide +kernel, rfl, by decide +kernel, by decide +kernel⟩
abbrev s_Form_turned : Stmt := inClass (topS 40) 13
theorem sc_Form_turned : FnScope ["self", "word", "sign", "scale", "tail"] ["self", "word"] (defScope s_Form_turned) := ⟨rfl, rfl, rfl, by decide +kernel, rfl, by decide +kernel, by decide +kernel⟩
abbrev s_Form_worth : Stmt := inClass (topS 40) 14
theorem sc_Form_worth : FnScope ["self", "word", "sign", "scale", "tail", "number", "power"] ["self", "word"] (defScope s_Form_worth) := ⟨rfl, rfl, rfl, by decide +kernel, rfl, by decide +kernel, by decide +kernel⟩
abbrev sBox : Stmt := topS 42
abbrev sTake : Stmt := topS 43
abbrev sFolded : Stmt := topS 44
abbrev sSame : Stmt := topS 45
abbrev s__law_form : Stmt := topS 46
theorem sc__law_form : FnScope ["_law_box_here", "_law_some"] ["_law_box_here"] (defScope s__law_form) := ⟨rfl, rfl, rfl, by decide +kernel, rfl, by decide +kernel, by decide +kernel⟩
abbrev s__law_none : Stmt := topS 47
theorem sc__law_none : FnScope ["_law_scale", "_law_tail"] ["_law_scale", "_law_tail"] (defScope s__law_none) := ⟨rfl, rfl, rfl, by decide +kernel, rfl, by decide +kernel, by decide +kernel⟩
abbrev s__law_words : Stmt := topS 48
theorem sc__law_words : FnScope ["_law_box_here", "_law_scale", "_law_tail", "_law_top", "_law_found", "_law_turn", "_law_small", "_law_plain", "_law_none_here", "_law_sort", "_law_size"] ["_law_box_here", "_law_scale", "_law_tail"] (defScope s__law_words) := ⟨rfl, rfl, rfl, by decide +kernel, rfl, by decide +kernel, by decide +kernel⟩
abbrev s__law_sum_word : Stmt := topS 49
theorem sc__law_sum_word : FnScope ["_law_sorts", "_law_signs"] ["_law_sorts", "_law_signs"] (defScope s__law_sum_word) := ⟨rfl, rfl, rfl, by decide +kernel, rfl, by decide +kernel, by decide +kernel⟩
abbrev s__law_product_word : Stmt := topS 50
theorem sc__law_product_word : FnScope ["_law_sorts", "_law_sign"] ["_law_sorts", "_law_sign"] (defScope s__law_product_word) := ⟨rfl, rfl, rfl, by decide +kernel, rfl, by decide +kernel, by decide +kernel⟩
abbrev s__law_quotient_word : Stmt := topS 51
theorem sc__law_quotient_word : FnScope ["_law_sorts", "_law_sign"] ["_law_sorts", "_law_sign"] (defScope s__law_quotient_word) := ⟨rfl, rfl, rfl, by decide +kernel, rfl, by decide +kernel, by decide +kernel⟩
abbrev s__law_join_word : Stmt := topS 52
theorem sc__law_join_word : FnScope ["_law_sorts", "_law_signs", "_law_product"] ["_law_sorts", "_law_signs"] (defScope s__law_join_word) := ⟨rfl, rfl, rfl, by decide +kernel, rfl, by decide +kernel, by decide +kernel⟩
abbrev s__law_fits : Stmt := topS 53
theorem sc__law_fits : FnScope ["_law_scale", "_law_tail", "_law_told", "_law_word", "_law_top", "_law_fine", "_law_size", "_law_flags"] ["_law_scale", "_law_tail", "_law_told", "_law_word"] (defScope s__law_fits) := ⟨rfl, rfl, rfl, by decide +kernel, rfl, by decide +kernel, by decide +kernel⟩
abbrev s__law_right : Stmt := topS 54
theorem sc__law_right : FnScope ["_law_box_here", "_law_scale", "_law_tail", "_law_how", "_law_form_here", "_law_words_here", "_law_sort", "_law_a", "_law_other", "_law_b", "_law_sorts", "_law_signs", "_law_sign", "_law_turned", "_law_rows", "_law_third", "_law_c", "_law_last", "_law_told", "_law_word"] ["_law_box_here", "_law_scale", "_law_tail", "_law_how"] (defScope s__law_right) := ⟨rfl, rfl, rfl, by decide +kernel, rfl, by decide +kernel, by decide +kernel⟩
abbrev s_law : Stmt := topS 55
theorem sc_law : FnScope ["_law_script", "_law_cells", "_law_k", "_law_box_here", "_law_scale", "_law_tail"] ["_law_script"] (defScope s_law) := ⟨rfl, rfl, rfl, by decide +kernel, rfl, by decide +kernel, by decide +kernel⟩
/-! ### built-in names that the text leaves alone -/
structure Bl (mg : Str → Option Value) : Prop where
  len : mg "len" = none
  abs : mg "abs" = none
  int : mg "int" = none
  divmod : mg "divmod" = none
  list : mg "list" = none
  enumerate : mg "enumerate" = none
  isinstance : mg "isinstance" = none
  tuple : mg "tuple" = none
  str : mg "str" = none
  bool : mg "bool" = none
  zip : mg "zip" = none
  all : mg "all" = none
  range : mg "range" = none
  max : mg "max" = none
  any : mg "any" = none
  min : mg "min" = none
  sum : mg "sum" = none
/-! ### rules with the written part told (for the blocks of comprehensions) -/
section
variable {X : Cx} {K : PySem.W.Frag}
theorem call_len_seqK (h : X.K = K := by rfl) : CallR X (.builtin "len") (fun xs H Q => ∃ p ys, xs = [.ref p] ∧ (SqL K H p ys ∨ SqT K H p ys) ∧ Q (.int ys.length) H) := by subst h; exact call_len_seq
theorem call_list_ofK (h : X.K = K := by rfl) : CallR X (.type "list") (fun xs H Q => ∃ p ys, xs = [.ref p] ∧ (SqL K H p ys ∨ SqT K H p ys) ∧ ∀ l, H l = none → Q (.ref l) (upd H l (.lst ys))) := by subst h; exact call_list_of
theorem call_tuple_ofK (h : X.K = K := by rfl) : CallR X (.type "tuple") (fun xs H Q => ∃ p ys, xs = [.ref p] ∧ ((SqL K H p ys ∧ ∀ l, H l = none → Q (.ref l) (upd H l (.tup ys))) ∨ (SqT K H p ys ∧ Q (.ref p) H))) := by subst h; exact call_tuple_of
theorem ix_listK (h : X.K = K := by rfl) : IxR X (rIxL K) := by subst h; exact ix_list
theorem ix_tupK (h : X.K = K := by rfl) : IxR X (rIxT K) := by subst h; exact ix_tup
theorem ix_seqK (h : X.K = K := by rfl) : IxR X (rIx K) := by subst h; exact ix_seq
theorem op_in_seqK (h : X.K = K := by rfl) : OpR X (compareOp .In) (rIn K false) := by subst h; exact op_in_seq
theorem op_notIn_seqK (h : X.K = K := by rfl) : OpR X (compareOp .NotIn) (rIn K true) := by subst h; exact op_notIn_seq
theorem sl_listK (h : X.K = K := by rfl) : SlR X (rSlL K) := by subst h; exact sl_list
theorem cr_sumK (hc : X.calm = true) (h : X.K = K := by rfl) : CallR X (.builtin "sum") (rSum K) := by subst h; exact cr_sum hc
theorem cr_allK (hc : X.calm = true) (h : X.K = K := by rfl) : CallR X (.builtin "all") (rAll K) := by subst h; exact cr_all hc
theorem cr_anyK (hc : X.calm = true) (h : X.K = K := by rfl) : CallR X (.builtin "any") (rAny K) := by subst h; exact cr_any hc
theorem call_isiK' (h : X.K = K := by rfl) : CallR X (.builtin "isinstance") (rIsi K) := by subst h; exact call_isi
theorem pi_listK {tg l : Expr} {tl : TE} (hl : PE X l tl) (h : X.K = K := by rfl) : PI X tg l (iList K tl) := by subst h; exact pi_list hl
theorem pi_tupK {tg l : Expr} {tl : TE} (hl : PE X l tl) (h : X.K = K := by rfl) : PI X tg l (iTup K tl) := by subst h; exact pi_tup hl
theorem pe_fldK {e : Expr} {ta : TE} {f : Str} {pos : Pos} (he : PE X e ta) (hb : attributeBase e f X.env (eval e X.env) = eval e X.env) (h : X.K = K := by rfl) : PE X (.Attribute e f pos) (tFld K ta f) := by subst h; exact pe_fld he hb
end
/-! ### heaps -/
theorem same_upd {H : Hp} {p : Addr} {o : HO} (h : H p = none) : Same H (upd H p o) := fun b x e => by
  rw [upd_ne (ne_of_none e h)]
  exact e
/-- all but what stands at b is as it was -/
def Keep (b : Addr) (H H' : Hp) : Prop := ∀ p o, H p = some o → p ≠ b → H' p = some o
theorem Keep.refl (b : Addr) (H : Hp) : Keep b H H := fun _ _ h _ => h
theorem Keep.trans {b : Addr} {H H1 H2 : Hp} (x : Keep b H H1) (y : Keep b H1 H2) : Keep b H H2 := fun p o h n => y p o (x p o h n) n
theorem Keep.ofSame {b : Addr} {H H1 : Hp} (x : Same H H1) : Keep b H H1 := fun p o h _ => x p o h
theorem Keep.upd {b : Addr} {H : Hp} {o : HO} : Keep b H (upd H b o) := fun p x h n => by
  rw [upd_ne n]
  exact h
theorem Keep.new {b p : Addr} {H : Hp} {o : HO} (h : H p = none) : Keep b H (L2.upd H p o) := .ofSame (same_upd h)
theorem Keep.seq {K : PySem.W.Frag} {b a : Addr} {H H' : Hp} {xs : List V} (e : Keep b H H') (n : a ≠ b) (h : SqL K H a xs) : SqL K H' a xs := by
  rcases h with (h | ⟨o, h⟩) | h
  · exact .inl (.inl (e _ _ h n))
  · exact .inl (.inr ⟨o, e _ _ h n⟩)
  · exact .inr h
theorem Keep.seqT {K : PySem.W.Frag} {b a : Addr} {H H' : Hp} {xs : List V} (e : Keep b H H') (n : a ≠ b) (h : SqT K H a xs) : SqT K H' a xs := by
  rcases h with (h | ⟨o, h⟩) | h
  · exact .inl (.inl (e _ _ h n))
  · exact .inl (.inr ⟨o, e _ _ h n⟩)
  · exact .inr h
theorem Same.seqT {K : PySem.W.Frag} {a : Addr} {H H' : Hp} {xs : List V} (e : Same H H') (h : SqT K H a xs) : SqT K H' a xs := by
  rcases h with (h | ⟨o, h⟩) | h
  · exact .inl (.inl (e _ _ h))
  · exact .inl (.inr ⟨o, e _ _ h⟩)
  · exact .inr h
/-- a drawing box: three ints, the last at most c -/
def BoxAt (c : Int) (H : Hp) (b : Addr) : Prop := ∃ x0 x1 x2 : Int, H b = some (.lst [.int x0, .int x1, .int x2]) ∧ 0 ≤ x0 ∧ 0 ≤ x1 ∧ x1 < 2147483647 ∧ 0 ≤ x2 ∧ x2 ≤ c
theorem BoxAt.mono {c d : Int} {H : Hp} {b : Addr} (h : BoxAt c H b) (l : c ≤ d) : BoxAt d H b := by
  obtain ⟨x0, x1, x2, e, a1, a2, a3, a4, a5⟩ := h
  exact ⟨x0, x1, x2, e, a1, a2, a3, a4, by omega⟩
theorem BoxAt.same {c : Int} {H H' : Hp} {b : Addr} (h : BoxAt c H b) (s : Same H H') : BoxAt c H' b := by
  obtain ⟨x0, x1, x2, e, r⟩ := h
  exact ⟨x0, x1, x2, s _ _ e, r⟩
theorem BoxAt.at {c : Int} {H H' : Hp} {b : Addr} (h : BoxAt c H b) (s : H' b = H b) : BoxAt c H' b := by
  obtain ⟨x0, x1, x2, e, r⟩ := h
  exact ⟨x0, x1, x2, by rw [s]; exact e, r⟩
theorem BoxAt.ne {c : Int} {H : Hp} {b p : Addr} (h : BoxAt c H b) (n : H p = none) : b ≠ p := by
  obtain ⟨x0, x1, x2, e, r⟩ := h
  exact ne_of_none e n
theorem e7 : (10 : Int) ^ ((7 : Int).toNat) = 10000000 := by decide
theorem e18 : (10 : Int) ^ ((18 : Int).toNat) = 1000000000000000000 := by decide
theorem divp_small {i j : Int} (h0 : 0 < j) (h1 : j < 2 ^ 250) : CDivP i j := by
  refine ⟨h0, ?_⟩
  show (decide ((if j == 0 then 0 else j.natAbs.log2 / 30 + 1) > 300) && _) = false
  rw [if_neg (show ¬ (j == 0) = true by simpa using (show j ≠ 0 by omega))]
  have hl : j.natAbs.log2 < 250 := PySem.Flt.log2_lt_of (by decide) (by omega)
  rw [decide_eq_false (show ¬ (j.natAbs.log2 / 30 + 1 > 300) by omega), Bool.false_and]
section
variable {P : Program} {w : World} {K : PySem.W.Frag} {mg : Str → Option Value} {base : Heap}
/-! ### _law_take -/
theorem scTake : FnScope ["_law_box_here", "_law_size", "_law_found", "_law_step", "_law_once", "_law_twice"] ["_law_box_here", "_law_size"] (defScope sTake) := ⟨rfl, rfl, rfl, by decide +kernel, rfl, by decide +kernel, by decide +kernel⟩
def spTake (k : Nat) : Sp := fun vs H Q _ => ∃ (b : Addr) (n c : Int), vs = [.ref b, .int n] ∧ BoxAt c H b ∧ 1 ≤ n ∧ n ≤ 10000000 ^ k ∧ n < 2 ^ 250 ∧ c + 2 ^ k ≤ 1000000000 ∧ 0 < k ∧
  ∀ (r : Int) (H' : Hp), 0 ≤ r → r < n → BoxAt (c + 2 ^ (k - 1)) H' b → Keep b H H' → Q (.int r) H'
theorem take_none {f : Addr} {fd : FuncData} : FnOk P w K mg base CX0 0 f fd ["_law_box_here", "_law_size"] (spTake 0) := by
  have no : ∀ vs H Q E, ¬ spTake 0 vs H Q E := fun vs H Q E h => by
    obtain ⟨b, n, c, _, _, _, _, _, _, h0, _⟩ := h
    omega
  exact ⟨fun vs H Q E h => absurd h (no vs H Q E), fun A outer s H args us vs Q E _ _ _ _ h => absurd h (no vs H Q E)⟩
theorem ok_take1 {f : Addr} {fd : FuncData} {k : Nat} (F : Fun K "_law_take" "_law_take" sTake f fd) (G : FnOk P w K mg base CX0 k f fd ["_law_box_here", "_law_size"] (spTake k)) (bf : Binds K fd ["_law_box_here", "_law_size"] []) (mf : mg "_law_take" = some (.ref f)) (B : Bl mg) :
    FnOk P w K mg base CX0 (k + 1) f fd ["_law_box_here", "_law_size"] (spTake (k + 1)) := by
  refine F.ok scTake (fun vs H Q E h => ?_) (fun cdv A outer s H vs Q E hr h => ?_)
  · obtain ⟨b, n, c, rfl, _⟩ := h
    rfl
  obtain ⟨b, n, c, rfl, hB, hn1, hnk, hn60, hc, _, q⟩ := h
  obtain ⟨x0, x1, x2, hb, h0, h1, h1', h2, h2'⟩ := hB
  have hp : (0 : Int) < 2 ^ k := Int.pow_pos (by decide)
  have hk2 : (2 : Int) ^ (k + 1) = 2 ^ k * 2 := Int.pow_succ 2 k
  refine ⟨_, pss_cons (ps_if (pt_cmpR op_gt (pe_ix ix_list (pv 0) pe_int (fun _ _ => rfl)) pe_int (nomark _))
      (pss_cons (ps_asg (pe_callB call_divmodW (by rfl) B.divmod boot_divmod (pa_cons (pe_ix ix_list (pv 0) pe_int (fun _ _ => rfl)) (pa_cons (pv 1) pa_nil)))
          (pg_tup (by rfl) (pgs_cons (pg_sub (pv 0) pe_int set_list) (pgs_cons (pg_name (i := 2) scTake.nd rfl (.inl rfl)) pgs_nil))))
        (pss_one (ps_ret (pv 2)))) pss_nil)
    (pss_cons (ps_if (pt_cmpR op_gt (pv 1) (pe_op op_pow pe_int pe_int) (nomark _))
      (pss_one (ps_ret (pe_op op_mod (pe_op op_add (pe_call G hr (by rfl) mf F.kp bf .nil pass0 (pa_cons (pv 0) (pa_cons (pe_op op_pow pe_int pe_int) pa_nil)))
          (pe_op op_mul (pe_op op_pow pe_int pe_int) (pe_call G hr (by rfl) mf F.kp bf .nil pass0 (pa_cons (pv 0) (pa_cons (pe_op op_add (pe_op op_fdiv (pe_op op_sub (pv 1) pe_int) (pe_op op_pow pe_int pe_int)) pe_int) pa_nil))))) (pv 1)))) pss_nil)
    (pss_cons (ps_asg (pe_op op_add (pe_ix ix_list (pv 0) pe_int (fun _ _ => rfl)) pe_int) (pg_sub (pv 0) pe_int set_list))
    (pss_cons (ps_set (i := 3) scTake.nd rfl (.inl rfl) (pe_op op_add pe_int (pe_op op_mul (pe_ix ix_list (pv 0) pe_int (fun _ _ => rfl)) (pe_ix ix_list (pv 0) pe_int (fun _ _ => rfl)))))
    (pss_cons (ps_set (i := 4) scTake.nd rfl (.inl rfl) (pe_op op_mod (pe_op op_mul (pe_op op_add (pe_ix ix_list (pv 0) pe_int (fun _ _ => rfl)) (pe_op op_mul pe_int (pe_ix ix_list (pv 0) pe_int (fun _ _ => rfl)))) (pv 3)) pe_int))
    (pss_cons (ps_set (i := 5) scTake.nd rfl (.inl rfl) (pe_op op_mod (pe_op op_add (pe_op op_mul (pv 4) (pe_op op_add (pe_op op_mod (pv 4) pe_int) pe_int)) (pe_ix ix_list (pv 0) pe_int (fun _ _ => rfl))) pe_int))
    (pss_one (ps_ret (pe_op op_mod (pe_op op_fdiv (pe_op op_mod (pe_op op_mul (pv 5) (pe_op op_add (pe_op op_mod (pv 5) pe_int) pe_int)) pe_int) pe_int) (pv 1))))))))), ?_⟩
  refine ⟨_, rfl, b, _, _, _, rfl, rfl, SqL.of hb, rfl, _, _, rfl, rfl, _, rfl, ite2 (fun cc => ?_) (fun cc => ?_)⟩
  · -- the great number's own digits
    refine ⟨_, rfl, b, _, _, _, rfl, rfl, SqL.of hb, rfl, _, rfl, _, _, rfl, divp_small (by omega) (by omega), fun p np => ?_⟩
    have nbp : b ≠ p := ne_of_none hb np
    refine ⟨p, _, rfl, .inl (.inl upd_same), rfl, _, _, rfl, _, rfl, b, _, _, 0, rfl, rfl, (by rw [upd_ne nbp]; exact hb), rfl, _, _, rfl, rfl, _, rfl, ?_⟩
    refine q _ _ (Int.emod_nonneg _ (by omega)) (Int.emod_lt_of_pos _ (by omega)) ⟨x0 / n, x1, x2, upd_same, Int.ediv_nonneg h0 (by omega), h1, h1', h2, by show x2 ≤ c + 2 ^ k; omega⟩ ?_
    exact Keep.trans (Keep.new np) Keep.upd
  · refine ⟨_, rfl, _, _, rfl, rfl, ⟨by decide, by decide, by decide⟩, _, _, rfl, rfl, _, rfl, ite2 (fun c2 => ?_) (fun c2 => ?_)⟩
    · -- two lesser draws
      have c3 : (10 : Int) ^ ((7 : Int).toNat) < n := of_decide_eq_true c2
      rw [e7] at c3
      have hk : 0 < k := by
        rcases Nat.eq_zero_or_pos k with z | z
        · subst z
          rw [show (10000000 : Int) ^ (0 + 1) = 10000000 by decide] at hnk
          omega
        · exact z
      obtain ⟨j, rfl⟩ : ∃ j, k = j + 1 := ⟨k - 1, by omega⟩
      have hj2 : (2 : Int) ^ (j + 1) = 2 ^ j * 2 := Int.pow_succ 2 j
      have hjp : (0 : Int) < 2 ^ j := Int.pow_pos (by decide)
      have h10 : (10000000 : Int) ≤ 10000000 ^ (j + 1) := by
        rw [Int.pow_succ]
        have : (0 : Int) < 10000000 ^ j := Int.pow_pos (by decide)
        omega
      have hdiv : (n - 1) / 10000000 + 1 ≤ 10000000 ^ (j + 1) := by
        rw [Int.pow_succ] at hnk
        have : n - 1 < 10000000 ^ (j + 1) * 10000000 := by omega
        have := Int.ediv_lt_of_lt_mul (by decide) this
        omega
      refine ⟨_, rfl, _, _, rfl, rfl, ⟨by decide, by decide, by decide⟩, b, _, c, rfl, ⟨x0, x1, x2, hb, h0, h1, h1', h2, h2'⟩, (by rw [e7]; decide), (by rw [e7]; exact h10), (by rw [e7]; decide), by omega, by omega, fun r1 H1 a1 a2 B1 k1 => ?_⟩
      refine ⟨_, _, rfl, rfl, ⟨by decide, by decide, by decide⟩, _, rfl, _, rfl, _, _, rfl, rfl, _, _, rfl, rfl, ⟨by decide, by decide, by decide⟩, _, _, rfl, rfl, (by rw [e7]; exact ⟨by decide, by decide⟩), _, _, rfl, rfl, ?_⟩
      rw [e7]
      refine ⟨b, _, c + 2 ^ j, rfl, B1, by omega, hdiv, by omega, by omega, by omega, fun r2 H2 a3 a4 B2 k2 => ?_⟩
      refine ⟨_, _, rfl, rfl, .inl ⟨by decide, by decide⟩, _, _, rfl, rfl, _, rfl, _, _, rfl, rfl, (by show (0 : Int) < n; omega), ?_⟩
      refine q _ _ (Int.emod_nonneg _ (by omega)) (Int.emod_lt_of_pos _ (by omega)) (B2.mono ?_) (k1.trans k2)
      show c + 2 ^ j + 2 ^ j ≤ c + 2 ^ (j + 1)
      omega
    · -- a turn of the wheel
      refine ⟨_, rfl, b, _, _, _, rfl, rfl, SqL.of hb, rfl, _, _, rfl, rfl, _, rfl, b, _, _, 2, rfl, rfl, hb, rfl, ?_⟩
      have hb2 : (upd H b (.lst [.int x0, .int x1, .int (x2 + 1)])) b = some (.lst [.int x0, .int x1, .int (x2 + 1)]) := upd_same
      refine ⟨_, rfl, b, _, _, _, rfl, rfl, SqL.of hb2, rfl, _, rfl, b, _, _, _, rfl, rfl, SqL.of hb2, rfl, _, _, rfl, rfl, .inl ⟨by omega, by omega⟩, _, _, rfl, rfl, ?_⟩
      refine ⟨_, rfl, b, _, _, _, rfl, rfl, SqL.of hb2, rfl, _, rfl, b, _, _, _, rfl, rfl, SqL.of hb2, rfl, _, _, rfl, rfl, .inl ⟨by omega, by omega⟩, _, _, rfl, rfl, _, rfl, _, _, rfl, rfl, .inl ⟨by omega, by omega⟩, _, _, rfl, rfl, (by show (0 : Int) < 2147483587; decide), ?_⟩
      generalize (x1 + 39373 * (x2 + 1)) * (69621 + (x2 + 1) * (x2 + 1)) = y
      have y1 := Int.emod_nonneg y (show (2147483587 : Int) ≠ 0 by decide)
      have y2 := Int.emod_lt_of_pos y (show (0 : Int) < 2147483587 by decide)
      refine ⟨_, rfl, _, rfl, _, _, rfl, rfl, (by show (0 : Int) < 30011; decide), _, _, rfl, rfl, _, _, rfl, rfl, .inl ⟨by omega, by omega⟩, _, rfl, b, _, _, _, rfl, rfl, SqL.of hb2, rfl, _, _, rfl, rfl, _, _, rfl, rfl, (by show (0 : Int) < 2147483563; decide), ?_⟩
      generalize (y % 2147483587 * (y % 2147483587 % 30011 + 5) + (x2 + 1)) = z
      have z1 := Int.emod_nonneg z (show (2147483563 : Int) ≠ 0 by decide)
      have z2 := Int.emod_lt_of_pos z (show (0 : Int) < 2147483563 by decide)
      refine ⟨_, rfl, _, rfl, _, _, rfl, rfl, (by show (0 : Int) < 1013; decide), _, _, rfl, rfl, _, _, rfl, rfl, .inl ⟨by omega, by omega⟩, _, _, rfl, rfl, (by show (0 : Int) < 998244353; decide), _, _, rfl, rfl, ⟨by decide, by decide⟩, _, rfl, _, _, rfl, rfl, (by show (0 : Int) < n; omega), ?_⟩
      refine q _ _ (Int.emod_nonneg _ (by omega)) (Int.emod_lt_of_pos _ (by omega)) ⟨x0, x1, x2 + 1, hb2, h0, h1, h1', by omega, by show x2 + 1 ≤ c + 2 ^ k; omega⟩ Keep.upd
theorem ok_take {f : Addr} {fd : FuncData} (F : Fun K "_law_take" "_law_take" sTake f fd) (bf : Binds K fd ["_law_box_here", "_law_size"] []) (mf : mg "_law_take" = some (.ref f)) (B : Bl mg) : ∀ k : Nat, FnOk P w K mg base CX0 k f fd ["_law_box_here", "_law_size"] (spTake k)
  | 0 => take_none
  | k + 1 => ok_take1 F (ok_take F bf mf B k) bf mf B
/-! ### _law_box -/
theorem scBox : FnScope ["_law_script", "_law_k", "_law_cell"] ["_law_script", "_law_k"] (defScope sBox) := ⟨rfl, rfl, rfl, by decide +kernel, rfl, by decide +kernel, by decide +kernel⟩
def spBox (K : PySem.W.Frag) : Sp := fun vs H Q _ => ∃ (a : Addr) (zs : List Int) (k : Int), vs = [.ref a, .int k] ∧ SqL K H a (zs.map V.int) ∧ 0 ≤ k ∧ k ≤ 1000 ∧
  ∀ (p : Addr) (H' : Hp), H p = none → Same H H' → BoxAt 0 H' p → Q (.ref p) H'
theorem b01 (b : Bool) : (-(2 ^ 64) < (if b = true then (1 : Int) else 0)) ∧ (if b = true then (1 : Int) else 0) < 2 ^ 64 := by cases b <;> decide
theorem b01n (b : Bool) : 0 ≤ (if b = true then (1 : Int) else 0) := by cases b <;> decide
theorem abs_nn (i : Int) : 0 ≤ (if i < 0 then -i else i) := by
  split <;> omega
theorem at_int {zs : List Int} {k : Int} (h0 : 0 ≤ k) (h : k < (zs.length : Int)) : ∃ v : Int, atI (zs.map V.int) k = some (.int v) ∧ zs[k.toNat]? = some v := by
  have hk : k.toNat < zs.length := by omega
  have ek : k = ((k.toNat : Nat) : Int) := by omega
  have q : atI (zs.map V.int) ((k.toNat : Nat) : Int) = some (.int zs[k.toNat]) := atI_nat (by rw [List.getElem?_map, List.getElem?_eq_getElem hk] <;> rfl)
  rw [← ek] at q
  exact ⟨zs[k.toNat], q, List.getElem?_eq_getElem hk⟩
theorem ok_box {f : Addr} {fd : FuncData} {k : Nat} (F : Fun K "_law_box" "_law_box" sBox f fd) (B : Bl mg) : FnOk P w K mg base CX0 (k + 1) f fd ["_law_script", "_law_k"] (spBox K) := by
  refine F.ok scBox (fun vs H Q E h => ?_) (fun cdv A outer s H vs Q E hr h => ?_)
  · obtain ⟨a, zs, k, rfl, _⟩ := h
    rfl
  obtain ⟨a, zs, k, rfl, hS, h0, h1, q⟩ := h
  refine ⟨_, pss_cons (ps_set (i := 2) scBox.nd rfl (.inl rfl) (pe_ifExp (pt_cmpR op_lt (pv 1) (pe_callB call_len_seq (by rfl) B.len PySem.boot_len (pa_cons (pv 0) pa_nil)) (nomark _)) (pe_ix ix_list (pv 0) (pv 1) (fun _ _ => rfl)) pe_int))
    (pss_one (ps_ret (pe_lst (pa_cons (pe_op op_mul (pe_callB call_abs (by rfl) B.abs boot_abs (pa_cons (pv 2) pa_nil)) (pe_callTy call_int1 (by rfl) B.int PyProof.Rows.boot_int (pa_cons (pe_cmpR op_ge (pe_callB call_abs (by rfl) B.abs boot_abs (pa_cons (pv 2) pa_nil)) (pe_op op_pow pe_int pe_int) (nomark _)) pa_nil)))
      (pa_cons (pe_op op_mod (pe_op op_mul (pe_op op_add (pe_op op_add (pe_op op_mod (pv 2) pe_int) (pe_op op_mul pe_int (pv 1))) pe_int) pe_int) pe_int) (pa_cons pe_int pa_nil)))))), ?_⟩
  refine ⟨_, rfl, _, rfl, a, _, rfl, .inl hS, _, _, rfl, rfl, _, rfl, ite2 (fun cc => ?_) (fun cc => ?_)⟩
  · have c1 : k < (((zs.map V.int).length : Nat) : Int) := of_decide_eq_true cc
    rw [List.length_map] at c1
    obtain ⟨v, hv, _⟩ := at_int h0 c1
    refine ⟨_, rfl, _, rfl, a, _, _, _, rfl, rfl, hS, hv, ?_⟩
    refine ⟨_, rfl, _, rfl, _, rfl, _, rfl, _, _, rfl, rfl, ⟨by decide, by decide, by decide⟩, _, _, rfl, rfl, .inr ⟨_, rfl, ?_⟩⟩
    refine ⟨_, _, rfl, rfl, .inr (b01 _), _, rfl, _, _, rfl, rfl, (by show (0 : Int) < 2147483629; decide), _, rfl, _, _, rfl, rfl, .inl ⟨by decide, by decide⟩, _, _, rfl, rfl, _, _, rfl, rfl, _, _, rfl, rfl, .inr ⟨by decide, by decide⟩, _, _, rfl, rfl, (by show (0 : Int) < 2147483647; decide), (by show 3 ≤ sizeLine; decide), fun p np => ?_⟩
    refine q p _ np (same_upd np) ⟨_, _, _, upd_same, Int.mul_nonneg (abs_nn v) (b01n _), Int.emod_nonneg _ (by decide), Int.emod_lt_of_pos _ (by decide), by decide, by decide⟩
  · refine ⟨_, rfl, _, rfl, _, rfl, _, rfl, _, _, rfl, rfl, ⟨by decide, by decide, by decide⟩, _, _, rfl, rfl, .inr ⟨_, rfl, ?_⟩⟩
    refine ⟨_, _, rfl, rfl, .inr (b01 _), _, rfl, _, _, rfl, rfl, (by show (0 : Int) < 2147483629; decide), _, rfl, _, _, rfl, rfl, .inl ⟨by decide, by decide⟩, _, _, rfl, rfl, _, _, rfl, rfl, _, _, rfl, rfl, .inr ⟨by decide, by decide⟩, _, _, rfl, rfl, (by show (0 : Int) < 2147483647; decide), (by show 3 ≤ sizeLine; decide), fun p np => ?_⟩
    refine q p _ np (same_upd np) ⟨_, _, _, upd_same, Int.mul_nonneg (abs_nn 0) (b01n _), Int.emod_nonneg _ (by decide), Int.emod_lt_of_pos _ (by decide), by decide, by decide⟩
/-! ### _law_folded -/
theorem scFolded : FnScope ["_law_script", "_law_size", "_law_cells", "_law_k", "_law_cell"] ["_law_script", "_law_size"] (defScope sFolded) := ⟨rfl, rfl, rfl, by decide +kernel, rfl, by decide +kernel, by decide +kernel⟩
def spFolded (K : PySem.W.Frag) : Sp := fun vs H Q _ => ∃ (a : Addr) (ns : List Int) (m : Nat), vs = [.ref a, .int (m : Int)] ∧ SqL K H a (ns.map V.int) ∧ ns.length ≤ 63 ∧ 1 ≤ m ∧ m ≤ 63 ∧
  ∀ (p : Addr) (H' : Hp) (zs : List Int), H p = none → Same H H' → H' p = some (.lst (zs.map V.int)) → zs.length = min ns.length m → Q (.ref p) H'
theorem cut_lo (ns : List Int) (m : Nat) : cutV (ns.map V.int) none (some (m : Int)) = (ns.take m).map V.int := by
  unfold cutV
  rw [HT.sIx_none, HT.sIx_nat, List.drop_zero, Nat.sub_zero, List.length_map, ← List.map_take]
  congr 1
  rw [List.take_eq_take_iff]
  omega
theorem cut_mid (ns : List Int) (m j : Nat) : ∃ ws : List Int, cutV (ns.map V.int) (some (m : Int)) (some (j : Int)) = ws.map V.int ∧ ws.length ≤ ns.length - m := by
  unfold cutV
  rw [HT.sIx_nat, HT.sIx_nat, List.length_map, ← List.map_drop, ← List.map_take]
  refine ⟨_, rfl, ?_⟩
  rw [List.length_take, List.length_drop]
  omega
theorem int_at {ws : List Int} {i : Nat} {x : V} (h : (ws.map V.int)[i]? = some x) : ∃ z, ws[i]? = some z ∧ x = .int z := by
  rw [List.getElem?_map] at h
  cases e : ws[i]? with
  | none =>
    rw [e] at h
    cases h
  | some z =>
    rw [e] at h
    exact ⟨z, rfl, (Option.some.inj h).symm⟩
theorem map_set (zs : List Int) (j : Nat) (v : Int) : (zs.map V.int).set j (.int v) = (zs.set j v).map V.int := List.map_set.symm
theorem ixN_nat {n j : Nat} (h : j < n) : ixN n (j : Int) = some j := by
  unfold ixN
  rw [if_pos (Int.natCast_nonneg j), if_pos (by omega), Int.toNat_natCast]
theorem ok_folded {f : Addr} {fd : FuncData} {k : Nat} (F : Fun K "_law_folded" "_law_folded" sFolded f fd) (B : Bl mg) : FnOk P w K mg base CX0 (k + 1) f fd ["_law_script", "_law_size"] (spFolded K) := by
  refine F.ok scFolded (fun vs H Q E h => ?_) (fun cdv A outer s H vs Q E hr h => ?_)
  · obtain ⟨a, ns, m, rfl, _⟩ := h
    rfl
  obtain ⟨a, ns, m, rfl, hS, h63, hm1, hm2, q⟩ := h
  refine ⟨_, pss_cons (ps_set (i := 2) scFolded.nd rfl (.inl rfl) (pe_callTy call_list_of (by rfl) B.list PyProof.Rows.boot_list (pa_cons (pe_slice sl_list (pv 0) po_none (po_some (pv 1))) pa_nil)))
    (pss_cons (ps_for PassesOwn.never rfl (pi_enum (by rfl) B.enumerate (pa_cons (pe_slice sl_list (pv 0) (po_some (pv 1)) (po_some pe_int)) pa_nil))
        (pg_tup rfl (pgs_cons (pg_name (i := 3) scFolded.nd rfl (.inl rfl)) (pgs_cons (pg_name (i := 4) scFolded.nd rfl (.inl rfl)) pgs_nil)))
      (pss_one (ps_asg (pe_op op_add (pe_ix ix_list (pv 2) (pe_op op_mod (pv 3) (pv 1)) (fun _ _ => rfl)) (pe_op op_mul (pv 4) (pe_op op_add (pv 3) pe_int))) (pg_sub (pv 2) (pe_op op_mod (pv 3) (pv 1)) set_list))))
    (pss_one (ps_ret (pv 2)))), ?_⟩
  refine ⟨_, rfl, _, rfl, _, rfl, a, _, rfl, hS, fun c0 nc0 => ?_⟩
  rw [cut_lo]
  have s0 : Same H (upd H c0 (.lst ((ns.take m).map V.int))) := same_upd nc0
  refine ⟨c0, _, rfl, .inl (.inl (.inl upd_same)), fun p np => ?_⟩
  have npH : H p = none := s0.free np
  have ne0 : c0 ≠ p := fun e => by
    subst e
    rw [upd_same] at np
    cases np
  have s1 := s0.trans (same_upd (o := .lst ((ns.take m).map V.int)) np)
  refine ⟨_, rfl, _, rfl, _, rfl, _, rfl, a, _, rfl, s1.seq hS, fun c nc => ?_⟩
  obtain ⟨ws, ew, lw⟩ := cut_mid ns m 63
  rw [show ((63 : Nat) : Int) = (63 : Int) from rfl] at ew
  rw [ew]
  have s2 := s1.trans (same_upd (o := .lst (ws.map V.int)) nc)
  have nec : c ≠ p := fun e => by
    subst e
    rw [upd_same] at nc
    cases nc
  refine ⟨c, _, rfl, .inl (.inl upd_same), ?_⟩
  refine for_it (walk_enum (K := K) (a := c) (xs := ws.map V.int)) (fun i σ H3 => ∃ (y3 y4 : Option V) (zs : List Int), σ = [some (.ref a), some (.int (m : Int)), some (.ref p), y3, y4] ∧ Same H H3 ∧ H3 c = some (.lst (ws.map V.int)) ∧ H3 p = some (.lst (zs.map V.int)) ∧ zs.length = min ns.length m)
    ⟨none, none, ns.take m, rfl, s2, upd_same, ?_, ?_⟩ (fun i σ H3 _ ⟨_, _, _, _, _, e, _⟩ => .inl (.inl e)) ?_ ?_
  · rw [upd_ne nec.symm]
    exact upd_same
  · rw [List.length_take, Nat.min_comm]
  · rintro i v σ H3 H4 hi ⟨y3, y4, zs, rfl, s3, ec, ep, el⟩ ⟨T, x, y, rfl, nT, rfl, e1, e2⟩
    cases e1
    obtain ⟨z, _, rfl⟩ := int_at e2
    rw [List.length_map] at hi
    have npT : p ≠ T := ne_of_none ep nT
    have ncT : c ≠ T := ne_of_none ec nT
    have sT : Same H3 (upd H3 T (.tup [.int (i : Nat), .int z])) := same_upd nT
    refine ⟨T, _, rfl, .inl (.inl upd_same), rfl, _, _, rfl, _, _, rfl, rfl, ?_⟩
    have lm : (i : Int) % (m : Int) = ((i % m : Nat) : Int) := rfl
    have hl : i % m < zs.length := by
      have := Nat.mod_lt i (show 0 < m by omega)
      omega
    have ev : (zs.map V.int)[i % m]? = some (.int zs[i % m]) := by
      rw [List.getElem?_map, List.getElem?_eq_getElem hl]
      rfl
    refine ⟨_, rfl, _, rfl, _, rfl, _, _, rfl, rfl, (by show (0 : Int) < (m : Int); omega), p, _, _, _, rfl, rfl, SqL.of (sT _ _ ep), (by rw [lm]; exact atI_nat ev), _, rfl, _, rfl, _, _, rfl, rfl, _, _, rfl, rfl, .inr ⟨by omega, by omega⟩, _, _, rfl, rfl, ?_⟩
    refine ⟨_, rfl, _, rfl, _, rfl, _, _, rfl, rfl, (by show (0 : Int) < (m : Int); omega), p, _, _, i % m, rfl, rfl, sT _ _ ep, (by rw [lm, List.length_map]; exact ixN_nat hl), ?_⟩
    refine ⟨_, _, zs.set (i % m) (zs[i % m] + z * ((i : Int) + 2)), rfl, fun b o e => ?_, ?_, ?_, ?_⟩
    · rw [upd_ne (ne_of_none e npH)]
      exact sT _ _ (s3 _ _ e)
    · rw [upd_ne nec]
      exact sT _ _ ec
    · rw [upd_same, map_set]
    · rw [List.length_set]
      exact el
  · rintro σ H3 ⟨y3, y4, zs, rfl, s3, ec, ep, el⟩
    exact ⟨_, rfl, q p H3 zs npH s3 ep el⟩
/-! ### _law_same: of two things of one kind and worth -/
theorem scSame : FnScope ["_law_found", "_law_due", "_law_one", "_law_other"] ["_law_found", "_law_due"] (defScope sSame) := ⟨rfl, rfl, rfl, by decide +kernel, rfl, by decide +kernel, by decide +kernel⟩
def Lv : Nat → PyData → Prop
  | _, .none => True
  | _, .bool _ => True
  | _, .int _ => True
  | _, .str _ => True
  | n + 1, .list ds => ds.length ≤ 1000000 ∧ ∀ d ∈ ds, Lv n d
  | n + 1, .tuple ds => ds.length ≤ 1000000 ∧ ∀ d ∈ ds, Lv n d
  | _, _ => False
mutual
theorem Dp.same {H H' : Hp} (s : Same H H') : ∀ (d : PyData) (v : V), Dp K H v d → Dp K H' v d
  | .none, _, h => by
    cases h
    exact .non
  | .bool b, _, h => by
    cases h
    exact .bl b
  | .int i, _, h => by
    cases h
    exact .int i
  | .str x, _, h => by
    cases h
    exact .str x
  | .list ds, _, h => by
    cases h with
    | lst hs ha => exact .lst (s.seq hs) (Dp.sameAll s ds _ ha)
  | .tuple ds, _, h => by
    cases h with
    | tup hs ha => exact .tup (Same.seqT s hs) (Dp.sameAll s ds _ ha)
  | .dict _, _, h => by cases h
theorem Dp.sameAll {H H' : Hp} (s : Same H H') : ∀ (ds : List PyData) (vs : List V), DpAll K H vs ds → DpAll K H' vs ds
  | [], _, h => by
    cases h
    exact .nil
  | d :: ds, _, h => by
    cases h with
    | cons h1 h2 => exact .cons (Dp.same s d _ h1) (Dp.sameAll s ds _ h2)
end
theorem DpAll.len {H : Hp} : ∀ {ds : List PyData} {vs : List V}, DpAll K H vs ds → vs.length = ds.length
  | [], _, h => by
    cases h
    rfl
  | d :: ds, _, h => by
    cases h with
    | cons h1 h2 => rw [List.length_cons, List.length_cons, DpAll.len h2]
theorem DpAll.get {H : Hp} : ∀ {ds : List PyData} {vs : List V} {i : Nat} {x : V}, DpAll K H vs ds → vs[i]? = some x → ∃ d, ds[i]? = some d ∧ Dp K H x d
  | [], _, i, x, h, e => by
    cases h
    cases e
  | d :: ds, _, 0, x, h, e => by
    cases h with
    | cons h1 h2 =>
      cases e
      exact ⟨d, rfl, h1⟩
  | d :: ds, _, i + 1, x, h, e => by
    cases h with
    | @cons _ vs _ _ h1 h2 => exact DpAll.get (ds := ds) (vs := vs) h2 (show vs[i]? = some x from e)
theorem walk_zipT {a b : Addr} {xs ys : List V} {n : Nat} (hn : n = min xs.length ys.length) : Walk (RZ.ItzT K a b) n (fun H => SqT K H a xs ∧ SqT K H b ys) (YPair (fun i => xs[i]?) (fun i => ys[i]?)) := by
  subst hn
  refine ⟨fun i _ hi q => ?_, fun _ q => ⟨xs, ys, q.1, q.2, by omega⟩, fun i H v H' _ q y => ?_⟩
  · have h1 : i < xs.length := by omega
    have h2 : i < ys.length := by omega
    exact ⟨xs, ys, xs[i], ys[i], q.1, q.2, by simp [h1], by simp [h2]⟩
  · obtain ⟨T, x, z, h1, h2, h3, h4, h5⟩ := y
    exact ⟨T, x, z, h1, h2, h3, h4 xs q.1, h5 ys q.2⟩
theorem ty_lst {H : Hp} {a : Addr} {xs : List V} (h : SqL K H a xs) : TyX K H (.ref a) (.type "list") := by
  rcases h with (h | ⟨o, h⟩) | ⟨o, its, n, h1, h2, _⟩
  · exact .base (.lst h)
  · exact .base (.frz h)
  · exact .kList h1 h2
theorem ty_tup {H : Hp} {a : Addr} {xs : List V} (h : SqT K H a xs) : TyX K H (.ref a) (.type "tuple") := by
  rcases h with (h | ⟨o, h⟩) | ⟨o, its, n, h1, h2, _⟩
  · exact .base (.tup h)
  · exact .fTuple h
  · exact .kTuple h1 h2
def spSame (K : PySem.W.Frag) (k : Nat) : Sp := fun vs H Q _ => ∃ (x y : V) (d : PyData) (j : Nat), vs = [x, y] ∧ k = j + 1 ∧ Lv j d ∧ Dp K H x d ∧ Dp K H y d ∧ ∀ H', Same H H' → Q (.bl true) H'
theorem same_none {f : Addr} {fd : FuncData} : FnOk P w K mg base CX0 0 f fd ["_law_found", "_law_due"] (spSame K 0) := by
  have no : ∀ vs H Q E, ¬ spSame K 0 vs H Q E := fun vs H Q E h => by
    obtain ⟨x, y, d, j, _, h0, _⟩ := h
    omega
  exact ⟨fun vs H Q E h => absurd h (no vs H Q E), fun A outer s H args us vs Q E _ _ _ _ h => absurd h (no vs H Q E)⟩
theorem yesT {σ : L2.St} {H : Hp} {R S : Hp → Prop} (h : R H) : tYes σ H fun b H3 => if b = true then R H3 else S H3 := h
theorem repl_snoc {α : Type} (i : Nat) (x : α) : List.replicate i x ++ [x] = List.replicate (i + 1) x := List.replicate_succ'.symm
theorem all_repl (n : Nat) : (List.replicate n true).all id = true := by
  rw [List.all_eq_true]
  intro x hx
  rw [List.eq_of_mem_replicate hx]
  rfl
theorem kitLT {t : String} {r1 r2 : Bool} (h1 : kitB t "list" = some r1) (h2 : kitB t "tuple" = some r2) : PySem.W.kitAny K (.type t) [.type "list", .type "tuple"] = some (r1 || r2) := by
  refine kitAny_cons (kit_ty h1) (fun e => ?_) (fun e => by rw [e]; rfl)
  rw [e, Bool.false_or]
  refine kitAny_cons (kit_ty h2) (fun e => ?_) (fun e => e)
  rw [e]
  rfl
theorem ok_same1 {f : Addr} {fd : FuncData} {k : Nat} (F : Fun K "_law_same" "_law_same" sSame f fd) (G : FnOk P w K mg base CX0 k f fd ["_law_found", "_law_due"] (spSame K k)) (bf : Binds K fd ["_law_found", "_law_due"] []) (mf : mg "_law_same" = some (.ref f)) (B : Bl mg) :
    FnOk P w K mg base CX0 (k + 1) f fd ["_law_found", "_law_due"] (spSame K (k + 1)) := by
  refine F.ok scSame (fun vs H Q E h => ?_) (fun cdv A outer s H vs Q E hr h => ?_)
  · obtain ⟨x, y, d, j, rfl, _⟩ := h
    rfl
  obtain ⟨x, y, d, j, rfl, ej, lv, dx, dy, q⟩ := h
  obtain rfl : k = j := by omega
  refine ⟨_, pss_cons (ps_if (pt_val (pe_callB call_isiT (by rfl) B.isinstance boot_isinstance (pa_cons (pv 1) (pa_cons (pe_tup (pa_cons (pe_bltn (v := .ty "list") (by rfl) B.list PyProof.Rows.boot_list rfl) (pa_cons (pe_bltn (v := .ty "tuple") (by rfl) B.tuple PyProof.Rows.boot_tuple rfl) pa_nil))) pa_nil))))
      (pss_cons (ps_if (PW.pt (pw_or (pt_cmpR op_ne (pe_callB call_isi (by rfl) B.isinstance boot_isinstance (pa_cons (pv 0) (pa_cons (pe_bltn (v := .ty "list") (by rfl) B.list PyProof.Rows.boot_list rfl) pa_nil))) (pe_callB call_isi (by rfl) B.isinstance boot_isinstance (pa_cons (pv 1) (pa_cons (pe_bltn (v := .ty "list") (by rfl) B.list PyProof.Rows.boot_list rfl) pa_nil))) (nomark _))
          (pw_or1 (pt_cmpR op_ne (pe_callB call_isi (by rfl) B.isinstance boot_isinstance (pa_cons (pv 0) (pa_cons (pe_bltn (v := .ty "tuple") (by rfl) B.tuple PyProof.Rows.boot_tuple rfl) pa_nil))) (pe_callB call_isi (by rfl) B.isinstance boot_isinstance (pa_cons (pv 1) (pa_cons (pe_bltn (v := .ty "tuple") (by rfl) B.tuple PyProof.Rows.boot_tuple rfl) pa_nil))) (nomark _)))))
          (pss_one (ps_ret pe_bl)) pss_nil)
        (pss_one (ps_ret (pe_and (pe_cmpR op_eq (pe_callB call_len_seq (by rfl) B.len PySem.boot_len (pa_cons (pv 0) pa_nil)) (pe_callB call_len_seq (by rfl) B.len PySem.boot_len (pa_cons (pv 1) pa_nil)) (nomark _))
          (pe_one (pe_callB (cr_all rfl) (by rfl) B.all boot_all (pa_cons (pe_lc (own := [("_law_one", 2), ("_law_other", 3)]) (g := gTup K 2 (gCons (gName 2) (gCons (gName 3) gNil))) (by rfl) scSame.nd (RZ.pi_zipA (by rfl) B.zip (pa_cons (pv 0) (pa_cons (pv 1) pa_nil)))
            (blkOk_by (own := [("_law_one", 2), ("_law_other", 3)]) (N := ["_law_found", "_law_due", "_law_one", "_law_other"]) (sc := defScope sSame) (by decide +kernel))
            (fun _ _ _ _ _ => pg_tup rfl (pgs_cons (pg_name (i := 2) scSame.nd rfl (Or.inl rfl) (.inr rfl)) (pgs_cons (pg_name (i := 3) scSame.nd rfl (Or.inl rfl) (.inr rfl)) pgs_nil))) (fun _ _ _ _ _ => pts_nil)
            (fun _ _ _ _ _ => pe_call G hr (by rfl) mf F.kp bf .nil pass0 (pa_cons (pv 2) (pa_cons (pv 3) pa_nil)))) pa_nil))))))) pss_nil)
    (pss_cons (ps_if (PW.pt (pw_or (pt_cmpR op_isN (pv 1) pe_non (nomark _)) (pw_or1 (pt_val (pe_callB call_isi (by rfl) B.isinstance boot_isinstance (pa_cons (pv 1) (pa_cons (pe_bltn (v := .ty "str") (by rfl) B.str PyProof.Rows.boot_str rfl) pa_nil)))))))
      (pss_one (ps_ret (pe_and (pe_cmpR op_eq (pv 0) (pv 1) (nomark _)) (pe_one (pe_cmpR op_eq (pe_callB call_isi (by rfl) B.isinstance boot_isinstance (pa_cons (pv 0) (pa_cons (pe_bltn (v := .ty "str") (by rfl) B.str PyProof.Rows.boot_str rfl) pa_nil))) (pe_callB call_isi (by rfl) B.isinstance boot_isinstance (pa_cons (pv 1) (pa_cons (pe_bltn (v := .ty "str") (by rfl) B.str PyProof.Rows.boot_str rfl) pa_nil))) (nomark _)))))) pss_nil)
    (pss_one (ps_ret (pe_and (pe_callB call_isi (by rfl) B.isinstance boot_isinstance (pa_cons (pv 0) (pa_cons (pe_bltn (v := .ty "int") (by rfl) B.int PyProof.Rows.boot_int rfl) pa_nil))) (pe_and (pe_cmpR op_eq (pe_callB call_isi (by rfl) B.isinstance boot_isinstance (pa_cons (pv 0) (pa_cons (pe_bltn (v := .ty "bool") (by rfl) B.bool PyProof.Rows.boot_bool rfl) pa_nil))) (pe_callB call_isi (by rfl) B.isinstance boot_isinstance (pa_cons (pv 1) (pa_cons (pe_bltn (v := .ty "bool") (by rfl) B.bool PyProof.Rows.boot_bool rfl) pa_nil))) (nomark _))
      (pe_one (pe_cmpR op_eq (pv 0) (pv 1) (nomark _)))))))), ?_⟩
  have pr : Paired ClsV [.ty "list", .ty "tuple"] [.type "list", .type "tuple"] := .cons (.ty _) (.cons (.ty _) .nil)
  refine ⟨_, rfl, (by show 2 ≤ sizeLine; decide), fun tp ntp => ?_⟩
  have s0 : Same H (upd H tp (.tup [.ty "list", .ty "tuple"])) := same_upd ntp
  cases d with
  | none =>
    cases dx
    cases dy
    refine ⟨_, tp, _, _, _, _, rfl, upd_same, pr, .base .non, kitLT (t := "NoneType") (r1 := false) (r2 := false) (by decide +kernel) (by decide +kernel), _, rfl, iteF ?_⟩
    refine ⟨_, rfl, rfl, _, rfl, iteT (iteT ?_)⟩
    refine ⟨_, rfl, _, rfl, rfl, _, rfl, iteT ?_⟩
    refine ⟨_, rfl, _, _, _, _, _, rfl, .ty _, .base .non, kit_ty (by decide +kernel : kitB "NoneType" "str" = some false), _, rfl, _, _, _, _, _, rfl, .ty _, .base .non, kit_ty (by decide +kernel : kitB "NoneType" "str" = some false), rfl, q _ s0⟩
  | bool b =>
    cases dx
    cases dy
    refine ⟨_, tp, _, _, _, _, rfl, upd_same, pr, .base (.bl _), kitLT (t := "bool") (r1 := false) (r2 := false) (by decide +kernel) (by decide +kernel), _, rfl, iteF ?_⟩
    refine ⟨_, rfl, rfl, _, rfl, iteF ?_⟩
    refine ⟨_, rfl, _, _, _, _, _, rfl, .ty _, .base (.bl _), kit_ty (by decide +kernel : kitB "bool" "str" = some false), _, rfl, iteF ?_⟩
    refine ⟨_, rfl, _, _, _, _, _, rfl, .ty _, .base (.bl _), kit_ty (by decide +kernel : kitB "bool" "int" = some true), _, rfl, iteT ?_⟩
    refine ⟨_, rfl, _, _, _, _, _, rfl, .ty _, .base (.bl _), kit_ty (by decide +kernel : kitB "bool" "bool" = some true), _, rfl, _, _, _, _, _, rfl, .ty _, .base (.bl _), kit_ty (by decide +kernel : kitB "bool" "bool" = some true), rfl, _, rfl, iteT ?_⟩
    refine ⟨_, rfl, _, rfl, rfl, ?_⟩
    rw [decide_eq_true rfl]
    exact q _ s0
  | int i =>
    cases dx
    cases dy
    refine ⟨_, tp, _, _, _, _, rfl, upd_same, pr, .base (.int _), kitLT (t := "int") (r1 := false) (r2 := false) (by decide +kernel) (by decide +kernel), _, rfl, iteF ?_⟩
    refine ⟨_, rfl, rfl, _, rfl, iteF ?_⟩
    refine ⟨_, rfl, _, _, _, _, _, rfl, .ty _, .base (.int _), kit_ty (by decide +kernel : kitB "int" "str" = some false), _, rfl, iteF ?_⟩
    refine ⟨_, rfl, _, _, _, _, _, rfl, .ty _, .base (.int _), kit_ty (by decide +kernel : kitB "int" "int" = some true), _, rfl, iteT ?_⟩
    refine ⟨_, rfl, _, _, _, _, _, rfl, .ty _, .base (.int _), kit_ty (by decide +kernel : kitB "int" "bool" = some false), _, rfl, _, _, _, _, _, rfl, .ty _, .base (.int _), kit_ty (by decide +kernel : kitB "int" "bool" = some false), rfl, _, rfl, iteT ?_⟩
    refine ⟨_, rfl, _, rfl, rfl, ?_⟩
    rw [decide_eq_true rfl]
    exact q _ s0
  | str z =>
    cases dx
    cases dy
    refine ⟨_, tp, _, _, _, _, rfl, upd_same, pr, .base (.str _), kitLT (t := "str") (r1 := false) (r2 := false) (by decide +kernel) (by decide +kernel), _, rfl, iteF ?_⟩
    refine ⟨_, rfl, rfl, _, rfl, iteF ?_⟩
    refine ⟨_, rfl, _, _, _, _, _, rfl, .ty _, .base (.str _), kit_ty (by decide +kernel : kitB "str" "str" = some true), _, rfl, iteT ?_⟩
    refine ⟨_, rfl, _, rfl, rfl, ?_⟩
    rw [decide_eq_true rfl]
    refine ⟨_, rfl, iteT ?_⟩
    exact ⟨_, rfl, _, _, _, _, _, rfl, .ty _, .base (.str _), kit_ty (by decide +kernel : kitB "str" "str" = some true), _, rfl, _, _, _, _, _, rfl, .ty _, .base (.str _), kit_ty (by decide +kernel : kitB "str" "str" = some true), rfl, q _ s0⟩
  | list ds =>
    cases dx with
    | @lst a xs _ hx ax =>
    cases dy with
    | @lst b ys _ hy ay =>
    obtain ⟨i, rfl⟩ : ∃ i, k = i + 1 := by
      cases k with
      | zero => exact absurd lv id
      | succ i => exact ⟨i, rfl⟩
    have lx := DpAll.len ax
    have ly := DpAll.len ay
    have hx1 := s0.seq hx
    have hy1 := s0.seq hy
    refine ⟨_, tp, _, _, _, _, rfl, upd_same, pr, ty_lst hy1, kitLT (t := "list") (r1 := true) (r2 := false) (by decide +kernel) (by decide +kernel), _, rfl, iteT ?_⟩
    refine ⟨_, rfl, _, _, _, _, _, rfl, .ty _, ty_lst hx1, kit_ty (by decide +kernel : kitB "list" "list" = some true), _, rfl, _, _, _, _, _, rfl, .ty _, ty_lst hy1, kit_ty (by decide +kernel : kitB "list" "list" = some true), rfl, _, rfl, iteF ?_⟩
    refine ⟨_, rfl, _, _, _, _, _, rfl, .ty _, ty_lst hx1, kit_ty (by decide +kernel : kitB "list" "tuple" = some false), _, rfl, _, _, _, _, _, rfl, .ty _, ty_lst hy1, kit_ty (by decide +kernel : kitB "list" "tuple" = some false), rfl, _, rfl, iteF ?_⟩
    refine ⟨_, rfl, a, _, rfl, .inl hx1, _, rfl, b, _, rfl, .inl hy1, rfl, ?_⟩
    rw [decide_eq_true (by rw [lx, ly])]
    refine ⟨_, rfl, iteT ?_⟩
    refine ⟨_, rfl, _, rfl, a, b, xs, ys, rfl, .inl ⟨hx1, hy1, fun D nD => ?_⟩⟩
    have sD := s0.trans (same_upd (o := .lst []) nD)
    refine lc_it (walk_zip (K := K) (a := a) (b := b) (xs := xs) (ys := ys) rfl) (fun i H3 => Same H H3 ∧ H3 D = some (.lst (List.replicate i (.bl true)))) ⟨sD, upd_same⟩ (fun i H3 _ ⟨s3, _⟩ => ⟨s3.seq hx, s3.seq hy⟩) ?_ ?_
    · rintro i v H3 H4 hi ⟨s3, eD⟩ ⟨T, x, y, rfl, nT, rfl, e1, e2⟩
      obtain ⟨d1, g1, p1⟩ := DpAll.get ax e1
      obtain ⟨d2, g2, p2⟩ := DpAll.get ay e2
      obtain rfl : d1 = d2 := Option.some.inj (g1.symm.trans g2)
      have s4 := s3.trans (same_upd (o := .tup [x, y]) nT)
      refine ⟨T, _, rfl, .inl (.inl upd_same), rfl, _, _, rfl, _, _, rfl, rfl, rfl, ?_⟩
      refine yesT ?_
      refine ⟨_, rfl, _, rfl, x, y, d1, _, rfl, rfl, lv.2 d1 (List.mem_of_getElem? g1), Dp.same s4 _ _ p1, Dp.same s4 _ _ p2, fun H5 s5 => ?_⟩
      refine ⟨_, s5 _ _ (by rw [upd_ne (ne_of_none eD nT)]; exact eD), ?_, fun p o e => ?_, ?_⟩
      · rw [List.length_replicate]
        have := lv.1
        refine Nat.lt_of_lt_of_le (show i < 1000000 by omega) (by decide)
      · rw [upd_ne (ne_of_none e (s0.free nD))]
        exact s5 _ _ (s4 _ _ e)
      · rw [upd_same, repl_snoc]
    · rintro H3 ⟨s3, eD⟩
      refine ⟨D, List.replicate (min xs.length ys.length) true, rfl, .inl (.inl (by rw [List.map_replicate]; exact eD)), ?_⟩
      rw [all_repl]
      exact q _ s3
  | tuple ds =>
    cases dx with
    | @tup a xs _ hx ax =>
    cases dy with
    | @tup b ys _ hy ay =>
    obtain ⟨i, rfl⟩ : ∃ i, k = i + 1 := by
      cases k with
      | zero => exact absurd lv id
      | succ i => exact ⟨i, rfl⟩
    have lx := DpAll.len ax
    have ly := DpAll.len ay
    have hx1 := Same.seqT s0 hx
    have hy1 := Same.seqT s0 hy
    refine ⟨_, tp, _, _, _, _, rfl, upd_same, pr, ty_tup hy1, kitLT (t := "tuple") (r1 := false) (r2 := true) (by decide +kernel) (by decide +kernel), _, rfl, iteT ?_⟩
    refine ⟨_, rfl, _, _, _, _, _, rfl, .ty _, ty_tup hx1, kit_ty (by decide +kernel : kitB "tuple" "list" = some false), _, rfl, _, _, _, _, _, rfl, .ty _, ty_tup hy1, kit_ty (by decide +kernel : kitB "tuple" "list" = some false), rfl, _, rfl, iteF ?_⟩
    refine ⟨_, rfl, _, _, _, _, _, rfl, .ty _, ty_tup hx1, kit_ty (by decide +kernel : kitB "tuple" "tuple" = some true), _, rfl, _, _, _, _, _, rfl, .ty _, ty_tup hy1, kit_ty (by decide +kernel : kitB "tuple" "tuple" = some true), rfl, _, rfl, iteF ?_⟩
    refine ⟨_, rfl, a, _, rfl, .inr hx1, _, rfl, b, _, rfl, .inr hy1, rfl, ?_⟩
    rw [decide_eq_true (by rw [lx, ly])]
    refine ⟨_, rfl, iteT ?_⟩
    refine ⟨_, rfl, _, rfl, a, b, xs, ys, rfl, .inr ⟨hx1, hy1, fun D nD => ?_⟩⟩
    have sD := s0.trans (same_upd (o := .lst []) nD)
    refine lc_it (walk_zipT (K := K) (a := a) (b := b) (xs := xs) (ys := ys) rfl) (fun i H3 => Same H H3 ∧ H3 D = some (.lst (List.replicate i (.bl true)))) ⟨sD, upd_same⟩ (fun i H3 _ ⟨s3, _⟩ => ⟨Same.seqT s3 hx, Same.seqT s3 hy⟩) ?_ ?_
    · rintro i v H3 H4 hi ⟨s3, eD⟩ ⟨T, x, y, rfl, nT, rfl, e1, e2⟩
      obtain ⟨d1, g1, p1⟩ := DpAll.get ax e1
      obtain ⟨d2, g2, p2⟩ := DpAll.get ay e2
      obtain rfl : d1 = d2 := Option.some.inj (g1.symm.trans g2)
      have s4 := s3.trans (same_upd (o := .tup [x, y]) nT)
      refine ⟨T, _, rfl, .inl (.inl upd_same), rfl, _, _, rfl, _, _, rfl, rfl, rfl, ?_⟩
      refine yesT ?_
      refine ⟨_, rfl, _, rfl, x, y, d1, _, rfl, rfl, lv.2 d1 (List.mem_of_getElem? g1), Dp.same s4 _ _ p1, Dp.same s4 _ _ p2, fun H5 s5 => ?_⟩
      refine ⟨_, s5 _ _ (by rw [upd_ne (ne_of_none eD nT)]; exact eD), ?_, fun p o e => ?_, ?_⟩
      · rw [List.length_replicate]
        have := lv.1
        refine Nat.lt_of_lt_of_le (show i < 1000000 by omega) (by decide)
      · rw [upd_ne (ne_of_none e (s0.free nD))]
        exact s5 _ _ (s4 _ _ e)
      · rw [upd_same, repl_snoc]
    · rintro H3 ⟨s3, eD⟩
      refine ⟨D, List.replicate (min xs.length ys.length) true, rfl, .inl (.inl (by rw [List.map_replicate]; exact eD)), ?_⟩
      rw [all_repl]
      exact q _ s3
  | dict _ => cases dx
theorem ok_same {f : Addr} {fd : FuncData} (F : Fun K "_law_same" "_law_same" sSame f fd) (bf : Binds K fd ["_law_found", "_law_due"] []) (mf : mg "_law_same" = some (.ref f)) (B : Bl mg) : ∀ k : Nat, FnOk P w K mg base CX0 k f fd ["_law_found", "_law_due"] (spSame K k)
  | 0 => same_none
  | k + 1 => ok_same1 F (ok_same F bf mf B k) bf mf B
end
end GZ
namespace GM
theorem pow_pos' (n : Nat) : (0 : Int) < 2 ^ n := Int.pow_pos (by decide)
theorem pow_s (n : Nat) : (2 : Int) ^ (n + 1) = 2 ^ n * 2 := Int.pow_succ 2 n
theorem pow_le' {m n : Nat} (h : m ≤ n) : (2 : Int) ^ m ≤ 2 ^ n := by
  induction n with
  | zero =>
    have : m = 0 := by omega
    rw [this]
    exact Int.le_refl _
  | succ n ih =>
    by_cases e : m = n + 1
    · rw [e]
      exact Int.le_refl _
    · have := ih (by omega)
      have := pow_s n
      have := pow_pos' n
      omega
theorem pow_add' (m n : Nat) : (2 : Int) ^ (m + n) = 2 ^ m * 2 ^ n := Int.pow_add 2 m n
theorem bits_pow {x : Nat} {e : Nat} (h : x < 2 ^ e) : PySem.Builtin.Int.intBits (x : Int) ≤ e := PyProof.Rows.intBits_le (by rw [Int.natAbs_natCast]; exact h)
theorem bits_le_pow {x : Nat} {e : Nat} (h : 2 ^ e ≤ x) : e + 1 ≤ PySem.Builtin.Int.intBits (x : Int) := by
  have hx : x ≠ 0 := by
    have := Nat.two_pow_pos e
    omega
  unfold PySem.Builtin.Int.intBits
  rw [if_neg (by simpa using hx), Int.natAbs_natCast]
  have := (Nat.le_log2 hx).mpr h
  omega
theorem bits_unique {x e : Nat} (h1 : 2 ^ e ≤ x) (h2 : x < 2 ^ (e + 1)) : PySem.Builtin.Int.intBits (x : Int) = e + 1 := by
  have := bits_pow h2
  have := bits_le_pow h1
  omega
theorem bits_ex {x : Nat} (h : 0 < x) : ∃ e, 2 ^ e ≤ x ∧ x < 2 ^ (e + 1) := ⟨x.log2, Nat.log2_self_le (by omega), Nat.lt_log2_self⟩
theorem bits_half {x : Nat} (h : 0 < x) : PySem.Builtin.Int.intBits (x : Int) = PySem.Builtin.Int.intBits ((x / 2 : Nat) : Int) + 1 := by
  obtain ⟨e, h1, h2⟩ := bits_ex h
  rw [bits_unique h1 h2]
  cases e with
  | zero =>
    have : x = 1 := by
      simp at h1 h2
      omega
    rw [this]
    rfl
  | succ e =>
    rw [bits_unique (x := x / 2) (e := e)]
    · rw [Nat.pow_succ] at h1
      omega
    · rw [Nat.pow_succ] at h2
      omega
theorem bits_double {x m : Nat} (h : 0 < x) (hm : m ≤ 1) : PySem.Builtin.Int.intBits ((2 * x + m : Nat) : Int) = PySem.Builtin.Int.intBits (x : Int) + 1 := by
  rw [bits_half (x := 2 * x + m) (by omega), show (2 * x + m) / 2 = x by omega]
theorem shr_lt {x : Int} {a b : Nat} (h0 : 0 ≤ x) (h : x < 2 ^ (a + b)) : 0 ≤ x / 2 ^ b ∧ x / 2 ^ b < 2 ^ a := by
  have hb := pow_pos' b
  refine ⟨Int.ediv_nonneg h0 (by omega), ?_⟩
  rw [pow_add'] at h
  exact Int.ediv_lt_of_lt_mul hb h
end GM
namespace GM
/-! ### words: a sign, a scale of m bits, a tail of t bits -/
def bit (a : Int) (n : Nat) : Int := a / 2 ^ n % 2
def blr (a : Int) : Nat → List Int
  | 0 => []
  | n + 1 => bit a n :: blr a n
def wv : List Int → Int
  | [] => 0
  | d :: r => d * 2 ^ r.length + wv r
theorem blr_len (a : Int) : ∀ n, (blr a n).length = n
  | 0 => rfl
  | n + 1 => by
    show (blr a n).length + 1 = n + 1
    rw [blr_len a n]
theorem div_div (w : Int) (t m : Nat) : w / 2 ^ t / 2 ^ m = w / 2 ^ (t + m) := by
  rw [pow_add', Int.ediv_ediv_of_nonneg (Int.le_of_lt (pow_pos' t))]
theorem bit_div (w : Int) (t m : Nat) : bit (w / 2 ^ t) m = bit w (m + t) := by
  unfold bit
  rw [div_div, Nat.add_comm t m]
theorem blr_take (w : Int) (t : Nat) : ∀ m, (blr w (m + t)).take m = blr (w / 2 ^ t) m
  | 0 => rfl
  | m + 1 => by
    show (blr w ((m + 1) + t)).take (m + 1) = bit (w / 2 ^ t) m :: blr (w / 2 ^ t) m
    rw [show m + 1 + t = (m + t) + 1 by omega]
    show bit w (m + t) :: (blr w (m + t)).take m = _
    rw [blr_take w t m, bit_div]
theorem blr_drop (w : Int) (t : Nat) : ∀ m, (blr w (m + t)).drop m = blr w t
  | 0 => by rw [Nat.zero_add]; rfl
  | m + 1 => by
    rw [show m + 1 + t = (m + t) + 1 by omega]
    show (blr w (m + t)).drop m = _
    exact blr_drop w t m
theorem mod_step (a : Int) (n : Nat) : bit a n * 2 ^ n + a % 2 ^ n = a % 2 ^ (n + 1) := by
  unfold bit
  have hp := pow_pos' n
  have e1 := Int.emod_add_mul_ediv a (2 ^ n)
  have e2 := Int.emod_add_mul_ediv (a / 2 ^ n) 2
  have h1 := Int.emod_nonneg a (show (2 : Int) ^ n ≠ 0 by omega)
  have h2 := Int.emod_lt_of_pos a hp
  have e3 : 2 ^ n * (a / 2 ^ n) = a / 2 ^ n % 2 * 2 ^ n + a / 2 ^ n / 2 * (2 ^ n * 2) := by
    conv => lhs; rw [← e2]
    rw [Int.mul_add, Int.mul_comm (2 ^ n) (a / 2 ^ n % 2), ← Int.mul_assoc, Int.mul_comm (2 ^ n * 2) _]
  have key : (a / 2 ^ n % 2 * 2 ^ n + a % 2 ^ n) + a / 2 ^ n / 2 * 2 ^ (n + 1) = a := by
    rw [pow_s]
    omega
  have hb : 0 ≤ a / 2 ^ n % 2 * 2 ^ n + a % 2 ^ n ∧ a / 2 ^ n % 2 * 2 ^ n + a % 2 ^ n < 2 ^ (n + 1) := by
    rw [pow_s]
    have : a / 2 ^ n % 2 = 0 ∨ a / 2 ^ n % 2 = 1 := by omega
    rcases this with z | z <;> rw [z] <;> omega
  have em := Int.add_mul_emod_self_right (a / 2 ^ n % 2 * 2 ^ n + a % 2 ^ n) (a / 2 ^ n / 2) (2 ^ (n + 1))
  rw [key, Int.emod_eq_of_lt hb.1 hb.2] at em
  exact em.symm
theorem wv_blr (a : Int) : ∀ n, wv (blr a n) = a % 2 ^ n
  | 0 => by
    show (0 : Int) = a % 1
    omega
  | n + 1 => by
    show bit a n * 2 ^ (blr a n).length + wv (blr a n) = _
    rw [blr_len, wv_blr a n, ← mod_step a n]
theorem fold2 : ∀ (ds : List Int) (w : Int), ds.foldl (fun a b => a * 2 + b) w = w * 2 ^ ds.length + wv ds
  | [], w => by
    show w = w * 2 ^ 0 + 0
    rw [Int.pow_zero]
    omega
  | d :: r, w => by
    show r.foldl (fun a b => a * 2 + b) (w * 2 + d) = w * 2 ^ (r.length + 1) + (d * 2 ^ r.length + wv r)
    rw [fold2 r, pow_s, Int.add_mul, Int.mul_assoc, Int.mul_comm 2 (2 ^ r.length)]
    omega
theorem wv_ones : ∀ k, wv (List.replicate k 1) = 2 ^ k - 1
  | 0 => rfl
  | k + 1 => by
    rw [List.replicate_succ]
    show 1 * 2 ^ (List.replicate k (1 : Int)).length + wv (List.replicate k 1) = _
    rw [List.length_replicate, wv_ones k, pow_s]
    omega
/-- sign, scale, tail of a word -/
def sgn (m t : Nat) (w : Int) : Int := w / 2 ^ (m + t) % 2
def scl (m t : Nat) (w : Int) : Int := w / 2 ^ t % 2 ^ m
def tlp (t : Nat) (w : Int) : Int := w % 2 ^ t
theorem scl_tlp (m t : Nat) (w : Int) : scl m t w * 2 ^ t + tlp t w = w % 2 ^ (m + t) := by
  induction m with
  | zero =>
    unfold scl tlp
    rw [Int.pow_zero, Int.emod_one, Int.zero_mul, Int.zero_add, Nat.zero_add]
  | succ m ih =>
    have e := mod_step (w / 2 ^ t) m
    have e2 := mod_step w (m + t)
    rw [bit_div] at e
    unfold scl at ih ⊢
    rw [← e, Int.add_mul, show m + 1 + t = (m + t) + 1 by omega, ← e2, ← ih, Int.mul_assoc, ← pow_add']
    omega
theorem sgn_01 {m t : Nat} {w : Int} : sgn m t w = 0 ∨ sgn m t w = 1 := by
  unfold sgn
  omega
theorem word_eq {m t : Nat} {w : Int} (h0 : 0 ≤ w) (h1 : w < 2 ^ (1 + m + t)) : sgn m t w * 2 ^ (m + t) + w % 2 ^ (m + t) = w := by
  have e := mod_step w (m + t)
  rw [show m + t + 1 = 1 + m + t by omega, Int.emod_eq_of_lt h0 h1] at e
  exact e
theorem scl_nn (m t : Nat) (w : Int) : 0 ≤ scl m t w ∧ scl m t w < 2 ^ m := ⟨Int.emod_nonneg _ (by have := pow_pos' m; omega), Int.emod_lt_of_pos _ (pow_pos' m)⟩
theorem tlp_nn (t : Nat) (w : Int) : 0 ≤ tlp t w ∧ tlp t w < 2 ^ t := ⟨Int.emod_nonneg _ (by have := pow_pos' t; omega), Int.emod_lt_of_pos _ (pow_pos' t)⟩
/-- with the other sign -/
def trn (m t : Nat) (w : Int) : Int := (1 - sgn m t w) * 2 ^ (m + t) + w % 2 ^ (m + t)
theorem mk_parts {m t : Nat} {s r : Int} (hs : s = 0 ∨ s = 1) (h0 : 0 ≤ r) (h1 : r < 2 ^ (m + t)) : 0 ≤ s * 2 ^ (m + t) + r ∧ s * 2 ^ (m + t) + r < 2 ^ (1 + m + t) ∧ sgn m t (s * 2 ^ (m + t) + r) = s ∧ (s * 2 ^ (m + t) + r) % 2 ^ (m + t) = r := by
  have hp := pow_pos' (m + t)
  have e : (2 : Int) ^ (1 + m + t) = 2 ^ (m + t) * 2 := by rw [← pow_s]; congr 1; omega
  have em : (s * 2 ^ (m + t) + r) % 2 ^ (m + t) = r := by
    rw [Int.add_comm, Int.add_mul_emod_self_right, Int.emod_eq_of_lt h0 h1]
  have ed : (s * 2 ^ (m + t) + r) / 2 ^ (m + t) = s := by
    rw [Int.add_comm, Int.add_mul_ediv_right _ _ (by omega), Int.ediv_eq_zero_of_lt h0 h1, Int.zero_add]
  refine ⟨?_, ?_, ?_, em⟩
  · rcases hs with z | z <;> subst z <;> omega
  · rw [e]
    rcases hs with z | z <;> subst z <;> omega
  · unfold sgn
    rw [ed]
    omega
theorem trn_trn {m t : Nat} {w : Int} (h0 : 0 ≤ w) (h1 : w < 2 ^ (1 + m + t)) : trn m t (trn m t w) = w ∧ 0 ≤ trn m t w ∧ trn m t w < 2 ^ (1 + m + t) := by
  have hp := pow_pos' (m + t)
  have hs : 1 - sgn m t w = 0 ∨ 1 - sgn m t w = 1 := by
    have := sgn_01 (m := m) (t := t) (w := w)
    omega
  obtain ⟨a, b, c, d⟩ := mk_parts (m := m) (t := t) hs (Int.emod_nonneg w (show (2 : Int) ^ (m + t) ≠ 0 by omega)) (Int.emod_lt_of_pos w hp)
  refine ⟨?_, a, b⟩
  show (1 - sgn m t (trn m t w)) * 2 ^ (m + t) + trn m t w % 2 ^ (m + t) = w
  rw [show sgn m t (trn m t w) = 1 - sgn m t w from c, show trn m t w % 2 ^ (m + t) = w % 2 ^ (m + t) from d, show 1 - (1 - sgn m t w) = sgn m t w by omega]
  exact word_eq h0 h1
end GM
namespace GR
open PySem
/-! ### the rounding, as a function -/
def bl (n : Int) : Int := (Builtin.Int.intBits n : Nat)
def cutQ (n b : Int) : Int := if b < 0 then n * 2 ^ (-b).toNat else n / 2 ^ b.toNat
def cutR (n b : Int) : Bool := if b < 0 then false else !decide (n / 2 ^ b.toNat * 2 ^ b.toNat = n)
def lea (sc tl : Nat) : Int := 1 - (2 ^ (sc - 1) - 1) - (tl : Int)
def lap (sc tl : Nat) (n p : Int) : Int := if lea sc tl > bl n + p - 1 - (tl : Int) then lea sc tl else bl n + p - 1 - (tl : Int)
def prQ (n b : Int) : Int := cutQ n (b - 1) / 2 ^ 1
def prR (n b : Int) (more : Bool) : Int := 2 * (cutQ n (b - 1) % 2 ^ 1) + (if cutR n (b - 1) || more then 1 else 0)
def away (way : Str) (s : Int) : Bool := if way = "cut" then false else decide (s = if way = "up" then 0 else 1)
def gup (way : Str) (s many rest : Int) : Bool := if way = "near" then decide (rest = 3) || (decide (rest = 2) && decide (many % 2 = 1)) else !decide (rest = 0) && away way s
def wrd (sc tl : Nat) (s m t : Int) : Int := s * 2 ^ (sc + tl) + (m * 2 ^ tl + t)
def bey (sc tl : Nat) (s : Int) (way : Str) : Int := if (decide (way = "near") || away way s) = true then wrd sc tl s (2 ^ sc - 1) 0 else wrd sc tl s (2 ^ sc - 1 - 1) (2 ^ tl - 1)
def flg (sc : Nat) (n p rest : Int) : List Str := if rest = 0 then [] else if bl n + p ≤ 1 - (2 ^ (sc - 1) - 1) then ["under", "rounded"] else ["rounded"]
def mny (sc tl : Nat) (s n p : Int) (way : Str) (more : Bool) : Int := if gup way s (prQ n (lap sc tl n p - p)) (prR n (lap sc tl n p - p) more) = true then prQ n (lap sc tl n p - p) + 1 else prQ n (lap sc tl n p - p)
def siz (sc tl : Nat) (s n p : Int) (way : Str) (more : Bool) : Int := (lap sc tl n p - lea sc tl) * 2 ^ tl + mny sc tl s n p way more
def rnd (sc tl : Nat) (s n p : Int) (way : Str) (more : Bool) : Int × List Str :=
  if n = 0 then (wrd sc tl s 0 0, [])
  else if siz sc tl s n p way more > wrd sc tl 0 (2 ^ sc - 1 - 1) (2 ^ tl - 1) then (bey sc tl s way, ["over", "rounded"])
  else (wrd sc tl s 0 0 + siz sc tl s n p way more, flg sc n p (prR n (lap sc tl n p - p) more))
theorem lap_ge (sc tl : Nat) (n p : Int) : lea sc tl ≤ lap sc tl n p := by
  unfold lap
  split <;> omega
end GR
namespace GM
/-! ### sizes and their worths -/
def topS (m t : Nat) : Int := (2 ^ m - 1) * 2 ^ t
def num (t : Nat) (s : Int) : Int := if s / 2 ^ t = 0 then s % 2 ^ t else 2 ^ t + s % 2 ^ t
def ex (t : Nat) (s : Int) : Nat := (s / 2 ^ t).toNat - 1
def numE (m t : Nat) (s : Int) : Int := if s = topS m t then 1 else num t s
def exE (m t : Nat) (s : Int) : Nat := if s = topS m t then 1998 + 2 ^ (m - 1) + t else ex t s
def Vv (m t : Nat) (s : Int) : Int := numE m t s * 2 ^ exE m t s
theorem sz_parts (t : Nat) (s : Int) : s / 2 ^ t * 2 ^ t + s % 2 ^ t = s := by
  have := Int.emod_add_mul_ediv s (2 ^ t)
  rw [Int.mul_comm] at this
  omega
theorem num_nn {t : Nat} {s : Int} (h : 0 ≤ s) : 0 ≤ num t s := by
  have hp := pow_pos' t
  have := Int.emod_nonneg s (show (2 : Int) ^ t ≠ 0 by omega)
  unfold num
  split <;> omega
/-- below 2 ^ t times 2 ^ h -/
theorem num_lt {t : Nat} {s : Int} (h0 : 0 ≤ s) : num t s * 2 ^ ex t s < 2 ^ t * 2 ^ (s / 2 ^ t).toNat := by
  have hp := pow_pos' t
  have hl := Int.emod_lt_of_pos s hp
  have hd := Int.ediv_nonneg h0 (Int.le_of_lt hp)
  unfold num ex
  split
  · rename_i e
    rw [e]
    show s % 2 ^ t * 2 ^ 0 < 2 ^ t * 2 ^ 0
    rw [Int.pow_zero]
    omega
  · rename_i e
    obtain ⟨k, hk⟩ : ∃ k : Nat, (s / 2 ^ t).toNat = k + 1 := ⟨(s / 2 ^ t).toNat - 1, by omega⟩
    rw [hk, Nat.add_sub_cancel, pow_s, ← Int.mul_assoc]
    have hk2 := pow_pos' k
    have : (2 ^ t + s % 2 ^ t) * 2 ^ k < (2 ^ t * 2) * 2 ^ k := Int.mul_lt_mul_of_pos_right (by omega) hk2
    rw [show (2 : Int) ^ t * 2 ^ k * 2 = 2 ^ t * 2 * 2 ^ k by rw [Int.mul_assoc, Int.mul_assoc, Int.mul_comm (2 ^ k) 2]]
    exact this
theorem num_ge {t : Nat} {s : Int} {k : Nat} (h : (s / 2 ^ t).toNat = k + 1) : 2 ^ t * 2 ^ k ≤ num t s * 2 ^ ex t s := by
  have hp := pow_pos' t
  have := Int.emod_nonneg s (show (2 : Int) ^ t ≠ 0 by omega)
  have hk2 := pow_pos' k
  unfold num ex
  rw [if_neg (by omega), h, Nat.add_sub_cancel]
  exact Int.mul_le_mul_of_nonneg_right (by omega) (by omega)
theorem num_mono {t : Nat} {a b : Int} (h0 : 0 ≤ a) (h : a < b) : num t a * 2 ^ ex t a < num t b * 2 ^ ex t b := by
  have hp := pow_pos' t
  have ea := sz_parts t a
  have eb := sz_parts t b
  have la := Int.emod_lt_of_pos a hp
  have na := Int.emod_nonneg a (show (2 : Int) ^ t ≠ 0 by omega)
  have nb := Int.emod_nonneg b (show (2 : Int) ^ t ≠ 0 by omega)
  have lb := Int.emod_lt_of_pos b hp
  have hle : a / 2 ^ t ≤ b / 2 ^ t := Int.ediv_le_ediv hp (by omega)
  have hd := Int.ediv_nonneg h0 (Int.le_of_lt hp)
  by_cases e : a / 2 ^ t = b / 2 ^ t
  · have hl : a % 2 ^ t < b % 2 ^ t := by
      rw [e] at ea
      omega
    have hx : ex t a = ex t b := by unfold ex; rw [e]
    rw [hx]
    refine Int.mul_lt_mul_of_pos_right ?_ (pow_pos' _)
    unfold num
    rw [e]
    split <;> omega
  · obtain ⟨k, hk⟩ : ∃ k : Nat, (b / 2 ^ t).toNat = k + 1 := ⟨(b / 2 ^ t).toNat - 1, by omega⟩
    have h1 := num_lt (t := t) h0
    have h2 := num_ge hk
    have h3 : (2 : Int) ^ t * 2 ^ (a / 2 ^ t).toNat ≤ 2 ^ t * 2 ^ k := Int.mul_le_mul_of_nonneg_left (pow_le' (by omega)) (by omega)
    omega
theorem Vv_mono {m t : Nat} (hm : m ≤ 8) {a b : Int} (h0 : 0 ≤ a) (h : a < b) (hb : b ≤ topS m t) : Vv m t a < Vv m t b := by
  unfold Vv numE exE
  rw [if_neg (by omega), if_neg (by omega)]
  by_cases e : b = topS m t
  · rw [if_pos e, if_pos e, Int.one_mul]
    have h1 := num_lt (t := t) h0
    have hp := pow_pos' t
    have hq : a / 2 ^ t < 2 ^ m := by
      refine Int.ediv_lt_of_lt_mul hp ?_
      have : topS m t ≤ 2 ^ m * 2 ^ t := Int.mul_le_mul_of_nonneg_right (by omega) (by omega)
      omega
    have h8 : (2 : Int) ^ m ≤ 2 ^ 8 := pow_le' hm
    rw [← pow_add'] at h1
    have h3 : (a / 2 ^ t).toNat ≤ 256 := by omega
    have h2 : (2 : Int) ^ (t + (a / 2 ^ t).toNat) ≤ 2 ^ (1998 + 2 ^ (m - 1) + t) := pow_le' (by
      generalize 2 ^ (m - 1) = zz
      omega)
    omega
  · rw [if_neg e, if_neg e]
    exact num_mono h0 h
theorem Vv_zero (m t : Nat) (h : 0 < topS m t) : Vv m t 0 = 0 := by
  unfold Vv numE num
  rw [if_neg (by omega), Int.zero_ediv, if_pos rfl, Int.zero_emod, Int.zero_mul]
/-- how two words stand to each other, by worths and by sizes -/
theorem cmp_eq {m t : Nat} (hm : m ≤ 8) {a b : Int} (a0 : 0 ≤ a) (a1 : a ≤ topS m t) (b0 : 0 ≤ b) (b1 : b ≤ topS m t) (hT : 0 < topS m t) (g h : Bool) :
    ((if g then 0 - numE m t a else numE m t a) * 2 ^ (exE m t a - min (exE m t a) (exE m t b)) = (if h then 0 - numE m t b else numE m t b) * 2 ^ (exE m t b - min (exE m t a) (exE m t b)) ↔ (if g then -a else a) = (if h then -b else b)) ∧
    ((if g then 0 - numE m t a else numE m t a) * 2 ^ (exE m t a - min (exE m t a) (exE m t b)) < (if h then 0 - numE m t b else numE m t b) * 2 ^ (exE m t b - min (exE m t a) (exE m t b)) ↔ (if g then -a else a) < (if h then -b else b)) := by
  have pm := pow_pos' (min (exE m t a) (exE m t b))
  have ea : (if g then 0 - numE m t a else numE m t a) * 2 ^ (exE m t a - min (exE m t a) (exE m t b)) * 2 ^ min (exE m t a) (exE m t b) = (if g then -Vv m t a else Vv m t a) := by
    rw [Int.mul_assoc, ← pow_add', show exE m t a - min (exE m t a) (exE m t b) + min (exE m t a) (exE m t b) = exE m t a by omega]
    unfold Vv
    cases g
    · rfl
    · show (0 - numE m t a) * 2 ^ exE m t a = -(numE m t a * 2 ^ exE m t a)
      rw [Int.zero_sub, Int.neg_mul]
  have eb : (if h then 0 - numE m t b else numE m t b) * 2 ^ (exE m t b - min (exE m t a) (exE m t b)) * 2 ^ min (exE m t a) (exE m t b) = (if h then -Vv m t b else Vv m t b) := by
    rw [Int.mul_assoc, ← pow_add', show exE m t b - min (exE m t a) (exE m t b) + min (exE m t a) (exE m t b) = exE m t b by omega]
    unfold Vv
    cases h
    · rfl
    · show (0 - numE m t b) * 2 ^ exE m t b = -(numE m t b * 2 ^ exE m t b)
      rw [Int.zero_sub, Int.neg_mul]
  generalize (if g then 0 - numE m t a else numE m t a) * 2 ^ (exE m t a - min (exE m t a) (exE m t b)) = x at *
  generalize (if h then 0 - numE m t b else numE m t b) * 2 ^ (exE m t b - min (exE m t a) (exE m t b)) = y at *
  have exy : (x = y ↔ (if g then -Vv m t a else Vv m t a) = (if h then -Vv m t b else Vv m t b)) ∧ (x < y ↔ (if g then -Vv m t a else Vv m t a) < (if h then -Vv m t b else Vv m t b)) := by
    rw [← ea, ← eb]
    generalize (2 : Int) ^ min (exE m t a) (exE m t b) = d at *
    refine ⟨⟨fun z => by rw [z], fun z => Int.eq_of_mul_eq_mul_right (by omega) z⟩, ⟨fun z => Int.mul_lt_mul_of_pos_right z pm, fun z => Int.lt_of_mul_lt_mul_right z (by omega)⟩⟩
  rw [exy.1, exy.2]
  have z := Vv_zero m t hT
  have pa : a = 0 ∨ 0 < Vv m t a := by
    rcases Int.lt_or_eq_of_le a0 with q | q
    · have := Vv_mono hm (Int.le_refl 0) q a1
      omega
    · exact .inl q.symm
  have pb : b = 0 ∨ 0 < Vv m t b := by
    rcases Int.lt_or_eq_of_le b0 with q | q
    · have := Vv_mono hm (Int.le_refl 0) q b1
      omega
    · exact .inl q.symm
  have za : a = 0 → Vv m t a = 0 := fun q => by rw [q]; exact z
  have zb : b = 0 → Vv m t b = 0 := fun q => by rw [q]; exact z
  have lt1 : a < b → Vv m t a < Vv m t b := fun q => Vv_mono hm a0 q b1
  have lt2 : b < a → Vv m t b < Vv m t a := fun q => Vv_mono hm b0 q a1
  have eqq : a = b → Vv m t a = Vv m t b := fun q => by rw [q]
  generalize Vv m t a = u at *
  generalize Vv m t b = v at *
  have tri : a < b ∨ a = b ∨ b < a := by omega
  cases g <;> cases h <;> simp only [if_true, if_false, Bool.false_eq_true] <;>
    (rcases tri with q | q | q
     · have := lt1 q; rcases pa with w | w <;> rcases pb with w2 | w2 <;> (try have := za w) <;> (try have := zb w2) <;> constructor <;> omega
     · have := eqq q; rcases pa with w | w <;> rcases pb with w2 | w2 <;> (try have := za w) <;> (try have := zb w2) <;> constructor <;> omega
     · have := lt2 q; rcases pa with w | w <;> rcases pb with w2 | w2 <;> (try have := za w) <;> (try have := zb w2) <;> constructor <;> omega)
end GM
namespace GM
theorem div_s (x : Int) (k : Nat) : x / 2 ^ (k + 1) = x / 2 ^ k / 2 := by
  rw [pow_s, Int.ediv_ediv_of_nonneg (Int.le_of_lt (pow_pos' k))]
end GM
namespace GR
open PySem GM
/-! ### where a worth stands between two words -/
def cmpM (N Mo V : Int) (more : Bool) : Int := if N = V then (if more then 1 else 0) else if N > V then 1 else if N + (if more then 1 else 0) * Mo ≤ V then -1 else 1
theorem cmp_scale {c N Mo V : Int} {more : Bool} (h : 0 < c) : cmpM (N * c) (Mo * c) (V * c) more = cmpM N Mo V more := by
  unfold cmpM
  have e1 : N * c = V * c ↔ N = V := ⟨fun z => Int.eq_of_mul_eq_mul_right (by omega) z, fun z => by rw [z]⟩
  have e2 : N * c > V * c ↔ N > V := ⟨fun z => Int.lt_of_mul_lt_mul_right z (by omega), fun z => Int.mul_lt_mul_of_pos_right z h⟩
  have e3 : N * c + (if more then 1 else 0) * (Mo * c) ≤ V * c ↔ N + (if more then 1 else 0) * Mo ≤ V := by
    rw [← Int.mul_assoc, ← Int.add_mul]
    exact ⟨fun z => Int.le_of_mul_le_mul_right z h, fun z => Int.mul_le_mul_of_nonneg_right z (by omega)⟩
  by_cases c1 : N = V
  · rw [if_pos c1, if_pos (e1.mpr c1)]
  · rw [if_neg c1, if_neg (fun z => c1 (e1.mp z))]
    by_cases c2 : N > V
    · rw [if_pos c2, if_pos (e2.mpr c2)]
    · rw [if_neg c2, if_neg (fun z => c2 (e2.mp z))]
      by_cases c3 : N + (if more then 1 else 0) * Mo ≤ V
      · rw [if_pos c3, if_pos (e3.mpr c3)]
      · rw [if_neg c3, if_neg (fun z => c3 (e3.mp z))]
theorem cmp_ge {N Mo V : Int} {more : Bool} (h : V ≤ N) : 0 ≤ cmpM N Mo V more := by
  unfold cmpM
  split
  · split <;> decide
  · rw [if_pos (by omega)]
    decide
theorem cmp_lt {N Mo V : Int} {more : Bool} (h : N < V) (hm : more = true → N + Mo ≤ V) : cmpM N Mo V more = -1 := by
  unfold cmpM
  rw [if_neg (by omega), if_neg (by omega), if_pos ?_]
  cases more with
  | true =>
    have := hm rfl
    rw [if_pos rfl]
    omega
  | false =>
    rw [if_neg (by decide)]
    omega
/-! ### cutting off, on one scale -/
theorem cut_scale {n : Int} {a D : Nat} {b : Int} (hb : (D : Int) = a + b) : cutQ n b = n * 2 ^ a / 2 ^ D ∧ cutR n b = !decide (n * 2 ^ a % 2 ^ D = 0) := by
  have hD := pow_pos' D
  have ha := pow_pos' a
  unfold cutQ cutR
  by_cases c : b < 0
  · rw [if_pos c, if_pos c]
    have e : (2 : Int) ^ a = 2 ^ (-b).toNat * 2 ^ D := by rw [← pow_add']; congr 1; omega
    rw [e, ← Int.mul_assoc]
    refine ⟨(Int.mul_ediv_cancel _ (by omega)).symm, ?_⟩
    rw [Int.mul_emod_left, decide_eq_true rfl]
    rfl
  · rw [if_neg c, if_neg c]
    have e : (2 : Int) ^ D = 2 ^ b.toNat * 2 ^ a := by rw [← pow_add']; congr 1; omega
    have hp := pow_pos' b.toNat
    rw [e, Int.mul_ediv_mul_of_pos_left _ _ ha]
    refine ⟨rfl, ?_⟩
    rw [show n * 2 ^ a % (2 ^ b.toNat * 2 ^ a) = n % 2 ^ b.toNat * 2 ^ a by rw [Int.mul_comm n, Int.mul_comm (2 ^ b.toNat), Int.mul_emod_mul_of_pos _ _ ha, Int.mul_comm]]
    have e2 := Int.emod_add_mul_ediv n (2 ^ b.toNat)
    rw [Int.mul_comm] at e2
    by_cases d : n % 2 ^ b.toNat = 0
    · rw [d, Int.zero_mul, decide_eq_true rfl, decide_eq_true (by omega)]
    · have d2 : ¬ n % 2 ^ b.toNat * 2 ^ a = 0 := fun z => by
        rcases Int.mul_eq_zero.mp z with y | y
        · exact d y
        · omega
      rw [decide_eq_false d2, decide_eq_false (by omega)]
/-! ### the worth of a size -/
def W (t : Nat) (u : Int) : Int := num t u * 2 ^ ex t u
theorem W_at {t : Nat} {d : Nat} {m : Int} (h0 : 0 ≤ m) (h1 : m ≤ 2 ^ t * 2) (h2 : d = 0 ∨ 2 ^ t ≤ m) : W t (d * 2 ^ t + m) = m * 2 ^ d := by
  have hp := pow_pos' t
  unfold W
  by_cases c : m < 2 ^ t
  · have hd : d = 0 := by omega
    subst hd
    have e : ((0 : Nat) : Int) * 2 ^ t + m = m := by omega
    rw [e]
    unfold num ex
    rw [Int.ediv_eq_zero_of_lt h0 c, if_pos rfl, Int.emod_eq_of_lt h0 c]
    rfl
  · by_cases c2 : m < 2 ^ t * 2
    · have ed : ((d : Int) * 2 ^ t + m) / 2 ^ t = (d : Int) + 1 := by
        rw [show (d : Int) * 2 ^ t + m = (m - 2 ^ t) + ((d : Int) + 1) * 2 ^ t by rw [Int.add_mul]; omega, Int.add_mul_ediv_right _ _ (by omega), Int.ediv_eq_zero_of_lt (by omega) (by omega)]
        omega
      have em : ((d : Int) * 2 ^ t + m) % 2 ^ t = m - 2 ^ t := by
        rw [show (d : Int) * 2 ^ t + m = (m - 2 ^ t) + ((d : Int) + 1) * 2 ^ t by rw [Int.add_mul]; omega, Int.add_mul_emod_self_right, Int.emod_eq_of_lt (by omega) (by omega)]
      unfold num ex
      rw [ed, em, if_neg (by omega), show ((d : Int) + 1).toNat - 1 = d by omega, show 2 ^ t + (m - 2 ^ t) = m by omega]
    · have hm : m = 2 ^ t * 2 := by omega
      have ed : ((d : Int) * 2 ^ t + m) / 2 ^ t = (d : Int) + 2 := by
        rw [show (d : Int) * 2 ^ t + m = 0 + ((d : Int) + 2) * 2 ^ t by rw [Int.add_mul]; omega, Int.add_mul_ediv_right _ _ (by omega), Int.zero_ediv]
        omega
      have em : ((d : Int) * 2 ^ t + m) % 2 ^ t = 0 := by
        rw [show (d : Int) * 2 ^ t + m = 0 + ((d : Int) + 2) * 2 ^ t by rw [Int.add_mul]; omega, Int.add_mul_emod_self_right, Int.zero_emod]
      unfold num ex
      rw [ed, em, if_neg (by omega), show ((d : Int) + 2).toNat - 1 = d + 1 by omega, hm, pow_s, Int.add_zero, Int.mul_assoc, Int.mul_comm 2 (2 ^ d)]
theorem W_mono {t : Nat} {a b : Int} (h0 : 0 ≤ a) (h : a < b) : W t a < W t b := num_mono h0 h
theorem W_le {t : Nat} {a b : Int} (h0 : 0 ≤ a) (h : a ≤ b) : W t a ≤ W t b := by
  rcases Int.lt_or_eq_of_le h with c | c
  · exact Int.le_of_lt (W_mono h0 c)
  · rw [c]
    exact Int.le_refl _
theorem bl_in {n : Int} (h : 0 < n) : ∃ k : Nat, bl n = (k : Int) + 1 ∧ 2 ^ k ≤ n ∧ n < 2 ^ (k + 1) := by
  obtain ⟨e, h1, h2⟩ := bits_ex (x := n.toNat) (by omega)
  have hb := bits_unique h1 h2
  have c1 : ((2 ^ e : Nat) : Int) = (2 : Int) ^ e := PySem.W.kbt_cast _
  have c2 : ((2 ^ (e + 1) : Nat) : Int) = (2 : Int) ^ (e + 1) := PySem.W.kbt_cast _
  rw [show ((n.toNat : Nat) : Int) = n by omega] at hb
  refine ⟨e, ?_, by omega, by omega⟩
  unfold bl
  rw [hb]
  omega
/-- what the search meets, and what the rounding reckons -/
structure Fl (sc tl : Nat) (n p : Int) (more : Bool) (N Mo bq low0 : Int) : Prop where
  lo0 : 0 ≤ low0
  le : ∀ u, 0 ≤ u → u ≤ low0 → 0 ≤ cmpM N Mo (W tl u * bq) more
  gt : ∀ u, low0 < u → cmpM N Mo (W tl u * bq) more = -1
  just : cmpM N Mo (W tl low0 * bq) more = 0 ↔ prR n (lap sc tl n p - p) more = 0
  half : cmpM (N * 2) (Mo * 2) (W tl low0 * bq + W tl (low0 + 1) * bq) more = (if prR n (lap sc tl n p - p) more = 3 then 1 else if prR n (lap sc tl n p - p) more = 2 then 0 else -1)
  rest : 0 ≤ prR n (lap sc tl n p - p) more ∧ prR n (lap sc tl n p - p) more ≤ 3
  odd : low0 % 2 = prQ n (lap sc tl n p - p) % 2
  und : cmpM N Mo (W tl (2 ^ tl) * bq) more < 0 ↔ bl n + p ≤ 1 - (2 ^ (sc - 1) - 1)
theorem floor_facts {sc tl : Nat} {n p : Int} {more : Bool} (htl : 1 ≤ tl) (hn : 0 < n) (hm : more = true → p < lap sc tl n p) {a b : Nat} {B : Int} (ha : p - B = a) (hb : lea sc tl - B = (b : Int) + 1) :
    Fl sc tl n p more (n * 2 ^ a) (2 ^ a) (2 ^ (b + 1)) ((lap sc tl n p - lea sc tl) * 2 ^ tl + prQ n (lap sc tl n p - p)) := by
  obtain ⟨k, hk, hk1, hk2⟩ := bl_in hn
  have hge := lap_ge sc tl n p
  obtain ⟨d, hd⟩ : ∃ d : Nat, lap sc tl n p - lea sc tl = (d : Int) := ⟨(lap sc tl n p - lea sc tl).toNat, by omega⟩
  have hcase : (d = 0 ∧ bl n + p - 1 - tl ≤ lap sc tl n p) ∨ lap sc tl n p = bl n + p - 1 - tl := by
    unfold lap at hd ⊢
    split
    · rename_i c
      rw [if_pos c] at hd
      exact .inl ⟨by omega, by omega⟩
    · exact .inr rfl
  have hle : bl n + p - 1 - tl ≤ lap sc tl n p := by omega
  -- the scale
  obtain ⟨hQ, hR⟩ := cut_scale (n := n) (a := a) (D := d + b) (b := lap sc tl n p - p - 1) (by omega)
  have pD := pow_pos' (d + b)
  have pa := pow_pos' a
  have pt := pow_pos' tl
  have pD1 : (2 : Int) ^ (d + b + 1) = 2 ^ (d + b) * 2 := pow_s _
  have eq : prQ n (lap sc tl n p - p) = n * 2 ^ a / 2 ^ (d + b + 1) := by
    show cutQ n (lap sc tl n p - p - 1) / 2 ^ 1 = _
    rw [hQ, GM.div_div]
  have er : prR n (lap sc tl n p - p) more = 2 * (n * 2 ^ a / 2 ^ (d + b) % 2) + (if (!decide (n * 2 ^ a % 2 ^ (d + b) = 0)) || more then 1 else 0) := by
    show 2 * (cutQ n (lap sc tl n p - p - 1) % 2 ^ 1) + (if cutR n (lap sc tl n p - p - 1) || more then 1 else 0) = _
    rw [hQ, hR]
    rfl
  have hN0 : 0 < n * 2 ^ a := Int.mul_pos hn pa
  have moreD : more = true → ∃ f : Nat, (2 : Int) ^ (d + b) = 2 ^ f * 2 ^ a := fun z => by
    have := hm z
    refine ⟨d + b - a, ?_⟩
    rw [← pow_add']
    congr 1
    omega
  -- sizes of the number
  have hNlt : n * 2 ^ a < 2 ^ (k + 1 + a) := by
    rw [pow_add']
    exact Int.mul_lt_mul_of_pos_right hk2 pa
  have hNge : 2 ^ (k + a) ≤ n * 2 ^ a := by
    rw [pow_add']
    exact Int.mul_le_mul_of_nonneg_right hk1 (by omega)
  have hkd : k + 1 + a ≤ tl + 1 + (d + b + 1) := by omega
  have hm1 : n * 2 ^ a / 2 ^ (d + b + 1) < 2 ^ tl * 2 := by
    refine Int.ediv_lt_of_lt_mul (by omega) ?_
    rw [← pow_s, ← pow_add']
    exact Int.lt_of_lt_of_le hNlt (pow_le' hkd)
  have hm0 : 0 ≤ n * 2 ^ a / 2 ^ (d + b + 1) := Int.ediv_nonneg (by omega) (by omega)
  have hm2 : d = 0 ∨ 2 ^ tl ≤ n * 2 ^ a / 2 ^ (d + b + 1) := by
    rcases hcase with h | h
    · exact .inl h.1
    · right
      refine (Int.le_ediv_iff_mul_le (by omega)).mpr ?_
      rw [← pow_add']
      exact Int.le_trans (pow_le' (by omega)) hNge
  rw [eq, hd]
  have eN := Int.emod_add_mul_ediv (n * 2 ^ a) (2 ^ (d + b + 1))
  have r0 := Int.emod_nonneg (n * 2 ^ a) (show (2 : Int) ^ (d + b + 1) ≠ 0 by omega)
  have r1 := Int.emod_lt_of_pos (n * 2 ^ a) (show (0 : Int) < 2 ^ (d + b + 1) by omega)
  have fN := Int.emod_add_mul_ediv (n * 2 ^ a) (2 ^ (d + b))
  have s0 := Int.emod_nonneg (n * 2 ^ a) (show (2 : Int) ^ (d + b) ≠ 0 by omega)
  have s1 := Int.emod_lt_of_pos (n * 2 ^ a) pD
  have hh : n * 2 ^ a / 2 ^ (d + b + 1) = n * 2 ^ a / 2 ^ (d + b) / 2 := GM.div_s _ _
  have pt2 : (2 : Int) ^ tl = 2 ^ (tl - 1) * 2 := by rw [← pow_s]; congr 1; omega
  have bb : (2 : Int) ^ d * 2 ^ (b + 1) = 2 ^ (d + b) * 2 := by rw [← pow_add', show d + (b + 1) = d + b + 1 by omega, pow_s]
  have v0 : W tl ((d : Int) * 2 ^ tl + n * 2 ^ a / 2 ^ (d + b + 1)) * 2 ^ (b + 1) = n * 2 ^ a / 2 ^ (d + b + 1) * (2 ^ (d + b) * 2) := by
    rw [W_at hm0 (by omega) hm2, Int.mul_assoc, bb]
  have v1 : W tl ((d : Int) * 2 ^ tl + n * 2 ^ a / 2 ^ (d + b + 1) + 1) * 2 ^ (b + 1) = (n * 2 ^ a / 2 ^ (d + b + 1) + 1) * (2 ^ (d + b) * 2) := by
    rw [show (d : Int) * 2 ^ tl + n * 2 ^ a / 2 ^ (d + b + 1) + 1 = (d : Int) * 2 ^ tl + (n * 2 ^ a / 2 ^ (d + b + 1) + 1) by omega, W_at (by omega) (by omega) (by omega), Int.mul_assoc, bb]
  have lo0 : 0 ≤ (d : Int) * 2 ^ tl + n * 2 ^ a / 2 ^ (d + b + 1) := by
    have := Int.mul_nonneg (show (0 : Int) ≤ (d : Int) by omega) (Int.le_of_lt pt)
    omega
  have pb := pow_pos' (b + 1)
  rw [pD1] at eN r0 r1
  have vt : W tl (2 ^ tl) * 2 ^ (b + 1) = 2 ^ (tl + (b + 1)) := by
    have := W_at (t := tl) (d := 0) (m := 2 ^ tl) (by omega) (by omega) (.inl rfl)
    rw [show ((0 : Nat) : Int) * 2 ^ tl + 2 ^ tl = 2 ^ tl by omega, Int.pow_zero, Int.mul_one] at this
    rw [this, ← pow_add']
  have ho : ((d : Int) * 2 ^ tl + n * 2 ^ a / 2 ^ (d + b + 1)) % 2 = n * 2 ^ a / 2 ^ (d + b + 1) % 2 := by
    rw [pt2, ← Int.mul_assoc]
    generalize (d : Int) * 2 ^ (tl - 1) = z
    omega
  have lea1 : 1 - ((2 : Int) ^ (sc - 1) - 1) = lea sc tl + tl := by
    unfold lea
    omega
  -- multiples of what more stands for
  have stepM : more = true → ∀ X : Int, n * 2 ^ a < X * 2 ^ (d + b) → n * 2 ^ a + 2 ^ a ≤ X * 2 ^ (d + b) := fun z X hX => by
    obtain ⟨f, hf⟩ := moreD z
    rw [hf, ← Int.mul_assoc] at hX ⊢
    have h1 : n < X * 2 ^ f := Int.lt_of_mul_lt_mul_right hX (by omega)
    have h2 : (n + 1) * 2 ^ a ≤ X * 2 ^ f * 2 ^ a := Int.mul_le_mul_of_nonneg_right (by omega) (by omega)
    rw [Int.add_mul, Int.one_mul] at h2
    exact h2
  have X1 : more = true → n * 2 ^ a < 2 * (2 ^ (d + b) * (n * 2 ^ a / 2 ^ (d + b + 1))) + 2 ^ (d + b) → n * 2 ^ a + 2 ^ a ≤ 2 * (2 ^ (d + b) * (n * 2 ^ a / 2 ^ (d + b + 1))) + 2 ^ (d + b) := fun z => by
    have := stepM z (2 * (n * 2 ^ a / 2 ^ (d + b + 1)) + 1)
    rw [show (2 * (n * 2 ^ a / 2 ^ (d + b + 1)) + 1) * 2 ^ (d + b) = 2 * (2 ^ (d + b) * (n * 2 ^ a / 2 ^ (d + b + 1))) + 2 ^ (d + b) by rw [Int.add_mul, Int.one_mul, Int.mul_assoc, Int.mul_comm (2 ^ (d + b))]] at this
    exact this
  have X2 : more = true → n * 2 ^ a < 2 * (2 ^ (d + b) * (n * 2 ^ a / 2 ^ (d + b + 1))) + 2 * 2 ^ (d + b) → n * 2 ^ a + 2 ^ a ≤ 2 * (2 ^ (d + b) * (n * 2 ^ a / 2 ^ (d + b + 1))) + 2 * 2 ^ (d + b) := fun z => by
    have := stepM z (2 * (n * 2 ^ a / 2 ^ (d + b + 1)) + 2)
    rw [show (2 * (n * 2 ^ a / 2 ^ (d + b + 1)) + 2) * 2 ^ (d + b) = 2 * (2 ^ (d + b) * (n * 2 ^ a / 2 ^ (d + b + 1))) + 2 * 2 ^ (d + b) by rw [Int.add_mul, Int.mul_assoc, Int.mul_comm (2 ^ (d + b))]] at this
    exact this
  rw [show n * 2 ^ a / 2 ^ (d + b + 1) * (2 ^ (d + b) * 2) = 2 * (2 ^ (d + b) * (n * 2 ^ a / 2 ^ (d + b + 1))) by rw [← Int.mul_assoc, Int.mul_comm _ (2 ^ (d + b)), Int.mul_comm]] at v0
  rw [show (n * 2 ^ a / 2 ^ (d + b + 1) + 1) * (2 ^ (d + b) * 2) = 2 * (2 ^ (d + b) * (n * 2 ^ a / 2 ^ (d + b + 1))) + 2 * 2 ^ (d + b) by rw [Int.add_mul, ← Int.mul_assoc, Int.mul_comm _ (2 ^ (d + b)), Int.mul_comm _ 2]; omega] at v1
  have hb2 : n * 2 ^ a / 2 ^ (d + b) % 2 = 0 ∨ n * 2 ^ a / 2 ^ (d + b) % 2 = 1 := by omega
  have hNN : n * 2 ^ a = n * 2 ^ a % 2 ^ (d + b) + 2 * (2 ^ (d + b) * (n * 2 ^ a / 2 ^ (d + b + 1))) + n * 2 ^ a / 2 ^ (d + b) % 2 * 2 ^ (d + b) := by
    have e1 : n * 2 ^ a / 2 ^ (d + b) = 2 * (n * 2 ^ a / 2 ^ (d + b + 1)) + n * 2 ^ a / 2 ^ (d + b) % 2 := by omega
    have e2 : 2 ^ (d + b) * (n * 2 ^ a / 2 ^ (d + b)) = 2 * (2 ^ (d + b) * (n * 2 ^ a / 2 ^ (d + b + 1))) + n * 2 ^ a / 2 ^ (d + b) % 2 * 2 ^ (d + b) := by
      conv => lhs; rw [e1]
      rw [Int.mul_add, ← Int.mul_assoc, Int.mul_comm _ 2, Int.mul_assoc, Int.mul_comm (2 ^ (d + b)) (n * 2 ^ a / 2 ^ (d + b) % 2)]
    omega
  have hund : (n * 2 ^ a < 2 ^ (tl + (b + 1))) ↔ bl n + p ≤ 1 - (2 ^ (sc - 1) - 1) := by
    constructor
    · intro h
      have : (2 : Int) ^ (k + a) < 2 ^ (tl + (b + 1)) := by omega
      have : k + a < tl + (b + 1) := by
        rcases Nat.lt_or_ge (k + a) (tl + (b + 1)) with c | c
        · exact c
        · have := pow_le' c
          omega
      omega
    · intro h
      have : (2 : Int) ^ (k + 1 + a) ≤ 2 ^ (tl + (b + 1)) := pow_le' (by omega)
      omega
  clear eN r0 r1 fN hh stepM moreD hNlt hNge hkd hm1 hm2 hQ hR hk hk1 hk2 pt2 bb hcase
  have wle : ∀ u v : Int, 0 ≤ u → u ≤ v → W tl u * 2 ^ (b + 1) ≤ W tl v * 2 ^ (b + 1) := fun u v h1 h2 => Int.mul_le_mul_of_nonneg_right (W_le h1 h2) (by omega)
  generalize 2 ^ (d + b) * (n * 2 ^ a / 2 ^ (d + b + 1)) = z at *
  generalize n * 2 ^ a / 2 ^ (d + b) % 2 = hb' at *
  generalize n * 2 ^ a % 2 ^ (d + b) = rem at *
  generalize (d : Int) * 2 ^ tl + n * 2 ^ a / 2 ^ (d + b + 1) = lo at *
  generalize (2 : Int) ^ (d + b) = q at *
  generalize (2 : Int) ^ (b + 1) = bq at *
  generalize n * 2 ^ a = N at *
  generalize (2 : Int) ^ a = Mo at *
  have hgt : ∀ u, lo < u → cmpM N Mo (W tl u * bq) more = -1 := fun u hu => by
    have h1 := wle (lo + 1) u (by omega) (by omega)
    rw [v1] at h1
    have h2 : N < 2 * z + 2 * q := by rcases hb2 with c | c <;> rw [c] at hNN <;> omega
    exact cmp_lt (by omega) fun c => by
      have := X2 c h2
      omega
  refine ⟨lo0, fun u u0 u1 => cmp_ge ?_, hgt, ?_, ?_, ?_, by rw [eq]; exact ho, ?_⟩
  · have h1 := wle u lo u0 u1
    rw [v0] at h1
    rcases hb2 with c | c <;> rw [c] at hNN <;> omega
  · rw [v0, er]
    unfold cmpM
    rcases hb2 with c | c <;> rw [c] at hNN ⊢
    · by_cases c2 : rem = 0
      · rw [if_pos (by omega), c2]
        cases more <;> decide
      · rw [if_neg (by omega), if_pos (by omega), decide_eq_false c2]
        constructor
        · intro h; omega
        · intro h
          revert h
          cases more <;> decide
    · rw [if_neg (by omega), if_pos (by omega)]
      constructor
      · intro h; omega
      · intro h
        split at h <;> omega
  · rw [v0, v1, er]
    rcases hb2 with c | c <;> rw [c] at hNN ⊢
    · have h1 : cmpM (N * 2) (Mo * 2) (2 * z + (2 * z + 2 * q)) more = -1 := cmp_lt (by omega) fun c => by
        have := X1 c (by omega)
        omega
      rw [h1]
      split <;> rfl
    · unfold cmpM
      by_cases c2 : rem = 0
      · rw [if_pos (by omega), c2]
        cases more <;> decide
      · rw [if_neg (by omega), if_pos (by omega), decide_eq_false c2]
        rfl
  · rw [er]
    rcases hb2 with c | c <;> rw [c]
    · split <;> omega
    · split <;> omega
  · rw [vt, ← hund]
    constructor
    · intro h
      rcases Int.lt_or_le N (2 ^ (tl + (b + 1))) with c | c
      · exact c
      · have := cmp_ge (N := N) (Mo := Mo) (more := more) c
        omega
    · intro h
      have h1 : lo < 2 ^ tl := by
        rcases Int.lt_or_le lo (2 ^ tl) with c | c
        · exact c
        · have := wle (2 ^ tl) lo (by omega) c
          rw [vt, v0] at this
          rcases hb2 with c | c <;> rw [c] at hNN <;> omega
      have := hgt _ h1
      rw [vt] at this
      rw [this]
      decide
end GR
namespace GR
open PySem GM
/-! ### what is cut off, and kept as a bit more -/
theorem bl_div {n : Int} {j : Nat} (h : 0 < n / 2 ^ j) : bl (n / 2 ^ j) + j = bl n := by
  have pj := pow_pos' j
  have hm0 := Int.emod_nonneg n (show (2 : Int) ^ j ≠ 0 by omega)
  have hm1 := Int.emod_lt_of_pos n pj
  have dm := Int.emod_add_mul_ediv n (2 ^ j)
  have hpos : 0 < n := by
    have := Int.mul_pos pj h
    omega
  obtain ⟨k, hk, hk1, hk2⟩ := bl_in hpos
  obtain ⟨m, hm, g1, g2⟩ := bl_in h
  have l1 : (2 : Int) ^ (m + j) ≤ n := by
    rw [pow_add' m j]
    have := Int.mul_le_mul_of_nonneg_right g1 (Int.le_of_lt pj)
    rw [Int.mul_comm (n / 2 ^ j)] at this
    omega
  have l2 : n < (2 : Int) ^ (m + 1 + j) := by
    rw [pow_add' (m + 1) j]
    have := Int.mul_le_mul_of_nonneg_right (show n / 2 ^ j + 1 ≤ 2 ^ (m + 1) by omega) (Int.le_of_lt pj)
    rw [Int.add_mul, Int.one_mul, Int.mul_comm (n / 2 ^ j)] at this
    omega
  have e : k = m + j := by
    rcases Nat.lt_trichotomy k (m + j) with c | c | c
    · have := pow_le' (show k + 1 ≤ m + j by omega)
      omega
    · exact c
    · have := pow_le' (show m + 1 + j ≤ k by omega)
      omega
  omega
theorem mod_two {n : Int} {j c : Nat} : n % 2 ^ (c + j) = 0 ↔ (n % 2 ^ j = 0 ∧ n / 2 ^ j % 2 ^ c = 0) := by
  have pj := pow_pos' j
  have pc := pow_pos' c
  have r0 := Int.emod_nonneg n (show (2 : Int) ^ j ≠ 0 by omega)
  have r1 := Int.emod_lt_of_pos n pj
  have R0 := Int.emod_nonneg (n / 2 ^ j) (show (2 : Int) ^ c ≠ 0 by omega)
  have R1 := Int.emod_lt_of_pos (n / 2 ^ j) pc
  have d1 := Int.emod_add_mul_ediv n (2 ^ j)
  have d2 := Int.emod_add_mul_ediv (n / 2 ^ j) (2 ^ c)
  have pcj : (2 : Int) ^ (c + j) = 2 ^ c * 2 ^ j := pow_add' c j
  generalize n % 2 ^ j = r at *
  generalize n / 2 ^ j % 2 ^ c = R at *
  generalize n / 2 ^ j / 2 ^ c = Q at *
  generalize n / 2 ^ j = q at *
  have hlt : 2 ^ j * R + r < 2 ^ (c + j) := by
    have := Int.mul_le_mul_of_nonneg_right (show R + 1 ≤ 2 ^ c by omega) (Int.le_of_lt pj)
    rw [Int.add_mul, Int.one_mul, ← pcj, Int.mul_comm R] at this
    omega
  have hnn : 0 ≤ 2 ^ j * R := Int.mul_nonneg (Int.le_of_lt pj) R0
  have en : n = (2 ^ j * R + r) + Q * 2 ^ (c + j) := by
    rw [← d1, ← d2, pcj, Int.mul_add, ← Int.mul_assoc, Int.mul_comm (2 ^ j) (2 ^ c), Int.mul_comm (2 ^ c * 2 ^ j) Q]
    omega
  rw [en, Int.add_mul_emod_self_right, Int.emod_eq_of_lt (by omega) hlt]
  constructor
  · intro h
    have hz : 2 ^ j * R = 0 := by omega
    exact ⟨by omega, (Int.mul_eq_zero.mp hz).resolve_left (by omega)⟩
  · intro h
    rw [h.2, h.1]
    omega
theorem rnd_cut {sc tl : Nat} {s n p : Int} {w : Str} {more : Bool} (j : Nat) (h0 : 0 < n / 2 ^ j) (hp : p + j < lap sc tl (n / 2 ^ j) (p + j)) :
    rnd sc tl s n p w more = rnd sc tl s (n / 2 ^ j) (p + j) w (!decide (n % 2 ^ j = 0) || more) := by
  have pj := pow_pos' j
  have hb := bl_div h0
  have hb' : bl (n / 2 ^ j) + (p + j) = bl n + p := by omega
  have hl : lap sc tl (n / 2 ^ j) (p + j) = lap sc tl n p := by
    unfold lap
    rw [hb']
  rw [hl] at hp
  have hn : n ≠ 0 := fun z => by
    rw [z, Int.zero_ediv] at h0
    omega
  obtain ⟨c, hc⟩ : ∃ c : Nat, lap sc tl n p - (p + j) - 1 = (c : Int) := ⟨(lap sc tl n p - (p + j) - 1).toNat, by omega⟩
  obtain ⟨q1, r1⟩ := cut_scale (n := n / 2 ^ j) (a := 0) (D := c) (b := lap sc tl n p - (p + j) - 1) (by omega)
  obtain ⟨q2, r2⟩ := cut_scale (n := n) (a := 0) (D := c + j) (b := lap sc tl n p - p - 1) (by omega)
  rw [show (2 : Int) ^ 0 = 1 from rfl, Int.mul_one] at q1 r1 q2 r2
  have eQ : cutQ n (lap sc tl n p - p - 1) = cutQ (n / 2 ^ j) (lap sc tl n p - (p + j) - 1) := by
    rw [q1, q2, pow_add' c j, Int.mul_comm, Int.ediv_ediv_of_nonneg (Int.le_of_lt pj)]
  have eR : (cutR n (lap sc tl n p - p - 1) || more) = (cutR (n / 2 ^ j) (lap sc tl n p - (p + j) - 1) || (!decide (n % 2 ^ j = 0) || more)) := by
    rw [r1, r2, ← Bool.or_assoc]
    congr 1
    rw [Bool.eq_iff_iff, Bool.or_eq_true, Bool.not_eq_true', Bool.not_eq_true', Bool.not_eq_true', decide_eq_false_iff_not, decide_eq_false_iff_not, decide_eq_false_iff_not, mod_two]
    constructor
    · intro h
      by_cases z : n % 2 ^ j = 0
      · exact .inl (fun y => h ⟨z, y⟩)
      · exact .inr z
    · intro h y
      exact h.elim (fun z => z y.2) (fun z => z y.1)
  have ePQ : prQ n (lap sc tl n p - p) = prQ (n / 2 ^ j) (lap sc tl n p - (p + j)) := by
    unfold prQ
    rw [eQ]
  have ePR : prR n (lap sc tl n p - p) more = prR (n / 2 ^ j) (lap sc tl n p - (p + j)) (!decide (n % 2 ^ j = 0) || more) := by
    unfold prR
    rw [eQ, eR]
  unfold rnd siz mny flg
  rw [if_neg hn, if_neg (show ¬ n / 2 ^ j = 0 by omega), hl, hb', ePQ, ePR]
end GR
namespace GR
open PySem GM
/-! ### the same worth told by a lesser power; a word's own worth -/
theorem bl_mul {n : Int} {k : Nat} (h : 0 < n) : bl (n * 2 ^ k) = bl n + k := by
  have pk := pow_pos' k
  have e : n * 2 ^ k / 2 ^ k = n := Int.mul_ediv_cancel _ (by omega)
  have := bl_div (n := n * 2 ^ k) (j := k) (by rw [e]; exact h)
  rw [e] at this
  omega
theorem rnd_scale {sc tl : Nat} {s n p : Int} {w : Str} {m : Bool} (k : Nat) (hn : 0 < n) : rnd sc tl s (n * 2 ^ k) (p - k) w m = rnd sc tl s n p w m := by
  have pk := pow_pos' k
  have hb : bl (n * 2 ^ k) + (p - k) = bl n + p := by
    rw [bl_mul hn]
    omega
  have hl : lap sc tl (n * 2 ^ k) (p - k) = lap sc tl n p := by
    unfold lap
    rw [hb]
  have hz : 0 < n * 2 ^ k := Int.mul_pos hn pk
  obtain ⟨D, hD⟩ : ∃ D : Nat, (D : Int) = (k : Int) + ((p - lap sc tl n p + 1).toNat : Nat) + (lap sc tl n p - p - 1) := ⟨((k : Int) + ((p - lap sc tl n p + 1).toNat : Nat) + (lap sc tl n p - p - 1)).toNat, by omega⟩
  obtain ⟨q1, r1⟩ := cut_scale (n := n) (a := k + (p - lap sc tl n p + 1).toNat) (D := D) (b := lap sc tl n p - p - 1) (by omega)
  obtain ⟨q2, r2⟩ := cut_scale (n := n * 2 ^ k) (a := (p - lap sc tl n p + 1).toNat) (D := D) (b := lap sc tl n p - (p - k) - 1) (by omega)
  have e : n * 2 ^ k * 2 ^ (p - lap sc tl n p + 1).toNat = n * 2 ^ (k + (p - lap sc tl n p + 1).toNat) := by rw [pow_add', Int.mul_assoc]
  rw [e] at q2 r2
  have eQ : cutQ (n * 2 ^ k) (lap sc tl n p - (p - k) - 1) = cutQ n (lap sc tl n p - p - 1) := by rw [q1, q2]
  have eR : cutR (n * 2 ^ k) (lap sc tl n p - (p - k) - 1) = cutR n (lap sc tl n p - p - 1) := by rw [r1, r2]
  have ePQ : prQ (n * 2 ^ k) (lap sc tl n p - (p - k)) = prQ n (lap sc tl n p - p) := by
    unfold prQ
    rw [eQ]
  have ePR : prR (n * 2 ^ k) (lap sc tl n p - (p - k)) m = prR n (lap sc tl n p - p) m := by
    unfold prR
    rw [eQ, eR]
  unfold rnd siz mny flg
  rw [if_neg (show ¬ n * 2 ^ k = 0 by omega), if_neg (show ¬ n = 0 by omega), hl, hb, ePQ, ePR]
theorem rnd_word {sc tl : Nat} {s u : Int} {w : Str} (htl : 1 ≤ tl) (h0 : 0 < u) (h1 : u < (2 ^ sc - 1) * 2 ^ tl) : rnd sc tl s (num tl u) (lea sc tl + (ex tl u : Nat)) w false = (s * 2 ^ (sc + tl) + u, []) := by
  have pt := pow_pos' tl
  have hn : 0 < num tl u := by
    have n := Int.emod_nonneg u (show (2 : Int) ^ tl ≠ 0 by omega)
    have d := Int.emod_add_mul_ediv u (2 ^ tl)
    unfold num
    by_cases c : u / 2 ^ tl = 0
    · rw [if_pos c]
      rw [c, Int.mul_zero, Int.add_zero] at d
      omega
    · rw [if_neg c]
      omega
  have F := floor_facts (sc := sc) (tl := tl) (n := num tl u) (p := lea sc tl + (ex tl u : Nat)) (more := false) htl hn (fun z => nomatch z) (a := ex tl u + 1) (b := 0) (B := lea sc tl - 1) (by omega) (by omega)
  have eN : num tl u * 2 ^ (ex tl u + 1) = W tl u * 2 ^ (0 + 1) := by
    unfold W
    rw [pow_s, ← Int.mul_assoc]
    rfl
  have c0 : cmpM (num tl u * 2 ^ (ex tl u + 1)) (2 ^ (ex tl u + 1)) (W tl u * 2 ^ (0 + 1)) false = 0 := by
    unfold cmpM
    rw [if_pos eN]
    rfl
  have key : (lap sc tl (num tl u) (lea sc tl + (ex tl u : Nat)) - lea sc tl) * 2 ^ tl + prQ (num tl u) (lap sc tl (num tl u) (lea sc tl + (ex tl u : Nat)) - (lea sc tl + (ex tl u : Nat))) = u := by
    have L0 := F.lo0
    rcases Int.lt_trichotomy ((lap sc tl (num tl u) (lea sc tl + (ex tl u : Nat)) - lea sc tl) * 2 ^ tl + prQ (num tl u) (lap sc tl (num tl u) (lea sc tl + (ex tl u : Nat)) - (lea sc tl + (ex tl u : Nat)))) u with c | c | c
    · have := F.gt u c
      rw [c0] at this
      cases this
    · exact c
    · have g := F.le _ L0 (Int.le_refl _)
      have hm := W_mono (t := tl) (Int.le_of_lt h0) c
      have := cmp_lt (N := num tl u * 2 ^ (ex tl u + 1)) (Mo := 2 ^ (ex tl u + 1)) (V := W tl ((lap sc tl (num tl u) (lea sc tl + (ex tl u : Nat)) - lea sc tl) * 2 ^ tl + prQ (num tl u) (lap sc tl (num tl u) (lea sc tl + (ex tl u : Nat)) - (lea sc tl + (ex tl u : Nat)))) * 2 ^ (0 + 1)) (more := false) (by rw [eN]; exact Int.mul_lt_mul_of_pos_right hm (pow_pos' _)) (fun z => nomatch z)
      rw [this] at g
      omega
  have rest := F.just.mp (by rw [key]; exact c0)
  have hg : ∀ x, gup w s x 0 = false := fun x => by
    unfold gup
    split
    · rfl
    · rfl
  have hs : siz sc tl s (num tl u) (lea sc tl + (ex tl u : Nat)) w false = u := by
    unfold siz mny
    rw [rest, hg, if_neg Bool.false_ne_true]
    exact key
  have e1 : wrd sc tl 0 (2 ^ sc - 1 - 1) (2 ^ tl - 1) = (2 ^ sc - 1) * 2 ^ tl - 1 := by
    unfold wrd
    rw [Int.sub_mul (2 ^ sc - 1) 1, Int.one_mul]
    omega
  unfold rnd
  rw [if_neg (show ¬ num tl u = 0 by omega), hs, if_neg (by rw [e1]; omega), rest]
  unfold flg wrd
  rw [if_pos rfl, Int.zero_mul, Int.add_zero, Int.add_zero]
end GR
namespace GZ
open PySem PySem.Spec PyProof.Rows L2
/-! ### the module's own WAYS -/
def WL : List Str := ["near", "cut", "up", "down"]
structure WG (K : PySem.W.Frag) (mg : Str → Option Value) (fa : Addr) : Prop where
  mgW : mg "WAYS" = some (.ref fa)
  sq : ∀ H, SqT K H fa (WL.map V.str)
theorem val0 (t : Tok) : Vals [V.int 0] [Value.int 0 t] := .cons ⟨_, rfl⟩ .nil
/-! ### keyword-only parameters -/
theorem kbn_of {K : PySem.W.Frag} {x qual : Str} {st : Stmt} {D : Addr} {an : Option Addr} {doc pm cdv ct : Value} {ps ks : List Str} {n : Nat} {ml : List (Str × Value)} {g : List Value → List Value → List Value} {gV : List V → List V → List V} (hml : ∀ q ∈ ml, PySem.W.nsIn K D q.1 = some (some q.2))
    (h : ∀ us ws : List Value, us.length = n → ws.length = ks.length → KwChain D ml (bindArgs (PySem.W.fnOf x qual (defArgs st) (defBody st) (defScope st) .none (.ref D) doc pm an cdv ct) ⟨us, ks.zip ws⟩) (ps.zip (g us ws)))
    (rel : ∀ {vs : List V} {us : List Value} {zs : List V} {ws : List Value}, vs.length = n → zs.length = ks.length → Vals vs us → Vals zs ws → Vals (gV vs zs) (g us ws)) :
    ∀ (s : Shared) (us ws : List Value), K.In s.heap → us.length = n → ws.length = ks.length → BindsTo s (PySem.W.fnOf x qual (defArgs st) (defBody st) (defScope st) .none (.ref D) doc pm an cdv ct) ⟨us, ks.zip ws⟩ (ps.zip (g us ws)) :=
  fun s us ws X l1 l2 => BindsTo.of_looks fun M => KwChain.looks X hml (h us ws l1 l2)
theorem bnd_of {K : PySem.W.Frag} {x qual : Str} {st : Stmt} {D : Addr} {an : Option Addr} {doc pm cdv ct : Value} {ps : List Str} {ml : List (Str × Value)} {ds : List Value} (hml : ∀ q ∈ ml, PySem.W.nsIn K D q.1 = some (some q.2))
    (h : ∀ us : List Value, us.length + ds.length = ps.length → KwChain D ml (bindArgs (PySem.W.fnOf x qual (defArgs st) (defBody st) (defScope st) .none (.ref D) doc pm an cdv ct) ⟨us, []⟩) (ps.zip (us ++ ds))) :
    Binds K (PySem.W.fnOf x qual (defArgs st) (defBody st) (defScope st) .none (.ref D) doc pm an cdv ct) ps ds := fun s us X hl => by
  rw [List.length_append] at hl
  exact BindsTo.of_looks fun M => KwChain.looks X hml (h us hl)
/-! ### a def whose defaults aren't asked for -/
structure FunA (K : PySem.W.Frag) (x qual : Str) (st : Stmt) (f : Addr) (fd : FuncData) : Prop where
  ex : ∃ (oc : Value) (od : Option Addr) (dV kV doc pm : Value) (an : Option Addr) (cdv ct : Value) (osl : Array (Option Value)),
    fd = PySem.W.fnOf x qual (defArgs st) (defBody st) (defScope st) dV kV doc pm an cdv ct ∧ K.lookup f = some ⟨oc, od, .func fd, osl⟩ ∧ PySem.W.codeIn K cdv qual = true
  kp : PySem.W.keepIn K (.ref f) = true
theorem FunA.ok {P : Program} {w : World} {K : PySem.W.Frag} {mg : Str → Option Value} {base : Heap} {x qual : Str} {st : Stmt} {f : Addr} {fd : FuncData} {N ps : List Str} {k : Nat} {sp : Sp} (F : FunA K x qual st f fd) (S : FnScope N ps (defScope st)) (len : ∀ vs H Q E, sp vs H Q E → vs.length = ps.length)
    (hbody : ∀ (cdv : Value) (A : Around) (outer : List Env) (s : Shared) (H : Hp) (vs : List V) (Q : VK) (E : XK), Room k (A.deeper (envOfC qual (defScope st) s.heap.objs.size f cdv)) → sp vs H Q E →
      ∃ t, PSs (cxOf CX0 P w K mg base N qual (defScope st) f cdv A outer s H E).nox (defBody st) t ∧ t { nx := fun _ H' => Q .non H', rt := Q } (start N vs) H) : FnOk P w K mg base CX0 (k + 1) f fd ps sp := by
  obtain ⟨oc, od, dV, kV, doc, pm, an, cdv, ct, osl, rfl, lk, hcd⟩ := F.ex
  refine fn_of lk hcd S len fun A outer s H vs Q E hr hsp => ?_
  obtain ⟨t, h, q⟩ := hbody cdv A outer s H vs Q E hr hsp
  exact ⟨t, h.nox, q⟩
theorem bindsA {K : PySem.W.Frag} {x qual : Str} {st : Stmt} {f T : Addr} {oc oT vT : Value} {od an dT : Option Addr} {osl sT : Array (Option Value)} {kV doc pm cdv ct : Value} {nT : Nat} {ps : List Str} (l : K.lookup f = some ⟨oc, od, .func (PySem.W.fnOf x qual (defArgs st) (defBody st) (defScope st) (.ref T) kV doc pm an cdv ct), osl⟩)
    (lT : K.lookup T = some ⟨oT, dT, .seq #[vT] nT, sT⟩)
    (h : ∀ (kV doc pm : Value) (an : Option Addr) (cdv ct : Value) (us : List Value), us.length = ps.length → ∃ k, bindArgs (PySem.W.fnOf x qual (defArgs st) (defBody st) (defScope st) (.ref T) kV doc pm an cdv ct) ⟨us, []⟩ = seqItems? (.ref T) >>= k ∧ k (some #[vT]) = pure (ps.zip us)) : Binds K (PySem.W.fnOf x qual (defArgs st) (defBody st) (defScope st) (.ref T) kV doc pm an cdv ct) ps [] := by
  intro s us X hl
  rw [List.append_nil] at hl ⊢
  obtain ⟨k, e1, e2⟩ := h kV doc pm an cdv ct us hl
  refine BindsTo.of_looks fun M => ?_
  rw [e1]
  exact looks_items X lT rfl (.of_pure e2)
theorem bindsAD {K : PySem.W.Frag} {x qual : Str} {st : Stmt} {f T : Addr} {oc oT vT : Value} {od an dT : Option Addr} {osl sT : Array (Option Value)} {kV doc pm cdv ct : Value} {nT : Nat} {ps : List Str} (l : K.lookup f = some ⟨oc, od, .func (PySem.W.fnOf x qual (defArgs st) (defBody st) (defScope st) (.ref T) kV doc pm an cdv ct), osl⟩)
    (lT : K.lookup T = some ⟨oT, dT, .seq #[vT] nT, sT⟩)
    (h : ∀ (kV doc pm : Value) (an : Option Addr) (cdv ct : Value) (us : List Value), us.length + 1 = ps.length → ∃ k, bindArgs (PySem.W.fnOf x qual (defArgs st) (defBody st) (defScope st) (.ref T) kV doc pm an cdv ct) ⟨us, []⟩ = seqItems? (.ref T) >>= k ∧ k (some #[vT]) = pure (ps.zip (us ++ [vT]))) : Binds K (PySem.W.fnOf x qual (defArgs st) (defBody st) (defScope st) (.ref T) kV doc pm an cdv ct) ps [vT] := by
  intro s us X hl
  rw [List.length_append] at hl
  obtain ⟨k, e1, e2⟩ := h kV doc pm an cdv ct us hl
  refine BindsTo.of_looks fun M => ?_
  rw [e1]
  exact looks_items X lT rfl (.of_pure e2)
theorem kbindsA {x1 : Str} {K : PySem.W.Frag} {x qual : Str} {st : Stmt} {f T : Addr} {oc oT vT : Value} {od an dT : Option Addr} {osl sT : Array (Option Value)} {kV doc pm cdv ct : Value} {nT : Nat} {ps : List Str} (l : K.lookup f = some ⟨oc, od, .func (PySem.W.fnOf x qual (defArgs st) (defBody st) (defScope st) (.ref T) kV doc pm an cdv ct), osl⟩)
    (lT : K.lookup T = some ⟨oT, dT, .seq #[vT] nT, sT⟩)
    (h : ∀ (kV doc pm : Value) (an : Option Addr) (cdv ct u w : Value), ∃ k, bindArgs (PySem.W.fnOf x qual (defArgs st) (defBody st) (defScope st) (.ref T) kV doc pm an cdv ct) ⟨[u], [(x1, w)]⟩ = seqItems? (.ref T) >>= k ∧ k (some #[vT]) = pure (ps.zip [u, w])) : KBn K (PySem.W.fnOf x qual (defArgs st) (defBody st) (defScope st) (.ref T) kV doc pm an cdv ct) ps 1 [x1] (fun us ws => us ++ ws) (fun us ws => us ++ ws) := by
  refine ⟨fun s us ws X l1 l2 => ?_, fun r1 r2 => r1.append r2⟩
  match us, ws, l1, l2 with
  | [u], [w], _, _ =>
    obtain ⟨k, e1, e2⟩ := h kV doc pm an cdv ct u w
    refine BindsTo.of_looks fun M => ?_
    show PySem.W.Looks M s.heap (bindArgs (PySem.W.fnOf x qual (defArgs st) (defBody st) (defScope st) (.ref T) kV doc pm an cdv ct) ⟨[u], [(x1, w)]⟩) (ps.zip [u, w])
    rw [e1]
    exact looks_items X lT rfl (.of_pure e2)
theorem funA_mk {K : PySem.W.Frag} {x qual : Str} {st : Stmt} {f : Addr} {oc : Value} {od an : Option Addr} {osl : Array (Option Value)} {dV kV doc pm cdv ct : Value} (l : K.lookup f = some ⟨oc, od, .func (PySem.W.fnOf x qual (defArgs st) (defBody st) (defScope st) dV kV doc pm an cdv ct), osl⟩)
    (c : PySem.W.codeIn K cdv qual = true) (k : PySem.W.keepIn K (.ref f) = true) : FunA K x qual st f (PySem.W.fnOf x qual (defArgs st) (defBody st) (defScope st) dV kV doc pm an cdv ct) := ⟨⟨oc, od, dV, kV, doc, pm, an, cdv, ct, osl, rfl, l, c⟩, k⟩
section
variable {P : Program} {w : World} {K : PySem.W.Frag} {mg : Str → Option Value} {base : Heap}
theorem cutG {Cd A : Int → Int → Hp → Prop} {B : Prop} (h1 : ∀ n p H, Cd n p H → A n p H) (h2 : (∀ n p H, Cd n p H → A n p H) → B) : B := h2 h1
theorem cutA {Cd A : Addr → Hp → Prop} {B : Prop} (h1 : ∀ a H, Cd a H → A a H) (h2 : (∀ a H, Cd a H → A a H) → B) : B := h2 h1
theorem cutH {H : Hp} {A : Hp → Prop} {B : Prop} (h1 : ∀ H', Same H H' → A H') (h2 : (∀ H', Same H H' → A H') → B) : B := h2 h1
theorem cutP {A B : Prop} (h1 : A) (h2 : A → B) : B := h2 h1
theorem gB {i : Nat} {v u : Bool} {σ : L2.St} {H : Hp} {D : L2.St → Hp → Prop} (e : v = u) (h : gName i (V.bl u) σ H D) : gName i (V.bl v) σ H D := e ▸ h
theorem gI {i : Nat} {v u : Int} {σ : L2.St} {H : Hp} {D : L2.St → Hp → Prop} (e : v = u) (h : gName i (V.int u) σ H D) : gName i (V.int v) σ H D := e ▸ h
theorem dvi (a b : Int) : decide (V.int a = V.int b) = decide (a = b) := by
  by_cases c : a = b
  · rw [decide_eq_true c, decide_eq_true (congrArg V.int c)]
  · rw [decide_eq_false c, decide_eq_false (fun z => c (V.int.inj z))]
theorem dvs (a b : Str) : decide (V.str a = V.str b) = decide (a = b) := by
  by_cases c : a = b
  · rw [decide_eq_true c, decide_eq_true (congrArg V.str c)]
  · rw [decide_eq_false c, decide_eq_false (fun z => c (V.str.inj z))]
theorem bx1 {c : Int} {H : Hp} {b : Addr} (h : BoxAt (c + 2 ^ (1 - 1)) H b) : BoxAt (c + 1) H b := h
theorem Keep.none {b p : Addr} {H H' : Hp} (k : Keep b H H') (n : p ≠ b) (h : H' p = none) : H p = none := by
  cases q : H p with
  | none => rfl
  | some o =>
    rw [k p o q n] at h
    cases h
theorem dp_ints {H : Hp} : ∀ ds : List Int, DpAll K H (ds.map V.int) (ds.map PyData.int)
  | [] => .nil
  | d :: ds => .cons (.int d) (dp_ints ds)
theorem lv_ints {n : Nat} (ds : List Int) (h : ds.length ≤ 1000) : Lv (n + 1) (.list (ds.map PyData.int)) := by
  refine ⟨by rw [List.length_map]; omega, fun d hd => ?_⟩
  obtain ⟨x, _, rfl⟩ := List.mem_map.mp hd
  cases n <;> trivial
theorem eqv_ints (ds : List Int) : PyData.eqv (.list (ds.map PyData.int)) (.list (ds.map PyData.int)) = true := PySem.SeqAt.eqv_refl _ (PySem.SeqAt.canLay_of_shaped (PySem.W.shaped_ints ds))
/-! ### a form -/
/-- at x stands a Form of these two -/
def FAt (C : Addr) (H : Hp) (x : Addr) (sc tl : Nat) : Prop := ∃ dx, H x = some (.ins C dx [("scale", .int (sc : Int)), ("tail", .int (tl : Int))]) ∧ 2 ≤ sc ∧ sc ≤ 8 ∧ 1 ≤ tl ∧ tl ≤ 24
theorem FAt.keep {C : Addr} {b : Addr} {H H' : Hp} {x : Addr} {sc tl : Nat} (h : FAt C H x sc tl) (k : Keep b H H') (n : x ≠ b) : FAt C H' x sc tl := by
  obtain ⟨dx, e, r⟩ := h
  exact ⟨dx, k _ _ e n, r⟩
theorem FAt.same {C : Addr} {H H' : Hp} {x : Addr} {sc tl : Nat} (h : FAt C H x sc tl) (s : Same H H') : FAt C H' x sc tl := by
  obtain ⟨dx, e, r⟩ := h
  exact ⟨dx, s _ _ e, r⟩
structure FT (K : PySem.W.Frag) (mg : Str → Option Value) (C : Addr) : Prop where
  cl : Cls K C
  ns : NoAttr K C "scale"
  nt : NoAttr K C "tail"
  mgC : mg "Form" = some (.ref C)
theorem fl_s (a b : V) : List.lookup ("scale" : Str) ([("scale", a), ("tail", b)] : List (Str × V)) = some a := rfl
theorem fl_t (a b : V) : List.lookup ("tail" : Str) ([("scale", a), ("tail", b)] : List (Str × V)) = some b := rfl
/-- Form(scale, tail) makes one -/
theorem made {C : Addr} {H : Hp} {x dx : Addr} (nx : H x = none) (nd : H dx = none) (ne : dx ≠ x) {H' : Hp} (k : ∀ p o, (upd (upd H dx (.own x)) x (.ins C dx [])) p = some o → p ≠ x → H' p = some o) : Same H H' := fun p o e =>
  k p o (by rw [upd_ne (ne_of_none e nx), upd_ne (ne_of_none e nd)]; exact e) (ne_of_none e nx)
structure LL (K : PySem.W.Frag) (mg : Str → Option Value) (C : Addr) (a1 a2 a3 a4 a5 a6 a7 a8 a9 a10 a11 a12 a13 a14 a15 a16 a17 a18 a19 a20 a21 a22 a23 a24 a25 a26 a27 a28 a29 a30 a31 a32 a33 a34 a35 a36 a37 a38 a39 a40 a41 a42 a43 a44 a45 a46 a47 a48 a49 a50 a51 a52 : Addr) (l1 l2 l3 l4 l5 l6 l7 l8 l9 l10 l11 l12 l13 l14 l15 l16 l17 l18 l19 l20 l21 l22 l23 l24 l25 l26 l27 l28 l29 l30 l31 l32 l33 l34 l35 l36 l37 l38 l39 l40 l41 l42 l43 l44 l45 l46 l47 l48 l49 l50 l51 l52 : FuncData) (t47 t48 t49 tg_NEAR tg_CUT tg_UP tg_DOWN : Tok) (fW : Addr) : Prop where
  F_cut_off : Fun K "cut_off" "cut_off" s_cut_off a1 l1
  m_cut_off : mg "cut_off" = some (.ref a1)
  b_cut_off : Binds K l1 ["number", "by"] []
  F_last_power : Fun K "last_power" "last_power" s_last_power a2 l2
  m_last_power : mg "last_power" = some (.ref a2)
  b_last_power : Binds K l2 ["form", "number", "power"] []
  F_least_power : Fun K "least_power" "least_power" s_least_power a3 l3
  m_least_power : mg "least_power" = some (.ref a3)
  b_least_power : Binds K l3 ["form"] []
  F_rounded : Fun K "rounded" "rounded" s_rounded a4 l4
  m_rounded : mg "rounded" = some (.ref a4)
  kb_rounded_way : ∃ g, KBn K l4 ["form", "sign", "number", "power", "way", "more"] 4 ["way"] g (fun vs zs => vs ++ (zs ++ [.bl false]))
  kb_rounded_way_more : ∃ g, KBn K l4 ["form", "sign", "number", "power", "way", "more"] 4 ["way", "more"] g (fun vs zs => vs ++ zs)
  F_parted : Fun K "parted" "parted" s_parted a5 l5
  m_parted : mg "parted" = some (.ref a5)
  b_parted : Binds K l5 ["number", "by", "more"] []
  F_goes_up : Fun K "goes_up" "goes_up" s_goes_up a6 l6
  m_goes_up : mg "goes_up" = some (.ref a6)
  b_goes_up : Binds K l6 ["way", "sign", "many", "rest"] []
  F_goes_away : Fun K "goes_away" "goes_away" s_goes_away a7 l7
  m_goes_away : mg "goes_away" = some (.ref a7)
  b_goes_away : Binds K l7 ["way", "sign"] []
  F_word_beyond : Fun K "word_beyond" "word_beyond" s_word_beyond a8 l8
  m_word_beyond : mg "word_beyond" = some (.ref a8)
  b_word_beyond : Binds K l8 ["form", "sign", "way"] []
  F_flags_of_rest : Fun K "flags_of_rest" "flags_of_rest" s_flags_of_rest a9 l9
  m_flags_of_rest : mg "flags_of_rest" = some (.ref a9)
  b_flags_of_rest : Binds K l9 ["form", "number", "power", "rest"] []
  F_added : Fun K "added" "added" s_added a10 l10
  m_added : mg "added" = some (.ref a10)
  kb_added_way : ∃ g, KBn K l10 ["form", "a", "b", "way"] 3 ["way"] g (fun vs zs => vs ++ zs)
  F_taken : Fun K "taken" "taken" s_taken a11 l11
  m_taken : mg "taken" = some (.ref a11)
  kb_taken_way : ∃ g, KBn K l11 ["form", "a", "b", "way"] 3 ["way"] g (fun vs zs => vs ++ zs)
  F_multiplied : Fun K "multiplied" "multiplied" s_multiplied a12 l12
  m_multiplied : mg "multiplied" = some (.ref a12)
  kb_multiplied_way : ∃ g, KBn K l12 ["form", "a", "b", "way"] 3 ["way"] g (fun vs zs => vs ++ zs)
  F_divided : Fun K "divided" "divided" s_divided a13 l13
  m_divided : mg "divided" = some (.ref a13)
  kb_divided_way : ∃ g, KBn K l13 ["form", "a", "b", "way"] 3 ["way"] g (fun vs zs => vs ++ zs)
  F_joined : Fun K "joined" "joined" s_joined a14 l14
  m_joined : mg "joined" = some (.ref a14)
  kb_joined_way : ∃ g, KBn K l14 ["form", "a", "b", "c", "way"] 4 ["way"] g (fun vs zs => vs ++ zs)
  F_has_none : Fun K "has_none" "has_none" s_has_none a15 l15
  m_has_none : mg "has_none" = some (.ref a15)
  b_has_none : Binds K l15 ["form", "words"] []
  F_bad : Fun K "bad" "bad" s_bad a16 l16
  m_bad : mg "bad" = some (.ref a16)
  b_bad : Binds K l16 ["form"] []
  F_is_endless_by_nought : Fun K "is_endless_by_nought" "is_endless_by_nought" s_is_endless_by_nought a17 l17
  m_is_endless_by_nought : mg "is_endless_by_nought" = some (.ref a17)
  b_is_endless_by_nought : Binds K l17 ["form", "a", "b"] []
  F_sign_of : Fun K "sign_of" "sign_of" s_sign_of a18 l18
  m_sign_of : mg "sign_of" = some (.ref a18)
  b_sign_of : Binds K l18 ["form", "word"] []
  F_unlike_sign : Fun K "unlike_sign" "unlike_sign" s_unlike_sign a19 l19
  m_unlike_sign : mg "unlike_sign" = some (.ref a19)
  b_unlike_sign : Binds K l19 ["form", "a", "b"] []
  F_term_of : Fun K "term_of" "term_of" s_term_of a20 l20
  m_term_of : mg "term_of" = some (.ref a20)
  b_term_of : Binds K l20 ["form", "word"] []
  F_product_of : Fun K "product_of" "product_of" s_product_of a21 l21
  m_product_of : mg "product_of" = some (.ref a21)
  b_product_of : Binds K l21 ["form", "a", "b"] []
  F_terms_added : Fun K "terms_added" "terms_added" s_terms_added a22 l22
  m_terms_added : mg "terms_added" = some (.ref a22)
  b_terms_added : Binds K l22 ["form", "one", "other", "way"] []
  F_nought_sign : Fun K "nought_sign" "nought_sign" s_nought_sign a23 l23
  m_nought_sign : mg "nought_sign" = some (.ref a23)
  b_nought_sign : Binds K l23 ["sign", "other_sign", "way"] []
  F_worths_added : Fun K "worths_added" "worths_added" s_worths_added a24 l24
  m_worths_added : mg "worths_added" = some (.ref a24)
  b_worths_added : Binds K l24 ["one", "other"] []
  F_quotient_rounded : Fun K "quotient_rounded" "quotient_rounded" s_quotient_rounded a25 l25
  m_quotient_rounded : mg "quotient_rounded" = some (.ref a25)
  b_quotient_rounded : Binds K l25 ["form", "sign", "one", "other", "way"] []
  F_is_number : Fun K "is_number" "is_number" s_is_number a26 l26
  m_is_number : mg "is_number" = some (.ref a26)
  b_is_number : Binds K l26 ["thing"] []
  F_is_number_in : Fun K "is_number_in" "is_number_in" s_is_number_in a27 l27
  m_is_number_in : mg "is_number_in" = some (.ref a27)
  b_is_number_in : Binds K l27 ["least", "greatest", "thing"] []
  F__law_box : Fun K "_law_box" "_law_box" sBox a28 l28
  m__law_box : mg "_law_box" = some (.ref a28)
  b__law_box : Binds K l28 ["_law_script", "_law_k"] []
  F__law_take : Fun K "_law_take" "_law_take" sTake a29 l29
  m__law_take : mg "_law_take" = some (.ref a29)
  b__law_take : Binds K l29 ["_law_box_here", "_law_size"] []
  F__law_folded : Fun K "_law_folded" "_law_folded" sFolded a30 l30
  m__law_folded : mg "_law_folded" = some (.ref a30)
  b__law_folded : Binds K l30 ["_law_script", "_law_size"] []
  F__law_same : Fun K "_law_same" "_law_same" sSame a31 l31
  m__law_same : mg "_law_same" = some (.ref a31)
  b__law_same : Binds K l31 ["_law_found", "_law_due"] []
  F__law_form : Fun K "_law_form" "_law_form" s__law_form a32 l32
  m__law_form : mg "_law_form" = some (.ref a32)
  b__law_form : Binds K l32 ["_law_box_here"] []
  F__law_none : Fun K "_law_none" "_law_none" s__law_none a33 l33
  m__law_none : mg "_law_none" = some (.ref a33)
  b__law_none : Binds K l33 ["_law_scale", "_law_tail"] []
  F__law_words : Fun K "_law_words" "_law_words" s__law_words a34 l34
  m__law_words : mg "_law_words" = some (.ref a34)
  b__law_words : Binds K l34 ["_law_box_here", "_law_scale", "_law_tail"] []
  F__law_sum_word : Fun K "_law_sum_word" "_law_sum_word" s__law_sum_word a35 l35
  m__law_sum_word : mg "_law_sum_word" = some (.ref a35)
  b__law_sum_word : Binds K l35 ["_law_sorts", "_law_signs"] []
  F__law_product_word : Fun K "_law_product_word" "_law_product_word" s__law_product_word a36 l36
  m__law_product_word : mg "_law_product_word" = some (.ref a36)
  b__law_product_word : Binds K l36 ["_law_sorts", "_law_sign"] []
  F__law_quotient_word : Fun K "_law_quotient_word" "_law_quotient_word" s__law_quotient_word a37 l37
  m__law_quotient_word : mg "_law_quotient_word" = some (.ref a37)
  b__law_quotient_word : Binds K l37 ["_law_sorts", "_law_sign"] []
  F__law_join_word : Fun K "_law_join_word" "_law_join_word" s__law_join_word a38 l38
  m__law_join_word : mg "_law_join_word" = some (.ref a38)
  b__law_join_word : Binds K l38 ["_law_sorts", "_law_signs"] []
  F__law_fits : Fun K "_law_fits" "_law_fits" s__law_fits a39 l39
  m__law_fits : mg "_law_fits" = some (.ref a39)
  b__law_fits : Binds K l39 ["_law_scale", "_law_tail", "_law_told", "_law_word"] []
  F__law_right : Fun K "_law_right" "_law_right" s__law_right a40 l40
  m__law_right : mg "_law_right" = some (.ref a40)
  b__law_right : Binds K l40 ["_law_box_here", "_law_scale", "_law_tail", "_law_how"] []
  T : FT K mg C
  M : Mk K C a41
  F_Form___init__ : Fun K "__init__" "Form.__init__" s_Form___init__ a41 l41
  b_Form___init__ : Binds K l41 ["self", "scale", "tail"] []
  F_Form_bias : Fun K "bias" "Form.bias" s_Form_bias a42 l42
  b_Form_bias : Binds K l42 ["self"] []
  M_Form_bias : Meth K C "bias" a42
  F_Form_top : Fun K "top" "Form.top" s_Form_top a43 l43
  b_Form_top : Binds K l43 ["self"] []
  M_Form_top : Meth K C "top" a43
  F_Form_parts : Fun K "parts" "Form.parts" s_Form_parts a44 l44
  b_Form_parts : Binds K l44 ["self", "word"] []
  M_Form_parts : Meth K C "parts" a44
  F_Form_word_of : Fun K "word_of" "Form.word_of" s_Form_word_of a45 l45
  b_Form_word_of : Binds K l45 ["self", "sign", "scale", "tail"] []
  M_Form_word_of : Meth K C "word_of" a45
  F_Form_sort_of : Fun K "sort_of" "Form.sort_of" s_Form_sort_of a46 l46
  b_Form_sort_of : Binds K l46 ["self", "word"] []
  M_Form_sort_of : Meth K C "sort_of" a46
  F_Form_nought : FunA K "nought" "Form.nought" s_Form_nought a47 l47
  b_Form_nought : Binds K l47 ["self", "sign"] []
  M_Form_nought : Meth K C "nought" a47
  d_Form_nought : Binds K l47 ["self", "sign"] [.int 0 t47]
  F_Form_endless : FunA K "endless" "Form.endless" s_Form_endless a48 l48
  b_Form_endless : Binds K l48 ["self", "sign"] []
  M_Form_endless : Meth K C "endless" a48
  d_Form_endless : Binds K l48 ["self", "sign"] [.int 0 t48]
  F_Form_greatest : FunA K "greatest" "Form.greatest" s_Form_greatest a49 l49
  b_Form_greatest : Binds K l49 ["self", "sign"] []
  M_Form_greatest : Meth K C "greatest" a49
  d_Form_greatest : Binds K l49 ["self", "sign"] [.int 0 t49]
  F_Form_none_word : Fun K "none_word" "Form.none_word" s_Form_none_word a50 l50
  b_Form_none_word : Binds K l50 ["self"] []
  M_Form_none_word : Meth K C "none_word" a50
  F_Form_turned : Fun K "turned" "Form.turned" s_Form_turned a51 l51
  b_Form_turned : Binds K l51 ["self", "word"] []
  M_Form_turned : Meth K C "turned" a51
  F_Form_worth : Fun K "worth" "Form.worth" s_Form_worth a52 l52
  b_Form_worth : Binds K l52 ["self", "word"] []
  M_Form_worth : Meth K C "worth" a52
  g_NEAR : mg "NEAR" = some (.str "near" tg_NEAR)
  g_CUT : mg "CUT" = some (.str "cut" tg_CUT)
  g_UP : mg "UP" = some (.str "up" tg_UP)
  g_DOWN : mg "DOWN" = some (.str "down" tg_DOWN)
  W : WG K mg fW
variable {C : Addr} {a1 a2 a3 a4 a5 a6 a7 a8 a9 a10 a11 a12 a13 a14 a15 a16 a17 a18 a19 a20 a21 a22 a23 a24 a25 a26 a27 a28 a29 a30 a31 a32 a33 a34 a35 a36 a37 a38 a39 a40 a41 a42 a43 a44 a45 a46 a47 a48 a49 a50 a51 a52 : Addr} {l1 l2 l3 l4 l5 l6 l7 l8 l9 l10 l11 l12 l13 l14 l15 l16 l17 l18 l19 l20 l21 l22 l23 l24 l25 l26 l27 l28 l29 l30 l31 l32 l33 l34 l35 l36 l37 l38 l39 l40 l41 l42 l43 l44 l45 l46 l47 l48 l49 l50 l51 l52 : FuncData} {t47 t48 t49 tg_NEAR tg_CUT tg_UP tg_DOWN : Tok} {fW : Addr}

/-! ### is_number, is_number_in -/
inductive Th (K : PySem.W.Frag) (H : Hp) : V → Prop
  | non : Th K H .non
  | bl (b : Bool) : Th K H (.bl b)
  | int (i : Int) : Th K H (.int i)
  | str (x : Str) : Th K H (.str x)
def isI : V → Bool
  | .int _ => true
  | _ => false
def numIn (a b : Int) : V → Bool
  | .int z => decide (a ≤ z) && decide (z ≤ b)
  | _ => false
def spNum (K : PySem.W.Frag) : Sp := fun vs H Q _ => ∃ x : V, vs = [x] ∧ Th K H x ∧ Q (.bl (isI x)) H
theorem ok_is_number (B : Bl mg) (L : LL K mg C a1 a2 a3 a4 a5 a6 a7 a8 a9 a10 a11 a12 a13 a14 a15 a16 a17 a18 a19 a20 a21 a22 a23 a24 a25 a26 a27 a28 a29 a30 a31 a32 a33 a34 a35 a36 a37 a38 a39 a40 a41 a42 a43 a44 a45 a46 a47 a48 a49 a50 a51 a52 l1 l2 l3 l4 l5 l6 l7 l8 l9 l10 l11 l12 l13 l14 l15 l16 l17 l18 l19 l20 l21 l22 l23 l24 l25 l26 l27 l28 l29 l30 l31 l32 l33 l34 l35 l36 l37 l38 l39 l40 l41 l42 l43 l44 l45 l46 l47 l48 l49 l50 l51 l52 t47 t48 t49 tg_NEAR tg_CUT tg_UP tg_DOWN fW) : FnOk P w K mg base CX0 1 a26 l26 ["thing"] (spNum K) := by
  refine L.F_is_number.ok sc_is_number (fun vs H Q E h => ?_) (fun cdv A outer s H vs Q E hr h => ?_)
  · obtain ⟨x, rfl, _⟩ := h
    rfl
  obtain ⟨x, rfl, hx, q⟩ := h
  refine ⟨_, (pss_one (ps_ret (pe_and (pe_callB call_isi (by rfl) B.isinstance boot_isinstance (pa_cons (pv 0) (pa_cons (pe_bltn (v := .ty "int") (by rfl) B.int PyProof.Rows.boot_int rfl) pa_nil))) (pe_one (pe_not (pe_callB call_isi (by rfl) B.isinstance boot_isinstance (pa_cons (pv 0) (pa_cons (pe_bltn (v := .ty "bool") (by rfl) B.bool PyProof.Rows.boot_bool rfl) pa_nil)))))))), ?_⟩
  cases hx with
  | non => exact ⟨_, rfl, _, _, _, _, _, rfl, .ty _, .base .non, kit_ty (by decide +kernel : kitB "NoneType" "int" = some false), _, rfl, iteF q⟩
  | bl b =>
    refine ⟨_, rfl, _, _, _, _, _, rfl, .ty _, .base (.bl _), kit_ty (by decide +kernel : kitB "bool" "int" = some true), _, rfl, iteT ?_⟩
    exact ⟨_, rfl, _, _, _, _, _, rfl, .ty _, .base (.bl _), kit_ty (by decide +kernel : kitB "bool" "bool" = some true), _, rfl, q⟩
  | int i =>
    refine ⟨_, rfl, _, _, _, _, _, rfl, .ty _, .base (.int _), kit_ty (by decide +kernel : kitB "int" "int" = some true), _, rfl, iteT ?_⟩
    exact ⟨_, rfl, _, _, _, _, _, rfl, .ty _, .base (.int _), kit_ty (by decide +kernel : kitB "int" "bool" = some false), _, rfl, q⟩
  | str z => exact ⟨_, rfl, _, _, _, _, _, rfl, .ty _, .base (.str _), kit_ty (by decide +kernel : kitB "str" "int" = some false), _, rfl, iteF q⟩
def spNumIn (K : PySem.W.Frag) : Sp := fun vs H Q _ => ∃ (a b : Int) (x : V), vs = [.int a, .int b, x] ∧ Th K H x ∧ Q (.bl (numIn a b x)) H
theorem ok_is_number_in (B : Bl mg) (L : LL K mg C a1 a2 a3 a4 a5 a6 a7 a8 a9 a10 a11 a12 a13 a14 a15 a16 a17 a18 a19 a20 a21 a22 a23 a24 a25 a26 a27 a28 a29 a30 a31 a32 a33 a34 a35 a36 a37 a38 a39 a40 a41 a42 a43 a44 a45 a46 a47 a48 a49 a50 a51 a52 l1 l2 l3 l4 l5 l6 l7 l8 l9 l10 l11 l12 l13 l14 l15 l16 l17 l18 l19 l20 l21 l22 l23 l24 l25 l26 l27 l28 l29 l30 l31 l32 l33 l34 l35 l36 l37 l38 l39 l40 l41 l42 l43 l44 l45 l46 l47 l48 l49 l50 l51 l52 t47 t48 t49 tg_NEAR tg_CUT tg_UP tg_DOWN fW) : FnOk P w K mg base CX0 2 a27 l27 ["least", "greatest", "thing"] (spNumIn K) := by
  have G_is_number : FnOk P w K mg base CX0 1 a26 l26 ["thing"] (spNum K) := (ok_is_number B L).mono (by decide)
  refine L.F_is_number_in.ok sc_is_number_in (fun vs H Q E h => ?_) (fun cdv A outer s H vs Q E hr h => ?_)
  · obtain ⟨a, b, x, rfl, _⟩ := h
    rfl
  obtain ⟨a, b, x, rfl, hx, q⟩ := h
  refine ⟨_, (pss_one (ps_ret (pe_and (pe_call G_is_number hr (by rfl) L.m_is_number L.F_is_number.kp L.b_is_number .nil pass0 (pa_cons (pv 2) pa_nil)) (pe_one (pe_chain op_le op_le (pv 0) (pv 2) (pv 1)))))), ?_⟩
  refine ⟨_, rfl, _, rfl, hx, _, rfl, ?_⟩
  cases hx with
  | non => exact iteF q
  | bl b => exact iteF q
  | str z => exact iteF q
  | int z =>
    refine iteT ?_
    refine ⟨_, rfl, _, rfl, _, _, rfl, rfl, _, rfl, ite2 (fun c => ?_) (fun c => ?_)⟩
    · refine ⟨_, rfl, _, _, rfl, rfl, ?_⟩
      rw [show numIn a b (.int z) = decide (z ≤ b) by show (decide (a ≤ z) && decide (z ≤ b)) = _; rw [c]; rfl] at q
      exact q
    · rw [show numIn a b (.int z) = false by show (decide (a ≤ z) && decide (z ≤ b)) = _; rw [Bool.eq_false_iff.mpr c]; rfl] at q
      exact q
/-! ### Form(scale, tail) and its words -/
def spInit (C : Addr) : Sp := fun vs H Q _ => ∃ (x dx : Addr) (sc tl : Nat), vs = [.ref x, .int (sc : Int), .int (tl : Int)] ∧ H x = some (.ins C dx []) ∧ 2 ≤ sc ∧ sc ≤ 8 ∧ 1 ≤ tl ∧ tl ≤ 24 ∧
  ∀ H', FAt C H' x sc tl → (∀ p o, H p = some o → p ≠ x → H' p = some o) → Q .non H'
theorem numIn_t {a b z : Int} (h1 : a ≤ z) (h2 : z ≤ b) : numIn a b (.int z) = true := by
  show (decide (a ≤ z) && decide (z ≤ b)) = true
  rw [decide_eq_true h1, decide_eq_true h2]
  rfl
theorem ok_Form___init__ (B : Bl mg) (L : LL K mg C a1 a2 a3 a4 a5 a6 a7 a8 a9 a10 a11 a12 a13 a14 a15 a16 a17 a18 a19 a20 a21 a22 a23 a24 a25 a26 a27 a28 a29 a30 a31 a32 a33 a34 a35 a36 a37 a38 a39 a40 a41 a42 a43 a44 a45 a46 a47 a48 a49 a50 a51 a52 l1 l2 l3 l4 l5 l6 l7 l8 l9 l10 l11 l12 l13 l14 l15 l16 l17 l18 l19 l20 l21 l22 l23 l24 l25 l26 l27 l28 l29 l30 l31 l32 l33 l34 l35 l36 l37 l38 l39 l40 l41 l42 l43 l44 l45 l46 l47 l48 l49 l50 l51 l52 t47 t48 t49 tg_NEAR tg_CUT tg_UP tg_DOWN fW) : FnOk P w K mg base CX0 3 a41 l41 ["self", "scale", "tail"] (spInit C) := by
  have G_is_number_in : FnOk P w K mg base CX0 2 a27 l27 ["least", "greatest", "thing"] (spNumIn K) := (ok_is_number_in B L).mono (by decide)
  refine L.F_Form___init__.ok sc_Form___init__ (fun vs H Q E h => ?_) (fun cdv A outer s H vs Q E hr h => ?_)
  · obtain ⟨x, dx, sc, tl, rfl, _⟩ := h
    rfl
  obtain ⟨x, dx, sc, tl, rfl, hx, h1, h2, h3, h4, q⟩ := h
  refine ⟨_, (pss_cons (ps_if (pt_not (pt_val (pe_call G_is_number_in hr (by rfl) L.m_is_number_in L.F_is_number_in.kp L.b_is_number_in .nil pass0 (pa_cons pe_int (pa_cons pe_int (pa_cons (pv 1) pa_nil)))))) (pss_one ps_never) pss_nil)
    (pss_cons (ps_if (pt_not (pt_val (pe_call G_is_number_in hr (by rfl) L.m_is_number_in L.F_is_number_in.kp L.b_is_number_in .nil pass0 (pa_cons pe_int (pa_cons pe_int (pa_cons (pv 2) pa_nil)))))) (pss_one ps_never) pss_nil)
    (pss_cons (ps_fld (pv 0) (pv 1) rfl)
    (pss_one (ps_fld (pv 0) (pv 2) rfl))))), ?_⟩
  refine ⟨_, rfl, _, _, _, rfl, .int _, ?_⟩
  rw [numIn_t (by omega) (by omega)]
  refine ⟨_, rfl, iteF ?_⟩
  refine ⟨_, rfl, _, _, _, rfl, .int _, ?_⟩
  rw [numIn_t (by omega) (by omega)]
  refine ⟨_, rfl, iteF ?_⟩
  refine ⟨_, rfl, _, rfl, x, C, dx, _, rfl, hx, L.T.cl, L.T.ns, (by decide), ?_⟩
  refine ⟨_, rfl, _, rfl, x, C, dx, _, rfl, upd_same, L.T.cl, L.T.nt, (by show 1 < 1000; decide), ?_⟩
  refine q _ ⟨dx, upd_same, h1, h2, h3, h4⟩ fun p o e n => ?_
  rw [upd_ne n, upd_ne n]
  exact e
def spBias (C : Addr) : Sp := fun vs H Q _ => ∃ (x : Addr) (sc tl : Nat), vs = [.ref x] ∧ FAt C H x sc tl ∧ Q (.int (2 ^ (sc - 1) - 1)) H
theorem ok_Form_bias (B : Bl mg) (L : LL K mg C a1 a2 a3 a4 a5 a6 a7 a8 a9 a10 a11 a12 a13 a14 a15 a16 a17 a18 a19 a20 a21 a22 a23 a24 a25 a26 a27 a28 a29 a30 a31 a32 a33 a34 a35 a36 a37 a38 a39 a40 a41 a42 a43 a44 a45 a46 a47 a48 a49 a50 a51 a52 l1 l2 l3 l4 l5 l6 l7 l8 l9 l10 l11 l12 l13 l14 l15 l16 l17 l18 l19 l20 l21 l22 l23 l24 l25 l26 l27 l28 l29 l30 l31 l32 l33 l34 l35 l36 l37 l38 l39 l40 l41 l42 l43 l44 l45 l46 l47 l48 l49 l50 l51 l52 t47 t48 t49 tg_NEAR tg_CUT tg_UP tg_DOWN fW) : FnOk P w K mg base CX0 1 a42 l42 ["self"] (spBias C) := by
  refine L.F_Form_bias.ok sc_Form_bias (fun vs H Q E h => ?_) (fun cdv A outer s H vs Q E hr h => ?_)
  · obtain ⟨x, sc, tl, rfl, _⟩ := h
    rfl
  obtain ⟨x, sc, tl, rfl, ⟨dx, hx, h1, h2, h3, h4⟩, q⟩ := h
  refine ⟨_, (pss_one (ps_ret (pe_op op_sub (pe_op op_oneShl pe_int (pe_op op_sub (pe_fld (pv 0) rfl) pe_int)) pe_int))), ?_⟩
  exact ⟨_, rfl, x, C, dx, _, _, rfl, hx, L.T.cl, L.T.ns, fl_s _ _, _, _, rfl, rfl, sc - 1, rfl, congrArg V.int (by omega), by omega, _, _, rfl, rfl, q⟩
def spTop (C : Addr) : Sp := fun vs H Q _ => ∃ (x : Addr) (sc tl : Nat), vs = [.ref x] ∧ FAt C H x sc tl ∧ Q (.int (2 ^ sc - 1)) H
theorem ok_Form_top (B : Bl mg) (L : LL K mg C a1 a2 a3 a4 a5 a6 a7 a8 a9 a10 a11 a12 a13 a14 a15 a16 a17 a18 a19 a20 a21 a22 a23 a24 a25 a26 a27 a28 a29 a30 a31 a32 a33 a34 a35 a36 a37 a38 a39 a40 a41 a42 a43 a44 a45 a46 a47 a48 a49 a50 a51 a52 l1 l2 l3 l4 l5 l6 l7 l8 l9 l10 l11 l12 l13 l14 l15 l16 l17 l18 l19 l20 l21 l22 l23 l24 l25 l26 l27 l28 l29 l30 l31 l32 l33 l34 l35 l36 l37 l38 l39 l40 l41 l42 l43 l44 l45 l46 l47 l48 l49 l50 l51 l52 t47 t48 t49 tg_NEAR tg_CUT tg_UP tg_DOWN fW) : FnOk P w K mg base CX0 1 a43 l43 ["self"] (spTop C) := by
  refine L.F_Form_top.ok sc_Form_top (fun vs H Q E h => ?_) (fun cdv A outer s H vs Q E hr h => ?_)
  · obtain ⟨x, sc, tl, rfl, _⟩ := h
    rfl
  obtain ⟨x, sc, tl, rfl, ⟨dx, hx, h1, h2, h3, h4⟩, q⟩ := h
  refine ⟨_, (pss_one (ps_ret (pe_op op_sub (pe_op op_oneShl pe_int (pe_fld (pv 0) rfl)) pe_int))), ?_⟩
  exact ⟨_, rfl, x, C, dx, _, _, rfl, hx, L.T.cl, L.T.ns, fl_s _ _, sc, rfl, rfl, by omega, _, _, rfl, rfl, q⟩
def spWordOf (C : Addr) : Sp := fun vs H Q _ => ∃ (x : Addr) (sc tl : Nat) (s m t : Int), vs = [.ref x, .int s, .int m, .int t] ∧ FAt C H x sc tl ∧ (s = 0 ∨ s = 1) ∧ 0 ≤ m ∧ m < 2 ^ sc ∧ 0 ≤ t ∧ t < 2 ^ tl ∧ Q (.int (s * 2 ^ (sc + tl) + (m * 2 ^ tl + t))) H
theorem ok_Form_word_of (B : Bl mg) (L : LL K mg C a1 a2 a3 a4 a5 a6 a7 a8 a9 a10 a11 a12 a13 a14 a15 a16 a17 a18 a19 a20 a21 a22 a23 a24 a25 a26 a27 a28 a29 a30 a31 a32 a33 a34 a35 a36 a37 a38 a39 a40 a41 a42 a43 a44 a45 a46 a47 a48 a49 a50 a51 a52 l1 l2 l3 l4 l5 l6 l7 l8 l9 l10 l11 l12 l13 l14 l15 l16 l17 l18 l19 l20 l21 l22 l23 l24 l25 l26 l27 l28 l29 l30 l31 l32 l33 l34 l35 l36 l37 l38 l39 l40 l41 l42 l43 l44 l45 l46 l47 l48 l49 l50 l51 l52 t47 t48 t49 tg_NEAR tg_CUT tg_UP tg_DOWN fW) : FnOk P w K mg base CX0 1 a45 l45 ["self", "sign", "scale", "tail"] (spWordOf C) := by
  refine L.F_Form_word_of.ok sc_Form_word_of (fun vs H Q E h => ?_) (fun cdv A outer s H vs Q E hr h => ?_)
  · obtain ⟨x, sc, tl, s, m, t, rfl, _⟩ := h
    rfl
  obtain ⟨x, sc, tl, s, m, t, rfl, ⟨dx, hx, h1, h2, h3, h4⟩, hs, m0, m1, t0, t1, q⟩ := h
  refine ⟨_, (pss_one (ps_ret (pe_op op_orL (pe_op op_orL (pe_op op_shlN (pv 1) (pe_op op_add (pe_fld (pv 0) rfl) (pe_fld (pv 0) rfl))) (pe_op op_shlN (pv 2) (pe_fld (pv 0) rfl))) (pv 3)))), ?_⟩
  have p8 : (2 : Int) ^ sc ≤ 2 ^ 8 := GM.pow_le' h2
  have hp := GM.pow_pos' tl
  have hms : m * 2 ^ tl < 2 ^ (sc + tl) := by
    rw [GM.pow_add']
    exact Int.mul_lt_mul_of_pos_right m1 hp
  refine ⟨_, rfl, _, rfl, x, C, dx, _, _, rfl, hx, L.T.cl, L.T.ns, fl_s _ _, _, rfl, x, C, dx, _, _, rfl, hx, L.T.cl, L.T.nt, fl_t _ _, _, _, rfl, rfl, _, sc + tl, rfl, rfl, shl_ok (n := 1) (by omega) (by omega), ?_⟩
  refine ⟨_, rfl, _, rfl, x, C, dx, _, _, rfl, hx, L.T.cl, L.T.nt, fl_t _ _, _, tl, rfl, rfl, shl_ok (n := 9) (by omega) (by omega), ?_⟩
  refine ⟨s, _, sc + tl, rfl, rfl, ⟨by omega, Int.mul_nonneg m0 (by omega), hms⟩, ?_⟩
  have e : s * 2 ^ (sc + tl) + m * 2 ^ tl = (s * 2 ^ sc + m) * 2 ^ tl := by
    rw [GM.pow_add', Int.add_mul, Int.mul_assoc]
  refine ⟨_, rfl, s * 2 ^ sc + m, t, tl, congrArg V.int e, rfl, ⟨?_, t0, t1⟩, ?_⟩
  · have := GM.pow_pos' sc
    rcases hs with z | z <;> subst z <;> omega
  rw [← e, Int.add_assoc]
  exact q
/-- a named word: its sign, scale and tail -/
def spNm (C : Addr) (m t : Nat → Nat → Int) : Sp := fun vs H Q _ => ∃ (x : Addr) (sc tl : Nat) (g : Int), vs = [.ref x, .int g] ∧ FAt C H x sc tl ∧ (g = 0 ∨ g = 1) ∧ Q (.int (g * 2 ^ (sc + tl) + (m sc tl * 2 ^ tl + t sc tl))) H
def mNo : Nat → Nat → Int := fun _ _ => 0
def mEn : Nat → Nat → Int := fun sc _ => 2 ^ sc - 1
def mGr : Nat → Nat → Int := fun sc _ => 2 ^ sc - 1 - 1
def tGr : Nat → Nat → Int := fun _ tl => 2 ^ tl - 1
theorem ok_Form_nought (B : Bl mg) (L : LL K mg C a1 a2 a3 a4 a5 a6 a7 a8 a9 a10 a11 a12 a13 a14 a15 a16 a17 a18 a19 a20 a21 a22 a23 a24 a25 a26 a27 a28 a29 a30 a31 a32 a33 a34 a35 a36 a37 a38 a39 a40 a41 a42 a43 a44 a45 a46 a47 a48 a49 a50 a51 a52 l1 l2 l3 l4 l5 l6 l7 l8 l9 l10 l11 l12 l13 l14 l15 l16 l17 l18 l19 l20 l21 l22 l23 l24 l25 l26 l27 l28 l29 l30 l31 l32 l33 l34 l35 l36 l37 l38 l39 l40 l41 l42 l43 l44 l45 l46 l47 l48 l49 l50 l51 l52 t47 t48 t49 tg_NEAR tg_CUT tg_UP tg_DOWN fW) : FnOk P w K mg base CX0 2 a47 l47 ["self", "sign"] (spNm C mNo mNo) := by
  have G_Form_word_of : FnOk P w K mg base CX0 1 a45 l45 ["self", "sign", "scale", "tail"] (spWordOf C) := (ok_Form_word_of B L).mono (by decide)
  refine L.F_Form_nought.ok sc_Form_nought (fun vs H Q E h => ?_) (fun cdv A outer s H vs Q E hr h => ?_)
  · obtain ⟨x, sc, tl, v, rfl, _⟩ := h
    rfl
  obtain ⟨x, sc, tl, g, rfl, hF, hg, q⟩ := h
  obtain ⟨dx, hx, h1, h2, h3, h4⟩ := id hF
  have pS := GM.pow_pos' sc
  have pT := GM.pow_pos' tl
  refine ⟨_, (pss_one (ps_ret (pe_meth (pv 0) L.T.cl L.M_Form_word_of G_Form_word_of hr L.b_Form_word_of .nil pass0 (pa_cons (pv 1) (pa_cons pe_int (pa_cons pe_int pa_nil)))))), ?_⟩
  exact ⟨_, rfl, x, dx, _, rfl, hx, rfl, _, rfl, x, sc, tl, _, _, _, rfl, hF, hg, by decide, pS, by decide, pT, q⟩
theorem ok_Form_endless (B : Bl mg) (L : LL K mg C a1 a2 a3 a4 a5 a6 a7 a8 a9 a10 a11 a12 a13 a14 a15 a16 a17 a18 a19 a20 a21 a22 a23 a24 a25 a26 a27 a28 a29 a30 a31 a32 a33 a34 a35 a36 a37 a38 a39 a40 a41 a42 a43 a44 a45 a46 a47 a48 a49 a50 a51 a52 l1 l2 l3 l4 l5 l6 l7 l8 l9 l10 l11 l12 l13 l14 l15 l16 l17 l18 l19 l20 l21 l22 l23 l24 l25 l26 l27 l28 l29 l30 l31 l32 l33 l34 l35 l36 l37 l38 l39 l40 l41 l42 l43 l44 l45 l46 l47 l48 l49 l50 l51 l52 t47 t48 t49 tg_NEAR tg_CUT tg_UP tg_DOWN fW) : FnOk P w K mg base CX0 2 a48 l48 ["self", "sign"] (spNm C mEn mNo) := by
  have G_Form_word_of : FnOk P w K mg base CX0 1 a45 l45 ["self", "sign", "scale", "tail"] (spWordOf C) := (ok_Form_word_of B L).mono (by decide)
  have G_Form_top : FnOk P w K mg base CX0 1 a43 l43 ["self"] (spTop C) := (ok_Form_top B L).mono (by decide)
  refine L.F_Form_endless.ok sc_Form_endless (fun vs H Q E h => ?_) (fun cdv A outer s H vs Q E hr h => ?_)
  · obtain ⟨x, sc, tl, v, rfl, _⟩ := h
    rfl
  obtain ⟨x, sc, tl, g, rfl, hF, hg, q⟩ := h
  obtain ⟨dx, hx, h1, h2, h3, h4⟩ := id hF
  have pS := GM.pow_pos' sc
  have pT := GM.pow_pos' tl
  refine ⟨_, (pss_one (ps_ret (pe_meth (pv 0) L.T.cl L.M_Form_word_of G_Form_word_of hr L.b_Form_word_of .nil pass0 (pa_cons (pv 1) (pa_cons (pe_meth0 (pv 0) L.T.cl L.M_Form_top G_Form_top hr L.b_Form_top .nil pass0) (pa_cons pe_int pa_nil)))))), ?_⟩
  exact ⟨_, rfl, x, dx, _, rfl, hx, rfl, _, rfl, _, rfl, x, dx, _, rfl, hx, rfl, x, sc, tl, rfl, hF, x, sc, tl, _, _, _, rfl, hF, hg, by omega, by omega, by decide, pT, q⟩
theorem ok_Form_greatest (B : Bl mg) (L : LL K mg C a1 a2 a3 a4 a5 a6 a7 a8 a9 a10 a11 a12 a13 a14 a15 a16 a17 a18 a19 a20 a21 a22 a23 a24 a25 a26 a27 a28 a29 a30 a31 a32 a33 a34 a35 a36 a37 a38 a39 a40 a41 a42 a43 a44 a45 a46 a47 a48 a49 a50 a51 a52 l1 l2 l3 l4 l5 l6 l7 l8 l9 l10 l11 l12 l13 l14 l15 l16 l17 l18 l19 l20 l21 l22 l23 l24 l25 l26 l27 l28 l29 l30 l31 l32 l33 l34 l35 l36 l37 l38 l39 l40 l41 l42 l43 l44 l45 l46 l47 l48 l49 l50 l51 l52 t47 t48 t49 tg_NEAR tg_CUT tg_UP tg_DOWN fW) : FnOk P w K mg base CX0 2 a49 l49 ["self", "sign"] (spNm C mGr tGr) := by
  have G_Form_word_of : FnOk P w K mg base CX0 1 a45 l45 ["self", "sign", "scale", "tail"] (spWordOf C) := (ok_Form_word_of B L).mono (by decide)
  have G_Form_top : FnOk P w K mg base CX0 1 a43 l43 ["self"] (spTop C) := (ok_Form_top B L).mono (by decide)
  refine L.F_Form_greatest.ok sc_Form_greatest (fun vs H Q E h => ?_) (fun cdv A outer s H vs Q E hr h => ?_)
  · obtain ⟨x, sc, tl, v, rfl, _⟩ := h
    rfl
  obtain ⟨x, sc, tl, g, rfl, hF, hg, q⟩ := h
  obtain ⟨dx, hx, h1, h2, h3, h4⟩ := id hF
  have pS : (2 : Int) ^ 2 ≤ 2 ^ sc := GM.pow_le' h1
  have pT := GM.pow_pos' tl
  refine ⟨_, (pss_one (ps_ret (pe_meth (pv 0) L.T.cl L.M_Form_word_of G_Form_word_of hr L.b_Form_word_of .nil pass0 (pa_cons (pv 1) (pa_cons (pe_op op_sub (pe_meth0 (pv 0) L.T.cl L.M_Form_top G_Form_top hr L.b_Form_top .nil pass0) pe_int) (pa_cons (pe_op op_sub (pe_op op_oneShl pe_int (pe_fld (pv 0) rfl)) pe_int) pa_nil)))))), ?_⟩
  refine ⟨_, rfl, x, dx, _, rfl, hx, rfl, _, rfl, _, rfl, x, dx, _, rfl, hx, rfl, x, sc, tl, rfl, hF, _, _, rfl, rfl, ?_⟩
  exact ⟨_, rfl, x, C, dx, _, _, rfl, hx, L.T.cl, L.T.nt, fl_t _ _, tl, rfl, rfl, by omega, _, _, rfl, rfl, x, sc, tl, _, _, _, rfl, hF, hg, by omega, by omega, by omega, by omega, q⟩
end
section
variable {P : Program} {w : World} {K : PySem.W.Frag} {mg : Str → Option Value} {base : Heap}
variable {C : Addr} {a1 a2 a3 a4 a5 a6 a7 a8 a9 a10 a11 a12 a13 a14 a15 a16 a17 a18 a19 a20 a21 a22 a23 a24 a25 a26 a27 a28 a29 a30 a31 a32 a33 a34 a35 a36 a37 a38 a39 a40 a41 a42 a43 a44 a45 a46 a47 a48 a49 a50 a51 a52 : Addr} {l1 l2 l3 l4 l5 l6 l7 l8 l9 l10 l11 l12 l13 l14 l15 l16 l17 l18 l19 l20 l21 l22 l23 l24 l25 l26 l27 l28 l29 l30 l31 l32 l33 l34 l35 l36 l37 l38 l39 l40 l41 l42 l43 l44 l45 l46 l47 l48 l49 l50 l51 l52 : FuncData} {t47 t48 t49 tg_NEAR tg_CUT tg_UP tg_DOWN : Tok} {fW : Addr}
/-! ### numbers of no more than 4000 bits -/
def Fit (n : Int) : Prop := 0 ≤ n ∧ Builtin.Int.intBits n ≤ 4000
theorem fit_shl {n : Int} {j : Nat} (h : Fit n) (hj : j ≤ 100000) : CShl n (j : Int) := by
  refine shl_ok (n := 4000) ?_ (by omega)
  exact Nat.lt_of_lt_of_le (PyProof.Rows.natAbs_lt_pow_bits n) (Nat.pow_le_pow_right (by decide) h.2)
theorem fit_div {n : Int} {j : Nat} (h : Fit n) : Fit (n / 2 ^ j) := by
  have hp := GM.pow_pos' j
  have h0 : 0 ≤ n / 2 ^ j := Int.ediv_nonneg h.1 (by omega)
  have h1 : n / 2 ^ j ≤ n := Int.ediv_le_self _ h.1
  refine ⟨h0, ?_⟩
  refine Nat.le_trans (PyProof.Rows.intBits_le (k := Builtin.Int.intBits n) ?_) h.2
  have := PyProof.Rows.natAbs_lt_pow_bits n
  exact Nat.lt_of_le_of_lt (by omega) this
/-! ### cut_off -/
def spCut : Sp := fun vs H Q _ => ∃ n b : Int, vs = [.int n, .int b] ∧ Fit n ∧ -10000 ≤ b ∧ b ≤ 10000 ∧
  ∀ p, H p = none → Q (.ref p) (upd H p (.tup [.int (GR.cutQ n b), .bl (GR.cutR n b)]))
theorem ok_cut_off (B : Bl mg) (L : LL K mg C a1 a2 a3 a4 a5 a6 a7 a8 a9 a10 a11 a12 a13 a14 a15 a16 a17 a18 a19 a20 a21 a22 a23 a24 a25 a26 a27 a28 a29 a30 a31 a32 a33 a34 a35 a36 a37 a38 a39 a40 a41 a42 a43 a44 a45 a46 a47 a48 a49 a50 a51 a52 l1 l2 l3 l4 l5 l6 l7 l8 l9 l10 l11 l12 l13 l14 l15 l16 l17 l18 l19 l20 l21 l22 l23 l24 l25 l26 l27 l28 l29 l30 l31 l32 l33 l34 l35 l36 l37 l38 l39 l40 l41 l42 l43 l44 l45 l46 l47 l48 l49 l50 l51 l52 t47 t48 t49 tg_NEAR tg_CUT tg_UP tg_DOWN fW) : FnOk P w K mg base CX0 1 a1 l1 ["number", "by"] spCut := by
  refine L.F_cut_off.ok sc_cut_off (fun vs H Q E h => ?_) (fun cdv A outer s H vs Q E hr h => ?_)
  · obtain ⟨n, b, rfl, _⟩ := h
    rfl
  obtain ⟨n, b, rfl, hf, h1, h2, q⟩ := h
  refine ⟨_, (pss_cons (ps_if (pt_cmpR op_lt (pv 1) pe_int (nomark _)) (pss_one (ps_ret (pe_tup (pa_cons (pe_op op_shlN (pv 0) (pe_un un_neg (pv 1))) (pa_cons pe_bl pa_nil))))) pss_nil)
    (pss_cons (ps_set (i := 2) sc_cut_off.nd rfl (.inl rfl) (pe_op op_shrN (pv 0) (pv 1)))
    (pss_one (ps_ret (pe_tup (pa_cons (pv 2) (pa_cons (pe_cmpR op_ne (pe_op op_shlN (pv 2) (pv 1)) (pv 0) (nomark _)) pa_nil))))))), ?_⟩
  refine ⟨_, rfl, _, _, rfl, rfl, _, rfl, ite2 (fun c => ?_) (fun c => ?_)⟩
  · have c1 : b < 0 := of_decide_eq_true c
    unfold GR.cutQ GR.cutR at q
    rw [if_pos c1, if_pos c1] at q
    refine ⟨_, rfl, _, rfl, _, rfl, _, (-b).toNat, rfl, congrArg V.int (by omega), fit_shl hf (by omega), (by show 2 ≤ sizeLine; decide), fun p np => ?_⟩
    exact q p np
  · have c1 : ¬ b < 0 := of_decide_eq_false (Bool.eq_false_iff.mpr c)
    unfold GR.cutQ GR.cutR at q
    rw [if_neg c1, if_neg c1] at q
    refine ⟨_, rfl, _, rfl, _, b.toNat, rfl, congrArg V.int (by omega), ?_⟩
    refine ⟨_, rfl, _, rfl, _, rfl, _, b.toNat, rfl, congrArg V.int (by omega), fit_shl (fit_div hf) (by omega), _, rfl, rfl, (by show 2 ≤ sizeLine; decide), fun p np => ?_⟩
    rw [dvi]
    exact q p np
/-! ### least_power, last_power -/
def spLea (C : Addr) : Sp := fun vs H Q _ => ∃ (x : Addr) (sc tl : Nat), vs = [.ref x] ∧ FAt C H x sc tl ∧ Q (.int (GR.lea sc tl)) H
theorem ok_least_power (B : Bl mg) (L : LL K mg C a1 a2 a3 a4 a5 a6 a7 a8 a9 a10 a11 a12 a13 a14 a15 a16 a17 a18 a19 a20 a21 a22 a23 a24 a25 a26 a27 a28 a29 a30 a31 a32 a33 a34 a35 a36 a37 a38 a39 a40 a41 a42 a43 a44 a45 a46 a47 a48 a49 a50 a51 a52 l1 l2 l3 l4 l5 l6 l7 l8 l9 l10 l11 l12 l13 l14 l15 l16 l17 l18 l19 l20 l21 l22 l23 l24 l25 l26 l27 l28 l29 l30 l31 l32 l33 l34 l35 l36 l37 l38 l39 l40 l41 l42 l43 l44 l45 l46 l47 l48 l49 l50 l51 l52 t47 t48 t49 tg_NEAR tg_CUT tg_UP tg_DOWN fW) : FnOk P w K mg base CX0 2 a3 l3 ["form"] (spLea C) := by
  have G_Form_bias : FnOk P w K mg base CX0 1 a42 l42 ["self"] (spBias C) := (ok_Form_bias B L).mono (by decide)
  refine L.F_least_power.ok sc_least_power (fun vs H Q E h => ?_) (fun cdv A outer s H vs Q E hr h => ?_)
  · obtain ⟨x, sc, tl, rfl, _⟩ := h
    rfl
  obtain ⟨x, sc, tl, rfl, hF, q⟩ := h
  obtain ⟨dx, hx, h1, h2, h3, h4⟩ := id hF
  refine ⟨_, (pss_one (ps_ret (pe_op op_sub (pe_op op_sub pe_int (pe_meth0 (pv 0) L.T.cl L.M_Form_bias G_Form_bias hr L.b_Form_bias .nil pass0)) (pe_fld (pv 0) rfl)))), ?_⟩
  exact ⟨_, rfl, x, dx, _, rfl, hx, rfl, x, sc, tl, rfl, hF, _, _, rfl, rfl, _, rfl, x, C, dx, _, _, rfl, hx, L.T.cl, L.T.nt, fl_t _ _, _, _, rfl, rfl, q⟩
def spLap (C : Addr) : Sp := fun vs H Q _ => ∃ (x : Addr) (sc tl : Nat) (n p : Int), vs = [.ref x, .int n, .int p] ∧ FAt C H x sc tl ∧ Q (.int (GR.lap sc tl n p)) H
theorem ok_last_power (B : Bl mg) (L : LL K mg C a1 a2 a3 a4 a5 a6 a7 a8 a9 a10 a11 a12 a13 a14 a15 a16 a17 a18 a19 a20 a21 a22 a23 a24 a25 a26 a27 a28 a29 a30 a31 a32 a33 a34 a35 a36 a37 a38 a39 a40 a41 a42 a43 a44 a45 a46 a47 a48 a49 a50 a51 a52 l1 l2 l3 l4 l5 l6 l7 l8 l9 l10 l11 l12 l13 l14 l15 l16 l17 l18 l19 l20 l21 l22 l23 l24 l25 l26 l27 l28 l29 l30 l31 l32 l33 l34 l35 l36 l37 l38 l39 l40 l41 l42 l43 l44 l45 l46 l47 l48 l49 l50 l51 l52 t47 t48 t49 tg_NEAR tg_CUT tg_UP tg_DOWN fW) : FnOk P w K mg base CX0 3 a2 l2 ["form", "number", "power"] (spLap C) := by
  have G_least_power : FnOk P w K mg base CX0 2 a3 l3 ["form"] (spLea C) := (ok_least_power B L).mono (by decide)
  refine L.F_last_power.ok sc_last_power (fun vs H Q E h => ?_) (fun cdv A outer s H vs Q E hr h => ?_)
  · obtain ⟨x, sc, tl, n, p, rfl, _⟩ := h
    rfl
  obtain ⟨x, sc, tl, n, p, rfl, hF, q⟩ := h
  obtain ⟨dx, hx, h1, h2, h3, h4⟩ := id hF
  refine ⟨_, (pss_one (ps_ret (pe_callB (call_max2 rfl) (by rfl) B.max boot_max (pa_cons (pe_op op_sub (pe_op op_sub (pe_op op_add (pe_bits (pv 1)) (pv 2)) pe_int) (pe_fld (pv 0) rfl)) (pa_cons (pe_call G_least_power hr (by rfl) L.m_least_power L.F_least_power.kp L.b_least_power .nil pass0 (pa_cons (pv 0) pa_nil)) pa_nil))))), ?_⟩
  exact ⟨_, rfl, _, rfl, _, rfl, _, _, rfl, rfl, _, _, rfl, rfl, _, rfl, x, C, dx, _, _, rfl, hx, L.T.cl, L.T.nt, fl_t _ _, _, _, rfl, rfl, _, rfl, x, sc, tl, rfl, hF, _, _, rfl, q⟩
/-! ### parted -/
def spPart : Sp := fun vs H Q _ => ∃ (n b : Int) (m : Bool), vs = [.int n, .int b, .bl m] ∧ Fit n ∧ -9999 ≤ b ∧ b ≤ 9999 ∧
  ∀ p H', H p = none → Same H H' → H' p = some (.tup [.int (GR.prQ n b), .int (GR.prR n b m)]) → Q (.ref p) H'
theorem ok_parted (B : Bl mg) (L : LL K mg C a1 a2 a3 a4 a5 a6 a7 a8 a9 a10 a11 a12 a13 a14 a15 a16 a17 a18 a19 a20 a21 a22 a23 a24 a25 a26 a27 a28 a29 a30 a31 a32 a33 a34 a35 a36 a37 a38 a39 a40 a41 a42 a43 a44 a45 a46 a47 a48 a49 a50 a51 a52 l1 l2 l3 l4 l5 l6 l7 l8 l9 l10 l11 l12 l13 l14 l15 l16 l17 l18 l19 l20 l21 l22 l23 l24 l25 l26 l27 l28 l29 l30 l31 l32 l33 l34 l35 l36 l37 l38 l39 l40 l41 l42 l43 l44 l45 l46 l47 l48 l49 l50 l51 l52 t47 t48 t49 tg_NEAR tg_CUT tg_UP tg_DOWN fW) : FnOk P w K mg base CX0 2 a5 l5 ["number", "by", "more"] spPart := by
  have G_cut_off : FnOk P w K mg base CX0 1 a1 l1 ["number", "by"] spCut := (ok_cut_off B L).mono (by decide)
  refine L.F_parted.ok sc_parted (fun vs H Q E h => ?_) (fun cdv A outer s H vs Q E hr h => ?_)
  · obtain ⟨n, b, m, rfl, _⟩ := h
    rfl
  obtain ⟨n, b, m, rfl, hf, h1, h2, q⟩ := h
  refine ⟨_, (pss_cons (ps_asg (pe_call G_cut_off hr (by rfl) L.m_cut_off L.F_cut_off.kp L.b_cut_off .nil pass0 (pa_cons (pv 0) (pa_cons (pe_op op_sub (pv 1) pe_int) pa_nil))) (pg_tup (by rfl) (pgs_cons (pg_name (i := 3) sc_parted.nd rfl (.inl rfl)) (pgs_cons (pg_name (i := 4) sc_parted.nd rfl (.inl rfl)) pgs_nil))))
    (pss_one (ps_ret (pe_tup (pa_cons (pe_op op_shrN (pv 3) pe_int) (pa_cons (pe_op op_add (pe_op op_mul pe_int (pe_op op_andM (pv 3) pe_int)) (pe_ifExp (PW.pt (pw_or (pt_val (pv 4)) (pw_or1 (pt_val (pv 2))))) pe_int pe_int)) pa_nil)))))), ?_⟩
  refine ⟨_, rfl, _, rfl, _, _, rfl, rfl, n, b - 1, rfl, hf, by omega, by omega, fun t nt => ?_⟩
  have st := same_upd (o := .tup [.int (GR.cutQ n (b - 1)), .bl (GR.cutR n (b - 1))]) nt
  refine ⟨t, _, rfl, .inl (.inl upd_same), rfl, _, _, rfl, _, _, rfl, rfl, ?_⟩
  refine ⟨_, rfl, _, 1, rfl, rfl, _, rfl, _, 1, rfl, rfl, _, _, rfl, rfl, .inl ⟨by decide, by decide⟩, ?_⟩
  have fin : ∀ v : Int, (if (GR.cutR n (b - 1) || m) = true then (1 : Int) else 0) = v → ∀ p, (upd H t (.tup [.int (GR.cutQ n (b - 1)), .bl (GR.cutR n (b - 1))])) p = none →
      Q (.ref p) (upd (upd H t (.tup [.int (GR.cutQ n (b - 1)), .bl (GR.cutR n (b - 1))])) p (.tup [.int (GR.cutQ n (b - 1) / 2 ^ 1), .int (2 * (GR.cutQ n (b - 1) % 2 ^ 1) + v)])) := fun v hv p np => by
    refine q p _ (st.free np) (st.trans (same_upd np)) ?_
    rw [upd_same, ← hv]
    rfl
  refine ⟨_, rfl, _, rfl, ite2 (fun c => ?_) (fun c => ?_)⟩
  · refine ⟨_, _, rfl, rfl, (by show 2 ≤ sizeLine; decide), fun p np => fin 1 ?_ p np⟩
    rw [c]
    rfl
  · have c1 : GR.cutR n (b - 1) = false := Bool.eq_false_iff.mpr c
    refine ⟨_, rfl, _, rfl, ite2 (fun d => ?_) (fun d => ?_)⟩
    · refine ⟨_, _, rfl, rfl, (by show 2 ≤ sizeLine; decide), fun p np => fin 1 ?_ p np⟩
      rw [c1, d]
      rfl
    · refine ⟨_, _, rfl, rfl, (by show 2 ≤ sizeLine; decide), fun p np => fin 0 ?_ p np⟩
      rw [c1, Bool.eq_false_iff.mpr d]
      rfl
/-! ### goes_away, goes_up -/
def spAway : Sp := fun vs H Q _ => ∃ (w : Str) (s : Int), vs = [.str w, .int s] ∧ Q (.bl (GR.away w s)) H
theorem ok_goes_away (B : Bl mg) (L : LL K mg C a1 a2 a3 a4 a5 a6 a7 a8 a9 a10 a11 a12 a13 a14 a15 a16 a17 a18 a19 a20 a21 a22 a23 a24 a25 a26 a27 a28 a29 a30 a31 a32 a33 a34 a35 a36 a37 a38 a39 a40 a41 a42 a43 a44 a45 a46 a47 a48 a49 a50 a51 a52 l1 l2 l3 l4 l5 l6 l7 l8 l9 l10 l11 l12 l13 l14 l15 l16 l17 l18 l19 l20 l21 l22 l23 l24 l25 l26 l27 l28 l29 l30 l31 l32 l33 l34 l35 l36 l37 l38 l39 l40 l41 l42 l43 l44 l45 l46 l47 l48 l49 l50 l51 l52 t47 t48 t49 tg_NEAR tg_CUT tg_UP tg_DOWN fW) : FnOk P w K mg base CX0 1 a7 l7 ["way", "sign"] spAway := by
  refine L.F_goes_away.ok sc_goes_away (fun vs H Q E h => ?_) (fun cdv A outer s H vs Q E hr h => ?_)
  · obtain ⟨w, s, rfl, _⟩ := h
    rfl
  obtain ⟨w, s, rfl, q⟩ := h
  refine ⟨_, (pss_cons (ps_if (pt_cmpR op_eq (pv 0) (pe_glob (v := .str "cut") rfl L.g_CUT ⟨_, rfl⟩) (nomark _)) (pss_one (ps_ret pe_bl)) pss_nil)
    (pss_one (ps_ret (pe_cmpR op_eq (pv 1) (pe_ifExp (pt_cmpR op_eq (pv 0) (pe_glob (v := .str "up") rfl L.g_UP ⟨_, rfl⟩) (nomark _)) pe_int pe_int) (nomark _))))), ?_⟩
  unfold GR.away at q
  refine ⟨_, rfl, rfl, _, rfl, ite2 (fun c => ?_) (fun c => ?_)⟩
  · have c1 : w = "cut" := V.str.inj (of_decide_eq_true c)
    rw [if_pos c1] at q
    exact q
  · have c1 : ¬ w = "cut" := fun z => c (decide_eq_true (by rw [z]))
    rw [if_neg c1] at q
    refine ⟨_, rfl, _, rfl, rfl, _, rfl, ite2 (fun d => ?_) (fun d => ?_)⟩
    · have d1 : w = "up" := V.str.inj (of_decide_eq_true d)
      rw [if_pos d1, ← dvi] at q
      exact ⟨rfl, q⟩
    · have d1 : ¬ w = "up" := fun z => d (decide_eq_true (by rw [z]))
      rw [if_neg d1, ← dvi] at q
      exact ⟨rfl, q⟩
def spUp : Sp := fun vs H Q _ => ∃ (w : Str) (s m r : Int), vs = [.str w, .int s, .int m, .int r] ∧ Q (.bl (GR.gup w s m r)) H
theorem ok_goes_up (B : Bl mg) (L : LL K mg C a1 a2 a3 a4 a5 a6 a7 a8 a9 a10 a11 a12 a13 a14 a15 a16 a17 a18 a19 a20 a21 a22 a23 a24 a25 a26 a27 a28 a29 a30 a31 a32 a33 a34 a35 a36 a37 a38 a39 a40 a41 a42 a43 a44 a45 a46 a47 a48 a49 a50 a51 a52 l1 l2 l3 l4 l5 l6 l7 l8 l9 l10 l11 l12 l13 l14 l15 l16 l17 l18 l19 l20 l21 l22 l23 l24 l25 l26 l27 l28 l29 l30 l31 l32 l33 l34 l35 l36 l37 l38 l39 l40 l41 l42 l43 l44 l45 l46 l47 l48 l49 l50 l51 l52 t47 t48 t49 tg_NEAR tg_CUT tg_UP tg_DOWN fW) : FnOk P w K mg base CX0 2 a6 l6 ["way", "sign", "many", "rest"] spUp := by
  have G_goes_away : FnOk P w K mg base CX0 1 a7 l7 ["way", "sign"] spAway := (ok_goes_away B L).mono (by decide)
  refine L.F_goes_up.ok sc_goes_up (fun vs H Q E h => ?_) (fun cdv A outer s H vs Q E hr h => ?_)
  · obtain ⟨w, s, m, r, rfl, _⟩ := h
    rfl
  obtain ⟨w, s, m, r, rfl, q⟩ := h
  refine ⟨_, (pss_cons (ps_if (pt_cmpR op_eq (pv 0) (pe_glob (v := .str "near") rfl L.g_NEAR ⟨_, rfl⟩) (nomark _)) (pss_one (ps_ret (pe_or (pe_cmpR op_eq (pv 3) pe_int (nomark _)) (pe_one (pe_and (pe_cmpR op_eq (pv 3) pe_int (nomark _)) (pe_one (pe_cmpR op_eq (pe_op op_mod (pv 2) pe_int) pe_int (nomark _)))))))) pss_nil)
    (pss_one (ps_ret (pe_and (pe_cmpR op_ne (pv 3) pe_int (nomark _)) (pe_one (pe_call G_goes_away hr (by rfl) L.m_goes_away L.F_goes_away.kp L.b_goes_away .nil pass0 (pa_cons (pv 0) (pa_cons (pv 1) pa_nil)))))))), ?_⟩
  unfold GR.gup at q
  refine ⟨_, rfl, rfl, _, rfl, ite2 (fun c => ?_) (fun c => ?_)⟩
  · have c1 : w = "near" := V.str.inj (of_decide_eq_true c)
    rw [if_pos c1] at q
    refine ⟨_, rfl, rfl, _, rfl, ?_⟩
    by_cases d : r = 3
    · rw [decide_eq_true d, Bool.true_or] at q
      rw [dvi, decide_eq_true d]
      exact iteT q
    · rw [decide_eq_false d, Bool.false_or] at q
      rw [dvi, decide_eq_false d]
      refine iteF ?_
      refine ⟨_, rfl, rfl, _, rfl, ?_⟩
      by_cases e : r = 2
      · rw [decide_eq_true e, Bool.true_and, ← dvi] at q
        rw [dvi, decide_eq_true e]
        exact iteT ⟨_, rfl, _, _, rfl, rfl, (by show (0 : Int) < 2; decide), rfl, q⟩
      · rw [decide_eq_false e, Bool.false_and] at q
        rw [dvi, decide_eq_false e]
        exact iteF q
  · have c1 : ¬ w = "near" := fun z => c (decide_eq_true (by rw [z]))
    rw [if_neg c1] at q
    refine ⟨_, rfl, rfl, _, rfl, ?_⟩
    by_cases d : r = 0
    · rw [decide_eq_true d] at q
      rw [dvi, decide_eq_true d]
      exact iteF q
    · rw [decide_eq_false d] at q
      rw [dvi, decide_eq_false d]
      exact iteT ⟨_, rfl, _, rfl, _, _, rfl, q⟩
/-! ### word_beyond, flags_of_rest -/
def spBey (C : Addr) : Sp := fun vs H Q _ => ∃ (x : Addr) (sc tl : Nat) (s : Int) (w : Str), vs = [.ref x, .int s, .str w] ∧ FAt C H x sc tl ∧ (s = 0 ∨ s = 1) ∧ Q (.int (GR.bey sc tl s w)) H
theorem ok_word_beyond (B : Bl mg) (L : LL K mg C a1 a2 a3 a4 a5 a6 a7 a8 a9 a10 a11 a12 a13 a14 a15 a16 a17 a18 a19 a20 a21 a22 a23 a24 a25 a26 a27 a28 a29 a30 a31 a32 a33 a34 a35 a36 a37 a38 a39 a40 a41 a42 a43 a44 a45 a46 a47 a48 a49 a50 a51 a52 l1 l2 l3 l4 l5 l6 l7 l8 l9 l10 l11 l12 l13 l14 l15 l16 l17 l18 l19 l20 l21 l22 l23 l24 l25 l26 l27 l28 l29 l30 l31 l32 l33 l34 l35 l36 l37 l38 l39 l40 l41 l42 l43 l44 l45 l46 l47 l48 l49 l50 l51 l52 t47 t48 t49 tg_NEAR tg_CUT tg_UP tg_DOWN fW) : FnOk P w K mg base CX0 3 a8 l8 ["form", "sign", "way"] (spBey C) := by
  have G_goes_away : FnOk P w K mg base CX0 2 a7 l7 ["way", "sign"] spAway := (ok_goes_away B L).mono (by decide)
  have G_Form_endless : FnOk P w K mg base CX0 2 a48 l48 ["self", "sign"] (spNm C mEn mNo) := (ok_Form_endless B L).mono (by decide)
  have G_Form_greatest : FnOk P w K mg base CX0 2 a49 l49 ["self", "sign"] (spNm C mGr tGr) := (ok_Form_greatest B L).mono (by decide)
  refine L.F_word_beyond.ok sc_word_beyond (fun vs H Q E h => ?_) (fun cdv A outer s H vs Q E hr h => ?_)
  · obtain ⟨x, sc, tl, s, w, rfl, _⟩ := h
    rfl
  obtain ⟨x, sc, tl, s, w, rfl, hF, hs, q⟩ := h
  obtain ⟨dx, hx, h1, h2, h3, h4⟩ := id hF
  refine ⟨_, (pss_cons (ps_if (PW.pt (pw_or (pt_cmpR op_eq (pv 2) (pe_glob (v := .str "near") rfl L.g_NEAR ⟨_, rfl⟩) (nomark _)) (pw_or1 (pt_val (pe_call G_goes_away hr (by rfl) L.m_goes_away L.F_goes_away.kp L.b_goes_away .nil pass0 (pa_cons (pv 2) (pa_cons (pv 1) pa_nil))))))) (pss_one (ps_ret (pe_meth (pv 0) L.T.cl L.M_Form_endless G_Form_endless hr L.b_Form_endless .nil pass0 (pa_cons (pv 1) pa_nil)))) pss_nil)
    (pss_one (ps_ret (pe_meth (pv 0) L.T.cl L.M_Form_greatest G_Form_greatest hr L.b_Form_greatest .nil pass0 (pa_cons (pv 1) pa_nil))))), ?_⟩
  unfold GR.bey at q
  have e1 : (decide (w = "near") || GR.away w s) = true → Q (.int (GR.wrd sc tl s (2 ^ sc - 1) 0)) H := fun z => by
    rw [if_pos z] at q
    exact q
  have e2 : ¬ (decide (w = "near") || GR.away w s) = true → Q (.int (GR.wrd sc tl s (2 ^ sc - 1 - 1) (2 ^ tl - 1))) H := fun z => by
    rw [if_neg z] at q
    exact q
  refine ⟨_, rfl, rfl, _, rfl, ite2 (fun c => ?_) (fun c => ?_)⟩
  · rw [dvs] at c
    exact ⟨_, rfl, x, dx, _, rfl, hx, rfl, _, rfl, x, sc, tl, s, rfl, hF, hs, e1 (by rw [c]; rfl)⟩
  · rw [dvs] at c
    refine ⟨_, rfl, _, rfl, _, _, rfl, _, rfl, ite2 (fun d => ?_) (fun d => ?_)⟩
    · exact ⟨_, rfl, x, dx, _, rfl, hx, rfl, _, rfl, x, sc, tl, s, rfl, hF, hs, e1 (by rw [d, Bool.or_true])⟩
    · exact ⟨_, rfl, x, dx, _, rfl, hx, rfl, _, rfl, x, sc, tl, s, rfl, hF, hs, e2 (by rw [Bool.eq_false_iff.mpr c, Bool.eq_false_iff.mpr d]; decide)⟩
def spFlg (C : Addr) : Sp := fun vs H Q _ => ∃ (x : Addr) (sc tl : Nat) (n p r : Int), vs = [.ref x, .int n, .int p, .int r] ∧ FAt C H x sc tl ∧
  ∀ t H', H t = none → Same H H' → H' t = some (.tup ((GR.flg sc n p r).map V.str)) → Q (.ref t) H'
theorem ok_flags_of_rest (B : Bl mg) (L : LL K mg C a1 a2 a3 a4 a5 a6 a7 a8 a9 a10 a11 a12 a13 a14 a15 a16 a17 a18 a19 a20 a21 a22 a23 a24 a25 a26 a27 a28 a29 a30 a31 a32 a33 a34 a35 a36 a37 a38 a39 a40 a41 a42 a43 a44 a45 a46 a47 a48 a49 a50 a51 a52 l1 l2 l3 l4 l5 l6 l7 l8 l9 l10 l11 l12 l13 l14 l15 l16 l17 l18 l19 l20 l21 l22 l23 l24 l25 l26 l27 l28 l29 l30 l31 l32 l33 l34 l35 l36 l37 l38 l39 l40 l41 l42 l43 l44 l45 l46 l47 l48 l49 l50 l51 l52 t47 t48 t49 tg_NEAR tg_CUT tg_UP tg_DOWN fW) : FnOk P w K mg base CX0 2 a9 l9 ["form", "number", "power", "rest"] (spFlg C) := by
  have G_Form_bias : FnOk P w K mg base CX0 1 a42 l42 ["self"] (spBias C) := (ok_Form_bias B L).mono (by decide)
  refine L.F_flags_of_rest.ok sc_flags_of_rest (fun vs H Q E h => ?_) (fun cdv A outer s H vs Q E hr h => ?_)
  · obtain ⟨x, sc, tl, n, p, r, rfl, _⟩ := h
    rfl
  obtain ⟨x, sc, tl, n, p, r, rfl, hF, q⟩ := h
  obtain ⟨dx, hx, h1, h2, h3, h4⟩ := id hF
  refine ⟨_, (pss_cons (ps_if (pt_cmpR op_eq (pv 3) pe_int (nomark _)) (pss_one (ps_ret (pe_tup pa_nil))) pss_nil)
    (pss_cons (ps_if (pt_cmpR op_le (pe_op op_add (pe_bits (pv 1)) (pv 2)) (pe_op op_sub pe_int (pe_meth0 (pv 0) L.T.cl L.M_Form_bias G_Form_bias hr L.b_Form_bias .nil pass0)) (nomark _)) (pss_one (ps_ret (pe_tup (pa_cons pe_str (pa_cons pe_str pa_nil))))) pss_nil)
    (pss_one (ps_ret (pe_tup (pa_cons pe_str pa_nil)))))), ?_⟩
  unfold GR.flg at q
  refine ⟨_, rfl, rfl, _, rfl, ite2 (fun c => ?_) (fun c => ?_)⟩
  · rw [dvi] at c
    rw [if_pos (of_decide_eq_true c)] at q
    exact ⟨Nat.zero_le _, fun t nt => q t _ nt (same_upd nt) upd_same⟩
  · rw [dvi] at c
    rw [if_neg (of_decide_eq_false (Bool.eq_false_iff.mpr c))] at q
    refine ⟨_, rfl, _, rfl, _, rfl, _, _, rfl, rfl, _, rfl, x, dx, _, rfl, hx, rfl, x, sc, tl, rfl, hF, _, _, rfl, rfl, _, _, rfl, rfl, _, rfl, ite2 (fun d => ?_) (fun d => ?_)⟩
    · have d1 := of_decide_eq_true d
      unfold GR.bl at q
      rw [if_pos d1] at q
      exact ⟨(by show 2 ≤ sizeLine; decide), fun t nt => q t _ nt (same_upd nt) upd_same⟩
    · have d1 := of_decide_eq_false (Bool.eq_false_iff.mpr d)
      unfold GR.bl at q
      rw [if_neg d1] at q
      exact ⟨(by show 1 ≤ sizeLine; decide), fun t nt => q t _ nt (same_upd nt) upd_same⟩
/-! ### rounded -/
/-- at p stands a pair of a word and its flags -/
def PairAt (H : Hp) (p : Addr) (r : Int × List Str) : Prop := ∃ f, H p = some (.tup [.int r.1, .ref f]) ∧ H f = some (.tup (r.2.map V.str))
def spRnd (C : Addr) : Sp := fun vs H Q _ => ∃ (x : Addr) (sc tl : Nat) (s n p : Int) (w : Str) (m : Bool), vs = [.ref x, .int s, .int n, .int p, .str w, .bl m] ∧ FAt C H x sc tl ∧ (s = 0 ∨ s = 1) ∧ Fit n ∧ -4000 ≤ p ∧ p ≤ 4000 ∧ (m = true → n ≠ 0 ∧ p < GR.lap sc tl n p) ∧
  ∀ t H', H t = none → Same H H' → PairAt H' t (GR.rnd sc tl s n p w m) → Q (.ref t) H'
theorem lap_in {sc tl : Nat} {n p : Int} (hf : Fit n) (h1 : -4000 ≤ p) (h2 : p ≤ 4000) (hs : sc ≤ 8) (ht : tl ≤ 24) : -300 ≤ GR.lap sc tl n p ∧ GR.lap sc tl n p ≤ 8000 ∧ GR.lap sc tl n p - p ≤ 5000 ∧ -300 ≤ GR.lea sc tl ∧ GR.lea sc tl ≤ 2 ∧ GR.lea sc tl ≤ GR.lap sc tl n p := by
  have p8 : (2 : Int) ^ (sc - 1) ≤ 2 ^ 7 := GM.pow_le' (by omega)
  have p0 := GM.pow_pos' (sc - 1)
  have hb : GR.bl n ≤ 4000 := by
    have := hf.2
    unfold GR.bl
    omega
  have hb0 : 0 ≤ GR.bl n := by
    unfold GR.bl
    omega
  unfold GR.lap GR.lea
  split <;> omega
theorem cutQ_nn {n b : Int} (h : 0 ≤ n) : 0 ≤ GR.cutQ n b := by
  unfold GR.cutQ
  split
  · exact Int.mul_nonneg h (by have := GM.pow_pos' (-b).toNat; omega)
  · exact Int.ediv_nonneg h (by have := GM.pow_pos' b.toNat; omega)
theorem ok_rounded (B : Bl mg) (L : LL K mg C a1 a2 a3 a4 a5 a6 a7 a8 a9 a10 a11 a12 a13 a14 a15 a16 a17 a18 a19 a20 a21 a22 a23 a24 a25 a26 a27 a28 a29 a30 a31 a32 a33 a34 a35 a36 a37 a38 a39 a40 a41 a42 a43 a44 a45 a46 a47 a48 a49 a50 a51 a52 l1 l2 l3 l4 l5 l6 l7 l8 l9 l10 l11 l12 l13 l14 l15 l16 l17 l18 l19 l20 l21 l22 l23 l24 l25 l26 l27 l28 l29 l30 l31 l32 l33 l34 l35 l36 l37 l38 l39 l40 l41 l42 l43 l44 l45 l46 l47 l48 l49 l50 l51 l52 t47 t48 t49 tg_NEAR tg_CUT tg_UP tg_DOWN fW) : FnOk P w K mg base CX0 4 a4 l4 ["form", "sign", "number", "power", "way", "more"] (spRnd C) := by
  have G_last_power : FnOk P w K mg base CX0 3 a2 l2 ["form", "number", "power"] (spLap C) := (ok_last_power B L).mono (by decide)
  have G_Form_nought : FnOk P w K mg base CX0 3 a47 l47 ["self", "sign"] (spNm C mNo mNo) := (ok_Form_nought B L).mono (by decide)
  have G_parted : FnOk P w K mg base CX0 3 a5 l5 ["number", "by", "more"] spPart := (ok_parted B L).mono (by decide)
  have G_goes_up : FnOk P w K mg base CX0 3 a6 l6 ["way", "sign", "many", "rest"] spUp := (ok_goes_up B L).mono (by decide)
  have G_least_power : FnOk P w K mg base CX0 3 a3 l3 ["form"] (spLea C) := (ok_least_power B L).mono (by decide)
  have G_Form_greatest : FnOk P w K mg base CX0 3 a49 l49 ["self", "sign"] (spNm C mGr tGr) := (ok_Form_greatest B L).mono (by decide)
  have G_word_beyond : FnOk P w K mg base CX0 3 a8 l8 ["form", "sign", "way"] (spBey C) := (ok_word_beyond B L).mono (by decide)
  have G_flags_of_rest : FnOk P w K mg base CX0 3 a9 l9 ["form", "number", "power", "rest"] (spFlg C) := (ok_flags_of_rest B L).mono (by decide)
  refine L.F_rounded.ok sc_rounded (fun vs H Q E h => ?_) (fun cdv A outer s H vs Q E hr h => ?_)
  · obtain ⟨x, sc, tl, s, n, p, w, m, rfl, _⟩ := h
    rfl
  obtain ⟨x, sc, tl, s, n, p, w, m, rfl, hF, hs, hf, hp1, hp2, hm, q⟩ := h
  obtain ⟨dx, hx, h1, h2, h3, h4⟩ := id hF
  refine ⟨_, (pss_cons (ps_if (PW.pt (pw_and (pt_val (pv 5)) (pw_and1 (PW.pt (pw_or (pt_cmpR op_eq (pv 2) pe_int (nomark _)) (pw_or1 (pt_cmpR op_ge (pv 3) (pe_call G_last_power hr (by rfl) L.m_last_power L.F_last_power.kp L.b_last_power .nil pass0 (pa_cons (pv 0) (pa_cons (pv 2) (pa_cons (pv 3) pa_nil)))) (nomark _)))))))) (pss_one ps_never) pss_nil)
    (pss_cons (ps_if (pt_cmpR op_eq (pv 2) pe_int (nomark _)) (pss_one (ps_ret (pe_tup (pa_cons (pe_meth (pv 0) L.T.cl L.M_Form_nought G_Form_nought hr L.b_Form_nought .nil pass0 (pa_cons (pv 1) pa_nil)) (pa_cons (pe_tup pa_nil) pa_nil))))) pss_nil)
    (pss_cons (ps_set (i := 6) sc_rounded.nd rfl (.inl rfl) (pe_call G_last_power hr (by rfl) L.m_last_power L.F_last_power.kp L.b_last_power .nil pass0 (pa_cons (pv 0) (pa_cons (pv 2) (pa_cons (pv 3) pa_nil)))))
    (pss_cons (ps_asg (pe_call G_parted hr (by rfl) L.m_parted L.F_parted.kp L.b_parted .nil pass0 (pa_cons (pv 2) (pa_cons (pe_op op_sub (pv 6) (pv 3)) (pa_cons (pv 5) pa_nil)))) (pg_tup (by rfl) (pgs_cons (pg_name (i := 7) sc_rounded.nd rfl (.inl rfl)) (pgs_cons (pg_name (i := 8) sc_rounded.nd rfl (.inl rfl)) pgs_nil))))
    (pss_cons (ps_if (pt_val (pe_call G_goes_up hr (by rfl) L.m_goes_up L.F_goes_up.kp L.b_goes_up .nil pass0 (pa_cons (pv 4) (pa_cons (pv 1) (pa_cons (pv 7) (pa_cons (pv 8) pa_nil)))))) (pss_one (ps_aug (i := 7) sc_rounded.nd rfl (.inl rfl) pe_int iop_add)) pss_nil)
    (pss_cons (ps_set (i := 9) sc_rounded.nd rfl (.inl rfl) (pe_op op_add (pe_op op_shlN (pe_op op_sub (pv 6) (pe_call G_least_power hr (by rfl) L.m_least_power L.F_least_power.kp L.b_least_power .nil pass0 (pa_cons (pv 0) pa_nil))) (pe_fld (pv 0) rfl)) (pv 7)))
    (pss_cons (ps_if (pt_cmpR op_gt (pv 9) (pe_meth0 (pv 0) L.T.cl L.M_Form_greatest G_Form_greatest hr L.d_Form_greatest (val0 _) pass0) (nomark _)) (pss_one (ps_ret (pe_tup (pa_cons (pe_call G_word_beyond hr (by rfl) L.m_word_beyond L.F_word_beyond.kp L.b_word_beyond .nil pass0 (pa_cons (pv 0) (pa_cons (pv 1) (pa_cons (pv 4) pa_nil)))) (pa_cons (pe_tup (pa_cons pe_str (pa_cons pe_str pa_nil))) pa_nil))))) pss_nil)
    (pss_one (ps_ret (pe_tup (pa_cons (pe_op op_add (pe_meth (pv 0) L.T.cl L.M_Form_nought G_Form_nought hr L.b_Form_nought .nil pass0 (pa_cons (pv 1) pa_nil)) (pv 9)) (pa_cons (pe_call G_flags_of_rest hr (by rfl) L.m_flags_of_rest L.F_flags_of_rest.kp L.b_flags_of_rest .nil pass0 (pa_cons (pv 0) (pa_cons (pv 2) (pa_cons (pv 3) (pa_cons (pv 8) pa_nil))))) pa_nil)))))))))))), ?_⟩
  obtain ⟨i1, i2, i3, i4, i5, i6⟩ := lap_in (sc := sc) (tl := tl) hf hp1 hp2 h2 h4
  -- no refusal
  apply cutP
  case h2 =>
    intro rest
    refine ⟨_, rfl, _, rfl, ite2 (fun c => ?_) (fun c => rest)⟩
    obtain ⟨m1, m2⟩ := hm c
    refine ⟨_, rfl, rfl, _, rfl, ?_⟩
    rw [dvi, decide_eq_false m1]
    refine iteF ?_
    refine ⟨_, rfl, _, rfl, _, rfl, _, rfl, x, sc, tl, n, p, rfl, hF, _, _, rfl, rfl, _, rfl, ?_⟩
    rw [decide_eq_false (by omega)]
    exact iteF rest
  unfold GR.rnd at q
  refine ⟨_, rfl, rfl, _, rfl, ite2 (fun c => ?_) (fun c => ?_)⟩
  · rw [dvi] at c
    rw [if_pos (of_decide_eq_true c)] at q
    refine ⟨_, rfl, x, dx, _, rfl, hx, rfl, _, rfl, x, sc, tl, s, rfl, hF, hs, Nat.zero_le _, fun e ne => ?_⟩
    refine ⟨(by show 2 ≤ sizeLine; decide), fun t nt => ?_⟩
    have se := same_upd (o := .tup []) ne
    have st := same_upd (o := .tup [.int (GR.wrd sc tl s 0 0), .ref e]) nt
    exact q t _ (se.free nt) (se.trans st) ⟨e, upd_same, st _ _ upd_same⟩
  rw [dvi] at c
  rw [if_neg (of_decide_eq_false (Bool.eq_false_iff.mpr c))] at q
  refine ⟨_, rfl, _, rfl, _, rfl, x, sc, tl, n, p, rfl, hF, ?_⟩
  refine ⟨_, rfl, _, rfl, _, rfl, _, _, rfl, rfl, _, rfl, n, _, m, rfl, hf, by omega, by omega, fun pr H1 npr s1 epr => ?_⟩
  refine ⟨pr, _, rfl, .inl (.inl epr), rfl, _, _, rfl, _, _, rfl, rfl, ?_⟩
  have hF1 := hF.same s1
  have hx1 := s1 _ _ hx
  -- behind the step up
  apply cutP
  case h2 =>
    intro rest
    refine ⟨_, rfl, _, rfl, _, rfl, _, rfl, w, s, _, _, rfl, _, rfl, ite2 (fun c2 => ?_) (fun c2 => ?_)⟩
    · refine ⟨_, rfl, _, _, rfl, rfl, ?_⟩
      have e : GR.prQ n (GR.lap sc tl n p - p) + 1 = GR.mny sc tl s n p w m := by
        unfold GR.mny
        rw [if_pos c2]
      dsimp only
      rw [e]
      exact rest
    · have e : GR.prQ n (GR.lap sc tl n p - p) = GR.mny sc tl s n p w m := by
        unfold GR.mny
        rw [if_neg c2]
      dsimp only
      rw [e]
      exact rest
  refine ⟨_, rfl, _, rfl, x, sc, tl, rfl, hF1, _, _, rfl, rfl, _, rfl, x, C, dx, _, _, rfl, hx1, L.T.cl, L.T.nt, fl_t _ _, _, tl, rfl, rfl, shl_ok (n := 14) (by omega) (by omega), _, rfl, _, _, rfl, rfl, ?_⟩
  refine ⟨_, rfl, _, rfl, x, dx, _, rfl, hx1, rfl, x, sc, tl, 0, rfl, hF1, .inl rfl, _, _, rfl, rfl, _, rfl, ite2 (fun c3 => ?_) (fun c3 => ?_)⟩
  · have c4 : GR.siz sc tl s n p w m > GR.wrd sc tl 0 (2 ^ sc - 1 - 1) (2 ^ tl - 1) := of_decide_eq_true c3
    rw [if_pos c4] at q
    refine ⟨_, rfl, _, rfl, _, rfl, x, sc, tl, s, w, rfl, hF1, hs, (by show 2 ≤ sizeLine; decide), fun e ne => ?_⟩
    refine ⟨(by show 2 ≤ sizeLine; decide), fun t nt => ?_⟩
    have se := same_upd (o := .tup [.str "over", .str "rounded"]) ne
    have st := same_upd (o := .tup [.int (GR.bey sc tl s w), .ref e]) nt
    exact q t _ (s1.free (se.free nt)) (s1.trans (se.trans st)) ⟨e, upd_same, st _ _ upd_same⟩
  · have c4 : ¬ GR.siz sc tl s n p w m > GR.wrd sc tl 0 (2 ^ sc - 1 - 1) (2 ^ tl - 1) := of_decide_eq_false (Bool.eq_false_iff.mpr c3)
    rw [if_neg c4] at q
    refine ⟨_, rfl, x, dx, _, rfl, hx1, rfl, _, rfl, x, sc, tl, s, rfl, hF1, hs, _, rfl, _, _, rfl, rfl, ?_⟩
    refine ⟨_, rfl, _, rfl, _, rfl, _, rfl, x, sc, tl, n, p, _, rfl, hF1, fun e H2 ne s2 ee => ?_⟩
    refine ⟨(by show 2 ≤ sizeLine; decide), fun t nt => ?_⟩
    have st := same_upd (o := .tup [.int (GR.wrd sc tl s 0 0 + GR.siz sc tl s n p w m), .ref e]) nt
    exact q t _ (s1.free (s2.free nt)) (s1.trans (s2.trans st)) ⟨e, upd_same, st _ _ ee⟩
end
section
variable {P : Program} {w : World} {K : PySem.W.Frag} {mg : Str → Option Value} {base : Heap}
variable {C : Addr} {a1 a2 a3 a4 a5 a6 a7 a8 a9 a10 a11 a12 a13 a14 a15 a16 a17 a18 a19 a20 a21 a22 a23 a24 a25 a26 a27 a28 a29 a30 a31 a32 a33 a34 a35 a36 a37 a38 a39 a40 a41 a42 a43 a44 a45 a46 a47 a48 a49 a50 a51 a52 : Addr} {l1 l2 l3 l4 l5 l6 l7 l8 l9 l10 l11 l12 l13 l14 l15 l16 l17 l18 l19 l20 l21 l22 l23 l24 l25 l26 l27 l28 l29 l30 l31 l32 l33 l34 l35 l36 l37 l38 l39 l40 l41 l42 l43 l44 l45 l46 l47 l48 l49 l50 l51 l52 : FuncData} {t47 t48 t49 tg_NEAR tg_CUT tg_UP tg_DOWN : Tok} {fW : Addr}
/-! ### parts, sorts and worths of words -/
def spParts (C : Addr) : Sp := fun vs H Q _ => ∃ (x : Addr) (sc tl : Nat) (v : Int), vs = [.ref x, .int v] ∧ FAt C H x sc tl ∧
  ∀ p, H p = none → Q (.ref p) (upd H p (.tup [.int (GM.sgn sc tl v), .int (GM.scl sc tl v), .int (GM.tlp tl v)]))
theorem ok_Form_parts (B : Bl mg) (L : LL K mg C a1 a2 a3 a4 a5 a6 a7 a8 a9 a10 a11 a12 a13 a14 a15 a16 a17 a18 a19 a20 a21 a22 a23 a24 a25 a26 a27 a28 a29 a30 a31 a32 a33 a34 a35 a36 a37 a38 a39 a40 a41 a42 a43 a44 a45 a46 a47 a48 a49 a50 a51 a52 l1 l2 l3 l4 l5 l6 l7 l8 l9 l10 l11 l12 l13 l14 l15 l16 l17 l18 l19 l20 l21 l22 l23 l24 l25 l26 l27 l28 l29 l30 l31 l32 l33 l34 l35 l36 l37 l38 l39 l40 l41 l42 l43 l44 l45 l46 l47 l48 l49 l50 l51 l52 t47 t48 t49 tg_NEAR tg_CUT tg_UP tg_DOWN fW) : FnOk P w K mg base CX0 2 a44 l44 ["self", "word"] (spParts C) := by
  have G_Form_top : FnOk P w K mg base CX0 1 a43 l43 ["self"] (spTop C) := (ok_Form_top B L).mono (by decide)
  refine L.F_Form_parts.ok sc_Form_parts (fun vs H Q E h => ?_) (fun cdv A outer s H vs Q E hr h => ?_)
  · obtain ⟨x, sc, tl, v, rfl, _⟩ := h
    rfl
  obtain ⟨x, sc, tl, v, rfl, hF, q⟩ := h
  obtain ⟨dx, hx, h1, h2, h3, h4⟩ := id hF
  refine ⟨_, (pss_cons (ps_set (i := 2) sc_Form_parts.nd rfl (.inl rfl) (pe_op op_andM (pe_op op_shrN (pv 1) (pe_op op_add (pe_fld (pv 0) rfl) (pe_fld (pv 0) rfl))) pe_int))
    (pss_cons (ps_set (i := 3) sc_Form_parts.nd rfl (.inl rfl) (pe_op op_andM (pe_op op_shrN (pv 1) (pe_fld (pv 0) rfl)) (pe_meth0 (pv 0) L.T.cl L.M_Form_top G_Form_top hr L.b_Form_top .nil pass0)))
    (pss_cons (ps_set (i := 4) sc_Form_parts.nd rfl (.inl rfl) (pe_op op_andM (pv 1) (pe_op op_sub (pe_op op_oneShl pe_int (pe_fld (pv 0) rfl)) pe_int)))
    (pss_one (ps_ret (pe_tup (pa_cons (pv 2) (pa_cons (pv 3) (pa_cons (pv 4) pa_nil))))))))), ?_⟩
  refine ⟨_, rfl, _, rfl, x, C, dx, _, _, rfl, hx, L.T.cl, L.T.ns, fl_s _ _, _, rfl, x, C, dx, _, _, rfl, hx, L.T.cl, L.T.nt, fl_t _ _, _, _, rfl, rfl, _, sc + tl, rfl, rfl, _, 1, rfl, rfl, ?_⟩
  refine ⟨_, rfl, _, rfl, x, C, dx, _, _, rfl, hx, L.T.cl, L.T.nt, fl_t _ _, _, tl, rfl, rfl, _, rfl, x, dx, _, rfl, hx, rfl, x, sc, tl, rfl, hF, _, sc, rfl, rfl, ?_⟩
  refine ⟨_, rfl, _, rfl, x, C, dx, _, _, rfl, hx, L.T.cl, L.T.nt, fl_t _ _, tl, rfl, rfl, by omega, _, _, rfl, rfl, _, tl, rfl, rfl, ?_⟩
  refine ⟨_, rfl, _, rfl, _, rfl, (by show 3 ≤ sizeLine; decide), fun p np => ?_⟩
  exact q p np
def srt (m t : Nat) (s : Int) : Str := if GM.topS m t ≤ s then (if s = GM.topS m t then "endless" else "none") else if s = 0 then "nought" else if s / 2 ^ t = 0 then "small" else "plain"
theorem str_ne {a b : Str} (h : decide (a = b) = false) : a ≠ b := of_decide_eq_false h
theorem srt_none (m t : Nat) (s : Int) : srt m t s = "none" ↔ GM.topS m t < s := by
  unfold srt
  constructor
  · intro h
    by_cases c : GM.topS m t ≤ s
    · rw [if_pos c] at h
      by_cases e : s = GM.topS m t
      · rw [if_pos e] at h
        exact absurd h (by decide +kernel)
      · omega
    · rw [if_neg c] at h
      by_cases e : s = 0
      · rw [if_pos e] at h
        exact absurd h (by decide +kernel)
      · rw [if_neg e] at h
        by_cases e2 : s / 2 ^ t = 0
        · rw [if_pos e2] at h
          exact absurd h (by decide +kernel)
        · rw [if_neg e2] at h
          exact absurd h (by decide +kernel)
  · intro h
    rw [if_pos (by omega), if_neg (by omega)]
theorem srt_endless {m t : Nat} {s : Int} (h : ¬ GM.topS m t < s) : srt m t s = "endless" ↔ s = GM.topS m t := by
  unfold srt
  constructor
  · intro q
    by_cases c : GM.topS m t ≤ s
    · omega
    · rw [if_neg c] at q
      by_cases e : s = 0
      · rw [if_pos e] at q
        exact absurd q (by decide +kernel)
      · rw [if_neg e] at q
        by_cases e2 : s / 2 ^ t = 0
        · rw [if_pos e2] at q
          exact absurd q (by decide +kernel)
        · rw [if_neg e2] at q
          exact absurd q (by decide +kernel)
  · intro q
    rw [if_pos (by omega), if_pos q]
theorem srt_parts {m t : Nat} (hm : 1 ≤ m) {q r : Int} (q0 : 0 ≤ q) (q1 : q < 2 ^ m) (r0 : 0 ≤ r) (r1 : r < 2 ^ t) :
    srt m t (q * 2 ^ t + r) = if q = 0 then (if r = 0 then ("nought" : Str) else ("small" : Str)) else if q = 2 ^ m - 1 then (if r = 0 then ("endless" : Str) else ("none" : Str)) else ("plain" : Str) := by
  have hp := GM.pow_pos' t
  have hm2 : (2 : Int) ^ 1 ≤ 2 ^ m := GM.pow_le' hm
  have hd : (q * 2 ^ t + r) / 2 ^ t = q := by
    rw [Int.add_comm, Int.add_mul_ediv_right _ _ (by omega), Int.ediv_eq_zero_of_lt r0 r1, Int.zero_add]
  have hT : GM.topS m t = 2 ^ m * 2 ^ t - 2 ^ t := by
    unfold GM.topS
    rw [Int.sub_mul, Int.one_mul]
  have hqt : q = 2 ^ m - 1 ∨ (q + 1) * 2 ^ t ≤ (2 ^ m - 1) * 2 ^ t := by
    by_cases e : q = 2 ^ m - 1
    · exact .inl e
    · exact .inr (Int.mul_le_mul_of_nonneg_right (by omega) (by omega))
  unfold srt
  rw [hd]
  by_cases e : q = 2 ^ m - 1
  · have et : q * 2 ^ t = GM.topS m t := by rw [e]; rfl
    rw [if_pos (show GM.topS m t ≤ q * 2 ^ t + r by omega), if_neg (show ¬ q = 0 by omega), if_pos e]
    by_cases z : r = 0
    · rw [if_pos z, if_pos (by omega)]
    · rw [if_neg z, if_neg (by omega)]
  · have hlt : (q + 1) * 2 ^ t ≤ GM.topS m t := by
      rcases hqt with z | z
      · exact absurd z e
      · exact z
    rw [Int.add_mul, Int.one_mul] at hlt
    rw [if_neg (show ¬ GM.topS m t ≤ q * 2 ^ t + r by omega)]
    by_cases z : q = 0
    · rw [if_pos z, if_pos z]
      subst z
      rw [Int.zero_mul, Int.zero_add]
    · have : 1 * 2 ^ t ≤ q * 2 ^ t := Int.mul_le_mul_of_nonneg_right (by omega) (by omega)
      rw [if_neg (show ¬ q * 2 ^ t + r = 0 by omega), if_neg z, if_neg z, if_neg e]
def sz (m t : Nat) (v : Int) : Int := v % 2 ^ (m + t)
def spSort (C : Addr) : Sp := fun vs H Q _ => ∃ (x : Addr) (sc tl : Nat) (v : Int), vs = [.ref x, .int v] ∧ FAt C H x sc tl ∧ ∀ H', Same H H' → Q (.str (srt sc tl (sz sc tl v))) H'
theorem ok_Form_sort_of (B : Bl mg) (L : LL K mg C a1 a2 a3 a4 a5 a6 a7 a8 a9 a10 a11 a12 a13 a14 a15 a16 a17 a18 a19 a20 a21 a22 a23 a24 a25 a26 a27 a28 a29 a30 a31 a32 a33 a34 a35 a36 a37 a38 a39 a40 a41 a42 a43 a44 a45 a46 a47 a48 a49 a50 a51 a52 l1 l2 l3 l4 l5 l6 l7 l8 l9 l10 l11 l12 l13 l14 l15 l16 l17 l18 l19 l20 l21 l22 l23 l24 l25 l26 l27 l28 l29 l30 l31 l32 l33 l34 l35 l36 l37 l38 l39 l40 l41 l42 l43 l44 l45 l46 l47 l48 l49 l50 l51 l52 t47 t48 t49 tg_NEAR tg_CUT tg_UP tg_DOWN fW) : FnOk P w K mg base CX0 3 a46 l46 ["self", "word"] (spSort C) := by
  have G_Form_parts : FnOk P w K mg base CX0 2 a44 l44 ["self", "word"] (spParts C) := (ok_Form_parts B L).mono (by decide)
  have G_Form_top : FnOk P w K mg base CX0 2 a43 l43 ["self"] (spTop C) := (ok_Form_top B L).mono (by decide)
  refine L.F_Form_sort_of.ok sc_Form_sort_of (fun vs H Q E h => ?_) (fun cdv A outer s H vs Q E hr h => ?_)
  · obtain ⟨x, sc, tl, v, rfl, _⟩ := h
    rfl
  obtain ⟨x, sc, tl, v, rfl, hF, q⟩ := h
  obtain ⟨dx, hx, h1, h2, h3, h4⟩ := id hF
  refine ⟨_, (pss_cons (ps_asg (pe_meth (pv 0) L.T.cl L.M_Form_parts G_Form_parts hr L.b_Form_parts .nil pass0 (pa_cons (pv 1) pa_nil)) (pg_tup (by rfl) (pgs_cons (pg_name (i := 2) sc_Form_sort_of.nd rfl (.inl rfl)) (pgs_cons (pg_name (i := 3) sc_Form_sort_of.nd rfl (.inl rfl)) (pgs_cons (pg_name (i := 4) sc_Form_sort_of.nd rfl (.inl rfl)) pgs_nil)))))
    (pss_cons (ps_if (pt_cmpR op_eq (pv 3) pe_int (nomark _)) (pss_one (ps_ret (pe_ifExp (pt_cmpR op_eq (pv 4) pe_int (nomark _)) pe_str pe_str))) pss_nil)
    (pss_cons (ps_if (pt_cmpR op_eq (pv 3) (pe_meth0 (pv 0) L.T.cl L.M_Form_top G_Form_top hr L.b_Form_top .nil pass0) (nomark _)) (pss_one (ps_ret (pe_ifExp (pt_cmpR op_eq (pv 4) pe_int (nomark _)) pe_str pe_str))) pss_nil)
    (pss_one (ps_ret pe_str))))), ?_⟩
  refine ⟨_, rfl, x, dx, _, rfl, hx, rfl, _, rfl, x, sc, tl, v, rfl, hF, fun p np => ?_⟩
  have sp := same_upd (o := .tup [.int (GM.sgn sc tl v), .int (GM.scl sc tl v), .int (GM.tlp tl v)]) np
  refine ⟨p, _, rfl, .inl (.inl upd_same), rfl, _, _, rfl, _, _, rfl, _, _, rfl, rfl, ?_⟩
  have hs := GM.scl_nn sc tl v
  have ht := GM.tlp_nn tl v
  have q' := q _ sp
  rw [show sz sc tl v = GM.scl sc tl v * 2 ^ tl + GM.tlp tl v from (GM.scl_tlp sc tl v).symm, srt_parts (by omega) hs.1 hs.2 ht.1 ht.2] at q'
  refine ⟨_, rfl, rfl, _, rfl, ite2 (fun c => ?_) (fun c => ?_)⟩
  · have c1 : GM.scl sc tl v = 0 := V.int.inj (of_decide_eq_true c)
    rw [if_pos c1] at q'
    refine ⟨_, rfl, rfl, _, rfl, ite2 (fun d => ?_) (fun d => ?_)⟩
    · have d1 : GM.tlp tl v = 0 := V.int.inj (of_decide_eq_true d)
      rw [if_pos d1] at q'
      exact q'
    · have d1 : ¬ GM.tlp tl v = 0 := fun z => d (decide_eq_true (by rw [z]))
      rw [if_neg d1] at q'
      exact q'
  have c1 : ¬ GM.scl sc tl v = 0 := fun z => c (decide_eq_true (by rw [z]))
  rw [if_neg c1] at q'
  refine ⟨_, rfl, _, rfl, x, dx, _, rfl, sp _ _ hx, rfl, x, sc, tl, rfl, hF.same sp, rfl, _, rfl, ite2 (fun c2 => ?_) (fun c2 => ?_)⟩
  · have c3 : GM.scl sc tl v = 2 ^ sc - 1 := V.int.inj (of_decide_eq_true c2)
    rw [if_pos c3] at q'
    refine ⟨_, rfl, rfl, _, rfl, ite2 (fun d => ?_) (fun d => ?_)⟩
    · have d1 : GM.tlp tl v = 0 := V.int.inj (of_decide_eq_true d)
      rw [if_pos d1] at q'
      exact q'
    · have d1 : ¬ GM.tlp tl v = 0 := fun z => d (decide_eq_true (by rw [z]))
      rw [if_neg d1] at q'
      exact q'
  · have c3 : ¬ GM.scl sc tl v = 2 ^ sc - 1 := fun z => c2 (decide_eq_true (by rw [z]))
    rw [if_neg c3] at q'
    exact q'
theorem in_two (x a b : Str) : inV (.str x) [.str a, .str b] = decide (a = x ∨ b = x) := by
  show ((a == x) || ((b == x) || false)) = _
  rw [Bool.or_false, Bool.eq_iff_iff, Bool.or_eq_true, beq_iff_eq, beq_iff_eq, decide_eq_true_iff]
/-! ### sizes by their parts -/
theorem sz_div (m t : Nat) (v : Int) : sz m t v / 2 ^ t = GM.scl m t v := by
  have ht := GM.tlp_nn t v
  have hp := GM.pow_pos' t
  unfold sz
  rw [← GM.scl_tlp, Int.add_comm, Int.add_mul_ediv_right _ _ (by omega), Int.ediv_eq_zero_of_lt ht.1 ht.2, Int.zero_add]
theorem sz_mod (m t : Nat) (v : Int) : sz m t v % 2 ^ t = GM.tlp t v := by
  have ht := GM.tlp_nn t v
  unfold sz
  rw [← GM.scl_tlp, Int.add_comm, Int.add_mul_emod_self_right, Int.emod_eq_of_lt ht.1 ht.2]
theorem top_iff (m t : Nat) (v : Int) : GM.topS m t ≤ sz m t v ↔ GM.scl m t v = 2 ^ m - 1 := by
  have hs := GM.scl_nn m t v
  have ht := GM.tlp_nn t v
  have hp := GM.pow_pos' t
  have e : sz m t v = GM.scl m t v * 2 ^ t + GM.tlp t v := (GM.scl_tlp m t v).symm
  rw [e]
  unfold GM.topS
  constructor
  · intro h
    by_cases c : GM.scl m t v = 2 ^ m - 1
    · exact c
    · have : (GM.scl m t v + 1) * 2 ^ t ≤ (2 ^ m - 1) * 2 ^ t := Int.mul_le_mul_of_nonneg_right (by omega) (by omega)
      rw [Int.add_mul, Int.one_mul] at this
      omega
  · intro h
    rw [h]
    omega
theorem srt_top (m t : Nat) (s : Int) : (srt m t s = "endless" ∨ srt m t s = "none") ↔ GM.topS m t ≤ s := by
  constructor
  · intro h
    by_cases c : GM.topS m t < s
    · omega
    · rcases h with h | h
      · have := (srt_endless c).mp h
        omega
      · have := (srt_none m t s).mp h
        omega
  · intro h
    by_cases c : GM.topS m t < s
    · exact .inr ((srt_none m t s).mpr c)
    · exact .inl ((srt_endless c).mpr (by omega))
def P0 (sc tl : Nat) : Int := 1 - (2 ^ (sc - 1) - 1) - tl
def wn (sc tl : Nat) (v : Int) : Int := if GM.sgn sc tl v = 1 then -(GM.num tl (sz sc tl v)) else GM.num tl (sz sc tl v)
def wp (sc tl : Nat) (v : Int) : Int := P0 sc tl + (GM.ex tl (sz sc tl v) : Nat)
def spNamed0 (C : Addr) : Sp := fun vs H Q _ => ∃ (x : Addr) (sc tl : Nat), vs = [.ref x] ∧ FAt C H x sc tl ∧ Q (.int (0 * 2 ^ (sc + tl) + ((2 ^ sc - 1) * 2 ^ tl + 2 ^ (tl - 1)))) H
theorem ok_Form_none_word (B : Bl mg) (L : LL K mg C a1 a2 a3 a4 a5 a6 a7 a8 a9 a10 a11 a12 a13 a14 a15 a16 a17 a18 a19 a20 a21 a22 a23 a24 a25 a26 a27 a28 a29 a30 a31 a32 a33 a34 a35 a36 a37 a38 a39 a40 a41 a42 a43 a44 a45 a46 a47 a48 a49 a50 a51 a52 l1 l2 l3 l4 l5 l6 l7 l8 l9 l10 l11 l12 l13 l14 l15 l16 l17 l18 l19 l20 l21 l22 l23 l24 l25 l26 l27 l28 l29 l30 l31 l32 l33 l34 l35 l36 l37 l38 l39 l40 l41 l42 l43 l44 l45 l46 l47 l48 l49 l50 l51 l52 t47 t48 t49 tg_NEAR tg_CUT tg_UP tg_DOWN fW) : FnOk P w K mg base CX0 2 a50 l50 ["self"] (spNamed0 C) := by
  have G_Form_word_of : FnOk P w K mg base CX0 1 a45 l45 ["self", "sign", "scale", "tail"] (spWordOf C) := (ok_Form_word_of B L).mono (by decide)
  have G_Form_top : FnOk P w K mg base CX0 1 a43 l43 ["self"] (spTop C) := (ok_Form_top B L).mono (by decide)
  refine L.F_Form_none_word.ok sc_Form_none_word (fun vs H Q E h => ?_) (fun cdv A outer s H vs Q E hr h => ?_)
  · obtain ⟨x, sc, tl, rfl, _⟩ := h
    rfl
  obtain ⟨x, sc, tl, rfl, hF, q⟩ := h
  obtain ⟨dx, hx, h1, h2, h3, h4⟩ := id hF
  have pS := GM.pow_pos' sc
  have pT := GM.pow_pos' tl
  have pT1 := GM.pow_pos' (tl - 1)
  have pTT : (2 : Int) ^ tl = 2 ^ (tl - 1) * 2 := by rw [← GM.pow_s]; congr 1; omega
  refine ⟨_, (pss_one (ps_ret (pe_meth (pv 0) L.T.cl L.M_Form_word_of G_Form_word_of hr L.b_Form_word_of .nil pass0 (pa_cons pe_int (pa_cons (pe_meth0 (pv 0) L.T.cl L.M_Form_top G_Form_top hr L.b_Form_top .nil pass0) (pa_cons (pe_op op_oneShl pe_int (pe_op op_sub (pe_fld (pv 0) rfl) pe_int)) pa_nil)))))), ?_⟩
  exact ⟨_, rfl, x, dx, _, rfl, hx, rfl, _, rfl, x, dx, _, rfl, hx, rfl, x, sc, tl, rfl, hF, _, rfl, x, C, dx, _, _, rfl, hx, L.T.cl, L.T.nt, fl_t _ _, _, _, rfl, rfl, tl - 1, rfl, congrArg V.int (by omega), by omega, x, sc, tl, _, _, _, rfl, hF, .inl rfl, by omega, by omega, by omega, by omega, q⟩

/-! ### worth -/
theorem if_ev {t : TT} {ta tb : TE} {σ : L2.St} {H : Hp} {Q : VK} (R : V → Hp → Prop) (h : ∀ Q : VK, (∀ z H', R z H' → Q z H') → tIf t ta tb σ H Q) (q : ∀ z H', R z H' → Q z H') : tIf t ta tb σ H Q := h Q q
def WorthQ (H : Hp) (Q : VK) (sc tl : Nat) (v : Int) : Prop := (∀ H', Same H H' → GM.topS sc tl ≤ sz sc tl v → Q .non H') ∧ ∀ H' p, Same H H' → ¬ GM.topS sc tl ≤ sz sc tl v → H' p = some (.tup [.int (wn sc tl v), .int (wp sc tl v)]) → Q (.ref p) H'
def spWorth (C : Addr) : Sp := fun vs H Q _ => ∃ (x : Addr) (sc tl : Nat) (v : Int), vs = [.ref x, .int v] ∧ FAt C H x sc tl ∧ WorthQ H Q sc tl v
theorem ok_Form_worth (B : Bl mg) (L : LL K mg C a1 a2 a3 a4 a5 a6 a7 a8 a9 a10 a11 a12 a13 a14 a15 a16 a17 a18 a19 a20 a21 a22 a23 a24 a25 a26 a27 a28 a29 a30 a31 a32 a33 a34 a35 a36 a37 a38 a39 a40 a41 a42 a43 a44 a45 a46 a47 a48 a49 a50 a51 a52 l1 l2 l3 l4 l5 l6 l7 l8 l9 l10 l11 l12 l13 l14 l15 l16 l17 l18 l19 l20 l21 l22 l23 l24 l25 l26 l27 l28 l29 l30 l31 l32 l33 l34 l35 l36 l37 l38 l39 l40 l41 l42 l43 l44 l45 l46 l47 l48 l49 l50 l51 l52 t47 t48 t49 tg_NEAR tg_CUT tg_UP tg_DOWN fW) : FnOk P w K mg base CX0 3 a52 l52 ["self", "word"] (spWorth C) := by
  have G_Form_parts : FnOk P w K mg base CX0 2 a44 l44 ["self", "word"] (spParts C) := (ok_Form_parts B L).mono (by decide)
  have G_Form_top : FnOk P w K mg base CX0 2 a43 l43 ["self"] (spTop C) := (ok_Form_top B L).mono (by decide)
  have G_Form_bias : FnOk P w K mg base CX0 2 a42 l42 ["self"] (spBias C) := (ok_Form_bias B L).mono (by decide)
  refine L.F_Form_worth.ok sc_Form_worth (fun vs H Q E h => ?_) (fun cdv A outer s H vs Q E hr h => ?_)
  · obtain ⟨x, sc, tl, v, rfl, _⟩ := h
    rfl
  obtain ⟨x, sc, tl, v, rfl, hF, qn, qt⟩ := h
  obtain ⟨dx, hx, h1, h2, h3, h4⟩ := id hF
  refine ⟨_, (pss_cons (ps_asg (pe_meth (pv 0) L.T.cl L.M_Form_parts G_Form_parts hr L.b_Form_parts .nil pass0 (pa_cons (pv 1) pa_nil)) (pg_tup (by rfl) (pgs_cons (pg_name (i := 2) sc_Form_worth.nd rfl (.inl rfl)) (pgs_cons (pg_name (i := 3) sc_Form_worth.nd rfl (.inl rfl)) (pgs_cons (pg_name (i := 4) sc_Form_worth.nd rfl (.inl rfl)) pgs_nil)))))
    (pss_cons (ps_if (pt_cmpR op_eq (pv 3) (pe_meth0 (pv 0) L.T.cl L.M_Form_top G_Form_top hr L.b_Form_top .nil pass0) (nomark _)) (pss_one (ps_ret pe_non)) pss_nil)
    (pss_cons (ps_set (i := 5) sc_Form_worth.nd rfl (.inl rfl) (pe_ifExp (pt_cmpR op_eq (pv 3) pe_int (nomark _)) (pv 4) (pe_op op_add (pe_op op_oneShl pe_int (pe_fld (pv 0) rfl)) (pv 4))))
    (pss_cons (ps_set (i := 6) sc_Form_worth.nd rfl (.inl rfl) (pe_op op_sub (pe_op op_sub (pe_callB (call_max2 rfl) (by rfl) B.max boot_max (pa_cons (pv 3) (pa_cons pe_int pa_nil))) (pe_meth0 (pv 0) L.T.cl L.M_Form_bias G_Form_bias hr L.b_Form_bias .nil pass0)) (pe_fld (pv 0) rfl)))
    (pss_one (ps_ret (pe_tup (pa_cons (pe_ifExp (pt_cmpR op_eq (pv 2) pe_int (nomark _)) (pe_un un_neg (pv 5)) (pv 5)) (pa_cons (pv 6) pa_nil))))))))), ?_⟩
  refine ⟨_, rfl, x, dx, _, rfl, hx, rfl, _, rfl, x, sc, tl, v, rfl, hF, fun p np => ?_⟩
  have sp := same_upd (o := .tup [.int (GM.sgn sc tl v), .int (GM.scl sc tl v), .int (GM.tlp tl v)]) np
  refine ⟨p, _, rfl, .inl (.inl upd_same), rfl, _, _, rfl, _, _, rfl, _, _, rfl, rfl, ?_⟩
  have hs := GM.scl_nn sc tl v
  refine ⟨_, rfl, _, rfl, x, dx, _, rfl, sp _ _ hx, rfl, x, sc, tl, rfl, hF.same sp, rfl, _, rfl, ite2 (fun c => ?_) (fun c => ?_)⟩
  · have c1 : GM.scl sc tl v = 2 ^ sc - 1 := V.int.inj (of_decide_eq_true c)
    exact qn _ sp ((top_iff sc tl v).mpr c1)
  have c1 : ¬ GM.scl sc tl v = 2 ^ sc - 1 := fun z => c (decide_eq_true (by rw [z]))
  have c2 : ¬ GM.topS sc tl ≤ sz sc tl v := fun z => c1 ((top_iff sc tl v).mp z)
  try dsimp only [tNext, tSeq, tAsg]
  refine if_ev (fun z H' => z = .int (GM.num tl (sz sc tl v)) ∧ H' = upd H p (.tup [.int (GM.sgn sc tl v), .int (GM.scl sc tl v), .int (GM.tlp tl v)])) (fun Q' q' => ?_) ?_
  · refine ⟨_, rfl, rfl, _, rfl, ite2 (fun d => ?_) (fun d => ?_)⟩
    · have d1 : GM.scl sc tl v = 0 := V.int.inj (of_decide_eq_true d)
      refine ⟨_, rfl, q' _ _ ⟨congrArg V.int ?_, rfl⟩⟩
      unfold GM.num
      rw [sz_div, sz_mod, if_pos d1]
    · have d1 : ¬ GM.scl sc tl v = 0 := fun z => d (decide_eq_true (by rw [z]))
      refine ⟨_, rfl, x, C, dx, _, _, rfl, sp _ _ hx, L.T.cl, L.T.nt, fl_t _ _, tl, rfl, rfl, by omega, _, rfl, _, _, rfl, rfl, q' _ _ ⟨congrArg V.int ?_, rfl⟩⟩
      unfold GM.num
      rw [sz_div, sz_mod, if_neg d1]
  rintro z H' ⟨rfl, rfl⟩
  refine ⟨_, rfl, _, _, rfl, _, rfl, x, dx, _, rfl, sp _ _ hx, rfl, x, sc, tl, rfl, hF.same sp, _, _, rfl, rfl, _, rfl, x, C, dx, _, _, rfl, sp _ _ hx, L.T.cl, L.T.nt, fl_t _ _, _, _, rfl, rfl, ?_⟩
  have ep : (if (1 : Int) > GM.scl sc tl v then 1 else GM.scl sc tl v) - (2 ^ (sc - 1) - 1) - (tl : Int) = wp sc tl v := by
    unfold wp P0 GM.ex
    rw [sz_div]
    split <;> omega
  dsimp only
  rw [ep]
  try dsimp only [gName, tRet, tTup, tCons]
  refine if_ev (fun z H' => z = .int (wn sc tl v) ∧ H' = upd H p (.tup [.int (GM.sgn sc tl v), .int (GM.scl sc tl v), .int (GM.tlp tl v)])) (fun Q' q' => ?_) ?_
  · refine ⟨_, rfl, rfl, _, rfl, ite2 (fun d => ?_) (fun d => ?_)⟩
    · have d1 : GM.sgn sc tl v = 1 := V.int.inj (of_decide_eq_true d)
      refine ⟨_, rfl, _, rfl, q' _ _ ⟨congrArg V.int ?_, rfl⟩⟩
      unfold wn
      rw [if_pos d1]
    · have d1 : ¬ GM.sgn sc tl v = 1 := fun z => d (decide_eq_true (by rw [z]))
      refine ⟨_, rfl, q' _ _ ⟨congrArg V.int ?_, rfl⟩⟩
      unfold wn
      rw [if_neg d1]
  rintro z H' ⟨rfl, rfl⟩
  refine ⟨_, rfl, (by show 2 ≤ sizeLine; decide), fun t nt => ?_⟩
  exact qt _ t (sp.trans (same_upd nt)) c2 upd_same
end
section
variable {P : Program} {w : World} {K : PySem.W.Frag} {mg : Str → Option Value} {base : Heap}
variable {C : Addr} {a1 a2 a3 a4 a5 a6 a7 a8 a9 a10 a11 a12 a13 a14 a15 a16 a17 a18 a19 a20 a21 a22 a23 a24 a25 a26 a27 a28 a29 a30 a31 a32 a33 a34 a35 a36 a37 a38 a39 a40 a41 a42 a43 a44 a45 a46 a47 a48 a49 a50 a51 a52 : Addr} {l1 l2 l3 l4 l5 l6 l7 l8 l9 l10 l11 l12 l13 l14 l15 l16 l17 l18 l19 l20 l21 l22 l23 l24 l25 l26 l27 l28 l29 l30 l31 l32 l33 l34 l35 l36 l37 l38 l39 l40 l41 l42 l43 l44 l45 l46 l47 l48 l49 l50 l51 l52 : FuncData} {t47 t48 t49 tg_NEAR tg_CUT tg_UP tg_DOWN : Tok} {fW : Addr}
/-! ### signs and products -/
def sx (sc tl : Nat) (a b : Int) : Int := if GM.sgn sc tl a = GM.sgn sc tl b then 0 else 1
def spSgn (C : Addr) : Sp := fun vs H Q _ => ∃ (x : Addr) (sc tl : Nat) (v : Int), vs = [.ref x, .int v] ∧ FAt C H x sc tl ∧ ∀ H', Same H H' → Q (.int (GM.sgn sc tl v)) H'
theorem ok_sign_of (B : Bl mg) (L : LL K mg C a1 a2 a3 a4 a5 a6 a7 a8 a9 a10 a11 a12 a13 a14 a15 a16 a17 a18 a19 a20 a21 a22 a23 a24 a25 a26 a27 a28 a29 a30 a31 a32 a33 a34 a35 a36 a37 a38 a39 a40 a41 a42 a43 a44 a45 a46 a47 a48 a49 a50 a51 a52 l1 l2 l3 l4 l5 l6 l7 l8 l9 l10 l11 l12 l13 l14 l15 l16 l17 l18 l19 l20 l21 l22 l23 l24 l25 l26 l27 l28 l29 l30 l31 l32 l33 l34 l35 l36 l37 l38 l39 l40 l41 l42 l43 l44 l45 l46 l47 l48 l49 l50 l51 l52 t47 t48 t49 tg_NEAR tg_CUT tg_UP tg_DOWN fW) : FnOk P w K mg base CX0 3 a18 l18 ["form", "word"] (spSgn C) := by
  have G_Form_parts : FnOk P w K mg base CX0 2 a44 l44 ["self", "word"] (spParts C) := (ok_Form_parts B L).mono (by decide)
  refine L.F_sign_of.ok sc_sign_of (fun vs H Q E h => ?_) (fun cdv A outer s H vs Q E hr h => ?_)
  · obtain ⟨x, sc, tl, v, rfl, _⟩ := h
    rfl
  obtain ⟨x, sc, tl, v, rfl, hF, q⟩ := h
  obtain ⟨dx, hx, h1, h2, h3, h4⟩ := id hF
  refine ⟨_, (pss_one (ps_ret (pe_ix ix_tup (pe_meth (pv 0) L.T.cl L.M_Form_parts G_Form_parts hr L.b_Form_parts .nil pass0 (pa_cons (pv 1) pa_nil)) pe_int (fun _ _ => rfl)))), ?_⟩
  refine ⟨_, rfl, x, dx, _, rfl, hx, rfl, _, rfl, x, sc, tl, v, rfl, hF, fun p np => ?_⟩
  refine ⟨p, _, _, _, rfl, rfl, .inl (.inl upd_same), rfl, ?_⟩
  exact q _ (same_upd np)
def spUnl (C : Addr) : Sp := fun vs H Q _ => ∃ (x : Addr) (sc tl : Nat) (a b : Int), vs = [.ref x, .int a, .int b] ∧ FAt C H x sc tl ∧ ∀ H', Same H H' → Q (.int (sx sc tl a b)) H'
theorem sx_xor (sc tl : Nat) (a b : Int) : Builtin.bitXor (GM.sgn sc tl a) (GM.sgn sc tl b) = sx sc tl a b := by
  have ha := GM.sgn_01 (m := sc) (t := tl) (w := a)
  have hb := GM.sgn_01 (m := sc) (t := tl) (w := b)
  unfold sx
  rcases ha with ha | ha <;> rcases hb with hb | hb <;> rw [ha, hb] <;> decide
theorem ok_unlike_sign (B : Bl mg) (L : LL K mg C a1 a2 a3 a4 a5 a6 a7 a8 a9 a10 a11 a12 a13 a14 a15 a16 a17 a18 a19 a20 a21 a22 a23 a24 a25 a26 a27 a28 a29 a30 a31 a32 a33 a34 a35 a36 a37 a38 a39 a40 a41 a42 a43 a44 a45 a46 a47 a48 a49 a50 a51 a52 l1 l2 l3 l4 l5 l6 l7 l8 l9 l10 l11 l12 l13 l14 l15 l16 l17 l18 l19 l20 l21 l22 l23 l24 l25 l26 l27 l28 l29 l30 l31 l32 l33 l34 l35 l36 l37 l38 l39 l40 l41 l42 l43 l44 l45 l46 l47 l48 l49 l50 l51 l52 t47 t48 t49 tg_NEAR tg_CUT tg_UP tg_DOWN fW) : FnOk P w K mg base CX0 4 a19 l19 ["form", "a", "b"] (spUnl C) := by
  have G_sign_of : FnOk P w K mg base CX0 3 a18 l18 ["form", "word"] (spSgn C) := (ok_sign_of B L).mono (by decide)
  refine L.F_unlike_sign.ok sc_unlike_sign (fun vs H Q E h => ?_) (fun cdv A outer s H vs Q E hr h => ?_)
  · obtain ⟨x, sc, tl, a, b, rfl, _⟩ := h
    rfl
  obtain ⟨x, sc, tl, a, b, rfl, hF, q⟩ := h
  refine ⟨_, (pss_one (ps_ret (pe_op op_xor (pe_call G_sign_of hr (by rfl) L.m_sign_of L.F_sign_of.kp L.b_sign_of .nil pass0 (pa_cons (pv 0) (pa_cons (pv 1) pa_nil))) (pe_call G_sign_of hr (by rfl) L.m_sign_of L.F_sign_of.kp L.b_sign_of .nil pass0 (pa_cons (pv 0) (pa_cons (pv 2) pa_nil)))))), ?_⟩
  refine ⟨_, rfl, _, rfl, x, sc, tl, a, rfl, hF, fun H1 s1 => ?_⟩
  refine ⟨_, rfl, _, rfl, x, sc, tl, b, rfl, hF.same s1, fun H2 s2 => ?_⟩
  have q' := q _ (s1.trans s2)
  rw [← sx_xor] at q'
  exact ⟨_, _, rfl, rfl, q'⟩
def noneW (sc tl : Nat) : Int := (2 ^ sc - 1) * 2 ^ tl + 2 ^ (tl - 1)
def spBad (C : Addr) : Sp := fun vs H Q _ => ∃ (x : Addr) (sc tl : Nat), vs = [.ref x] ∧ FAt C H x sc tl ∧ ∀ t H', H t = none → Same H H' → PairAt H' t (noneW sc tl, ["bad"]) → Q (.ref t) H'
theorem ok_bad (B : Bl mg) (L : LL K mg C a1 a2 a3 a4 a5 a6 a7 a8 a9 a10 a11 a12 a13 a14 a15 a16 a17 a18 a19 a20 a21 a22 a23 a24 a25 a26 a27 a28 a29 a30 a31 a32 a33 a34 a35 a36 a37 a38 a39 a40 a41 a42 a43 a44 a45 a46 a47 a48 a49 a50 a51 a52 l1 l2 l3 l4 l5 l6 l7 l8 l9 l10 l11 l12 l13 l14 l15 l16 l17 l18 l19 l20 l21 l22 l23 l24 l25 l26 l27 l28 l29 l30 l31 l32 l33 l34 l35 l36 l37 l38 l39 l40 l41 l42 l43 l44 l45 l46 l47 l48 l49 l50 l51 l52 t47 t48 t49 tg_NEAR tg_CUT tg_UP tg_DOWN fW) : FnOk P w K mg base CX0 3 a16 l16 ["form"] (spBad C) := by
  have G_Form_none_word : FnOk P w K mg base CX0 2 a50 l50 ["self"] (spNamed0 C) := (ok_Form_none_word B L).mono (by decide)
  refine L.F_bad.ok sc_bad (fun vs H Q E h => ?_) (fun cdv A outer s H vs Q E hr h => ?_)
  · obtain ⟨x, sc, tl, rfl, _⟩ := h
    rfl
  obtain ⟨x, sc, tl, rfl, hF, q⟩ := h
  obtain ⟨dx, hx, h1, h2, h3, h4⟩ := id hF
  refine ⟨_, (pss_one (ps_ret (pe_tup (pa_cons (pe_meth0 (pv 0) L.T.cl L.M_Form_none_word G_Form_none_word hr L.b_Form_none_word .nil pass0) (pa_cons (pe_tup (pa_cons pe_str pa_nil)) pa_nil))))), ?_⟩
  refine ⟨_, rfl, x, dx, _, rfl, hx, rfl, x, sc, tl, rfl, hF, ?_⟩
  refine ⟨(by show 1 ≤ sizeLine; decide), fun e ne => ⟨(by show 2 ≤ sizeLine; decide), fun t nt => ?_⟩⟩
  have se := same_upd (o := .tup [.str "bad"]) ne
  rw [show (0 * 2 ^ (sc + tl) + ((2 ^ sc - 1) * 2 ^ tl + 2 ^ (tl - 1)) : Int) = noneW sc tl by unfold noneW; omega]
  exact q t _ (se.free nt) (se.trans (same_upd nt)) ⟨e, upd_same, same_upd nt _ _ upd_same⟩
def spEBN (C : Addr) : Sp := fun vs H Q _ => ∃ (x : Addr) (sc tl : Nat) (a b : Int), vs = [.ref x, .int a, .int b] ∧ FAt C H x sc tl ∧ ∀ (r : Bool) H', Same H H' → (r = true ↔ (srt sc tl (sz sc tl a) = "endless" ∨ srt sc tl (sz sc tl b) = "endless") ∧ (srt sc tl (sz sc tl a) = "nought" ∨ srt sc tl (sz sc tl b) = "nought")) → Q (.bl r) H'
theorem ok_is_endless_by_nought (B : Bl mg) (L : LL K mg C a1 a2 a3 a4 a5 a6 a7 a8 a9 a10 a11 a12 a13 a14 a15 a16 a17 a18 a19 a20 a21 a22 a23 a24 a25 a26 a27 a28 a29 a30 a31 a32 a33 a34 a35 a36 a37 a38 a39 a40 a41 a42 a43 a44 a45 a46 a47 a48 a49 a50 a51 a52 l1 l2 l3 l4 l5 l6 l7 l8 l9 l10 l11 l12 l13 l14 l15 l16 l17 l18 l19 l20 l21 l22 l23 l24 l25 l26 l27 l28 l29 l30 l31 l32 l33 l34 l35 l36 l37 l38 l39 l40 l41 l42 l43 l44 l45 l46 l47 l48 l49 l50 l51 l52 t47 t48 t49 tg_NEAR tg_CUT tg_UP tg_DOWN fW) : FnOk P w K mg base CX0 4 a17 l17 ["form", "a", "b"] (spEBN C) := by
  have G_Form_sort_of : FnOk P w K mg base CX0 3 a46 l46 ["self", "word"] (spSort C) := (ok_Form_sort_of B L).mono (by decide)
  refine L.F_is_endless_by_nought.ok sc_is_endless_by_nought (fun vs H Q E h => ?_) (fun cdv A outer s H vs Q E hr h => ?_)
  · obtain ⟨x, sc, tl, a, b, rfl, _⟩ := h
    rfl
  obtain ⟨x, sc, tl, a, b, rfl, hF, q⟩ := h
  obtain ⟨dx, hx, h1, h2, h3, h4⟩ := id hF
  refine ⟨_, (pss_cons (ps_set (i := 3) sc_is_endless_by_nought.nd rfl (.inl rfl) (pe_tup (pa_cons (pe_meth (pv 0) L.T.cl L.M_Form_sort_of G_Form_sort_of hr L.b_Form_sort_of .nil pass0 (pa_cons (pv 1) pa_nil)) (pa_cons (pe_meth (pv 0) L.T.cl L.M_Form_sort_of G_Form_sort_of hr L.b_Form_sort_of .nil pass0 (pa_cons (pv 2) pa_nil)) pa_nil))))
    (pss_one (ps_ret (pe_and (pe_cmpR op_in_seq pe_str (pv 3) (by rfl)) (pe_one (pe_cmpR op_in_seq pe_str (pv 3) (by rfl))))))), ?_⟩
  refine ⟨_, rfl, x, dx, _, rfl, hx, rfl, _, rfl, x, sc, tl, a, rfl, hF, fun H1 s1 => ?_⟩
  refine ⟨_, rfl, x, dx, _, rfl, s1 _ _ hx, rfl, _, rfl, x, sc, tl, b, rfl, hF.same s1, fun H2 s2 => ?_⟩
  refine ⟨(by show 2 ≤ sizeLine; decide), fun t nt => ?_⟩
  have ss := (s1.trans s2).trans (same_upd (o := .tup [.str (srt sc tl (sz sc tl a)), .str (srt sc tl (sz sc tl b))]) nt)
  refine ⟨_, rfl, t, _, rfl, .inr (.inl (.inl upd_same)), rfl, rfl, _, rfl, ite2 (fun c => ?_) (fun c => ?_)⟩
  · have c1 := of_decide_eq_true ((in_two _ _ _).symm.trans c)
    refine ⟨_, rfl, t, _, rfl, .inr (.inl (.inl upd_same)), rfl, rfl, ?_⟩
    refine q _ _ ss ?_
    show inV (.str "nought") [.str (srt sc tl (sz sc tl a)), .str (srt sc tl (sz sc tl b))] = true ↔ _
    rw [in_two, decide_eq_true_iff]
    exact ⟨fun z => ⟨c1, z⟩, fun z => z.2⟩
  · refine q _ _ ss ⟨fun z => Bool.noConfusion z, fun z => absurd (show inV (.str "endless") [.str (srt sc tl (sz sc tl a)), .str (srt sc tl (sz sc tl b))] = true by rw [in_two]; exact decide_eq_true z.1) c⟩
theorem wn_25 (sc : Nat) {tl : Nat} (v : Int) (h : tl ≤ 24) : -(2 ^ 25) < wn sc tl v ∧ wn sc tl v < 2 ^ 25 := by
  have hp := GM.pow_pos' tl
  have h24 : (2 : Int) ^ tl ≤ 2 ^ 24 := GM.pow_le' h
  have l := Int.emod_lt_of_pos (sz sc tl v) hp
  have n := Int.emod_nonneg (sz sc tl v) (show (2 : Int) ^ tl ≠ 0 by omega)
  unfold wn GM.num
  constructor <;> split <;> split <;> omega
theorem wn_64 (sc : Nat) {tl : Nat} (v : Int) (h : tl ≤ 24) : -(2 ^ 64) < wn sc tl v ∧ wn sc tl v < 2 ^ 64 := by
  have := wn_25 sc v h
  omega
def spProd (C : Addr) : Sp := fun vs H Q _ => ∃ (x : Addr) (sc tl : Nat) (a b : Int), vs = [.ref x, .int a, .int b] ∧ FAt C H x sc tl ∧
  ((GM.topS sc tl ≤ sz sc tl a ∨ GM.topS sc tl ≤ sz sc tl b) → ∀ H' t, Same H H' → H' t = some (.tup [.int (sx sc tl a b), .non]) → Q (.ref t) H') ∧
  (¬ GM.topS sc tl ≤ sz sc tl a → ¬ GM.topS sc tl ≤ sz sc tl b → ∀ H' t u, Same H H' → H' t = some (.tup [.int (sx sc tl a b), .ref u]) → H' u = some (.tup [.int (wn sc tl a * wn sc tl b), .int (wp sc tl a + wp sc tl b)]) → Q (.ref t) H')
theorem ok_product_of (B : Bl mg) (L : LL K mg C a1 a2 a3 a4 a5 a6 a7 a8 a9 a10 a11 a12 a13 a14 a15 a16 a17 a18 a19 a20 a21 a22 a23 a24 a25 a26 a27 a28 a29 a30 a31 a32 a33 a34 a35 a36 a37 a38 a39 a40 a41 a42 a43 a44 a45 a46 a47 a48 a49 a50 a51 a52 l1 l2 l3 l4 l5 l6 l7 l8 l9 l10 l11 l12 l13 l14 l15 l16 l17 l18 l19 l20 l21 l22 l23 l24 l25 l26 l27 l28 l29 l30 l31 l32 l33 l34 l35 l36 l37 l38 l39 l40 l41 l42 l43 l44 l45 l46 l47 l48 l49 l50 l51 l52 t47 t48 t49 tg_NEAR tg_CUT tg_UP tg_DOWN fW) : FnOk P w K mg base CX0 5 a21 l21 ["form", "a", "b"] (spProd C) := by
  have G_unlike_sign : FnOk P w K mg base CX0 4 a19 l19 ["form", "a", "b"] (spUnl C) := (ok_unlike_sign B L).mono (by decide)
  have G_Form_worth : FnOk P w K mg base CX0 4 a52 l52 ["self", "word"] (spWorth C) := (ok_Form_worth B L).mono (by decide)
  refine L.F_product_of.ok sc_product_of (fun vs H Q E h => ?_) (fun cdv A outer s H vs Q E hr h => ?_)
  · obtain ⟨x, sc, tl, a, b, rfl, _⟩ := h
    rfl
  obtain ⟨x, sc, tl, a, b, rfl, hF, qn, qt⟩ := h
  refine ⟨_, (pss_cons (ps_set (i := 3) sc_product_of.nd rfl (.inl rfl) (pe_call G_unlike_sign hr (by rfl) L.m_unlike_sign L.F_unlike_sign.kp L.b_unlike_sign .nil pass0 (pa_cons (pv 0) (pa_cons (pv 1) (pa_cons (pv 2) pa_nil)))))
    (pss_cons (ps_set (i := 4) sc_product_of.nd rfl (.inl rfl) (pe_meth (pv 0) L.T.cl L.M_Form_worth G_Form_worth hr L.b_Form_worth .nil pass0 (pa_cons (pv 1) pa_nil)))
    (pss_cons (ps_set (i := 5) sc_product_of.nd rfl (.inl rfl) (pe_meth (pv 0) L.T.cl L.M_Form_worth G_Form_worth hr L.b_Form_worth .nil pass0 (pa_cons (pv 2) pa_nil)))
    (pss_cons (ps_if (PW.pt (pw_or (pt_cmpR op_isN (pv 4) pe_non (nomark _)) (pw_or1 (pt_cmpR op_isN (pv 5) pe_non (nomark _))))) (pss_one (ps_ret (pe_tup (pa_cons (pv 3) (pa_cons pe_non pa_nil))))) pss_nil)
    (pss_one (ps_ret (pe_tup (pa_cons (pv 3) (pa_cons (pe_tup (pa_cons (pe_op op_mul (pe_ix ix_tup (pv 4) pe_int (fun _ _ => rfl)) (pe_ix ix_tup (pv 5) pe_int (fun _ _ => rfl))) (pa_cons (pe_op op_add (pe_ix ix_tup (pv 4) pe_int (fun _ _ => rfl)) (pe_ix ix_tup (pv 5) pe_int (fun _ _ => rfl))) pa_nil))) pa_nil))))))))), ?_⟩
  refine ⟨_, rfl, _, rfl, _, rfl, x, sc, tl, a, b, rfl, hF, fun H1 s1 => ?_⟩
  obtain ⟨dx, hx, h1, h2, h3, h4⟩ := id (hF.same s1)
  refine ⟨_, rfl, x, dx, _, rfl, hx, rfl, _, rfl, x, sc, tl, a, rfl, hF.same s1, fun H2 s2 ca => ?_, fun H2 p s2 ca ep => ?_⟩
  · refine ⟨_, rfl, x, dx, _, rfl, s2 _ _ hx, rfl, _, rfl, x, sc, tl, b, rfl, (hF.same s1).same s2, fun H3 s3 cb => ?_, fun H3 p3 s3 cb ep3 => ?_⟩
    · refine ⟨_, rfl, rfl, _, rfl, iteT ?_⟩
      refine ⟨_, rfl, (by show 2 ≤ sizeLine; decide), fun t nt => ?_⟩
      exact qn (.inl ca) _ t (((s1.trans s2).trans s3).trans (same_upd nt)) upd_same
    · refine ⟨_, rfl, rfl, _, rfl, iteT ?_⟩
      refine ⟨_, rfl, (by show 2 ≤ sizeLine; decide), fun t nt => ?_⟩
      exact qn (.inl ca) _ t (((s1.trans s2).trans s3).trans (same_upd nt)) upd_same
  · refine ⟨_, rfl, x, dx, _, rfl, s2 _ _ hx, rfl, _, rfl, x, sc, tl, b, rfl, (hF.same s1).same s2, fun H3 s3 cb => ?_, fun H3 p3 s3 cb ep3 => ?_⟩
    · refine ⟨_, rfl, rfl, _, rfl, iteF ?_⟩
      refine ⟨_, rfl, rfl, _, rfl, iteT ?_⟩
      refine ⟨_, rfl, (by show 2 ≤ sizeLine; decide), fun t nt => ?_⟩
      exact qn (.inr cb) _ t (((s1.trans s2).trans s3).trans (same_upd nt)) upd_same
    · refine ⟨_, rfl, rfl, _, rfl, iteF ?_⟩
      refine ⟨_, rfl, rfl, _, rfl, iteF ?_⟩
      refine ⟨_, rfl, _, rfl, p, _, _, _, rfl, rfl, .inl (.inl (s3 _ _ ep)), rfl, _, rfl, p3, _, _, _, rfl, rfl, .inl (.inl ep3), rfl, _, _, rfl, rfl, .inl (wn_64 sc a h4), ?_⟩
      refine ⟨_, rfl, p, _, _, _, rfl, rfl, .inl (.inl (s3 _ _ ep)), rfl, _, rfl, p3, _, _, _, rfl, rfl, .inl (.inl ep3), rfl, _, _, rfl, rfl, ?_⟩
      refine ⟨(by show 2 ≤ sizeLine; decide), fun u nu => ⟨(by show 2 ≤ sizeLine; decide), fun t nt => ?_⟩⟩
      exact qt ca cb _ t u ((((s1.trans s2).trans s3).trans (same_upd nu)).trans (same_upd nt)) upd_same (same_upd nt _ _ upd_same)
/-! ### turned words -/
def trn (sc tl : Nat) (v : Int) : Int := (1 - GM.sgn sc tl v) * 2 ^ (sc + tl) + sz sc tl v
def spTurned (C : Addr) : Sp := fun vs H Q _ => ∃ (x : Addr) (sc tl : Nat) (v : Int), vs = [.ref x, .int v] ∧ FAt C H x sc tl ∧ ∀ H', Same H H' → Q (.int (trn sc tl v)) H'
theorem ok_Form_turned (B : Bl mg) (L : LL K mg C a1 a2 a3 a4 a5 a6 a7 a8 a9 a10 a11 a12 a13 a14 a15 a16 a17 a18 a19 a20 a21 a22 a23 a24 a25 a26 a27 a28 a29 a30 a31 a32 a33 a34 a35 a36 a37 a38 a39 a40 a41 a42 a43 a44 a45 a46 a47 a48 a49 a50 a51 a52 l1 l2 l3 l4 l5 l6 l7 l8 l9 l10 l11 l12 l13 l14 l15 l16 l17 l18 l19 l20 l21 l22 l23 l24 l25 l26 l27 l28 l29 l30 l31 l32 l33 l34 l35 l36 l37 l38 l39 l40 l41 l42 l43 l44 l45 l46 l47 l48 l49 l50 l51 l52 t47 t48 t49 tg_NEAR tg_CUT tg_UP tg_DOWN fW) : FnOk P w K mg base CX0 3 a51 l51 ["self", "word"] (spTurned C) := by
  have G_Form_parts : FnOk P w K mg base CX0 2 a44 l44 ["self", "word"] (spParts C) := (ok_Form_parts B L).mono (by decide)
  have G_Form_word_of : FnOk P w K mg base CX0 2 a45 l45 ["self", "sign", "scale", "tail"] (spWordOf C) := (ok_Form_word_of B L).mono (by decide)
  refine L.F_Form_turned.ok sc_Form_turned (fun vs H Q E h => ?_) (fun cdv A outer s H vs Q E hr h => ?_)
  · obtain ⟨x, sc, tl, v, rfl, _⟩ := h
    rfl
  obtain ⟨x, sc, tl, v, rfl, hF, q⟩ := h
  obtain ⟨dx, hx, h1, h2, h3, h4⟩ := id hF
  refine ⟨_, (pss_cons (ps_asg (pe_meth (pv 0) L.T.cl L.M_Form_parts G_Form_parts hr L.b_Form_parts .nil pass0 (pa_cons (pv 1) pa_nil)) (pg_tup (by rfl) (pgs_cons (pg_name (i := 2) sc_Form_turned.nd rfl (.inl rfl)) (pgs_cons (pg_name (i := 3) sc_Form_turned.nd rfl (.inl rfl)) (pgs_cons (pg_name (i := 4) sc_Form_turned.nd rfl (.inl rfl)) pgs_nil)))))
    (pss_one (ps_ret (pe_meth (pv 0) L.T.cl L.M_Form_word_of G_Form_word_of hr L.b_Form_word_of .nil pass0 (pa_cons (pe_op op_sub pe_int (pv 2)) (pa_cons (pv 3) (pa_cons (pv 4) pa_nil))))))), ?_⟩
  refine ⟨_, rfl, x, dx, _, rfl, hx, rfl, _, rfl, x, sc, tl, v, rfl, hF, fun p np => ?_⟩
  have sp := same_upd (o := .tup [.int (GM.sgn sc tl v), .int (GM.scl sc tl v), .int (GM.tlp tl v)]) np
  refine ⟨p, _, rfl, .inl (.inl upd_same), rfl, _, _, rfl, _, _, rfl, _, _, rfl, rfl, ?_⟩
  have hs := GM.scl_nn sc tl v
  have ht := GM.tlp_nn tl v
  have h01 := GM.sgn_01 (m := sc) (t := tl) (w := v)
  have q' := q _ sp
  unfold trn at q'
  rw [show sz sc tl v = GM.scl sc tl v * 2 ^ tl + GM.tlp tl v from (GM.scl_tlp sc tl v).symm] at q'
  exact ⟨_, rfl, x, dx, _, rfl, sp _ _ hx, rfl, _, rfl, _, _, rfl, rfl, _, rfl, _, rfl, x, sc, tl, _, _, _, rfl, hF.same sp, by omega, hs.1, hs.2, ht.1, ht.2, q'⟩
theorem snoc_take {α β : Type} (xs : List α) (f : α → β) {i : Nat} {a : α} (h : xs[i]? = some a) : (xs.take (i + 1)).map f = (xs.take i).map f ++ [f a] := by
  rw [List.take_add_one, h, List.map_append]
  rfl
theorem len_take {α β : Type} (xs : List α) (f : α → β) (i : Nat) (h : xs.length ≤ 900) : ((xs.take i).map f).length < sizeLine := by
  rw [List.length_map, List.length_take]
  exact small1000 (by omega)
theorem at_int' {xs : List Int} {i : Nat} {x : V} (h : (xs.map V.int)[i]? = some x) : ∃ v, xs[i]? = some v ∧ x = .int v := by
  rw [List.getElem?_map] at h
  cases e : xs[i]? with
  | none => rw [e] at h; cases h
  | some z => rw [e] at h; exact ⟨z, rfl, (Option.some.inj h).symm⟩
def spHN (K : PySem.W.Frag) (C : Addr) : Sp := fun vs H Q _ => ∃ (x t : Addr) (sc tl : Nat) (xs : List Int), vs = [.ref x, .ref t] ∧ FAt C H x sc tl ∧ SqT K H t (xs.map V.int) ∧ xs.length ≤ 900 ∧ ∀ (r : Bool) H', Same H H' → (r = true ↔ ∃ v ∈ xs, srt sc tl (sz sc tl v) = "none") → Q (.bl r) H'
theorem in_strs (x : Str) (ys : List Str) : inV (.str x) (ys.map V.str) = true ↔ x ∈ ys := by
  induction ys with
  | nil => exact ⟨fun z => Bool.noConfusion z, fun z => nomatch z⟩
  | cons y ys ih =>
    show ((y == x) || inV (.str x) (ys.map V.str)) = true ↔ _
    rw [Bool.or_eq_true, beq_iff_eq, ih, List.mem_cons]
    exact ⟨fun z => z.imp Eq.symm id, fun z => z.imp Eq.symm id⟩
theorem flat_strs (ys : List Str) : (ys.map V.str).all flatV = true := by
  induction ys with
  | nil => rfl
  | cons y ys ih => exact ih
theorem ok_has_none (B : Bl mg) (L : LL K mg C a1 a2 a3 a4 a5 a6 a7 a8 a9 a10 a11 a12 a13 a14 a15 a16 a17 a18 a19 a20 a21 a22 a23 a24 a25 a26 a27 a28 a29 a30 a31 a32 a33 a34 a35 a36 a37 a38 a39 a40 a41 a42 a43 a44 a45 a46 a47 a48 a49 a50 a51 a52 l1 l2 l3 l4 l5 l6 l7 l8 l9 l10 l11 l12 l13 l14 l15 l16 l17 l18 l19 l20 l21 l22 l23 l24 l25 l26 l27 l28 l29 l30 l31 l32 l33 l34 l35 l36 l37 l38 l39 l40 l41 l42 l43 l44 l45 l46 l47 l48 l49 l50 l51 l52 t47 t48 t49 tg_NEAR tg_CUT tg_UP tg_DOWN fW) : FnOk P w K mg base CX0 4 a15 l15 ["form", "words"] (spHN K C) := by
  have G_Form_sort_of : FnOk P w K mg base CX0 3 a46 l46 ["self", "word"] (spSort C) := (ok_Form_sort_of B L).mono (by decide)
  refine L.F_has_none.ok sc_has_none (fun vs H Q E h => ?_) (fun cdv A outer s H vs Q E hr h => ?_)
  · obtain ⟨x, t, sc, tl, xs, rfl, _⟩ := h
    rfl
  obtain ⟨x, t, sc, tl, xs, rfl, hF, hT, hl, q⟩ := h
  obtain ⟨dx, hx, h1, h2, h3, h4⟩ := id hF
  refine ⟨_, (pss_one (ps_ret (pe_cmpR op_in_seq pe_str (pe_lc (own := [("word", 2)]) (by rfl) sc_has_none.nd (pi_tup (pv 1)) (blkOk_by (own := [("word", 2)]) (N := ["form", "words", "word"]) (sc := defScope s_has_none) (by decide +kernel)) (fun _ _ _ _ _ => pg_name (i := 2) sc_has_none.nd rfl (Or.inl rfl)) (fun _ _ _ _ _ => pts_nil) (fun _ _ _ _ _ => (pe_meth (pv 0) L.T.cl L.M_Form_sort_of G_Form_sort_of hr L.b_Form_sort_of .nil pass0 (pa_cons (pv 2) pa_nil)))) (by rfl)))), ?_⟩
  refine ⟨_, rfl, t, rfl, ⟨_, hT⟩, fun D nD => ?_⟩
  refine lc_it (walk_tup (K := K) (a := t) (xs := xs.map V.int)) (fun i H9 => Same H H9 ∧ H9 D = some (.lst ((xs.take i).map fun v => V.str (srt sc tl (sz sc tl v))))) ⟨same_upd nD, upd_same⟩ (fun i H9 _ ⟨s9, _⟩ => Same.seqT s9 hT) ?_ ?_
  · rintro j z H9 H10 hj ⟨s9, eD3⟩ ⟨rfl, hz⟩
    obtain ⟨v, hv, rfl⟩ := at_int' hz
    refine ⟨rfl, yesT ?_⟩
    refine ⟨_, rfl, x, dx, _, rfl, s9 _ _ hx, rfl, _, rfl, x, sc, tl, v, rfl, hF.same s9, fun H11 s11 => ?_⟩
    refine ⟨_, s11 _ _ eD3, len_take _ _ _ hl, fun y u e => ?_, ?_⟩
    · rw [upd_ne (ne_of_none e nD)]
      exact s11 _ _ (s9 _ _ e)
    · rw [upd_same, snoc_take _ _ hv]
  rintro H9 ⟨s9, eD⟩
  rw [List.length_map, List.take_length] at eD
  have eD' : H9 D = some (.lst ((xs.map fun v => srt sc tl (sz sc tl v)).map V.str)) := by
    rw [eD, List.map_map]
    rfl
  refine ⟨D, _, rfl, .inl (SqL.of eD'), rfl, flat_strs _, ?_⟩
  refine q _ _ s9 ?_
  show inV (.str "none") _ = true ↔ _
  rw [in_strs, List.mem_map]
end
section
variable {P : Program} {w : World} {K : PySem.W.Frag} {mg : Str → Option Value} {base : Heap}
variable {C : Addr} {a1 a2 a3 a4 a5 a6 a7 a8 a9 a10 a11 a12 a13 a14 a15 a16 a17 a18 a19 a20 a21 a22 a23 a24 a25 a26 a27 a28 a29 a30 a31 a32 a33 a34 a35 a36 a37 a38 a39 a40 a41 a42 a43 a44 a45 a46 a47 a48 a49 a50 a51 a52 : Addr} {l1 l2 l3 l4 l5 l6 l7 l8 l9 l10 l11 l12 l13 l14 l15 l16 l17 l18 l19 l20 l21 l22 l23 l24 l25 l26 l27 l28 l29 l30 l31 l32 l33 l34 l35 l36 l37 l38 l39 l40 l41 l42 l43 l44 l45 l46 l47 l48 l49 l50 l51 l52 : FuncData} {t47 t48 t49 tg_NEAR tg_CUT tg_UP tg_DOWN : Tok} {fW : Addr}
def spForm : Sp := fun vs H Q _ => ∃ (b : Addr) (c : Int), vs = [.ref b] ∧ BoxAt c H b ∧ c ≤ 900000000 ∧
  ∀ (p : Addr) (sc tl : Nat) (H' : Hp), H' p = some (.tup [.int (sc : Int), .int (tl : Int)]) → 2 ≤ sc → sc ≤ 8 → 1 ≤ tl → tl ≤ 24 → BoxAt (c + 5) H' b → Keep b H H' → Q (.ref p) H'
theorem ok__law_form (B : Bl mg) (L : LL K mg C a1 a2 a3 a4 a5 a6 a7 a8 a9 a10 a11 a12 a13 a14 a15 a16 a17 a18 a19 a20 a21 a22 a23 a24 a25 a26 a27 a28 a29 a30 a31 a32 a33 a34 a35 a36 a37 a38 a39 a40 a41 a42 a43 a44 a45 a46 a47 a48 a49 a50 a51 a52 l1 l2 l3 l4 l5 l6 l7 l8 l9 l10 l11 l12 l13 l14 l15 l16 l17 l18 l19 l20 l21 l22 l23 l24 l25 l26 l27 l28 l29 l30 l31 l32 l33 l34 l35 l36 l37 l38 l39 l40 l41 l42 l43 l44 l45 l46 l47 l48 l49 l50 l51 l52 t47 t48 t49 tg_NEAR tg_CUT tg_UP tg_DOWN fW) : FnOk P w K mg base CX0 2 a32 l32 ["_law_box_here"] spForm := by
  have G__law_take : FnOk P w K mg base CX0 1 a29 l29 ["_law_box_here", "_law_size"] (spTake 1) := (ok_take L.F__law_take L.b__law_take L.m__law_take B 1).mono (by decide)
  refine L.F__law_form.ok sc__law_form (fun vs H Q E h => ?_) (fun cdv A outer s H vs Q E hr h => ?_)
  · obtain ⟨b, c, rfl, _⟩ := h
    rfl
  obtain ⟨b, c, rfl, hB, hc, q⟩ := h
  refine ⟨_, (pss_cons (ps_set (i := 1) sc__law_form.nd rfl (.inl rfl) (pe_lst (pa_cons (pe_tup (pa_cons (pe_op op_add pe_int (pe_call G__law_take hr (by rfl) L.m__law_take L.F__law_take.kp L.b__law_take .nil pass0 (pa_cons (pv 0) (pa_cons pe_int pa_nil)))) (pa_cons (pe_op op_add pe_int (pe_call G__law_take hr (by rfl) L.m__law_take L.F__law_take.kp L.b__law_take .nil pass0 (pa_cons (pv 0) (pa_cons pe_int pa_nil)))) pa_nil))) (pa_cons (pe_tup (pa_cons (pe_op op_add pe_int (pe_call G__law_take hr (by rfl) L.m__law_take L.F__law_take.kp L.b__law_take .nil pass0 (pa_cons (pv 0) (pa_cons pe_int pa_nil)))) (pa_cons (pe_op op_add pe_int (pe_call G__law_take hr (by rfl) L.m__law_take L.F__law_take.kp L.b__law_take .nil pass0 (pa_cons (pv 0) (pa_cons pe_int pa_nil)))) pa_nil))) (pa_cons (pe_tup (pa_cons pe_int (pa_cons pe_int pa_nil))) pa_nil)))))
    (pss_one (ps_ret (pe_ix ix_list (pv 1) (pe_ix ix_list (pe_lst (pa_cons pe_int (pa_cons pe_int (pa_cons pe_int (pa_cons pe_int (pa_cons pe_int (pa_cons pe_int pa_nil))))))) (pe_call G__law_take hr (by rfl) L.m__law_take L.F__law_take.kp L.b__law_take .nil pass0 (pa_cons (pv 0) (pa_cons pe_int pa_nil))) (fun _ _ => rfl)) (fun _ _ => rfl))))), ?_⟩
  refine ⟨_, rfl, b, _, _, rfl, hB, (by decide), (by decide), (by decide), (by omega), (by decide), fun r1 H1 a1 a1' B1 k1 => ?_⟩
  replace B1 := bx1 B1
  refine ⟨_, _, rfl, rfl, _, rfl, b, _, _, rfl, B1, (by decide), (by decide), (by decide), (by omega), (by decide), fun r2 H2 a2 a2' B2 k2 => ?_⟩
  replace B2 := bx1 B2
  refine ⟨_, _, rfl, rfl, (by show 2 ≤ sizeLine; decide), fun t1 n1 => ?_⟩
  have n1b : t1 ≠ b := (B2.ne n1).symm
  refine ⟨_, rfl, b, _, _, rfl, B2.same (same_upd n1), (by decide), (by decide), (by decide), (by omega), (by decide), fun r3 H3 a3 a3' B3 k3 => ?_⟩
  replace B3 := bx1 B3
  have e1 := k3 _ _ upd_same n1b
  refine ⟨_, _, rfl, rfl, _, rfl, b, _, _, rfl, B3, (by decide), (by decide), (by decide), (by omega), (by decide), fun r4 H4 a4 a4' B4 k4 => ?_⟩
  replace B4 := bx1 B4
  have e1' := k4 _ _ e1 n1b
  refine ⟨_, _, rfl, rfl, (by show 2 ≤ sizeLine; decide), fun t2 n2 => ?_⟩
  refine ⟨(by show 2 ≤ sizeLine; decide), fun t3 n3 => ?_⟩
  refine ⟨(by show 3 ≤ sizeLine; decide), fun so nso => ?_⟩
  refine ⟨_, rfl, (by show 6 ≤ sizeLine; decide), fun ix nix => ?_⟩
  have s1 := same_upd (o := .tup [.int (2 + r3), .int (1 + r4)]) n2
  have s2 := same_upd (o := .tup [.int 8, .int 23]) n3
  have s3 := same_upd (o := .lst [.ref t1, .ref t2, .ref t3]) nso
  have s4 := same_upd (o := .lst [.int 0, .int 0, .int 1, .int 1, .int 1, .int 2]) nix
  have B5 := (((B4.same s1).same s2).same s3).same s4
  have n2b : t2 ≠ b := (B4.ne n2).symm
  have n3b : t3 ≠ b := ((B4.same s1).ne n3).symm
  have nsb : so ≠ b := (((B4.same s1).same s2).ne nso).symm
  have nxb : ix ≠ b := ((((B4.same s1).same s2).same s3).ne nix).symm
  refine ⟨_, rfl, b, _, _, rfl, B5, (by decide), (by decide), (by decide), (by omega), (by decide), fun r5 H5 a5 a5' B6 k5 => ?_⟩
  replace B6 := bx1 B6
  have ex := k5 _ _ upd_same nxb
  have es := k5 _ _ (s4 _ _ upd_same) nsb
  have f1 := k5 _ _ (s4 _ _ (s3 _ _ (s2 _ _ (s1 _ _ e1')))) n1b
  have f2 := k5 _ _ (s4 _ _ (s3 _ _ (s2 _ _ upd_same))) n2b
  have f3 := k5 _ _ (s4 _ _ (s3 _ _ upd_same)) n3b
  have kk : Keep b H H5 := (((k1.trans k2).trans ((Keep.new n1).trans k3)).trans k4).trans ((Keep.ofSame (s1.trans (s2.trans (s3.trans s4)))).trans k5)
  obtain ⟨j, hj, hj3⟩ : ∃ j : Nat, atI ([.int 0, .int 0, .int 1, .int 1, .int 1, .int 2] : List V) r5 = some (.int (j : Int)) ∧ j < 3 := by
    have c3 : r5 = 0 ∨ r5 = 1 ∨ r5 = 2 ∨ r5 = 3 ∨ r5 = 4 ∨ r5 = 5 := by omega
    rcases c3 with z | z | z | z | z | z <;> subst z
    · exact ⟨0, rfl, by decide⟩
    · exact ⟨0, rfl, by decide⟩
    · exact ⟨1, rfl, by decide⟩
    · exact ⟨1, rfl, by decide⟩
    · exact ⟨1, rfl, by decide⟩
    · exact ⟨2, rfl, by decide⟩
  obtain ⟨p, sc, tl, hp, ep, b1, b2, b3, b4⟩ : ∃ (p : Addr) (sc tl : Nat), atI ([.ref t1, .ref t2, .ref t3] : List V) (j : Int) = some (.ref p) ∧ H5 p = some (.tup [.int (sc : Int), .int (tl : Int)]) ∧ 2 ≤ sc ∧ sc ≤ 8 ∧ 1 ≤ tl ∧ tl ≤ 24 := by
    match j, hj3 with
    | 0, _ => exact ⟨t1, (2 + r1).toNat, (1 + r2).toNat, rfl, by rw [Int.toNat_of_nonneg (by omega), Int.toNat_of_nonneg (by omega)]; exact f1, by omega, by omega, by omega, by omega⟩
    | 1, _ => exact ⟨t2, (2 + r3).toNat, (1 + r4).toNat, rfl, by rw [Int.toNat_of_nonneg (by omega), Int.toNat_of_nonneg (by omega)]; exact f2, by omega, by omega, by omega, by omega⟩
    | 2, _ => exact ⟨t3, 8, 23, rfl, f3, by omega, by omega, by omega, by omega⟩
  refine ⟨ix, _, _, _, rfl, rfl, SqL.of ex, hj, ?_⟩
  refine ⟨so, _, _, _, rfl, rfl, SqL.of es, hp, ?_⟩
  exact q p sc tl H5 ep b1 b2 b3 b4 (B6.mono (by omega)) kk
theorem bx2 {c : Int} {H : Hp} {b : Addr} (h : BoxAt (c + 2 ^ (2 - 1)) H b) : BoxAt (c + 2) H b := h
end
section
variable {P : Program} {w : World} {K : PySem.W.Frag} {mg : Str → Option Value} {base : Heap}
variable {C : Addr} {a1 a2 a3 a4 a5 a6 a7 a8 a9 a10 a11 a12 a13 a14 a15 a16 a17 a18 a19 a20 a21 a22 a23 a24 a25 a26 a27 a28 a29 a30 a31 a32 a33 a34 a35 a36 a37 a38 a39 a40 a41 a42 a43 a44 a45 a46 a47 a48 a49 a50 a51 a52 : Addr} {l1 l2 l3 l4 l5 l6 l7 l8 l9 l10 l11 l12 l13 l14 l15 l16 l17 l18 l19 l20 l21 l22 l23 l24 l25 l26 l27 l28 l29 l30 l31 l32 l33 l34 l35 l36 l37 l38 l39 l40 l41 l42 l43 l44 l45 l46 l47 l48 l49 l50 l51 l52 : FuncData} {t47 t48 t49 tg_NEAR tg_CUT tg_UP tg_DOWN : Tok} {fW : Addr}
def UU (sc tl : Nat) : Int := (2 ^ sc - 1) * 2 ^ tl
theorem gup_zero (how : Str) (s m : Int) : GR.gup how s m 0 = false := by
  unfold GR.gup
  split
  · show (false || (false && decide (m % 2 = 1))) = false
    rfl
  · rfl
theorem wrd_U (sc tl : Nat) (s : Int) : GR.wrd sc tl s (2 ^ sc - 1) 0 = s * 2 ^ (sc + tl) + UU sc tl ∧ GR.wrd sc tl s (2 ^ sc - 1 - 1) (2 ^ tl - 1) = s * 2 ^ (sc + tl) + (UU sc tl - 1) ∧ GR.wrd sc tl s 0 0 = s * 2 ^ (sc + tl) := by
  unfold GR.wrd UU
  refine ⟨by omega, ?_, by omega⟩
  rw [Int.sub_mul (2 ^ sc - 1) 1, Int.one_mul]
  omega
end
section
variable {P : Program} {w : World} {K : PySem.W.Frag} {mg : Str → Option Value} {base : Heap}
variable {C : Addr} {a1 a2 a3 a4 a5 a6 a7 a8 a9 a10 a11 a12 a13 a14 a15 a16 a17 a18 a19 a20 a21 a22 a23 a24 a25 a26 a27 a28 a29 a30 a31 a32 a33 a34 a35 a36 a37 a38 a39 a40 a41 a42 a43 a44 a45 a46 a47 a48 a49 a50 a51 a52 : Addr} {l1 l2 l3 l4 l5 l6 l7 l8 l9 l10 l11 l12 l13 l14 l15 l16 l17 l18 l19 l20 l21 l22 l23 l24 l25 l26 l27 l28 l29 l30 l31 l32 l33 l34 l35 l36 l37 l38 l39 l40 l41 l42 l43 l44 l45 l46 l47 l48 l49 l50 l51 l52 : FuncData} {t47 t48 t49 tg_NEAR tg_CUT tg_UP tg_DOWN : Tok} {fW : Addr}
theorem fit_lt {x : Int} {k : Nat} (h0 : 0 ≤ x) (h : x < 2 ^ k) (hk : k ≤ 4000) : Fit x := by
  have c : ((2 ^ k : Nat) : Int) = (2 : Int) ^ k := PySem.W.kbt_cast _
  exact ⟨h0, Nat.le_trans (PyProof.Rows.intBits_le (k := k) (by omega)) hk⟩
theorem num_in {tl : Nat} {u : Int} (h : 0 ≤ u) (ht : tl ≤ 24) : 0 ≤ GM.num tl u ∧ GM.num tl u < 2 ^ 25 := by
  have hp := GM.pow_pos' tl
  have h24 : (2 : Int) ^ tl ≤ 2 ^ 24 := GM.pow_le' ht
  have l := Int.emod_lt_of_pos u hp
  have n := Int.emod_nonneg u (show (2 : Int) ^ tl ≠ 0 by omega)
  unfold GM.num
  split <;> omega
theorem ex_in {sc tl : Nat} {u : Int} (hs : sc ≤ 8) (h : u ≤ UU sc tl) : GM.ex tl u ≤ 256 := by
  have hp := GM.pow_pos' tl
  have h8 : (2 : Int) ^ sc ≤ 2 ^ 8 := GM.pow_le' hs
  have : u / 2 ^ tl ≤ 2 ^ sc - 1 := by
    have := Int.ediv_le_ediv hp h
    unfold UU at this
    rw [Int.mul_ediv_cancel _ (by omega)] at this
    exact this
  unfold GM.ex
  omega
theorem UU_pos {sc tl : Nat} (h : 2 ≤ sc) : 0 < UU sc tl ∧ 2 ^ tl ≤ UU sc tl := by
  have hp := GM.pow_pos' tl
  have h4 : (2 : Int) ^ 2 ≤ 2 ^ sc := GM.pow_le' h
  have : 1 * 2 ^ tl ≤ UU sc tl := Int.mul_le_mul_of_nonneg_right (by omega) (by omega)
  omega
end
section
variable {P : Program} {w : World} {K : PySem.W.Frag} {mg : Str → Option Value} {base : Heap}
variable {C : Addr} {a1 a2 a3 a4 a5 a6 a7 a8 a9 a10 a11 a12 a13 a14 a15 a16 a17 a18 a19 a20 a21 a22 a23 a24 a25 a26 a27 a28 a29 a30 a31 a32 a33 a34 a35 a36 a37 a38 a39 a40 a41 a42 a43 a44 a45 a46 a47 a48 a49 a50 a51 a52 : Addr} {l1 l2 l3 l4 l5 l6 l7 l8 l9 l10 l11 l12 l13 l14 l15 l16 l17 l18 l19 l20 l21 l22 l23 l24 l25 l26 l27 l28 l29 l30 l31 l32 l33 l34 l35 l36 l37 l38 l39 l40 l41 l42 l43 l44 l45 l46 l47 l48 l49 l50 l51 l52 : FuncData} {t47 t48 t49 tg_NEAR tg_CUT tg_UP tg_DOWN : Tok} {fW : Addr}
/-! ### terms and their sums -/
def ab (z : Int) : Int := if z < 0 then -z else z
theorem ab_nn (n : Int) : 0 ≤ ab n := by
  unfold ab
  split <;> omega
def TermAt (H : Hp) (t : Addr) (s : Int) : Option (Int × Int) → Prop
  | none => H t = some (.tup [.int s, .non])
  | some w => ∃ u, H t = some (.tup [.int s, .ref u]) ∧ H u = some (.tup [.int w.1, .int w.2])
theorem TermAt.same {H H' : Hp} {t : Addr} {s : Int} {o : Option (Int × Int)} (h : TermAt H t s o) (k : Same H H') : TermAt H' t s o := by
  cases o with
  | none => exact k _ _ h
  | some w => exact ⟨h.choose, k _ _ h.choose_spec.1, k _ _ h.choose_spec.2⟩
def wo (sc tl : Nat) (v : Int) : Option (Int × Int) := if GM.topS sc tl ≤ sz sc tl v then none else some (wn sc tl v, wp sc tl v)
def spTermOf (C : Addr) : Sp := fun vs H Q _ => ∃ (x : Addr) (sc tl : Nat) (v : Int), vs = [.ref x, .int v] ∧ FAt C H x sc tl ∧ ∀ t H', Same H H' → TermAt H' t (GM.sgn sc tl v) (wo sc tl v) → Q (.ref t) H'
theorem ok_term_of (B : Bl mg) (L : LL K mg C a1 a2 a3 a4 a5 a6 a7 a8 a9 a10 a11 a12 a13 a14 a15 a16 a17 a18 a19 a20 a21 a22 a23 a24 a25 a26 a27 a28 a29 a30 a31 a32 a33 a34 a35 a36 a37 a38 a39 a40 a41 a42 a43 a44 a45 a46 a47 a48 a49 a50 a51 a52 l1 l2 l3 l4 l5 l6 l7 l8 l9 l10 l11 l12 l13 l14 l15 l16 l17 l18 l19 l20 l21 l22 l23 l24 l25 l26 l27 l28 l29 l30 l31 l32 l33 l34 l35 l36 l37 l38 l39 l40 l41 l42 l43 l44 l45 l46 l47 l48 l49 l50 l51 l52 t47 t48 t49 tg_NEAR tg_CUT tg_UP tg_DOWN fW) : FnOk P w K mg base CX0 4 a20 l20 ["form", "word"] (spTermOf C) := by
  have G_sign_of : FnOk P w K mg base CX0 3 a18 l18 ["form", "word"] (spSgn C) := (ok_sign_of B L).mono (by decide)
  have G_Form_worth : FnOk P w K mg base CX0 3 a52 l52 ["self", "word"] (spWorth C) := (ok_Form_worth B L).mono (by decide)
  refine L.F_term_of.ok sc_term_of (fun vs H Q E h => ?_) (fun cdv A outer s H vs Q E hr h => ?_)
  · obtain ⟨x, sc, tl, v, rfl, _⟩ := h
    rfl
  obtain ⟨x, sc, tl, v, rfl, hF, q⟩ := h
  refine ⟨_, (pss_one (ps_ret (pe_tup (pa_cons (pe_call G_sign_of hr (by rfl) L.m_sign_of L.F_sign_of.kp L.b_sign_of .nil pass0 (pa_cons (pv 0) (pa_cons (pv 1) pa_nil))) (pa_cons (pe_meth (pv 0) L.T.cl L.M_Form_worth G_Form_worth hr L.b_Form_worth .nil pass0 (pa_cons (pv 1) pa_nil)) pa_nil))))), ?_⟩
  refine ⟨_, rfl, _, rfl, x, sc, tl, v, rfl, hF, fun H1 s1 => ?_⟩
  obtain ⟨dx, hx, h1, h2, h3, h4⟩ := id (hF.same s1)
  refine ⟨_, rfl, x, dx, _, rfl, hx, rfl, _, rfl, x, sc, tl, v, rfl, hF.same s1, fun H2 s2 ca => ?_, fun H2 p s2 ca ep => ?_⟩
  · refine ⟨(by show 2 ≤ sizeLine; decide), fun t nt => ?_⟩
    refine q t _ ((s1.trans s2).trans (same_upd nt)) ?_
    unfold wo
    rw [if_pos ca]
    exact upd_same
  · refine ⟨(by show 2 ≤ sizeLine; decide), fun t nt => ?_⟩
    refine q t _ ((s1.trans s2).trans (same_upd nt)) ?_
    unfold wo
    rw [if_neg ca]
    exact ⟨p, upd_same, same_upd nt _ _ ep⟩
def nsg (s1 s2 : Int) (way : Str) : Int := if s1 = s2 then s1 else if way = "down" then 1 else 0
def spNsg : Sp := fun vs H Q _ => ∃ (s1 s2 : Int) (way : Str), vs = [.int s1, .int s2, .str way] ∧ Q (.int (nsg s1 s2 way)) H
theorem ok_nought_sign (B : Bl mg) (L : LL K mg C a1 a2 a3 a4 a5 a6 a7 a8 a9 a10 a11 a12 a13 a14 a15 a16 a17 a18 a19 a20 a21 a22 a23 a24 a25 a26 a27 a28 a29 a30 a31 a32 a33 a34 a35 a36 a37 a38 a39 a40 a41 a42 a43 a44 a45 a46 a47 a48 a49 a50 a51 a52 l1 l2 l3 l4 l5 l6 l7 l8 l9 l10 l11 l12 l13 l14 l15 l16 l17 l18 l19 l20 l21 l22 l23 l24 l25 l26 l27 l28 l29 l30 l31 l32 l33 l34 l35 l36 l37 l38 l39 l40 l41 l42 l43 l44 l45 l46 l47 l48 l49 l50 l51 l52 t47 t48 t49 tg_NEAR tg_CUT tg_UP tg_DOWN fW) : FnOk P w K mg base CX0 1 a23 l23 ["sign", "other_sign", "way"] spNsg := by
  refine L.F_nought_sign.ok sc_nought_sign (fun vs H Q E h => ?_) (fun cdv A outer s H vs Q E hr h => ?_)
  · obtain ⟨s1, s2, way, rfl, _⟩ := h
    rfl
  obtain ⟨s1, s2, way, rfl, q⟩ := h
  refine ⟨_, (pss_cons (ps_if (pt_cmpR op_eq (pv 0) (pv 1) (nomark _)) (pss_one (ps_ret (pv 0))) pss_nil)
    (pss_one (ps_ret (pe_ifExp (pt_cmpR op_eq (pv 2) (pe_glob (v := .str "down") rfl L.g_DOWN ⟨_, rfl⟩) (nomark _)) pe_int pe_int)))), ?_⟩
  unfold nsg at q
  refine ⟨_, rfl, _, rfl, rfl, _, rfl, ite2 (fun c => ?_) (fun c => ?_)⟩
  · rw [if_pos (V.int.inj (of_decide_eq_true c))] at q
    exact ⟨_, rfl, q⟩
  · rw [if_neg (fun z => c (decide_eq_true (by rw [z])))] at q
    refine ⟨_, rfl, rfl, _, rfl, ite2 (fun d => ?_) (fun d => ?_)⟩
    · rw [if_pos (V.str.inj (of_decide_eq_true d))] at q
      exact q
    · rw [if_neg (fun z => d (decide_eq_true (by rw [z])))] at q
      exact q
def lwr (p e : Int) : Int := if e < p then e else p
def tgn (n p m e : Int) : Int := n * 2 ^ (p - lwr p e).toNat + m * 2 ^ (e - lwr p e).toNat
def Fi (n : Int) : Prop := n.natAbs < 2 ^ 60
theorem fi_shl {n : Int} {j : Nat} (h : Fi n) (hj : j ≤ 100000) : CShl n (j : Int) := shl_ok (n := 60) h (by omega)
def spWA (K : PySem.W.Frag) : Sp := fun vs H Q _ => ∃ (a b : Addr) (n p m e : Int), vs = [.ref a, .ref b] ∧ SqT K H a [.int n, .int p] ∧ SqT K H b [.int m, .int e] ∧ Fi n ∧ Fi m ∧ -1000 ≤ p ∧ p ≤ 1000 ∧ -1000 ≤ e ∧ e ≤ 1000 ∧ ∀ t H', Same H H' → H' t = some (.tup [.int (tgn n p m e), .int (lwr p e)]) → Q (.ref t) H'
theorem ok_worths_added (B : Bl mg) (L : LL K mg C a1 a2 a3 a4 a5 a6 a7 a8 a9 a10 a11 a12 a13 a14 a15 a16 a17 a18 a19 a20 a21 a22 a23 a24 a25 a26 a27 a28 a29 a30 a31 a32 a33 a34 a35 a36 a37 a38 a39 a40 a41 a42 a43 a44 a45 a46 a47 a48 a49 a50 a51 a52 l1 l2 l3 l4 l5 l6 l7 l8 l9 l10 l11 l12 l13 l14 l15 l16 l17 l18 l19 l20 l21 l22 l23 l24 l25 l26 l27 l28 l29 l30 l31 l32 l33 l34 l35 l36 l37 l38 l39 l40 l41 l42 l43 l44 l45 l46 l47 l48 l49 l50 l51 l52 t47 t48 t49 tg_NEAR tg_CUT tg_UP tg_DOWN fW) : FnOk P w K mg base CX0 1 a24 l24 ["one", "other"] (spWA K) := by
  refine L.F_worths_added.ok sc_worths_added (fun vs H Q E h => ?_) (fun cdv A outer s H vs Q E hr h => ?_)
  · obtain ⟨a, b, n, p, m, e, rfl, _⟩ := h
    rfl
  obtain ⟨a, b, n, p, m, e, rfl, hA, hB, fn, fm, p1, p2, e1, e2, q⟩ := h
  refine ⟨_, (pss_cons (ps_asg (pv 0) (pg_tup (by rfl) (pgs_cons (pg_name (i := 2) sc_worths_added.nd rfl (.inl rfl)) (pgs_cons (pg_name (i := 3) sc_worths_added.nd rfl (.inl rfl)) pgs_nil))))
    (pss_cons (ps_asg (pv 1) (pg_tup (by rfl) (pgs_cons (pg_name (i := 4) sc_worths_added.nd rfl (.inl rfl)) (pgs_cons (pg_name (i := 5) sc_worths_added.nd rfl (.inl rfl)) pgs_nil))))
    (pss_cons (ps_set (i := 6) sc_worths_added.nd rfl (.inl rfl) (pe_callB (call_min2 rfl) (by rfl) B.min boot_min (pa_cons (pv 3) (pa_cons (pv 5) pa_nil))))
    (pss_one (ps_ret (pe_tup (pa_cons (pe_op op_add (pe_op op_shlN (pv 2) (pe_op op_sub (pv 3) (pv 6))) (pe_op op_shlN (pv 4) (pe_op op_sub (pv 5) (pv 6)))) (pa_cons (pv 6) pa_nil)))))))), ?_⟩
  have hl : lwr p e ≤ p ∧ lwr p e ≤ e ∧ -1000 ≤ lwr p e := by
    unfold lwr
    split <;> omega
  refine ⟨_, rfl, a, _, rfl, hA, rfl, _, _, rfl, _, _, rfl, rfl, ?_⟩
  refine ⟨_, rfl, b, _, rfl, hB, rfl, _, _, rfl, _, _, rfl, rfl, ?_⟩
  refine ⟨_, rfl, _, rfl, _, _, rfl, ?_⟩
  refine ⟨_, rfl, _, rfl, _, rfl, _, _, rfl, rfl, _, (p - lwr p e).toNat, rfl, congrArg V.int (show p - lwr p e = ((p - lwr p e).toNat : Nat) by omega), fi_shl fn (by omega), ?_⟩
  refine ⟨_, rfl, _, rfl, _, rfl, _, _, rfl, rfl, _, (e - lwr p e).toNat, rfl, congrArg V.int (show e - lwr p e = ((e - lwr p e).toNat : Nat) by omega), fi_shl fm (by omega), _, _, rfl, rfl, ?_⟩
  refine ⟨_, rfl, (by show 2 ≤ sizeLine; decide), fun t nt => ?_⟩
  exact q t _ (same_upd nt) upd_same
def endW (sc tl : Nat) (s : Int) : Int := s * 2 ^ (sc + tl) + ((2 ^ sc - 1) * 2 ^ tl + 0)
def totR (sc tl : Nat) (n p : Int) (s : Int) (way : Str) : Int × List Str :=
  if n = 0 then (s * 2 ^ (sc + tl), []) else GR.rnd sc tl (if n < 0 then 1 else 0) (ab n) p way false
def tadR (sc tl : Nat) (s1 : Int) (o1 : Option (Int × Int)) (s2 : Int) (o2 : Option (Int × Int)) (way : Str) : Int × List Str :=
  match o1, o2 with
  | none, none => if s1 = s2 then (endW sc tl s1, []) else (noneW sc tl, ["bad"])
  | none, some _ => (endW sc tl s1, [])
  | some _, none => (endW sc tl s2, [])
  | some w1, some w2 => totR sc tl (tgn w1.1 w1.2 w2.1 w2.2) (lwr w1.2 w2.2) (nsg s1 s2 way) way
def OFi (o : Option (Int × Int)) : Prop := ∀ w, o = some w → Fi w.1 ∧ -1000 ≤ w.2 ∧ w.2 ≤ 1000
theorem fi_tgn {n p m e : Int} (fn : Fi n) (fm : Fi m) (p1 : -1000 ≤ p) (p2 : p ≤ 1000) (e1 : -1000 ≤ e) (e2 : e ≤ 1000) : ab (tgn n p m e) < 2 ^ 3000 := by
  have hl : lwr p e ≤ p ∧ lwr p e ≤ e ∧ -1000 ≤ lwr p e := by
    unfold lwr
    split <;> omega
  have one : ∀ (x : Int) (k : Nat), Fi x → k ≤ 2000 → -(2 ^ 2060) < x * 2 ^ k ∧ x * 2 ^ k < 2 ^ 2060 := fun x k hx hk => by
    have e0 : (x * 2 ^ k).natAbs = x.natAbs * 2 ^ k := by
      rw [Int.natAbs_mul, Int.natAbs_pow]
      rfl
    have e1 : x.natAbs * 2 ^ k < 2 ^ 60 * 2 ^ 2000 := Nat.mul_lt_mul_of_lt_of_le hx (Nat.pow_le_pow_right (by decide) hk) (Nat.pow_pos (by decide))
    rw [← Nat.pow_add, ← e0] at e1
    have c : ((2 ^ 2060 : Nat) : Int) = (2 : Int) ^ 2060 := PySem.W.kbt_cast _
    generalize x * 2 ^ k = z at e1 ⊢
    omega
  have a1 := one n (p - lwr p e).toNat fn (by omega)
  have a2 := one m (e - lwr p e).toNat fm (by omega)
  have b1 : (2 : Int) ^ 2061 ≤ 2 ^ 3000 := GM.pow_le' (by decide)
  have b2 : (2 : Int) ^ 2061 = 2 ^ 2060 * 2 := GM.pow_s 2060
  unfold tgn ab
  split <;> omega
def spTA (C : Addr) : Sp := fun vs H Q _ => ∃ (x t1 t2 : Addr) (sc tl : Nat) (s1 s2 : Int) (o1 o2 : Option (Int × Int)) (way : Str), vs = [.ref x, .ref t1, .ref t2, .str way] ∧ FAt C H x sc tl ∧ TermAt H t1 s1 o1 ∧ TermAt H t2 s2 o2 ∧ (s1 = 0 ∨ s1 = 1) ∧ (s2 = 0 ∨ s2 = 1) ∧ OFi o1 ∧ OFi o2 ∧
  ∀ t H', Same H H' → PairAt H' t (tadR sc tl s1 o1 s2 o2 way) → Q (.ref t) H'
theorem nsg_01 {s1 s2 : Int} (h1 : s1 = 0 ∨ s1 = 1) (way : Str) : nsg s1 s2 way = 0 ∨ nsg s1 s2 way = 1 := by
  unfold nsg
  split
  · exact h1
  · split <;> simp
theorem ok_terms_added (B : Bl mg) (L : LL K mg C a1 a2 a3 a4 a5 a6 a7 a8 a9 a10 a11 a12 a13 a14 a15 a16 a17 a18 a19 a20 a21 a22 a23 a24 a25 a26 a27 a28 a29 a30 a31 a32 a33 a34 a35 a36 a37 a38 a39 a40 a41 a42 a43 a44 a45 a46 a47 a48 a49 a50 a51 a52 l1 l2 l3 l4 l5 l6 l7 l8 l9 l10 l11 l12 l13 l14 l15 l16 l17 l18 l19 l20 l21 l22 l23 l24 l25 l26 l27 l28 l29 l30 l31 l32 l33 l34 l35 l36 l37 l38 l39 l40 l41 l42 l43 l44 l45 l46 l47 l48 l49 l50 l51 l52 t47 t48 t49 tg_NEAR tg_CUT tg_UP tg_DOWN fW) : FnOk P w K mg base CX0 6 a22 l22 ["form", "one", "other", "way"] (spTA C) := by
  have G_bad : FnOk P w K mg base CX0 5 a16 l16 ["form"] (spBad C) := (ok_bad B L).mono (by decide)
  have G_Form_endless : FnOk P w K mg base CX0 5 a48 l48 ["self", "sign"] (spNm C mEn mNo) := (ok_Form_endless B L).mono (by decide)
  have G_Form_nought : FnOk P w K mg base CX0 5 a47 l47 ["self", "sign"] (spNm C mNo mNo) := (ok_Form_nought B L).mono (by decide)
  have G_nought_sign : FnOk P w K mg base CX0 5 a23 l23 ["sign", "other_sign", "way"] spNsg := (ok_nought_sign B L).mono (by decide)
  have G_worths_added : FnOk P w K mg base CX0 5 a24 l24 ["one", "other"] (spWA K) := (ok_worths_added B L).mono (by decide)
  have G_rounded : FnOk P w K mg base CX0 5 a4 l4 ["form", "sign", "number", "power", "way", "more"] (spRnd C) := (ok_rounded B L).mono (by decide)
  refine L.F_terms_added.ok sc_terms_added (fun vs H Q E h => ?_) (fun cdv A outer s H vs Q E hr h => ?_)
  · obtain ⟨x, t1, t2, sc, tl, s1, s2, o1, o2, way, rfl, _⟩ := h
    rfl
  obtain ⟨x, t1, t2, sc, tl, s1, s2, o1, o2, way, rfl, hF, T1, T2, b1, b2, f1, f2, q⟩ := h
  obtain ⟨dx, hx, h1, h2, h3, h4⟩ := id hF
  refine ⟨_, (pss_cons (ps_asg (pv 1) (pg_tup (by rfl) (pgs_cons (pg_name (i := 4) sc_terms_added.nd rfl (.inl rfl)) (pgs_cons (pg_name (i := 5) sc_terms_added.nd rfl (.inl rfl)) pgs_nil))))
    (pss_cons (ps_asg (pv 2) (pg_tup (by rfl) (pgs_cons (pg_name (i := 6) sc_terms_added.nd rfl (.inl rfl)) (pgs_cons (pg_name (i := 7) sc_terms_added.nd rfl (.inl rfl)) pgs_nil))))
    (pss_cons (ps_if (PW.pt (pw_and (pt_cmpR op_isN (pv 5) pe_non (nomark _)) (pw_and (pt_cmpR op_isN (pv 7) pe_non (nomark _)) (pw_and1 (pt_cmpR op_ne (pv 4) (pv 6) (nomark _)))))) (pss_one (ps_ret (pe_call G_bad hr (by rfl) L.m_bad L.F_bad.kp L.b_bad .nil pass0 (pa_cons (pv 0) pa_nil)))) pss_nil)
    (pss_cons (ps_if (pt_cmpR op_isN (pv 5) pe_non (nomark _)) (pss_one (ps_ret (pe_tup (pa_cons (pe_meth (pv 0) L.T.cl L.M_Form_endless G_Form_endless hr L.b_Form_endless .nil pass0 (pa_cons (pv 4) pa_nil)) (pa_cons (pe_tup pa_nil) pa_nil))))) pss_nil)
    (pss_cons (ps_if (pt_cmpR op_isN (pv 7) pe_non (nomark _)) (pss_one (ps_ret (pe_tup (pa_cons (pe_meth (pv 0) L.T.cl L.M_Form_endless G_Form_endless hr L.b_Form_endless .nil pass0 (pa_cons (pv 6) pa_nil)) (pa_cons (pe_tup pa_nil) pa_nil))))) pss_nil)
    (pss_cons (ps_asg (pe_call G_worths_added hr (by rfl) L.m_worths_added L.F_worths_added.kp L.b_worths_added .nil pass0 (pa_cons (pv 5) (pa_cons (pv 7) pa_nil))) (pg_tup (by rfl) (pgs_cons (pg_name (i := 8) sc_terms_added.nd rfl (.inl rfl)) (pgs_cons (pg_name (i := 9) sc_terms_added.nd rfl (.inl rfl)) pgs_nil))))
    (pss_cons (ps_if (pt_cmpR op_eq (pv 8) pe_int (nomark _)) (pss_one (ps_ret (pe_tup (pa_cons (pe_meth (pv 0) L.T.cl L.M_Form_nought G_Form_nought hr L.b_Form_nought .nil pass0 (pa_cons (pe_call G_nought_sign hr (by rfl) L.m_nought_sign L.F_nought_sign.kp L.b_nought_sign .nil pass0 (pa_cons (pv 4) (pa_cons (pv 6) (pa_cons (pv 3) pa_nil)))) pa_nil)) (pa_cons (pe_tup pa_nil) pa_nil))))) pss_nil)
    (pss_one (ps_ret (pe_callN G_rounded hr (by rfl) L.m_rounded L.F_rounded.kp (L.kb_rounded_way).choose_spec pass0 (pa_cons (pv 0) (pa_cons (pe_ifExp (pt_cmpR op_lt (pv 8) pe_int (nomark _)) pe_int pe_int) (pa_cons (pe_callB call_abs (by rfl) B.abs boot_abs (pa_cons (pv 8) pa_nil)) (pa_cons (pv 9) pa_nil)))) (pk_cons (pv 3) pk_nil))))))))))), ?_⟩
  have en : ∀ (s : Int) (H1 : Hp) (Q' : VK), (s = 0 ∨ s = 1) → Same H H1 → (∀ t H', Same H H' → PairAt H' t (endW sc tl s, []) → Q' (.ref t) H') → ∀ e, H1 e = none → ∀ t, (upd H1 e (.tup [])) t = none → Q' (.ref t) (upd (upd H1 e (.tup [])) t (.tup [.int (s * 2 ^ (sc + tl) + ((2 ^ sc - 1) * 2 ^ tl + 0)), .ref e])) := fun s H1 Q' hs s1 q' e ne t nt => q' t _ ((s1.trans (same_upd ne)).trans (same_upd nt)) ⟨e, upd_same, same_upd nt _ _ upd_same⟩
  cases o1 with
  | none =>
    cases o2 with
    | none =>
      refine ⟨_, rfl, t1, _, rfl, .inl (.inl T1), rfl, _, _, rfl, _, _, rfl, rfl, ?_⟩
      refine ⟨_, rfl, t2, _, rfl, .inl (.inl T2), rfl, _, _, rfl, _, _, rfl, rfl, ?_⟩
      refine ⟨_, rfl, rfl, _, rfl, iteT ?_⟩
      refine ⟨_, rfl, rfl, _, rfl, iteT ?_⟩
      refine ⟨_, rfl, _, rfl, rfl, _, rfl, ite2 (fun c => ?_) (fun c => ?_)⟩
      · have c1 : ¬ s1 = s2 := fun z => by
          rw [z] at c
          simp at c
        refine ⟨_, rfl, x, sc, tl, rfl, hF, fun u H3 nu s3 pu => ?_⟩
        refine q u _ s3 ?_
        show PairAt H3 u (if s1 = s2 then (endW sc tl s1, []) else (noneW sc tl, ["bad"]))
        rw [if_neg c1]
        exact pu
      · have c1 : s1 = s2 := Classical.byContradiction fun z => c (by simpa using z)
        refine ⟨_, rfl, rfl, _, rfl, iteT ?_⟩
        refine ⟨_, rfl, x, dx, _, rfl, hx, rfl, _, rfl, x, sc, tl, _, rfl, hF, b1, Nat.zero_le _, fun e ne => ⟨(by show 2 ≤ sizeLine; decide), fun t nt => ?_⟩⟩
        refine en s1 H Q b1 (Same.refl _) (fun t H' k p => q t H' k ?_) e ne t nt
        show PairAt H' t (if s1 = s2 then (endW sc tl s1, []) else (noneW sc tl, ["bad"]))
        rw [if_pos c1]
        exact p
    | some w2 =>
      obtain ⟨u2, T2, U2⟩ := T2
      refine ⟨_, rfl, t1, _, rfl, .inl (.inl T1), rfl, _, _, rfl, _, _, rfl, rfl, ?_⟩
      refine ⟨_, rfl, t2, _, rfl, .inl (.inl T2), rfl, _, _, rfl, _, _, rfl, rfl, ?_⟩
      refine ⟨_, rfl, rfl, _, rfl, iteT ?_⟩
      refine ⟨_, rfl, rfl, _, rfl, iteF ?_⟩
      refine iteF ?_
      refine ⟨_, rfl, rfl, _, rfl, iteT ?_⟩
      refine ⟨_, rfl, x, dx, _, rfl, hx, rfl, _, rfl, x, sc, tl, _, rfl, hF, b1, Nat.zero_le _, fun e ne => ⟨(by show 2 ≤ sizeLine; decide), fun t nt => ?_⟩⟩
      exact en s1 H Q b1 (Same.refl _) q e ne t nt
  | some w1 =>
    obtain ⟨u1, T1, U1⟩ := T1
    cases o2 with
    | none =>
      refine ⟨_, rfl, t1, _, rfl, .inl (.inl T1), rfl, _, _, rfl, _, _, rfl, rfl, ?_⟩
      refine ⟨_, rfl, t2, _, rfl, .inl (.inl T2), rfl, _, _, rfl, _, _, rfl, rfl, ?_⟩
      refine ⟨_, rfl, rfl, _, rfl, iteF ?_⟩
      refine iteF ?_
      refine ⟨_, rfl, rfl, _, rfl, iteF ?_⟩
      refine ⟨_, rfl, rfl, _, rfl, iteT ?_⟩
      refine ⟨_, rfl, x, dx, _, rfl, hx, rfl, _, rfl, x, sc, tl, _, rfl, hF, b2, Nat.zero_le _, fun e ne => ⟨(by show 2 ≤ sizeLine; decide), fun t nt => ?_⟩⟩
      exact en s2 H Q b2 (Same.refl _) q e ne t nt
    | some w2 =>
      obtain ⟨u2, T2, U2⟩ := T2
      obtain ⟨fa, pa1, pa2⟩ := f1 w1 rfl
      obtain ⟨fb, pb1, pb2⟩ := f2 w2 rfl
      refine ⟨_, rfl, t1, _, rfl, .inl (.inl T1), rfl, _, _, rfl, _, _, rfl, rfl, ?_⟩
      refine ⟨_, rfl, t2, _, rfl, .inl (.inl T2), rfl, _, _, rfl, _, _, rfl, rfl, ?_⟩
      refine ⟨_, rfl, rfl, _, rfl, iteF ?_⟩
      refine iteF ?_
      refine ⟨_, rfl, rfl, _, rfl, iteF ?_⟩
      refine ⟨_, rfl, rfl, _, rfl, iteF ?_⟩
      refine ⟨_, rfl, _, rfl, u1, u2, w1.1, w1.2, w2.1, w2.2, rfl, .inl (.inl U1), .inl (.inl U2), fa, fb, pa1, pa2, pb1, pb2, fun v H1 k1 ev => ?_⟩
      refine ⟨v, _, rfl, .inl (.inl ev), rfl, _, _, rfl, _, _, rfl, rfl, ?_⟩
      have hb := fi_tgn fa fb pa1 pa2 pb1 pb2
      have hl : lwr w1.2 w2.2 ≤ 1000 ∧ -1000 ≤ lwr w1.2 w2.2 := by
        unfold lwr
        split <;> omega
      change ∀ t H', Same H H' → PairAt H' t (totR sc tl (tgn w1.1 w1.2 w2.1 w2.2) (lwr w1.2 w2.2) (nsg s1 s2 way) way) → Q (.ref t) H' at q
      generalize tgn w1.1 w1.2 w2.1 w2.2 = n at *
      generalize lwr w1.2 w2.2 = p at *
      unfold totR at q
      have F1 := hF.same k1
      refine ⟨_, rfl, rfl, _, rfl, ite2 (fun c => ?_) (fun c => ?_)⟩
      · rw [if_pos (V.int.inj (of_decide_eq_true c))] at q
        refine ⟨_, rfl, x, dx, _, rfl, k1 _ _ hx, rfl, _, rfl, _, rfl, _, rfl, _, _, _, rfl, x, sc, tl, _, rfl, F1, nsg_01 b1 way, Nat.zero_le _, fun e ne => ⟨(by show 2 ≤ sizeLine; decide), fun t nt => ?_⟩⟩
        refine q t _ ((k1.trans (same_upd ne)).trans (same_upd nt)) ⟨e, ?_, same_upd nt _ _ upd_same⟩
        rw [upd_same]
        show some (HO.tup [.int (nsg s1 s2 way * 2 ^ (sc + tl) + (0 * 2 ^ tl + 0)), .ref e]) = _
        rw [Int.zero_mul, Int.add_zero, Int.add_zero]
      · rw [if_neg (fun z => c (decide_eq_true (by rw [z])))] at q
        refine ⟨_, rfl, if_ev (fun z H' => z = .int (if n < 0 then 1 else 0) ∧ H' = H1) (fun Q' q' => ?_) ?_⟩
        · refine ⟨_, rfl, _, _, rfl, rfl, _, rfl, ite2 (fun d => ?_) (fun d => ?_)⟩
          · exact q' _ _ ⟨by rw [if_pos (of_decide_eq_true d)], rfl⟩
          · exact q' _ _ ⟨by rw [if_neg (of_decide_eq_false (Bool.eq_false_iff.mpr d))], rfl⟩
        rintro z H' ⟨rfl, rfl⟩
        refine ⟨_, rfl, n, rfl, _, rfl, _, rfl, rfl, rfl, x, sc, tl, _, _, _, way, false, rfl, F1, (by split <;> simp), fit_lt (ab_nn n) (k := 3000) hb (by decide), by omega, by omega, (fun z => nomatch z), fun t3 H4 nt3 s4 P3 => ?_⟩
        exact q t3 _ (k1.trans s4) P3
end
section
variable {P : Program} {w : World} {K : PySem.W.Frag} {mg : Str → Option Value} {base : Heap}
variable {C : Addr} {a1 a2 a3 a4 a5 a6 a7 a8 a9 a10 a11 a12 a13 a14 a15 a16 a17 a18 a19 a20 a21 a22 a23 a24 a25 a26 a27 a28 a29 a30 a31 a32 a33 a34 a35 a36 a37 a38 a39 a40 a41 a42 a43 a44 a45 a46 a47 a48 a49 a50 a51 a52 : Addr} {l1 l2 l3 l4 l5 l6 l7 l8 l9 l10 l11 l12 l13 l14 l15 l16 l17 l18 l19 l20 l21 l22 l23 l24 l25 l26 l27 l28 l29 l30 l31 l32 l33 l34 l35 l36 l37 l38 l39 l40 l41 l42 l43 l44 l45 l46 l47 l48 l49 l50 l51 l52 : FuncData} {t47 t48 t49 tg_NEAR tg_CUT tg_UP tg_DOWN : Tok} {fW : Addr}
theorem wp_in {sc tl : Nat} {v : Int} (h1 : 2 ≤ sc) (h2 : sc ≤ 8) (h4 : tl ≤ 24) (h : ¬ GM.topS sc tl ≤ sz sc tl v) : -400 ≤ wp sc tl v ∧ wp sc tl v ≤ 400 := by
  have e : GM.ex tl (sz sc tl v) ≤ 256 := ex_in (sc := sc) h2 (by show _ ≤ GM.topS sc tl; omega)
  have p8 : (2 : Int) ^ (sc - 1) ≤ 2 ^ 7 := GM.pow_le' (by omega)
  have p0 := GM.pow_pos' (sc - 1)
  unfold wp P0
  omega
theorem fi_wn {sc tl : Nat} (v : Int) (h4 : tl ≤ 24) : Fi (wn sc tl v) := by
  have := wn_25 sc v h4
  unfold Fi
  omega
theorem ofi_wo {sc tl : Nat} (v : Int) (h1 : 2 ≤ sc) (h2 : sc ≤ 8) (h4 : tl ≤ 24) : OFi (wo sc tl v) := by
  intro w e
  unfold wo at e
  by_cases c : GM.topS sc tl ≤ sz sc tl v
  · rw [if_pos c] at e
    cases e
  · rw [if_neg c] at e
    have e' := Option.some.inj e
    subst e'
    have := wp_in h1 h2 h4 c
    exact ⟨fi_wn v h4, by omega, by omega⟩
def addR (sc tl : Nat) (a b : Int) (way : Str) : Int × List Str :=
  if srt sc tl (sz sc tl a) = "none" ∨ srt sc tl (sz sc tl b) = "none" then (noneW sc tl, [])
  else tadR sc tl (GM.sgn sc tl a) (wo sc tl a) (GM.sgn sc tl b) (wo sc tl b) way
def spAdd (C : Addr) : Sp := fun vs H Q _ => ∃ (x : Addr) (sc tl : Nat) (a b : Int) (way : Str), vs = [.ref x, .int a, .int b, .str way] ∧ FAt C H x sc tl ∧
  ∀ t H', Same H H' → PairAt H' t (addR sc tl a b way) → Q (.ref t) H'
theorem ok_added (B : Bl mg) (L : LL K mg C a1 a2 a3 a4 a5 a6 a7 a8 a9 a10 a11 a12 a13 a14 a15 a16 a17 a18 a19 a20 a21 a22 a23 a24 a25 a26 a27 a28 a29 a30 a31 a32 a33 a34 a35 a36 a37 a38 a39 a40 a41 a42 a43 a44 a45 a46 a47 a48 a49 a50 a51 a52 l1 l2 l3 l4 l5 l6 l7 l8 l9 l10 l11 l12 l13 l14 l15 l16 l17 l18 l19 l20 l21 l22 l23 l24 l25 l26 l27 l28 l29 l30 l31 l32 l33 l34 l35 l36 l37 l38 l39 l40 l41 l42 l43 l44 l45 l46 l47 l48 l49 l50 l51 l52 t47 t48 t49 tg_NEAR tg_CUT tg_UP tg_DOWN fW) : FnOk P w K mg base CX0 7 a10 l10 ["form", "a", "b", "way"] (spAdd C) := by
  have G_has_none : FnOk P w K mg base CX0 6 a15 l15 ["form", "words"] (spHN K C) := (ok_has_none B L).mono (by decide)
  have G_Form_none_word : FnOk P w K mg base CX0 6 a50 l50 ["self"] (spNamed0 C) := (ok_Form_none_word B L).mono (by decide)
  have G_terms_added : FnOk P w K mg base CX0 6 a22 l22 ["form", "one", "other", "way"] (spTA C) := (ok_terms_added B L).mono (by decide)
  have G_term_of : FnOk P w K mg base CX0 6 a20 l20 ["form", "word"] (spTermOf C) := (ok_term_of B L).mono (by decide)
  refine L.F_added.ok sc_added (fun vs H Q E h => ?_) (fun cdv A outer s H vs Q E hr h => ?_)
  · obtain ⟨x, sc, tl, a, b, way, rfl, _⟩ := h
    rfl
  obtain ⟨x, sc, tl, a, b, way, rfl, hF, q⟩ := h
  obtain ⟨dx, hx, h1, h2, h3, h4⟩ := id hF
  refine ⟨_, (pss_cons (ps_if (pt_val (pe_call G_has_none hr (by rfl) L.m_has_none L.F_has_none.kp L.b_has_none .nil pass0 (pa_cons (pv 0) (pa_cons (pe_tup (pa_cons (pv 1) (pa_cons (pv 2) pa_nil))) pa_nil)))) (pss_one (ps_ret (pe_tup (pa_cons (pe_meth0 (pv 0) L.T.cl L.M_Form_none_word G_Form_none_word hr L.b_Form_none_word .nil pass0) (pa_cons (pe_tup pa_nil) pa_nil))))) pss_nil)
    (pss_one (ps_ret (pe_call G_terms_added hr (by rfl) L.m_terms_added L.F_terms_added.kp L.b_terms_added .nil pass0 (pa_cons (pv 0) (pa_cons (pe_call G_term_of hr (by rfl) L.m_term_of L.F_term_of.kp L.b_term_of .nil pass0 (pa_cons (pv 0) (pa_cons (pv 1) pa_nil))) (pa_cons (pe_call G_term_of hr (by rfl) L.m_term_of L.F_term_of.kp L.b_term_of .nil pass0 (pa_cons (pv 0) (pa_cons (pv 2) pa_nil))) (pa_cons (pv 3) pa_nil)))))))), ?_⟩
  refine ⟨_, rfl, _, rfl, _, rfl, (by show 2 ≤ sizeLine; decide), fun t nt => ?_⟩
  have st := same_upd (o := .tup [.int a, .int b]) nt
  refine ⟨x, t, sc, tl, [a, b], rfl, hF.same st, .inl (.inl upd_same), Nat.le_of_ble_eq_true rfl, fun r H1 s1 hr1 => ?_⟩
  have w1 := st.trans s1
  have e1 : r = true ↔ (srt sc tl (sz sc tl a) = "none" ∨ srt sc tl (sz sc tl b) = "none") := by
    rw [hr1]
    simp
  unfold addR at q
  refine ⟨_, rfl, ite2 (fun c => ?_) (fun c => ?_)⟩
  · refine ⟨_, rfl, x, dx, _, rfl, w1 _ _ hx, rfl, x, sc, tl, rfl, hF.same w1, Nat.zero_le _, fun e ne => ⟨(by show 2 ≤ sizeLine; decide), fun u nu => ?_⟩⟩
    have se := same_upd (o := .tup []) ne
    rw [show (0 * 2 ^ (sc + tl) + ((2 ^ sc - 1) * 2 ^ tl + 2 ^ (tl - 1)) : Int) = noneW sc tl by unfold noneW; omega]
    rw [if_pos (e1.mp c)] at q
    exact q u _ ((w1.trans se).trans (same_upd nu)) ⟨e, upd_same, same_upd nu _ _ upd_same⟩
  rw [if_neg (fun z => c (e1.mpr z))] at q
  refine ⟨_, rfl, _, rfl, _, rfl, x, sc, tl, a, rfl, hF.same w1, fun t1 H2 s2 T1 => ?_⟩
  have w2 := w1.trans s2
  refine ⟨_, rfl, _, rfl, x, sc, tl, b, rfl, hF.same w2, fun t2 H3 s3 T2 => ?_⟩
  have w3 := w2.trans s3
  refine ⟨_, rfl, x, t1, t2, sc, tl, _, _, _, _, way, rfl, hF.same w3, T1.same s3, T2, GM.sgn_01, GM.sgn_01, ofi_wo a h1 h2 h4, ofi_wo b h1 h2 h4, fun t4 H4 s4 P4 => ?_⟩
  exact q t4 _ (w3.trans s4) P4
def spTake2 (C : Addr) : Sp := fun vs H Q _ => ∃ (x : Addr) (sc tl : Nat) (a b : Int) (way : Str), vs = [.ref x, .int a, .int b, .str way] ∧ FAt C H x sc tl ∧
  ∀ t H', Same H H' → PairAt H' t (addR sc tl a (trn sc tl b) way) → Q (.ref t) H'
theorem ok_taken (B : Bl mg) (L : LL K mg C a1 a2 a3 a4 a5 a6 a7 a8 a9 a10 a11 a12 a13 a14 a15 a16 a17 a18 a19 a20 a21 a22 a23 a24 a25 a26 a27 a28 a29 a30 a31 a32 a33 a34 a35 a36 a37 a38 a39 a40 a41 a42 a43 a44 a45 a46 a47 a48 a49 a50 a51 a52 l1 l2 l3 l4 l5 l6 l7 l8 l9 l10 l11 l12 l13 l14 l15 l16 l17 l18 l19 l20 l21 l22 l23 l24 l25 l26 l27 l28 l29 l30 l31 l32 l33 l34 l35 l36 l37 l38 l39 l40 l41 l42 l43 l44 l45 l46 l47 l48 l49 l50 l51 l52 t47 t48 t49 tg_NEAR tg_CUT tg_UP tg_DOWN fW) : FnOk P w K mg base CX0 8 a11 l11 ["form", "a", "b", "way"] (spTake2 C) := by
  have G_added : FnOk P w K mg base CX0 7 a10 l10 ["form", "a", "b", "way"] (spAdd C) := (ok_added B L).mono (by decide)
  have G_Form_turned : FnOk P w K mg base CX0 7 a51 l51 ["self", "word"] (spTurned C) := (ok_Form_turned B L).mono (by decide)
  refine L.F_taken.ok sc_taken (fun vs H Q E h => ?_) (fun cdv A outer s H vs Q E hr h => ?_)
  · obtain ⟨x, sc, tl, a, b, way, rfl, _⟩ := h
    rfl
  obtain ⟨x, sc, tl, a, b, way, rfl, hF, q⟩ := h
  obtain ⟨dx, hx, h1, h2, h3, h4⟩ := id hF
  refine ⟨_, (pss_one (ps_ret (pe_callN G_added hr (by rfl) L.m_added L.F_added.kp (L.kb_added_way).choose_spec pass0 (pa_cons (pv 0) (pa_cons (pv 1) (pa_cons (pe_meth (pv 0) L.T.cl L.M_Form_turned G_Form_turned hr L.b_Form_turned .nil pass0 (pa_cons (pv 2) pa_nil)) pa_nil))) (pk_cons (pv 3) pk_nil)))), ?_⟩
  refine ⟨_, rfl, _, rfl, _, rfl, x, dx, _, rfl, hx, rfl, _, rfl, x, sc, tl, b, rfl, hF, fun H1 s1 => ?_⟩
  exact ⟨_, rfl, rfl, rfl, x, sc, tl, a, _, way, rfl, hF.same s1, fun t H2 s2 P2 => q t _ (s1.trans s2) P2⟩
end
section
variable {P : Program} {w : World} {K : PySem.W.Frag} {mg : Str → Option Value} {base : Heap}
variable {C : Addr} {a1 a2 a3 a4 a5 a6 a7 a8 a9 a10 a11 a12 a13 a14 a15 a16 a17 a18 a19 a20 a21 a22 a23 a24 a25 a26 a27 a28 a29 a30 a31 a32 a33 a34 a35 a36 a37 a38 a39 a40 a41 a42 a43 a44 a45 a46 a47 a48 a49 a50 a51 a52 : Addr} {l1 l2 l3 l4 l5 l6 l7 l8 l9 l10 l11 l12 l13 l14 l15 l16 l17 l18 l19 l20 l21 l22 l23 l24 l25 l26 l27 l28 l29 l30 l31 l32 l33 l34 l35 l36 l37 l38 l39 l40 l41 l42 l43 l44 l45 l46 l47 l48 l49 l50 l51 l52 : FuncData} {t47 t48 t49 tg_NEAR tg_CUT tg_UP tg_DOWN : Tok} {fW : Addr}
theorem sx_01 (sc tl : Nat) (a b : Int) : sx sc tl a b = 0 ∨ sx sc tl a b = 1 := by
  unfold sx
  split <;> simp
def po (sc tl : Nat) (a b : Int) : Option (Int × Int) := if GM.topS sc tl ≤ sz sc tl a ∨ GM.topS sc tl ≤ sz sc tl b then none else some (wn sc tl a * wn sc tl b, wp sc tl a + wp sc tl b)
theorem fi_mul {x y : Int} (hx : -(2 ^ 25) < x ∧ x < 2 ^ 25) (hy : -(2 ^ 25) < y ∧ y < 2 ^ 25) : Fi (x * y) := by
  have e : (x * y).natAbs = x.natAbs * y.natAbs := Int.natAbs_mul x y
  have h : x.natAbs * y.natAbs ≤ (2 ^ 25 - 1) * (2 ^ 25 - 1) := Nat.mul_le_mul (by omega) (by omega)
  unfold Fi
  rw [e]
  omega
theorem ofi_po {sc tl : Nat} (a b : Int) (h1 : 2 ≤ sc) (h2 : sc ≤ 8) (h4 : tl ≤ 24) : OFi (po sc tl a b) := by
  intro w e
  unfold po at e
  by_cases c : GM.topS sc tl ≤ sz sc tl a ∨ GM.topS sc tl ≤ sz sc tl b
  · rw [if_pos c] at e
    cases e
  · rw [if_neg c] at e
    have e' := Option.some.inj e
    subst e'
    have i1 := wp_in h1 h2 h4 (fun z => c (.inl z))
    have i2 := wp_in h1 h2 h4 (fun z => c (.inr z))
    exact ⟨fi_mul (wn_25 sc a h4) (wn_25 sc b h4), by show -1000 ≤ wp sc tl a + wp sc tl b; omega, by show wp sc tl a + wp sc tl b ≤ 1000; omega⟩
def joinR (sc tl : Nat) (a b c : Int) (way : Str) : Int × List Str :=
  if srt sc tl (sz sc tl a) = "none" ∨ srt sc tl (sz sc tl b) = "none" ∨ srt sc tl (sz sc tl c) = "none" then (noneW sc tl, [])
  else if (srt sc tl (sz sc tl a) = "endless" ∨ srt sc tl (sz sc tl b) = "endless") ∧ (srt sc tl (sz sc tl a) = "nought" ∨ srt sc tl (sz sc tl b) = "nought") then (noneW sc tl, ["bad"])
  else tadR sc tl (sx sc tl a b) (po sc tl a b) (GM.sgn sc tl c) (wo sc tl c) way
def spJoin (C : Addr) : Sp := fun vs H Q _ => ∃ (x : Addr) (sc tl : Nat) (a b c : Int) (way : Str), vs = [.ref x, .int a, .int b, .int c, .str way] ∧ FAt C H x sc tl ∧
  ∀ t H', Same H H' → PairAt H' t (joinR sc tl a b c way) → Q (.ref t) H'
theorem ok_joined (B : Bl mg) (L : LL K mg C a1 a2 a3 a4 a5 a6 a7 a8 a9 a10 a11 a12 a13 a14 a15 a16 a17 a18 a19 a20 a21 a22 a23 a24 a25 a26 a27 a28 a29 a30 a31 a32 a33 a34 a35 a36 a37 a38 a39 a40 a41 a42 a43 a44 a45 a46 a47 a48 a49 a50 a51 a52 l1 l2 l3 l4 l5 l6 l7 l8 l9 l10 l11 l12 l13 l14 l15 l16 l17 l18 l19 l20 l21 l22 l23 l24 l25 l26 l27 l28 l29 l30 l31 l32 l33 l34 l35 l36 l37 l38 l39 l40 l41 l42 l43 l44 l45 l46 l47 l48 l49 l50 l51 l52 t47 t48 t49 tg_NEAR tg_CUT tg_UP tg_DOWN fW) : FnOk P w K mg base CX0 7 a14 l14 ["form", "a", "b", "c", "way"] (spJoin C) := by
  have G_has_none : FnOk P w K mg base CX0 6 a15 l15 ["form", "words"] (spHN K C) := (ok_has_none B L).mono (by decide)
  have G_Form_none_word : FnOk P w K mg base CX0 6 a50 l50 ["self"] (spNamed0 C) := (ok_Form_none_word B L).mono (by decide)
  have G_is_endless_by_nought : FnOk P w K mg base CX0 6 a17 l17 ["form", "a", "b"] (spEBN C) := (ok_is_endless_by_nought B L).mono (by decide)
  have G_bad : FnOk P w K mg base CX0 6 a16 l16 ["form"] (spBad C) := (ok_bad B L).mono (by decide)
  have G_terms_added : FnOk P w K mg base CX0 6 a22 l22 ["form", "one", "other", "way"] (spTA C) := (ok_terms_added B L).mono (by decide)
  have G_product_of : FnOk P w K mg base CX0 6 a21 l21 ["form", "a", "b"] (spProd C) := (ok_product_of B L).mono (by decide)
  have G_term_of : FnOk P w K mg base CX0 6 a20 l20 ["form", "word"] (spTermOf C) := (ok_term_of B L).mono (by decide)
  refine L.F_joined.ok sc_joined (fun vs H Q E h => ?_) (fun cdv A outer s H vs Q E hr h => ?_)
  · obtain ⟨x, sc, tl, a, b, c, way, rfl, _⟩ := h
    rfl
  obtain ⟨x, sc, tl, a, b, c, way, rfl, hF, q⟩ := h
  obtain ⟨dx, hx, h1, h2, h3, h4⟩ := id hF
  refine ⟨_, (pss_cons (ps_if (pt_val (pe_call G_has_none hr (by rfl) L.m_has_none L.F_has_none.kp L.b_has_none .nil pass0 (pa_cons (pv 0) (pa_cons (pe_tup (pa_cons (pv 1) (pa_cons (pv 2) (pa_cons (pv 3) pa_nil)))) pa_nil)))) (pss_one (ps_ret (pe_tup (pa_cons (pe_meth0 (pv 0) L.T.cl L.M_Form_none_word G_Form_none_word hr L.b_Form_none_word .nil pass0) (pa_cons (pe_tup pa_nil) pa_nil))))) pss_nil)
    (pss_cons (ps_if (pt_val (pe_call G_is_endless_by_nought hr (by rfl) L.m_is_endless_by_nought L.F_is_endless_by_nought.kp L.b_is_endless_by_nought .nil pass0 (pa_cons (pv 0) (pa_cons (pv 1) (pa_cons (pv 2) pa_nil))))) (pss_one (ps_ret (pe_call G_bad hr (by rfl) L.m_bad L.F_bad.kp L.b_bad .nil pass0 (pa_cons (pv 0) pa_nil)))) pss_nil)
    (pss_one (ps_ret (pe_call G_terms_added hr (by rfl) L.m_terms_added L.F_terms_added.kp L.b_terms_added .nil pass0 (pa_cons (pv 0) (pa_cons (pe_call G_product_of hr (by rfl) L.m_product_of L.F_product_of.kp L.b_product_of .nil pass0 (pa_cons (pv 0) (pa_cons (pv 1) (pa_cons (pv 2) pa_nil)))) (pa_cons (pe_call G_term_of hr (by rfl) L.m_term_of L.F_term_of.kp L.b_term_of .nil pass0 (pa_cons (pv 0) (pa_cons (pv 3) pa_nil))) (pa_cons (pv 4) pa_nil))))))))), ?_⟩
  refine ⟨_, rfl, _, rfl, _, rfl, _, rfl, (by show 3 ≤ sizeLine; decide), fun t nt => ?_⟩
  have st := same_upd (o := .tup [.int a, .int b, .int c]) nt
  refine ⟨x, t, sc, tl, [a, b, c], rfl, hF.same st, .inl (.inl upd_same), Nat.le_of_ble_eq_true rfl, fun r H1 s1 hr1 => ?_⟩
  have w1 := st.trans s1
  have e1 : r = true ↔ (srt sc tl (sz sc tl a) = "none" ∨ srt sc tl (sz sc tl b) = "none" ∨ srt sc tl (sz sc tl c) = "none") := by
    rw [hr1]
    simp
  unfold joinR at q
  refine ⟨_, rfl, ite2 (fun cn => ?_) (fun cn => ?_)⟩
  · refine ⟨_, rfl, x, dx, _, rfl, w1 _ _ hx, rfl, x, sc, tl, rfl, hF.same w1, Nat.zero_le _, fun e ne => ⟨(by show 2 ≤ sizeLine; decide), fun u nu => ?_⟩⟩
    have se := same_upd (o := .tup []) ne
    rw [show (0 * 2 ^ (sc + tl) + ((2 ^ sc - 1) * 2 ^ tl + 2 ^ (tl - 1)) : Int) = noneW sc tl by unfold noneW; omega]
    rw [if_pos (e1.mp cn)] at q
    exact q u _ ((w1.trans se).trans (same_upd nu)) ⟨e, upd_same, same_upd nu _ _ upd_same⟩
  rw [if_neg (fun z => cn (e1.mpr z))] at q
  refine ⟨_, rfl, _, rfl, _, rfl, x, sc, tl, a, b, rfl, hF.same w1, fun r2 H2 s2 e2 => ?_⟩
  have w2 := w1.trans s2
  refine ⟨_, rfl, ite2 (fun c2 => ?_) (fun c2 => ?_)⟩
  · refine ⟨_, rfl, x, sc, tl, rfl, hF.same w2, fun u H3 nu s3 pu => ?_⟩
    rw [if_pos (e2.mp c2)] at q
    exact q u _ (w2.trans s3) pu
  rw [if_neg (fun z => c2 (e2.mpr z))] at q
  have go : ∀ (t1 : Addr) (H3 : Hp), Same H2 H3 → TermAt H3 t1 (sx sc tl a b) (po sc tl a b) → FAt C H3 x sc tl := fun _ _ k _ => (hF.same w2).same k
  refine ⟨_, rfl, _, rfl, _, rfl, _, rfl, x, sc, tl, a, b, rfl, hF.same w2, fun ct H3 t1 s3 et => ?_, fun na nb H3 t1 u s3 et eu => ?_⟩
  · have T1 : TermAt H3 t1 (sx sc tl a b) (po sc tl a b) := by
      unfold po
      rw [if_pos ct]
      exact et
    have w3 := w2.trans s3
    refine ⟨_, rfl, _, rfl, x, sc, tl, c, rfl, hF.same w3, fun t2 H4 s4 T2 => ?_⟩
    have w4 := w3.trans s4
    refine ⟨_, rfl, x, t1, t2, sc, tl, _, _, _, _, way, rfl, hF.same w4, T1.same s4, T2, sx_01 sc tl a b, GM.sgn_01, ofi_po a b h1 h2 h4, ofi_wo c h1 h2 h4, fun t4 H5 s5 P5 => ?_⟩
    exact q t4 _ (w4.trans s5) P5
  · have T1 : TermAt H3 t1 (sx sc tl a b) (po sc tl a b) := by
      unfold po
      rw [if_neg (fun z => z.elim na nb)]
      exact ⟨u, et, eu⟩
    have w3 := w2.trans s3
    refine ⟨_, rfl, _, rfl, x, sc, tl, c, rfl, hF.same w3, fun t2 H4 s4 T2 => ?_⟩
    have w4 := w3.trans s4
    refine ⟨_, rfl, x, t1, t2, sc, tl, _, _, _, _, way, rfl, hF.same w4, T1.same s4, T2, sx_01 sc tl a b, GM.sgn_01, ofi_po a b h1 h2 h4, ofi_wo c h1 h2 h4, fun t4 H5 s5 P5 => ?_⟩
    exact q t4 _ (w4.trans s5) P5
end
section
variable {P : Program} {w : World} {K : PySem.W.Frag} {mg : Str → Option Value} {base : Heap}
variable {C : Addr} {a1 a2 a3 a4 a5 a6 a7 a8 a9 a10 a11 a12 a13 a14 a15 a16 a17 a18 a19 a20 a21 a22 a23 a24 a25 a26 a27 a28 a29 a30 a31 a32 a33 a34 a35 a36 a37 a38 a39 a40 a41 a42 a43 a44 a45 a46 a47 a48 a49 a50 a51 a52 : Addr} {l1 l2 l3 l4 l5 l6 l7 l8 l9 l10 l11 l12 l13 l14 l15 l16 l17 l18 l19 l20 l21 l22 l23 l24 l25 l26 l27 l28 l29 l30 l31 l32 l33 l34 l35 l36 l37 l38 l39 l40 l41 l42 l43 l44 l45 l46 l47 l48 l49 l50 l51 l52 : FuncData} {t47 t48 t49 tg_NEAR tg_CUT tg_UP tg_DOWN : Tok} {fW : Addr}
theorem abs_in {x y : Int} (hx : -(2 ^ 25) < x ∧ x < 2 ^ 25) (hy : -(2 ^ 25) < y ∧ y < 2 ^ 25) : 0 ≤ ab (x * y) ∧ ab (x * y) < 2 ^ 50 := by
  have e : (x * y).natAbs = x.natAbs * y.natAbs := Int.natAbs_mul x y
  have h : x.natAbs * y.natAbs ≤ (2 ^ 25 - 1) * (2 ^ 25 - 1) := Nat.mul_le_mul (by omega) (by omega)
  rw [← e] at h
  unfold ab
  generalize x * y = z at h
  split <;> omega
def mulR (sc tl : Nat) (a b : Int) (way : Str) : Int × List Str :=
  if srt sc tl (sz sc tl a) = "none" ∨ srt sc tl (sz sc tl b) = "none" then (noneW sc tl, [])
  else if (srt sc tl (sz sc tl a) = "endless" ∨ srt sc tl (sz sc tl b) = "endless") ∧ (srt sc tl (sz sc tl a) = "nought" ∨ srt sc tl (sz sc tl b) = "nought") then (noneW sc tl, ["bad"])
  else if GM.topS sc tl ≤ sz sc tl a ∨ GM.topS sc tl ≤ sz sc tl b then (sx sc tl a b * 2 ^ (sc + tl) + ((2 ^ sc - 1) * 2 ^ tl + 0), [])
  else GR.rnd sc tl (sx sc tl a b) (ab (wn sc tl a * wn sc tl b)) (wp sc tl a + wp sc tl b) way false
def spMul (C : Addr) : Sp := fun vs H Q _ => ∃ (x : Addr) (sc tl : Nat) (a b : Int) (way : Str), vs = [.ref x, .int a, .int b, .str way] ∧ FAt C H x sc tl ∧
  ∀ t H', Same H H' → PairAt H' t (mulR sc tl a b way) → Q (.ref t) H'
theorem ok_multiplied (B : Bl mg) (L : LL K mg C a1 a2 a3 a4 a5 a6 a7 a8 a9 a10 a11 a12 a13 a14 a15 a16 a17 a18 a19 a20 a21 a22 a23 a24 a25 a26 a27 a28 a29 a30 a31 a32 a33 a34 a35 a36 a37 a38 a39 a40 a41 a42 a43 a44 a45 a46 a47 a48 a49 a50 a51 a52 l1 l2 l3 l4 l5 l6 l7 l8 l9 l10 l11 l12 l13 l14 l15 l16 l17 l18 l19 l20 l21 l22 l23 l24 l25 l26 l27 l28 l29 l30 l31 l32 l33 l34 l35 l36 l37 l38 l39 l40 l41 l42 l43 l44 l45 l46 l47 l48 l49 l50 l51 l52 t47 t48 t49 tg_NEAR tg_CUT tg_UP tg_DOWN fW) : FnOk P w K mg base CX0 6 a12 l12 ["form", "a", "b", "way"] (spMul C) := by
  have G_has_none : FnOk P w K mg base CX0 5 a15 l15 ["form", "words"] (spHN K C) := (ok_has_none B L).mono (by decide)
  have G_Form_none_word : FnOk P w K mg base CX0 5 a50 l50 ["self"] (spNamed0 C) := (ok_Form_none_word B L).mono (by decide)
  have G_is_endless_by_nought : FnOk P w K mg base CX0 5 a17 l17 ["form", "a", "b"] (spEBN C) := (ok_is_endless_by_nought B L).mono (by decide)
  have G_bad : FnOk P w K mg base CX0 5 a16 l16 ["form"] (spBad C) := (ok_bad B L).mono (by decide)
  have G_product_of : FnOk P w K mg base CX0 5 a21 l21 ["form", "a", "b"] (spProd C) := (ok_product_of B L).mono (by decide)
  have G_Form_endless : FnOk P w K mg base CX0 5 a48 l48 ["self", "sign"] (spNm C mEn mNo) := (ok_Form_endless B L).mono (by decide)
  have G_rounded : FnOk P w K mg base CX0 5 a4 l4 ["form", "sign", "number", "power", "way", "more"] (spRnd C) := (ok_rounded B L).mono (by decide)
  refine L.F_multiplied.ok sc_multiplied (fun vs H Q E h => ?_) (fun cdv A outer s H vs Q E hr h => ?_)
  · obtain ⟨x, sc, tl, a, b, way, rfl, _⟩ := h
    rfl
  obtain ⟨x, sc, tl, a, b, way, rfl, hF, q⟩ := h
  obtain ⟨dx, hx, h1, h2, h3, h4⟩ := id hF
  refine ⟨_, (pss_cons (ps_if (pt_val (pe_call G_has_none hr (by rfl) L.m_has_none L.F_has_none.kp L.b_has_none .nil pass0 (pa_cons (pv 0) (pa_cons (pe_tup (pa_cons (pv 1) (pa_cons (pv 2) pa_nil))) pa_nil)))) (pss_one (ps_ret (pe_tup (pa_cons (pe_meth0 (pv 0) L.T.cl L.M_Form_none_word G_Form_none_word hr L.b_Form_none_word .nil pass0) (pa_cons (pe_tup pa_nil) pa_nil))))) pss_nil)
    (pss_cons (ps_if (pt_val (pe_call G_is_endless_by_nought hr (by rfl) L.m_is_endless_by_nought L.F_is_endless_by_nought.kp L.b_is_endless_by_nought .nil pass0 (pa_cons (pv 0) (pa_cons (pv 1) (pa_cons (pv 2) pa_nil))))) (pss_one (ps_ret (pe_call G_bad hr (by rfl) L.m_bad L.F_bad.kp L.b_bad .nil pass0 (pa_cons (pv 0) pa_nil)))) pss_nil)
    (pss_cons (ps_asg (pe_call G_product_of hr (by rfl) L.m_product_of L.F_product_of.kp L.b_product_of .nil pass0 (pa_cons (pv 0) (pa_cons (pv 1) (pa_cons (pv 2) pa_nil)))) (pg_tup (by rfl) (pgs_cons (pg_name (i := 4) sc_multiplied.nd rfl (.inl rfl)) (pgs_cons (pg_name (i := 5) sc_multiplied.nd rfl (.inl rfl)) pgs_nil))))
    (pss_cons (ps_if (pt_cmpR op_isN (pv 5) pe_non (nomark _)) (pss_one (ps_ret (pe_tup (pa_cons (pe_meth (pv 0) L.T.cl L.M_Form_endless G_Form_endless hr L.b_Form_endless .nil pass0 (pa_cons (pv 4) pa_nil)) (pa_cons (pe_tup pa_nil) pa_nil))))) pss_nil)
    (pss_cons (ps_asg (pv 5) (pg_tup (by rfl) (pgs_cons (pg_name (i := 6) sc_multiplied.nd rfl (.inl rfl)) (pgs_cons (pg_name (i := 7) sc_multiplied.nd rfl (.inl rfl)) pgs_nil))))
    (pss_one (ps_ret (pe_callN G_rounded hr (by rfl) L.m_rounded L.F_rounded.kp (L.kb_rounded_way).choose_spec pass0 (pa_cons (pv 0) (pa_cons (pv 4) (pa_cons (pe_callB call_abs (by rfl) B.abs boot_abs (pa_cons (pv 6) pa_nil)) (pa_cons (pv 7) pa_nil)))) (pk_cons (pv 3) pk_nil))))))))), ?_⟩
  refine ⟨_, rfl, _, rfl, _, rfl, (by show 2 ≤ sizeLine; decide), fun t nt => ?_⟩
  have st := same_upd (o := .tup [.int a, .int b]) nt
  refine ⟨x, t, sc, tl, [a, b], rfl, hF.same st, .inl (.inl upd_same), Nat.le_of_ble_eq_true rfl, fun r H1 s1 hr1 => ?_⟩
  have w1 := st.trans s1
  have e1 : r = true ↔ (srt sc tl (sz sc tl a) = "none" ∨ srt sc tl (sz sc tl b) = "none") := by
    rw [hr1]
    simp
  refine ⟨_, rfl, ite2 (fun c => ?_) (fun c => ?_)⟩
  · refine ⟨_, rfl, x, dx, _, rfl, w1 _ _ hx, rfl, x, sc, tl, rfl, hF.same w1, Nat.zero_le _, fun e ne => ⟨(by show 2 ≤ sizeLine; decide), fun u nu => ?_⟩⟩
    have se := same_upd (o := .tup []) ne
    rw [show (0 * 2 ^ (sc + tl) + ((2 ^ sc - 1) * 2 ^ tl + 2 ^ (tl - 1)) : Int) = noneW sc tl by unfold noneW; omega]
    refine q u _ ((w1.trans se).trans (same_upd nu)) ?_
    unfold mulR
    rw [if_pos (e1.mp c)]
    exact ⟨e, upd_same, same_upd nu _ _ upd_same⟩
  have n1 := fun z => c (e1.mpr z)
  refine ⟨_, rfl, _, rfl, _, rfl, x, sc, tl, a, b, rfl, hF.same w1, fun r2 H2 s2 e2 => ?_⟩
  have w2 := w1.trans s2
  refine ⟨_, rfl, ite2 (fun c2 => ?_) (fun c2 => ?_)⟩
  · refine ⟨_, rfl, x, sc, tl, rfl, hF.same w2, fun u H3 nu s3 pu => ?_⟩
    refine q u _ (w2.trans s3) ?_
    unfold mulR
    rw [if_neg n1, if_pos (e2.mp c2)]
    exact pu
  have n2 := fun z => c2 (e2.mpr z)
  refine ⟨_, rfl, _, rfl, _, rfl, x, sc, tl, a, b, rfl, hF.same w2, fun ct H3 u s3 eu => ?_, fun na nb H3 u v s3 eu ev => ?_⟩
  · have w3 := w2.trans s3
    refine ⟨u, _, rfl, .inl (.inl eu), rfl, _, _, rfl, _, _, rfl, rfl, ?_⟩
    refine ⟨_, rfl, rfl, _, rfl, iteT ?_⟩
    refine ⟨_, rfl, x, dx, _, rfl, w3 _ _ hx, rfl, _, rfl, x, sc, tl, _, rfl, hF.same w3, sx_01 sc tl a b, Nat.zero_le _, fun e ne => ⟨(by show 2 ≤ sizeLine; decide), fun t2 nt2 => ?_⟩⟩
    have se := same_upd (o := .tup []) ne
    refine q t2 _ ((w3.trans se).trans (same_upd nt2)) ?_
    unfold mulR
    rw [if_neg n1, if_neg n2, if_pos ct]
    exact ⟨e, upd_same, same_upd nt2 _ _ upd_same⟩
  · have w3 := w2.trans s3
    refine ⟨u, _, rfl, .inl (.inl eu), rfl, _, _, rfl, _, _, rfl, rfl, ?_⟩
    refine ⟨_, rfl, rfl, _, rfl, iteF ?_⟩
    refine ⟨_, rfl, v, _, rfl, .inl (.inl ev), rfl, _, _, rfl, _, _, rfl, rfl, ?_⟩
    have ia := wp_in h1 h2 h4 na
    have ib := wp_in h1 h2 h4 nb
    have im := abs_in (wn_25 sc a h4) (wn_25 sc b h4)
    refine ⟨_, rfl, _, rfl, _, rfl, _, rfl, _, rfl, _, rfl, rfl, rfl, x, sc, tl, _, _, _, way, false, rfl, hF.same w3, sx_01 sc tl a b, fit_lt im.1 im.2 (by decide), by omega, by omega, (fun z => nomatch z), fun t3 H4 nt3 s4 P3 => ?_⟩
    refine q t3 _ (w3.trans s4) ?_
    unfold mulR
    rw [if_neg n1, if_neg n2, if_neg (fun z => z.elim na nb)]
    exact P3
end
section
variable {P : Program} {w : World} {K : PySem.W.Frag} {mg : Str → Option Value} {base : Heap}
variable {C : Addr} {a1 a2 a3 a4 a5 a6 a7 a8 a9 a10 a11 a12 a13 a14 a15 a16 a17 a18 a19 a20 a21 a22 a23 a24 a25 a26 a27 a28 a29 a30 a31 a32 a33 a34 a35 a36 a37 a38 a39 a40 a41 a42 a43 a44 a45 a46 a47 a48 a49 a50 a51 a52 : Addr} {l1 l2 l3 l4 l5 l6 l7 l8 l9 l10 l11 l12 l13 l14 l15 l16 l17 l18 l19 l20 l21 l22 l23 l24 l25 l26 l27 l28 l29 l30 l31 l32 l33 l34 l35 l36 l37 l38 l39 l40 l41 l42 l43 l44 l45 l46 l47 l48 l49 l50 l51 l52 : FuncData} {t47 t48 t49 tg_NEAR tg_CUT tg_UP tg_DOWN : Tok} {fW : Addr}
theorem quo_ok {sc tl k : Nat} {x y p : Int} (hx : 0 < x) (hy : 0 < y) (hy2 : y < 2 ^ (tl + 1)) (hk : 2 * tl + 2 ≤ k) : 0 < x * 2 ^ k / y ∧ p < GR.lap sc tl (x * 2 ^ k / y) p := by
  have pk := GM.pow_pos' k
  have p1 := GM.pow_pos' (tl + 1)
  have l1 : (2 : Int) ^ (tl + 1) * 2 ^ (tl + 1) ≤ x * 2 ^ k := by
    rw [← GM.pow_add']
    have a : (2 : Int) ^ (tl + 1 + (tl + 1)) ≤ 2 ^ k := GM.pow_le' (by omega)
    have b : 1 * 2 ^ k ≤ x * 2 ^ k := Int.mul_le_mul_of_nonneg_right (by omega) (by omega)
    omega
  have hq : (2 : Int) ^ (tl + 1) ≤ x * 2 ^ k / y := by
    refine (Int.le_ediv_iff_mul_le hy).mpr ?_
    have : (2 : Int) ^ (tl + 1) * y ≤ 2 ^ (tl + 1) * 2 ^ (tl + 1) := Int.mul_le_mul_of_nonneg_left (by omega) (by omega)
    omega
  have h0 : 0 < x * 2 ^ k / y := by omega
  refine ⟨h0, ?_⟩
  generalize x * 2 ^ k / y = q at *
  obtain ⟨m, hm, g1, g2⟩ := GR.bl_in h0
  have hm1 : tl + 1 ≤ m := by
    rcases Nat.lt_or_ge m (tl + 1) with c | c
    · have := GM.pow_le' (show m + 1 ≤ tl + 1 by omega)
      omega
    · exact c
  unfold GR.lap
  split <;> omega
def quoR (sc tl k : Nat) (s x p y e : Int) (w : Str) : Int × List Str := GR.rnd sc tl s (x * 2 ^ k / y) (p - e - k) w (!decide (x * 2 ^ k % y = 0))
theorem quo_eq {sc tl : Nat} {s x p y e : Int} {w : Str} (j : Nat) (hx : 0 < x) (hy : 0 < y) (hy2 : y < 2 ^ (tl + 1)) : quoR sc tl (2 * tl + 2 + j) s x p y e w = quoR sc tl (2 * tl + 2) s x p y e w := by
  have pj := GM.pow_pos' j
  have pk := GM.pow_pos' (2 * tl + 2)
  have ek : (2 : Int) ^ (2 * tl + 2 + j) = 2 ^ (2 * tl + 2) * 2 ^ j := GM.pow_add' _ _
  have eq : x * 2 ^ (2 * tl + 2 + j) / y / 2 ^ j = x * 2 ^ (2 * tl + 2) / y := by
    rw [Int.ediv_ediv_of_nonneg (Int.le_of_lt hy), ek, ← Int.mul_assoc, Int.mul_ediv_mul_of_pos_left _ _ pj]
  have ok := quo_ok (sc := sc) (p := p - e - ((2 * tl + 2 : Nat) : Int)) hx hy hy2 (Nat.le_refl (2 * tl + 2))
  have ep : p - e - ((2 * tl + 2 + j : Nat) : Int) + j = p - e - ((2 * tl + 2 : Nat) : Int) := by omega
  unfold quoR
  rw [GR.rnd_cut j (by rw [eq]; exact ok.1) (by rw [eq, ep]; exact ok.2), eq, ep]
  congr 1
  rw [Bool.eq_iff_iff, Bool.or_eq_true, Bool.not_eq_true', Bool.not_eq_true', Bool.not_eq_true', decide_eq_false_iff_not, decide_eq_false_iff_not, decide_eq_false_iff_not]
  have dm1 := Int.emod_add_mul_ediv (x * 2 ^ (2 * tl + 2 + j)) y
  have key : (x * 2 ^ (2 * tl + 2 + j) / y % 2 ^ j = 0 ∧ x * 2 ^ (2 * tl + 2 + j) % y = 0) ↔ x * 2 ^ (2 * tl + 2) % y = 0 := by
    constructor
    · rintro ⟨a, b⟩
      rw [b, Int.zero_add] at dm1
      have dm2 := Int.emod_add_mul_ediv (x * 2 ^ (2 * tl + 2 + j) / y) (2 ^ j)
      rw [a, Int.zero_add, eq] at dm2
      have e3 : (y * (x * 2 ^ (2 * tl + 2) / y)) * 2 ^ j = (x * 2 ^ (2 * tl + 2)) * 2 ^ j := by
        rw [Int.mul_assoc y, Int.mul_comm _ (2 ^ j), dm2, dm1, ek, Int.mul_assoc]
      have := Int.eq_of_mul_eq_mul_right (by omega) e3
      rw [← this, Int.mul_emod_right]
    · intro a
      have dm2 := Int.emod_add_mul_ediv (x * 2 ^ (2 * tl + 2)) y
      rw [a, Int.zero_add] at dm2
      have e2 : x * 2 ^ (2 * tl + 2 + j) = y * (x * 2 ^ (2 * tl + 2) / y * 2 ^ j) := by
        rw [ek, ← Int.mul_assoc, ← Int.mul_assoc, dm2]
      refine ⟨?_, ?_⟩
      · rw [e2, Int.mul_ediv_cancel_left _ (by omega), Int.mul_emod_left]
      · rw [e2, Int.mul_emod_right]
  constructor
  · intro h z
    have := key.mpr z
    exact h.elim (fun y => y this.1) (fun y => y this.2)
  · intro h
    by_cases z : x * 2 ^ (2 * tl + 2 + j) / y % 2 ^ j = 0
    · exact .inr (fun y => h (key.mp ⟨z, y⟩))
    · exact .inl z
theorem ifS_ev {c : TT} {t u : TS} {D : Ends} {σ : L2.St} {H : Hp} (R : Bool → Hp → Prop) (h : ∀ Q : Bool → Hp → Prop, (∀ z H', R z H' → Q z H') → c σ H Q) (q1 : ∀ H', R true H' → t D σ H') (q2 : ∀ H', R false H' → u D σ H') : tIfS c t u D σ H := h _ fun z H' r => by
  cases z with
  | true => exact q1 H' r
  | false => exact q2 H' r
def divR (sc tl : Nat) (a b : Int) (way : Str) : Int × List Str :=
  if srt sc tl (sz sc tl a) = "none" ∨ srt sc tl (sz sc tl b) = "none" then (noneW sc tl, [])
  else if (srt sc tl (sz sc tl a) = "nought" ∧ srt sc tl (sz sc tl b) = "nought") ∨ (srt sc tl (sz sc tl a) = "endless" ∧ srt sc tl (sz sc tl b) = "endless") then (noneW sc tl, ["bad"])
  else if srt sc tl (sz sc tl a) = "endless" then (endW sc tl (sx sc tl a b), [])
  else if srt sc tl (sz sc tl b) = "endless" ∨ srt sc tl (sz sc tl a) = "nought" then (sx sc tl a b * 2 ^ (sc + tl), [])
  else if srt sc tl (sz sc tl b) = "nought" then (endW sc tl (sx sc tl a b), ["bynought"])
  else quoR sc tl (2 * tl + 2) (sx sc tl a b) (ab (wn sc tl a)) (wp sc tl a) (ab (wn sc tl b)) (wp sc tl b) way
theorem sz_nn (sc tl : Nat) (v : Int) : 0 ≤ sz sc tl v := Int.emod_nonneg _ (by have := GM.pow_pos' (sc + tl); omega)
theorem srt_nought (m t : Nat) (s : Int) : srt m t s = "nought" ↔ (¬ GM.topS m t ≤ s ∧ s = 0) := by
  unfold srt
  constructor
  · intro h
    by_cases c : GM.topS m t ≤ s
    · rw [if_pos c] at h
      by_cases e : s = GM.topS m t
      · rw [if_pos e] at h
        exact absurd h (by decide +kernel)
      · rw [if_neg e] at h
        exact absurd h (by decide +kernel)
    · rw [if_neg c] at h
      by_cases e : s = 0
      · exact ⟨c, e⟩
      · rw [if_neg e] at h
        by_cases e2 : s / 2 ^ t = 0
        · rw [if_pos e2] at h
          exact absurd h (by decide +kernel)
        · rw [if_neg e2] at h
          exact absurd h (by decide +kernel)
  · intro h
    rw [if_neg h.1, if_pos h.2]
theorem num_zero {tl : Nat} {u : Int} (h0 : 0 ≤ u) : 0 ≤ GM.num tl u ∧ (GM.num tl u = 0 ↔ u = 0) := by
  have hp := GM.pow_pos' tl
  have n := Int.emod_nonneg u (show (2 : Int) ^ tl ≠ 0 by omega)
  have d := Int.emod_add_mul_ediv u (2 ^ tl)
  unfold GM.num
  by_cases c : u / 2 ^ tl = 0
  · rw [if_pos c]
    rw [c, Int.mul_zero, Int.add_zero] at d
    omega
  · rw [if_neg c]
    refine ⟨by omega, fun z => by omega, fun z => ?_⟩
    rw [z] at c
    exact absurd (Int.zero_ediv _) c
theorem num_in2 {tl : Nat} {u : Int} (h0 : 0 ≤ u) : GM.num tl u < 2 ^ (tl + 1) := by
  have hp := GM.pow_pos' tl
  have p1 : (2 : Int) ^ (tl + 1) = 2 ^ tl * 2 := GM.pow_s _
  have l := Int.emod_lt_of_pos u hp
  unfold GM.num
  split <;> omega
theorem ab_wn {sc tl : Nat} {v : Int} (hn : ¬ srt sc tl (sz sc tl v) = "nought") (ht : ¬ GM.topS sc tl ≤ sz sc tl v) : 0 < ab (wn sc tl v) ∧ ab (wn sc tl v) < 2 ^ (tl + 1) := by
  have h := num_zero (tl := tl) (sz_nn sc tl v)
  have l := num_in2 (tl := tl) (sz_nn sc tl v)
  have nz : ¬ GM.num tl (sz sc tl v) = 0 := fun z => hn ((srt_nought _ _ _).mpr ⟨ht, h.2.mp z⟩)
  unfold wn ab
  split <;> split <;> omega
theorem quo_fit {x y : Int} {k : Nat} (hx : 0 < x) (hx2 : x < 2 ^ 25) (hy : 0 < y) (hk : k ≤ 100) : Fit (x * 2 ^ k / y) := by
  have pk := GM.pow_pos' k
  have a : 0 ≤ x * 2 ^ k := Int.mul_nonneg (by omega) (by omega)
  have b : x * 2 ^ k / y ≤ x * 2 ^ k := Int.ediv_le_self _ a
  have c : x * 2 ^ k < 2 ^ 25 * 2 ^ k := Int.mul_lt_mul_of_pos_right hx2 pk
  have d : (2 : Int) ^ 25 * 2 ^ k ≤ 2 ^ 125 := by
    rw [← GM.pow_add']
    exact GM.pow_le' (by omega)
  exact fit_lt (k := 125) (Int.ediv_nonneg a (by omega)) (by omega) (by decide)
def spQR (K : PySem.W.Frag) (C : Addr) : Sp := fun vs H Q _ => ∃ (x oa ob : Addr) (sc tl : Nat) (s n p m e : Int) (way : Str), vs = [.ref x, .int s, .ref oa, .ref ob, .str way] ∧ FAt C H x sc tl ∧ (s = 0 ∨ s = 1) ∧ SqT K H oa [.int n, .int p] ∧ SqT K H ob [.int m, .int e] ∧ 0 < ab n ∧ ab n < 2 ^ (tl + 1) ∧ 0 < ab m ∧ ab m < 2 ^ (tl + 1) ∧ -400 ≤ p ∧ p ≤ 400 ∧ -400 ≤ e ∧ e ≤ 400 ∧
  ∀ t H', Same H H' → PairAt H' t (quoR sc tl (2 * tl + 2) s (ab n) p (ab m) e way) → Q (.ref t) H'
theorem ok_quotient_rounded (B : Bl mg) (L : LL K mg C a1 a2 a3 a4 a5 a6 a7 a8 a9 a10 a11 a12 a13 a14 a15 a16 a17 a18 a19 a20 a21 a22 a23 a24 a25 a26 a27 a28 a29 a30 a31 a32 a33 a34 a35 a36 a37 a38 a39 a40 a41 a42 a43 a44 a45 a46 a47 a48 a49 a50 a51 a52 l1 l2 l3 l4 l5 l6 l7 l8 l9 l10 l11 l12 l13 l14 l15 l16 l17 l18 l19 l20 l21 l22 l23 l24 l25 l26 l27 l28 l29 l30 l31 l32 l33 l34 l35 l36 l37 l38 l39 l40 l41 l42 l43 l44 l45 l46 l47 l48 l49 l50 l51 l52 t47 t48 t49 tg_NEAR tg_CUT tg_UP tg_DOWN fW) : FnOk P w K mg base CX0 6 a25 l25 ["form", "sign", "one", "other", "way"] (spQR K C) := by
  have G_rounded : FnOk P w K mg base CX0 5 a4 l4 ["form", "sign", "number", "power", "way", "more"] (spRnd C) := (ok_rounded B L).mono (by decide)
  refine L.F_quotient_rounded.ok sc_quotient_rounded (fun vs H Q E h => ?_) (fun cdv A outer s H vs Q E hr h => ?_)
  · obtain ⟨x, oa, ob, sc, tl, s, n, p, m, e, way, rfl, _⟩ := h
    rfl
  obtain ⟨x, oa, ob, sc, tl, s, n, p, m, e, way, rfl, hF, hs, hA, hB, n0, n1, m0, m1, p1, p2, e1, e2, q⟩ := h
  obtain ⟨dx, hx, h1, h2, h3, h4⟩ := id hF
  refine ⟨_, (pss_cons (ps_asg (pv 2) (pg_tup (by rfl) (pgs_cons (pg_name (i := 5) sc_quotient_rounded.nd rfl (.inl rfl)) (pgs_cons (pg_name (i := 6) sc_quotient_rounded.nd rfl (.inl rfl)) pgs_nil))))
    (pss_cons (ps_asg (pv 3) (pg_tup (by rfl) (pgs_cons (pg_name (i := 7) sc_quotient_rounded.nd rfl (.inl rfl)) (pgs_cons (pg_name (i := 8) sc_quotient_rounded.nd rfl (.inl rfl)) pgs_nil))))
    (pss_cons (ps_set (i := 9) sc_quotient_rounded.nd rfl (.inl rfl) (pe_op op_add (pe_op op_mul pe_int (pe_fld (pv 0) rfl)) pe_int))
    (pss_cons (ps_asg (pe_callB call_divmodW (by rfl) B.divmod boot_divmod (pa_cons (pe_op op_shlN (pe_callB call_abs (by rfl) B.abs boot_abs (pa_cons (pv 5) pa_nil)) (pv 9)) (pa_cons (pe_callB call_abs (by rfl) B.abs boot_abs (pa_cons (pv 7) pa_nil)) pa_nil))) (pg_tup (by rfl) (pgs_cons (pg_name (i := 10) sc_quotient_rounded.nd rfl (.inl rfl)) (pgs_cons (pg_name (i := 11) sc_quotient_rounded.nd rfl (.inl rfl)) pgs_nil))))
    (pss_one (ps_ret (pe_callN G_rounded hr (by rfl) L.m_rounded L.F_rounded.kp (L.kb_rounded_way_more).choose_spec pass0 (pa_cons (pv 0) (pa_cons (pv 1) (pa_cons (pv 10) (pa_cons (pe_op op_sub (pe_op op_sub (pv 6) (pv 8)) (pv 9)) pa_nil)))) (pk_cons (pv 4) (pk_cons (pe_cmpR op_ne (pv 11) pe_int (nomark _)) pk_nil))))))))), ?_⟩
  have p25 : (2 : Int) ^ (tl + 1) ≤ 2 ^ 25 := GM.pow_le' (by omega)
  refine ⟨_, rfl, oa, _, rfl, hA, rfl, _, _, rfl, _, _, rfl, rfl, ?_⟩
  refine ⟨_, rfl, ob, _, rfl, hB, rfl, _, _, rfl, _, _, rfl, rfl, ?_⟩
  refine ⟨_, rfl, x, C, dx, _, _, rfl, hx, L.T.cl, L.T.nt, fl_t _ _, _, _, rfl, rfl, .inl ⟨by decide, by decide⟩, _, _, rfl, rfl, ?_⟩
  have pk := GM.pow_pos' (2 * tl + 2)
  have pb : ab n * 2 ^ (2 * tl + 2) < 2 ^ 25 * 2 ^ (2 * tl + 2) := Int.mul_lt_mul_of_pos_right (by omega) pk
  refine ⟨_, rfl, n, rfl, _, rfl, _, 2 * tl + 2, rfl, congrArg V.int (by omega), shl_ok (n := 25) (by show (ab n).natAbs < _; omega) (by omega), _, rfl, m, rfl, _, _, rfl, divp_small m0 (by show ab m < 2 ^ 250; omega), fun P np => ?_⟩
  have sP := same_upd (o := .tup [.int (ab n * 2 ^ (2 * tl + 2) / ab m), .int (ab n * 2 ^ (2 * tl + 2) % ab m)]) np
  refine ⟨P, _, rfl, .inl (.inl upd_same), rfl, _, _, rfl, _, _, rfl, rfl, ?_⟩
  have F1 := hF.same sP
  refine ⟨_, rfl, _, rfl, _, rfl, _, rfl, _, rfl, _, _, rfl, rfl, _, rfl, _, _, rfl, rfl, _, rfl, _, rfl, rfl, rfl, rfl, ?_⟩
  have ok := quo_ok (sc := sc) (p := p - e - (2 * (tl : Int) + 2)) n0 m0 m1 (Nat.le_refl (2 * tl + 2))
  refine ⟨x, sc, tl, s, _, _, way, _, rfl, F1, hs, quo_fit (x := ab n) (y := ab m) n0 (by omega) m0 (by omega), by omega, by omega, fun _ => ⟨by have := ok.1; show ¬ ab n * 2 ^ (2 * tl + 2) / ab m = 0; omega, ok.2⟩, fun t3 H4 nt3 s4 P3 => ?_⟩
  refine q t3 _ (sP.trans s4) ?_
  unfold quoR
  rw [dvi] at P3
  rw [show p - e - ((2 * tl + 2 : Nat) : Int) = p - e - (2 * (tl : Int) + 2) by omega]
  exact P3
def spDiv (C : Addr) : Sp := fun vs H Q _ => ∃ (x : Addr) (sc tl : Nat) (a b : Int) (way : Str), vs = [.ref x, .int a, .int b, .str way] ∧ FAt C H x sc tl ∧
  ∀ t H', Same H H' → PairAt H' t (divR sc tl a b way) → Q (.ref t) H'
theorem srt_dif (sc tl : Nat) (s : Int) : ¬ (srt sc tl s = "endless" ∧ srt sc tl s = "nought") := fun h => by
  rw [h.1] at h
  exact absurd h.2 (by decide +kernel)
theorem ok_divided (B : Bl mg) (L : LL K mg C a1 a2 a3 a4 a5 a6 a7 a8 a9 a10 a11 a12 a13 a14 a15 a16 a17 a18 a19 a20 a21 a22 a23 a24 a25 a26 a27 a28 a29 a30 a31 a32 a33 a34 a35 a36 a37 a38 a39 a40 a41 a42 a43 a44 a45 a46 a47 a48 a49 a50 a51 a52 l1 l2 l3 l4 l5 l6 l7 l8 l9 l10 l11 l12 l13 l14 l15 l16 l17 l18 l19 l20 l21 l22 l23 l24 l25 l26 l27 l28 l29 l30 l31 l32 l33 l34 l35 l36 l37 l38 l39 l40 l41 l42 l43 l44 l45 l46 l47 l48 l49 l50 l51 l52 t47 t48 t49 tg_NEAR tg_CUT tg_UP tg_DOWN fW) : FnOk P w K mg base CX0 7 a13 l13 ["form", "a", "b", "way"] (spDiv C) := by
  have G_has_none : FnOk P w K mg base CX0 6 a15 l15 ["form", "words"] (spHN K C) := (ok_has_none B L).mono (by decide)
  have G_Form_none_word : FnOk P w K mg base CX0 6 a50 l50 ["self"] (spNamed0 C) := (ok_Form_none_word B L).mono (by decide)
  have G_Form_sort_of : FnOk P w K mg base CX0 6 a46 l46 ["self", "word"] (spSort C) := (ok_Form_sort_of B L).mono (by decide)
  have G_unlike_sign : FnOk P w K mg base CX0 6 a19 l19 ["form", "a", "b"] (spUnl C) := (ok_unlike_sign B L).mono (by decide)
  have G_bad : FnOk P w K mg base CX0 6 a16 l16 ["form"] (spBad C) := (ok_bad B L).mono (by decide)
  have G_Form_endless : FnOk P w K mg base CX0 6 a48 l48 ["self", "sign"] (spNm C mEn mNo) := (ok_Form_endless B L).mono (by decide)
  have G_Form_nought : FnOk P w K mg base CX0 6 a47 l47 ["self", "sign"] (spNm C mNo mNo) := (ok_Form_nought B L).mono (by decide)
  have G_Form_worth : FnOk P w K mg base CX0 6 a52 l52 ["self", "word"] (spWorth C) := (ok_Form_worth B L).mono (by decide)
  have G_quotient_rounded : FnOk P w K mg base CX0 6 a25 l25 ["form", "sign", "one", "other", "way"] (spQR K C) := (ok_quotient_rounded B L).mono (by decide)
  refine L.F_divided.ok sc_divided (fun vs H Q E h => ?_) (fun cdv A outer s H vs Q E hr h => ?_)
  · obtain ⟨x, sc, tl, a, b, way, rfl, _⟩ := h
    rfl
  obtain ⟨x, sc, tl, a, b, way, rfl, hF, q⟩ := h
  obtain ⟨dx, hx, h1, h2, h3, h4⟩ := id hF
  refine ⟨_, (pss_cons (ps_if (pt_val (pe_call G_has_none hr (by rfl) L.m_has_none L.F_has_none.kp L.b_has_none .nil pass0 (pa_cons (pv 0) (pa_cons (pe_tup (pa_cons (pv 1) (pa_cons (pv 2) pa_nil))) pa_nil)))) (pss_one (ps_ret (pe_tup (pa_cons (pe_meth0 (pv 0) L.T.cl L.M_Form_none_word G_Form_none_word hr L.b_Form_none_word .nil pass0) (pa_cons (pe_tup pa_nil) pa_nil))))) pss_nil)
    (pss_cons (ps_set (i := 4) sc_divided.nd rfl (.inl rfl) (pe_meth (pv 0) L.T.cl L.M_Form_sort_of G_Form_sort_of hr L.b_Form_sort_of .nil pass0 (pa_cons (pv 1) pa_nil)))
    (pss_cons (ps_set (i := 5) sc_divided.nd rfl (.inl rfl) (pe_meth (pv 0) L.T.cl L.M_Form_sort_of G_Form_sort_of hr L.b_Form_sort_of .nil pass0 (pa_cons (pv 2) pa_nil)))
    (pss_cons (ps_set (i := 6) sc_divided.nd rfl (.inl rfl) (pe_call G_unlike_sign hr (by rfl) L.m_unlike_sign L.F_unlike_sign.kp L.b_unlike_sign .nil pass0 (pa_cons (pv 0) (pa_cons (pv 1) (pa_cons (pv 2) pa_nil)))))
    (pss_cons (ps_if (PW.pt (pw_and (pt_cmpR op_eq (pv 4) (pv 5) (nomark _)) (pw_and1 (pt_cmpR op_in_seq (pv 4) (pe_tup (pa_cons pe_str (pa_cons pe_str pa_nil))) (by rfl))))) (pss_one (ps_ret (pe_call G_bad hr (by rfl) L.m_bad L.F_bad.kp L.b_bad .nil pass0 (pa_cons (pv 0) pa_nil)))) pss_nil)
    (pss_cons (ps_if (pt_cmpR op_eq (pv 4) pe_str (nomark _)) (pss_one (ps_ret (pe_tup (pa_cons (pe_meth (pv 0) L.T.cl L.M_Form_endless G_Form_endless hr L.b_Form_endless .nil pass0 (pa_cons (pv 6) pa_nil)) (pa_cons (pe_tup pa_nil) pa_nil))))) pss_nil)
    (pss_cons (ps_if (PW.pt (pw_or (pt_cmpR op_eq (pv 5) pe_str (nomark _)) (pw_or1 (pt_cmpR op_eq (pv 4) pe_str (nomark _))))) (pss_one (ps_ret (pe_tup (pa_cons (pe_meth (pv 0) L.T.cl L.M_Form_nought G_Form_nought hr L.b_Form_nought .nil pass0 (pa_cons (pv 6) pa_nil)) (pa_cons (pe_tup pa_nil) pa_nil))))) pss_nil)
    (pss_cons (ps_if (pt_cmpR op_eq (pv 5) pe_str (nomark _)) (pss_one (ps_ret (pe_tup (pa_cons (pe_meth (pv 0) L.T.cl L.M_Form_endless G_Form_endless hr L.b_Form_endless .nil pass0 (pa_cons (pv 6) pa_nil)) (pa_cons (pe_tup (pa_cons pe_str pa_nil)) pa_nil))))) pss_nil)
    (pss_one (ps_ret (pe_call G_quotient_rounded hr (by rfl) L.m_quotient_rounded L.F_quotient_rounded.kp L.b_quotient_rounded .nil pass0 (pa_cons (pv 0) (pa_cons (pv 6) (pa_cons (pe_meth (pv 0) L.T.cl L.M_Form_worth G_Form_worth hr L.b_Form_worth .nil pass0 (pa_cons (pv 1) pa_nil)) (pa_cons (pe_meth (pv 0) L.T.cl L.M_Form_worth G_Form_worth hr L.b_Form_worth .nil pass0 (pa_cons (pv 2) pa_nil)) (pa_cons (pv 3) pa_nil)))))))))))))))), ?_⟩
  refine ⟨_, rfl, _, rfl, _, rfl, (by show 2 ≤ sizeLine; decide), fun t nt => ?_⟩
  have st := same_upd (o := .tup [.int a, .int b]) nt
  refine ⟨x, t, sc, tl, [a, b], rfl, hF.same st, .inl (.inl upd_same), Nat.le_of_ble_eq_true rfl, fun r H1 s1 hr1 => ?_⟩
  have w1 := st.trans s1
  have e1 : r = true ↔ (srt sc tl (sz sc tl a) = "none" ∨ srt sc tl (sz sc tl b) = "none") := by
    rw [hr1]
    simp
  unfold divR at q
  refine ⟨_, rfl, ite2 (fun c => ?_) (fun c => ?_)⟩
  · refine ⟨_, rfl, x, dx, _, rfl, w1 _ _ hx, rfl, x, sc, tl, rfl, hF.same w1, Nat.zero_le _, fun e ne => ⟨(by show 2 ≤ sizeLine; decide), fun u nu => ?_⟩⟩
    have se := same_upd (o := .tup []) ne
    rw [show (0 * 2 ^ (sc + tl) + ((2 ^ sc - 1) * 2 ^ tl + 2 ^ (tl - 1)) : Int) = noneW sc tl by unfold noneW; omega]
    rw [if_pos (e1.mp c)] at q
    exact q u _ ((w1.trans se).trans (same_upd nu)) ⟨e, upd_same, same_upd nu _ _ upd_same⟩
  have n1 := fun z => c (e1.mpr z)
  rw [if_neg n1] at q
  refine ⟨_, rfl, x, dx, _, rfl, w1 _ _ hx, rfl, _, rfl, x, sc, tl, a, rfl, hF.same w1, fun H2 s2 => ?_⟩
  have w2 := w1.trans s2
  refine ⟨_, rfl, x, dx, _, rfl, w2 _ _ hx, rfl, _, rfl, x, sc, tl, b, rfl, hF.same w2, fun H3 s3 => ?_⟩
  have w3 := w2.trans s3
  refine ⟨_, rfl, _, rfl, _, rfl, x, sc, tl, a, b, rfl, hF.same w3, fun H4 s4 => ?_⟩
  have w4 := w3.trans s4
  have tpa := srt_top sc tl (sz sc tl a)
  have tpb := srt_top sc tl (sz sc tl b)
  have wnA := fun hn ht => ab_wn (sc := sc) (tl := tl) (v := a) hn ht
  have wnB := fun hn ht => ab_wn (sc := sc) (tl := tl) (v := b) hn ht
  have s01 := sx_01 sc tl a b
  have sd := srt_dif sc tl (sz sc tl a)
  try dsimp only [tNext, tSeq, gName]
  refine ifS_ev (fun r H' => (r = true ↔ ((srt sc tl (sz sc tl a) = "nought" ∧ srt sc tl (sz sc tl b) = "nought") ∨ (srt sc tl (sz sc tl a) = "endless" ∧ srt sc tl (sz sc tl b) = "endless"))) ∧ Same H4 H') (fun Q' q' => ?_) (fun HX hX => ?_) (fun HX hX => ?_)
  · refine ⟨_, rfl, _, rfl, rfl, _, rfl, ite2 (fun ca => ?_) (fun ca => ?_)⟩
    · have ca1 : srt sc tl (sz sc tl a) = srt sc tl (sz sc tl b) := V.str.inj (of_decide_eq_true ca)
      refine ⟨_, rfl, (by show 2 ≤ sizeLine; decide), fun U nU => ?_⟩
      refine ⟨U, _, rfl, .inr (.inl (.inl upd_same)), rfl, rfl, _, rfl, q' _ _ ⟨?_, same_upd nU⟩⟩
      show inV (.str (srt sc tl (sz sc tl a))) [.str "nought", .str "endless"] = true ↔ _
      rw [in_two, decide_eq_true_iff, ← ca1]
      exact ⟨fun z => z.imp (fun y => ⟨y.symm, y.symm⟩) (fun y => ⟨y.symm, y.symm⟩), fun z => z.imp (fun y => y.1.symm) (fun y => y.1.symm)⟩
    · have ca1 : ¬ srt sc tl (sz sc tl a) = srt sc tl (sz sc tl b) := fun z => ca (decide_eq_true (congrArg V.str z))
      exact q' _ _ ⟨⟨fun z => Bool.noConfusion z, fun z => absurd (z.elim (fun y => y.1.trans y.2.symm) (fun y => y.1.trans y.2.symm)) ca1⟩, Same.refl _⟩
  · have w5 := w4.trans hX.2
    refine ⟨_, rfl, x, sc, tl, rfl, hF.same w5, fun u H6 nu s6 pu => ?_⟩
    rw [if_pos (hX.1.mp rfl)] at q
    exact q u _ (w5.trans s6) pu
  have w5 := w4.trans hX.2
  rw [if_neg (mt hX.1.mpr (by decide))] at q
  have F5 := hF.same w5
  refine ⟨_, rfl, rfl, _, rfl, ite2 (fun ca => ?_) (fun ca => ?_)⟩
  · rw [if_pos (V.str.inj (of_decide_eq_true ca))] at q
    refine ⟨_, rfl, x, dx, _, rfl, w5 _ _ hx, rfl, _, rfl, x, sc, tl, _, rfl, F5, s01, Nat.zero_le _, fun e ne => ⟨(by show 2 ≤ sizeLine; decide), fun u nu => ?_⟩⟩
    exact q u _ ((w5.trans (same_upd ne)).trans (same_upd nu)) ⟨e, upd_same, same_upd nu _ _ upd_same⟩
  have ca1 : ¬ srt sc tl (sz sc tl a) = "endless" := fun z => ca (decide_eq_true (congrArg V.str z))
  rw [if_neg ca1] at q
  have noughtGo : (srt sc tl (sz sc tl b) = "endless" ∨ srt sc tl (sz sc tl a) = "nought") → ∀ e, HX e = none → ∀ u, (upd HX e (.tup [])) u = none → Q (.ref u) (upd (upd HX e (.tup [])) u (.tup [.int (sx sc tl a b * 2 ^ (sc + tl) + (0 * 2 ^ tl + 0)), .ref e])) := fun hc e ne u nu => by
    rw [if_pos hc] at q
    refine q u _ ((w5.trans (same_upd ne)).trans (same_upd nu)) ⟨e, ?_, same_upd nu _ _ upd_same⟩
    rw [upd_same, Int.zero_mul, Int.add_zero, Int.add_zero]
  refine ⟨_, rfl, rfl, _, rfl, ite2 (fun cb => ?_) (fun cb => ?_)⟩
  · have cb1 := V.str.inj (of_decide_eq_true cb)
    refine iteT ?_
    refine ⟨_, rfl, x, dx, _, rfl, w5 _ _ hx, rfl, _, rfl, x, sc, tl, _, rfl, F5, s01, Nat.zero_le _, fun e ne => ⟨(by show 2 ≤ sizeLine; decide), fun u nu => ?_⟩⟩
    exact noughtGo (.inl cb1) e ne u nu
  have cb1 : ¬ srt sc tl (sz sc tl b) = "endless" := fun z => cb (decide_eq_true (congrArg V.str z))
  refine ⟨_, rfl, rfl, _, rfl, ite2 (fun cc => ?_) (fun cc => ?_)⟩
  · have cc1 := V.str.inj (of_decide_eq_true cc)
    refine ⟨_, rfl, x, dx, _, rfl, w5 _ _ hx, rfl, _, rfl, x, sc, tl, _, rfl, F5, s01, Nat.zero_le _, fun e ne => ⟨(by show 2 ≤ sizeLine; decide), fun u nu => ?_⟩⟩
    exact noughtGo (.inr cc1) e ne u nu
  have cc1 : ¬ srt sc tl (sz sc tl a) = "nought" := fun z => cc (decide_eq_true (congrArg V.str z))
  rw [if_neg (fun z => z.elim cb1 cc1)] at q
  refine ⟨_, rfl, rfl, _, rfl, ite2 (fun cd => ?_) (fun cd => ?_)⟩
  · rw [if_pos (V.str.inj (of_decide_eq_true cd))] at q
    refine ⟨_, rfl, x, dx, _, rfl, w5 _ _ hx, rfl, _, rfl, x, sc, tl, _, rfl, F5, s01, (by show 1 ≤ sizeLine; decide), fun e ne => ⟨(by show 2 ≤ sizeLine; decide), fun u nu => ?_⟩⟩
    exact q u _ ((w5.trans (same_upd ne)).trans (same_upd nu)) ⟨e, upd_same, same_upd nu _ _ upd_same⟩
  have cd1 : ¬ srt sc tl (sz sc tl b) = "nought" := fun z => cd (decide_eq_true (congrArg V.str z))
  rw [if_neg cd1] at q
  have na : ¬ GM.topS sc tl ≤ sz sc tl a := fun z => (tpa.mpr z).elim ca1 (fun z => n1 (.inl z))
  have nb : ¬ GM.topS sc tl ≤ sz sc tl b := fun z => (tpb.mpr z).elim cb1 (fun z => n1 (.inr z))
  have ia := wp_in h1 h2 h4 na
  have ib := wp_in h1 h2 h4 nb
  refine ⟨_, rfl, _, rfl, _, rfl, x, dx, _, rfl, w5 _ _ hx, rfl, _, rfl, x, sc, tl, a, rfl, F5, fun H6 s6 z => absurd z na, fun H6 pa s6 _ ea => ?_⟩
  have w6 := w5.trans s6
  refine ⟨_, rfl, x, dx, _, rfl, w6 _ _ hx, rfl, _, rfl, x, sc, tl, b, rfl, hF.same w6, fun H7 s7 z => absurd z nb, fun H7 pb s7 _ eb => ?_⟩
  have w7 := w6.trans s7
  refine ⟨_, rfl, x, pa, pb, sc, tl, _, _, _, _, _, way, rfl, hF.same w7, s01, .inl (.inl (s7 _ _ ea)), .inl (.inl eb), (wnA cc1 na).1, (wnA cc1 na).2, (wnB cd1 nb).1, (wnB cd1 nb).2, ia.1, ia.2, ib.1, ib.2, fun t3 H8 s8 P3 => ?_⟩
  exact q t3 _ (w7.trans s8) P3
end
section
variable {P : Program} {w : World} {K : PySem.W.Frag} {mg : Str → Option Value} {base : Heap}
variable {C : Addr} {a1 a2 a3 a4 a5 a6 a7 a8 a9 a10 a11 a12 a13 a14 a15 a16 a17 a18 a19 a20 a21 a22 a23 a24 a25 a26 a27 a28 a29 a30 a31 a32 a33 a34 a35 a36 a37 a38 a39 a40 a41 a42 a43 a44 a45 a46 a47 a48 a49 a50 a51 a52 : Addr} {l1 l2 l3 l4 l5 l6 l7 l8 l9 l10 l11 l12 l13 l14 l15 l16 l17 l18 l19 l20 l21 l22 l23 l24 l25 l26 l27 l28 l29 l30 l31 l32 l33 l34 l35 l36 l37 l38 l39 l40 l41 l42 l43 l44 l45 l46 l47 l48 l49 l50 l51 l52 : FuncData} {t47 t48 t49 tg_NEAR tg_CUT tg_UP tg_DOWN : Tok} {fW : Addr}
def spLNone : Sp := fun vs H Q _ => ∃ (sc tl : Nat), vs = [.int (sc : Int), .int (tl : Int)] ∧ sc ≤ 8 ∧ 1 ≤ tl ∧ tl ≤ 24 ∧ Q (.int (noneW sc tl)) H
theorem ok__law_none (B : Bl mg) (L : LL K mg C a1 a2 a3 a4 a5 a6 a7 a8 a9 a10 a11 a12 a13 a14 a15 a16 a17 a18 a19 a20 a21 a22 a23 a24 a25 a26 a27 a28 a29 a30 a31 a32 a33 a34 a35 a36 a37 a38 a39 a40 a41 a42 a43 a44 a45 a46 a47 a48 a49 a50 a51 a52 l1 l2 l3 l4 l5 l6 l7 l8 l9 l10 l11 l12 l13 l14 l15 l16 l17 l18 l19 l20 l21 l22 l23 l24 l25 l26 l27 l28 l29 l30 l31 l32 l33 l34 l35 l36 l37 l38 l39 l40 l41 l42 l43 l44 l45 l46 l47 l48 l49 l50 l51 l52 t47 t48 t49 tg_NEAR tg_CUT tg_UP tg_DOWN fW) : FnOk P w K mg base CX0 1 a33 l33 ["_law_scale", "_law_tail"] spLNone := by
  refine L.F__law_none.ok sc__law_none (fun vs H Q E h => ?_) (fun cdv A outer s H vs Q E hr h => ?_)
  · obtain ⟨sc, tl, rfl, _⟩ := h
    rfl
  obtain ⟨sc, tl, rfl, h2, h3, h4, q⟩ := h
  refine ⟨_, (pss_one (ps_ret (pe_op op_add (pe_op op_shlN (pe_op op_sub (pe_op op_oneShl pe_int (pv 0)) pe_int) (pv 1)) (pe_op op_oneShl pe_int (pe_op op_sub (pv 1) pe_int))))), ?_⟩
  have p8 : (2 : Int) ^ sc ≤ 2 ^ 8 := GM.pow_le' h2
  have pS := GM.pow_pos' sc
  exact ⟨_, rfl, sc, rfl, rfl, by omega, _, _, rfl, rfl, _, rfl, _, tl, rfl, rfl, shl_ok (n := 9) (by omega) (by omega), _, rfl, _, _, rfl, rfl, tl - 1, rfl, congrArg V.int (by omega), by omega, _, _, rfl, rfl, q⟩
theorem sgn_div {sc tl : Nat} {v : Int} (h0 : 0 ≤ v) (h1 : v < 2 ^ (1 + sc + tl)) : v / 2 ^ (sc + tl) = GM.sgn sc tl v := by
  have p1 : (2 : Int) ^ (1 + sc + tl) = 2 * 2 ^ (sc + tl) := by rw [Int.mul_comm, ← GM.pow_s]; congr 1; omega
  have hp := GM.pow_pos' (sc + tl)
  have a : 0 ≤ v / 2 ^ (sc + tl) := Int.ediv_nonneg h0 (by omega)
  have b : v / 2 ^ (sc + tl) < 2 := Int.ediv_lt_of_lt_mul hp (by omega)
  unfold GM.sgn
  omega
/-! ### signs by xor -/
theorem and_step (a b : Nat) : a &&& b = 2 * (a / 2 &&& b / 2) + (a % 2) * (b % 2) := by
  have h1 : (a &&& b) / 2 = a / 2 &&& b / 2 := by
    have := Nat.and_div_two_pow (a := a) (b := b) (n := 1)
    simpa using this
  have h2 : (a &&& b) % 2 = (a % 2) * (b % 2) := by
    have := Nat.and_mod_two_pow (a := a) (b := b) (n := 1)
    rw [show 2 ^ 1 = 2 from rfl] at this
    rw [this]
    have ha : a % 2 = 0 ∨ a % 2 = 1 := by omega
    have hb : b % 2 = 0 ∨ b % 2 = 1 := by omega
    rcases ha with ha | ha <;> rcases hb with hb | hb <;> rw [ha, hb] <;> rfl
  omega
theorem or_lt (k : Nat) : ∀ a b : Nat, a < 2 ^ k → b < 2 ^ k → a + b < 2 ^ k + (a &&& b) := by
  induction k with
  | zero =>
    intro a b ha hb
    have : a = 0 := by omega
    have : b = 0 := by omega
    subst a b
    decide
  | succ k ih =>
    intro a b ha hb
    rw [Nat.pow_succ] at ha hb ⊢
    have := ih (a / 2) (b / 2) (by omega) (by omega)
    rw [and_step a b]
    have ha : a % 2 = 0 ∨ a % 2 = 1 := by omega
    have hb : b % 2 = 0 ∨ b % 2 = 1 := by omega
    rcases ha with ha | ha <;> rcases hb with hb | hb <;> rw [ha, hb] <;> omega
theorem and_split (k a b : Nat) : a &&& b = (a / 2 ^ k &&& b / 2 ^ k) * 2 ^ k + (a % 2 ^ k &&& b % 2 ^ k) := by
  have h1 := Nat.and_div_two_pow (a := a) (b := b) (n := k)
  have h2 := Nat.and_mod_two_pow (a := a) (b := b) (n := k)
  rw [← h1, ← h2, Nat.mul_comm]
  exact (Nat.div_add_mod _ _).symm
theorem xor_high (k m n : Nat) : Builtin.bitXor (m : Int) (n : Int) / 2 ^ k = Builtin.bitXor ((m / 2 ^ k : Nat) : Int) ((n / 2 ^ k : Nat) : Int) := by
  have bx : ∀ x y : Nat, Builtin.bitXor (x : Int) (y : Int) = (x : Int) + y - 2 * ((x &&& y : Nat) : Int) := fun x y => by
    rw [bitXor_and]
    rfl
  rw [bx, bx]
  have hp := GM.pow_pos' k
  have c : ((2 ^ k : Nat) : Int) = (2 : Int) ^ k := PySem.W.kbt_cast _
  have e := and_split k m n
  have l := or_lt k (m % 2 ^ k) (n % 2 ^ k) (Nat.mod_lt _ (by omega)) (Nat.mod_lt _ (by omega))
  have l1 := Nat.and_le_left (n := m % 2 ^ k) (m := n % 2 ^ k)
  have l2 := Nat.and_le_right (n := m % 2 ^ k) (m := n % 2 ^ k)
  have dm := Nat.div_add_mod m (2 ^ k)
  have dn := Nat.div_add_mod n (2 ^ k)
  generalize m / 2 ^ k = mq at *
  generalize n / 2 ^ k = nq at *
  generalize m % 2 ^ k = mr at *
  generalize n % 2 ^ k = nr at *
  generalize mr &&& nr = r at *
  rw [e]
  generalize mq &&& nq = s
  rw [← dm, ← dn, Int.natCast_add, Int.natCast_add, Int.natCast_add, Int.natCast_mul, Int.natCast_mul, Int.natCast_mul, c]
  rw [show (2 : Int) ^ k * mq + mr + (2 ^ k * nq + nr) - 2 * (s * 2 ^ k + r) = (mr + nr - 2 * r) + (mq + nq - 2 * s) * 2 ^ k by rw [Int.sub_mul, Int.add_mul, Int.mul_add, Int.mul_comm (2 ^ k) mq, Int.mul_comm (2 ^ k) nq, Int.mul_assoc]; omega]
  rw [Int.add_mul_ediv_right _ _ (by omega), Int.ediv_eq_zero_of_lt (by omega) (by omega), Int.zero_add]
theorem xor_sx {sc tl : Nat} {a b : Int} (a0 : 0 ≤ a) (a1 : a < 2 ^ (1 + sc + tl)) (b0 : 0 ≤ b) (b1 : b < 2 ^ (1 + sc + tl)) : Builtin.bitXor a b / 2 ^ (sc + tl) = sx sc tl a b := by
  obtain ⟨m, rfl⟩ := Int.eq_ofNat_of_zero_le a0
  obtain ⟨n, rfl⟩ := Int.eq_ofNat_of_zero_le b0
  have c : ((2 ^ (sc + tl) : Nat) : Int) = (2 : Int) ^ (sc + tl) := PySem.W.kbt_cast _
  rw [xor_high, Int.natCast_ediv, Int.natCast_ediv, c, sgn_div a0 a1, sgn_div b0 b1, sx_xor]
end
section
variable {P : Program} {w : World} {K : PySem.W.Frag} {mg : Str → Option Value} {base : Heap}
variable {C : Addr} {a1 a2 a3 a4 a5 a6 a7 a8 a9 a10 a11 a12 a13 a14 a15 a16 a17 a18 a19 a20 a21 a22 a23 a24 a25 a26 a27 a28 a29 a30 a31 a32 a33 a34 a35 a36 a37 a38 a39 a40 a41 a42 a43 a44 a45 a46 a47 a48 a49 a50 a51 a52 : Addr} {l1 l2 l3 l4 l5 l6 l7 l8 l9 l10 l11 l12 l13 l14 l15 l16 l17 l18 l19 l20 l21 l22 l23 l24 l25 l26 l27 l28 l29 l30 l31 l32 l33 l34 l35 l36 l37 l38 l39 l40 l41 l42 l43 l44 l45 l46 l47 l48 l49 l50 l51 l52 : FuncData} {t47 t48 t49 tg_NEAR tg_CUT tg_UP tg_DOWN : Tok} {fW : Addr}
theorem and_ev {ta tb : TE} {σ : L2.St} {H : Hp} {Q : VK} (R : V → Hp → Prop) (h : ∀ Q : VK, (∀ z H', R z H' → Q z H') → tAndV ta tb σ H Q) (q : ∀ z H', R z H' → Q z H') : tAndV ta tb σ H Q := h Q q
theorem topS_pos {sc : Nat} (tl : Nat) (h : 2 ≤ sc) : 0 < GM.topS sc tl := by
  have hp := GM.pow_pos' tl
  have h2 : (2 : Int) ^ 2 ≤ 2 ^ sc := GM.pow_le' h
  exact Int.mul_pos (by omega) hp
theorem wn_zero (sc tl : Nat) (v : Int) : (wn sc tl v = 0 ↔ sz sc tl v = 0) ∧ (GM.sgn sc tl v = 0 → 0 ≤ wn sc tl v) ∧ (GM.sgn sc tl v = 1 → wn sc tl v ≤ 0) := by
  have h := num_zero (tl := tl) (sz_nn sc tl v)
  unfold wn
  refine ⟨?_, ?_, ?_⟩
  · split
    · rw [← h.2]
      omega
    · exact h.2
  · intro z
    rw [if_neg (by omega)]
    exact h.1
  · intro z
    rw [if_pos z]
    omega
theorem zero_two {x y : Int} {i j : Nat} (h : x * 2 ^ i + y * 2 ^ j = 0) (hs : (0 ≤ x ∧ 0 ≤ y) ∨ (x ≤ 0 ∧ y ≤ 0)) : x = 0 ∧ y = 0 := by
  have pi := GM.pow_pos' i
  have pj := GM.pow_pos' j
  have key : ∀ {x y : Int}, x * 2 ^ i + y * 2 ^ j = 0 → 0 ≤ x → 0 ≤ y → x = 0 ∧ y = 0 := fun {x y} h hx hy => by
    have a := Int.mul_nonneg hx (Int.le_of_lt pi)
    have b := Int.mul_nonneg hy (Int.le_of_lt pj)
    have a0 : x * 2 ^ i = 0 := by omega
    have b0 : y * 2 ^ j = 0 := by omega
    exact ⟨(Int.mul_eq_zero.mp a0).resolve_right (by omega), (Int.mul_eq_zero.mp b0).resolve_right (by omega)⟩
  rcases hs with hs | hs
  · exact key h hs.1 hs.2
  · have := key (x := -x) (y := -y) (by rw [Int.neg_mul, Int.neg_mul]; omega) (by omega) (by omega)
    omega
theorem word_top {sc tl : Nat} {v : Int} (h0 : 0 ≤ v) (h1 : v < 2 ^ (1 + sc + tl)) (h : srt sc tl (sz sc tl v) = "endless") (hn : ¬ srt sc tl (sz sc tl v) = "none") : endW sc tl (GM.sgn sc tl v) = v := by
  have e := (srt_endless (fun z => hn ((srt_none sc tl _).mpr z))).mp h
  unfold endW
  rw [Int.add_zero]
  have e2 : (2 ^ sc - 1) * 2 ^ tl = sz sc tl v := by rw [e]; rfl
  rw [e2, ← sgn_div h0 h1]
  unfold sz
  have d := Int.emod_add_mul_ediv v (2 ^ (sc + tl))
  rw [Int.mul_comm] at d
  omega
theorem m3 (x a b c : Str) : x ∈ [a, b, c] ↔ (a = x ∨ b = x ∨ c = x) := by
  rw [List.mem_cons, List.mem_cons, List.mem_cons]
  exact ⟨fun z => z.elim (fun e => .inl e.symm) fun z => z.elim (fun e => .inr (.inl e.symm)) fun z => z.elim (fun e => .inr (.inr e.symm)) fun z => (nomatch z), fun z => z.elim (fun e => .inl e.symm) fun z => z.elim (fun e => .inr (.inl e.symm)) fun e => .inr (.inr (.inl e.symm))⟩
theorem m2 (x a b : Str) : x ∈ [a, b] ↔ (a = x ∨ b = x) := by
  rw [List.mem_cons, List.mem_cons]
  exact ⟨fun z => z.elim (fun e => .inl e.symm) fun z => z.elim (fun e => .inr e.symm) fun z => (nomatch z), fun z => z.elim (fun e => .inl e.symm) fun e => .inr (.inl e.symm)⟩
theorem wn_sgn (sc tl : Nat) (v : Int) : (GM.sgn sc tl v = 1 → wn sc tl v ≤ 0) ∧ (GM.sgn sc tl v = 0 → 0 ≤ wn sc tl v) := by
  have hp := GM.pow_pos' tl
  have n := Int.emod_nonneg (sz sc tl v) (show (2 : Int) ^ tl ≠ 0 by omega)
  have z : 0 ≤ GM.num tl (sz sc tl v) := by
    unfold GM.num
    split <;> omega
  unfold wn
  constructor
  · intro h
    rw [if_pos h]
    omega
  · intro h
    rw [if_neg (by omega)]
    exact z
theorem prod_sgn (sc tl : Nat) (a b : Int) : (wn sc tl a * wn sc tl b < 0 → sx sc tl a b = 1) ∧ (0 < wn sc tl a * wn sc tl b → sx sc tl a b = 0) := by
  have ha := wn_sgn sc tl a
  have hb := wn_sgn sc tl b
  have sa := GM.sgn_01 (m := sc) (t := tl) (w := a)
  have sb := GM.sgn_01 (m := sc) (t := tl) (w := b)
  unfold sx
  rcases sa with sa | sa <;> rcases sb with sb | sb <;> rw [sa, sb] <;> refine ⟨fun h => ?_, fun h => ?_⟩
  · have := Int.mul_nonneg (ha.2 sa) (hb.2 sb)
    omega
  · rfl
  · rfl
  · have := Int.mul_nonneg (ha.2 sa) (show 0 ≤ -(wn sc tl b) by have := hb.1 sb; omega)
    rw [Int.mul_neg] at this
    omega
  · rfl
  · have := Int.mul_nonneg (show 0 ≤ -(wn sc tl a) by have := ha.1 sa; omega) (hb.2 sb)
    rw [Int.neg_mul] at this
    omega
  · have := Int.mul_nonneg (show 0 ≤ -(wn sc tl a) by have := ha.1 sa; omega) (show 0 ≤ -(wn sc tl b) by have := hb.1 sb; omega)
    rw [Int.neg_mul_neg] at this
    omega
  · rfl
theorem ab_pow (x : Int) (k : Nat) : ab (x * 2 ^ k) = ab x * 2 ^ k := by
  have pk := GM.pow_pos' k
  unfold ab
  by_cases c : x < 0
  · rw [if_pos c, if_pos (Int.mul_neg_of_neg_of_pos c pk), Int.neg_mul]
  · rw [if_neg c, if_neg (by have := Int.mul_nonneg (show 0 ≤ x by omega) (Int.le_of_lt pk); omega)]
theorem ab_num (sc tl : Nat) (v : Int) : ab (wn sc tl v) = GM.num tl (sz sc tl v) := by
  have h := (num_zero (tl := tl) (sz_nn sc tl v)).1
  unfold wn ab
  split <;> split <;> omega
theorem ab_mul' (sc tl : Nat) (a b : Int) : ab (wn sc tl a * wn sc tl b) = GM.num tl (sz sc tl a) * GM.num tl (sz sc tl b) := by
  rw [← ab_num, ← ab_num]
  have e : ∀ z : Int, ab z = (z.natAbs : Int) := fun z => by
    unfold ab
    split <;> omega
  rw [e, e, e, Int.natAbs_mul, Int.natCast_mul]
theorem word_is {sc tl : Nat} {v : Int} (h0 : 0 ≤ v) (h1 : v < 2 ^ (1 + sc + tl)) : GM.sgn sc tl v * 2 ^ (sc + tl) + sz sc tl v = v := by
  rw [← sgn_div h0 h1]
  unfold sz
  have d := Int.emod_add_mul_ediv v (2 ^ (sc + tl))
  rw [Int.mul_comm] at d
  omega
theorem lwr_k (p e : Int) : lwr p e = e - ((e - lwr p e).toNat : Nat) ∧ lwr p e = p - ((p - lwr p e).toNat : Nat) := by
  have : lwr p e ≤ p ∧ lwr p e ≤ e := by
    unfold lwr
    split <;> omega
  omega
theorem join_word {sc tl : Nat} {c p s : Int} {how : Str} (h3 : 1 ≤ tl) (c0 : 0 ≤ c) (c1 : c < 2 ^ (1 + sc + tl)) (nt : ¬ GM.topS sc tl ≤ sz sc tl c) (nn : ¬ srt sc tl (sz sc tl c) = "nought") : totR sc tl (tgn 0 p (wn sc tl c) (wp sc tl c)) (lwr p (wp sc tl c)) s how = (c, []) := by
  have hz : ¬ sz sc tl c = 0 := fun z => nn ((srt_nought _ _ _).mpr ⟨nt, z⟩)
  have z0 := sz_nn sc tl c
  have hw := (wn_zero sc tl c)
  have hwn : ¬ wn sc tl c = 0 := fun z => hz (hw.1.mp z)
  have en : tgn 0 p (wn sc tl c) (wp sc tl c) = wn sc tl c * 2 ^ (wp sc tl c - lwr p (wp sc tl c)).toNat := by
    unfold tgn
    rw [Int.zero_mul, Int.zero_add]
  have el := (lwr_k p (wp sc tl c)).1
  generalize (wp sc tl c - lwr p (wp sc tl c)).toNat = k at en el
  have pk := GM.pow_pos' k
  rw [en, el]
  have nz : ¬ wn sc tl c * 2 ^ k = 0 := fun z => (Int.mul_eq_zero.mp z).elim hwn (by omega)
  unfold totR
  rw [if_neg nz, ab_pow, ab_num]
  have es : (if wn sc tl c * 2 ^ k < 0 then (1 : Int) else 0) = GM.sgn sc tl c := by
    rcases GM.sgn_01 (m := sc) (t := tl) (w := c) with s0 | s0
    · have := Int.mul_nonneg (hw.2.1 s0) (Int.le_of_lt pk)
      rw [if_neg (by omega), s0]
    · have := hw.2.2 s0
      rw [if_pos (Int.mul_neg_of_neg_of_pos (by omega) pk), s0]
  rw [es]
  have hn : 0 < GM.num tl (sz sc tl c) := by
    have := num_zero (tl := tl) z0
    have : ¬ GM.num tl (sz sc tl c) = 0 := fun z => hz (this.2.mp z)
    omega
  rw [GR.rnd_scale k hn, show wp sc tl c = GR.lea sc tl + (GM.ex tl (sz sc tl c) : Nat) from rfl, GR.rnd_word h3 (by omega) (by show _ < GM.topS sc tl; omega), word_is c0 c1]
theorem join_prod {sc tl : Nat} {a b e s : Int} {how : Str} (hP : ¬ wn sc tl a * wn sc tl b = 0) : totR sc tl (tgn (wn sc tl a * wn sc tl b) (wp sc tl a + wp sc tl b) 0 e) (lwr (wp sc tl a + wp sc tl b) e) s how = GR.rnd sc tl (sx sc tl a b) (GM.num tl (sz sc tl a) * GM.num tl (sz sc tl b)) (wp sc tl a + wp sc tl b) how false := by
  have en : tgn (wn sc tl a * wn sc tl b) (wp sc tl a + wp sc tl b) 0 e = wn sc tl a * wn sc tl b * 2 ^ (wp sc tl a + wp sc tl b - lwr (wp sc tl a + wp sc tl b) e).toNat := by
    unfold tgn
    rw [Int.zero_mul, Int.add_zero]
  have el := (lwr_k (wp sc tl a + wp sc tl b) e).2
  generalize (wp sc tl a + wp sc tl b - lwr (wp sc tl a + wp sc tl b) e).toNat = k at en el
  have pk := GM.pow_pos' k
  rw [en, el]
  have nz : ¬ wn sc tl a * wn sc tl b * 2 ^ k = 0 := fun z => (Int.mul_eq_zero.mp z).elim hP (by omega)
  unfold totR
  rw [if_neg nz, ab_pow, ab_mul']
  have ps := prod_sgn sc tl a b
  have am := ab_mul' sc tl a b
  have es : (if wn sc tl a * wn sc tl b * 2 ^ k < 0 then (1 : Int) else 0) = sx sc tl a b := by
    by_cases c : wn sc tl a * wn sc tl b < 0
    · rw [if_pos (Int.mul_neg_of_neg_of_pos c pk), ps.1 c]
    · have := Int.mul_nonneg (show 0 ≤ wn sc tl a * wn sc tl b by omega) (Int.le_of_lt pk)
      rw [if_neg (by omega), ps.2 (by omega)]
  rw [es]
  have hn : 0 < GM.num tl (sz sc tl a) * GM.num tl (sz sc tl b) := by
    rw [← am]
    unfold ab
    split <;> omega
  rw [GR.rnd_scale k hn]
theorem or_ev {ta tb : TE} {σ : L2.St} {H : Hp} {Q : VK} (R : V → Hp → Prop) (h : ∀ Q : VK, (∀ z H', R z H' → Q z H') → tOrV ta tb σ H Q) (q : ∀ z H', R z H' → Q z H') : tOrV ta tb σ H Q := h Q q
theorem dp_pair {H : Hp} {p : Addr} {r : Int × List Str} (h : PairAt H p r) : Dp K H (.ref p) (.tuple [.int r.1, .tuple (r.2.map PyData.str)]) := by
  obtain ⟨f, e1, e2⟩ := h
  refine .tup (.inl (.inl e1)) (.cons (.int _) (.cons (.tup (.inl (.inl e2)) ?_) .nil))
  generalize r.2 = l
  induction l with
  | nil => exact .nil
  | cons x l ih => exact .cons (.str x) ih
theorem lv_pair (r : Int × List Str) (h : r.2.length ≤ 1000) : Lv 2 (.tuple [.int r.1, .tuple (r.2.map PyData.str)]) := by
  refine ⟨by show 2 ≤ 1000000; decide, fun d hd => ?_⟩
  rcases List.mem_cons.mp hd with e | hd
  · rw [e]
    trivial
  · rcases List.mem_cons.mp hd with e | hd
    · rw [e]
      refine ⟨by rw [List.length_map]; omega, fun d hd => ?_⟩
      obtain ⟨x, _, rfl⟩ := List.mem_map.mp hd
      trivial
    · exact nomatch hd
theorem lv_pair3 (r : Int × List Str) (h : r.2.length ≤ 1000) : Lv 3 (.tuple [.int r.1, .tuple (r.2.map PyData.str)]) := by
  refine ⟨by show 2 ≤ 1000000; decide, fun d hd => ?_⟩
  rcases List.mem_cons.mp hd with e | hd
  · rw [e]
    trivial
  · rcases List.mem_cons.mp hd with e | hd
    · rw [e]
      refine ⟨by rw [List.length_map]; omega, fun d hd => ?_⟩
      obtain ⟨x, _, rfl⟩ := List.mem_map.mp hd
      trivial
    · exact nomatch hd
theorem rnd_len (sc tl : Nat) (s n p : Int) (w : Str) (m : Bool) : (GR.rnd sc tl s n p w m).2.length ≤ 1000 := by
  unfold GR.rnd GR.flg
  repeat' split
  all_goals first | exact (by decide : 2 ≤ 1000) | exact (by decide : 0 ≤ 1000) | exact (by decide : 1 ≤ 1000)
theorem PairAt.same {H H' : Hp} {p : Addr} {r : Int × List Str} (h : PairAt H p r) (s : Same H H') : PairAt H' p r := by
  obtain ⟨f, e1, e2⟩ := h
  exact ⟨f, s _ _ e1, s _ _ e2⟩
theorem lv_two (d : PyData) (h : Lv 2 d) : Lv 3 (.list [d, d]) := by
  refine ⟨by show 2 ≤ 1000000; decide, fun e he => ?_⟩
  rcases List.mem_cons.mp he with z | he
  · rw [z]; exact h
  · rcases List.mem_cons.mp he with z | he
    · rw [z]; exact h
    · exact nomatch he
theorem mul_len (sc tl : Nat) (a b : Int) (w : Str) : (mulR sc tl a b w).2.length ≤ 1000 := by
  unfold mulR
  split
  · exact (by decide : 0 ≤ 1000)
  split
  · exact (by decide : 1 ≤ 1000)
  split
  · exact (by decide : 0 ≤ 1000)
  exact rnd_len _ _ _ _ _ _ _
theorem rnd_len0 (sc tl : Nat) (n p s : Int) (w : Str) : (totR sc tl n p s w).2.length ≤ 1000 := by
  unfold totR
  split
  · exact (by decide : 0 ≤ 1000)
  · exact rnd_len _ _ _ _ _ _ _
theorem tad_len (sc tl : Nat) (s1 s2 : Int) (o1 o2 : Option (Int × Int)) (w : Str) : (tadR sc tl s1 o1 s2 o2 w).2.length ≤ 1000 := by
  unfold tadR
  split
  · split
    · exact (by decide : 0 ≤ 1000)
    · exact (by decide : 1 ≤ 1000)
  · exact (by decide : 0 ≤ 1000)
  · exact (by decide : 0 ≤ 1000)
  · exact rnd_len0 _ _ _ _ _ _
theorem join_len (sc tl : Nat) (a b c : Int) (w : Str) : (joinR sc tl a b c w).2.length ≤ 1000 := by
  unfold joinR
  split
  · exact (by decide : 0 ≤ 1000)
  split
  · exact (by decide : 1 ≤ 1000)
  exact tad_len _ _ _ _ _ _ _
theorem add_len (sc tl : Nat) (a b : Int) (w : Str) : (addR sc tl a b w).2.length ≤ 1000 := by
  unfold addR
  split
  · exact (by decide : 0 ≤ 1000)
  exact tad_len _ _ _ _ _ _ _
theorem div_len (sc tl : Nat) (a b : Int) (w : Str) : (divR sc tl a b w).2.length ≤ 1000 := by
  unfold divR
  repeat' split
  all_goals first | exact (by decide : 0 ≤ 1000) | exact (by decide : 1 ≤ 1000) | exact rnd_len _ _ _ _ _ _ _
end
section
variable {P : Program} {w : World} {K : PySem.W.Frag} {mg : Str → Option Value} {base : Heap}
variable {C : Addr} {a1 a2 a3 a4 a5 a6 a7 a8 a9 a10 a11 a12 a13 a14 a15 a16 a17 a18 a19 a20 a21 a22 a23 a24 a25 a26 a27 a28 a29 a30 a31 a32 a33 a34 a35 a36 a37 a38 a39 a40 a41 a42 a43 a44 a45 a46 a47 a48 a49 a50 a51 a52 : Addr} {l1 l2 l3 l4 l5 l6 l7 l8 l9 l10 l11 l12 l13 l14 l15 l16 l17 l18 l19 l20 l21 l22 l23 l24 l25 l26 l27 l28 l29 l30 l31 l32 l33 l34 l35 l36 l37 l38 l39 l40 l41 l42 l43 l44 l45 l46 l47 l48 l49 l50 l51 l52 : FuncData} {t47 t48 t49 tg_NEAR tg_CUT tg_UP tg_DOWN : Tok} {fW : Addr}
def nouW (sc tl : Nat) (s : Int) : Int := s * 2 ^ (sc + tl) + (0 * 2 ^ tl + 0)
theorem nou_is {sc tl : Nat} {s : Int} (h1 : 2 ≤ sc) (hs : s = 0 ∨ s = 1) : sz sc tl (nouW sc tl s) = 0 ∧ GM.sgn sc tl (nouW sc tl s) = s ∧ srt sc tl (sz sc tl (nouW sc tl s)) = "nought" ∧ wn sc tl (nouW sc tl s) = 0 ∧ ¬ GM.topS sc tl ≤ sz sc tl (nouW sc tl s) := by
  have e : nouW sc tl s = s * 2 ^ (sc + tl) + 0 := by
    unfold nouW
    rw [Int.zero_mul, Int.add_zero]
  obtain ⟨_, _, m1, m2⟩ := GM.mk_parts (m := sc) (t := tl) (r := 0) hs (Int.le_refl 0) (GM.pow_pos' _)
  have z : sz sc tl (nouW sc tl s) = 0 := by
    rw [e]
    exact m2
  have tp := topS_pos tl h1
  have nt : ¬ GM.topS sc tl ≤ sz sc tl (nouW sc tl s) := by
    rw [z]
    omega
  exact ⟨z, by rw [e]; exact m1, (srt_nought _ _ _).mpr ⟨nt, z⟩, (wn_zero sc tl _).1.mpr z, nt⟩
theorem word_of_u {sc tl : Nat} {s u : Int} (h1 : 2 ≤ sc) (hs : s = 0 ∨ s = 1) (h0 : 0 ≤ u) (hu : u < 2 ^ (sc + tl)) : sz sc tl (s * 2 ^ (sc + tl) + u) = u ∧ GM.sgn sc tl (s * 2 ^ (sc + tl) + u) = s := by
  obtain ⟨_, _, m1, m2⟩ := GM.mk_parts (m := sc) (t := tl) hs h0 hu
  exact ⟨m2, m1⟩
theorem top_lt (sc tl : Nat) : GM.topS sc tl < 2 ^ (sc + tl) := by
  unfold GM.topS
  rw [GM.pow_add' sc tl]
  exact Int.mul_lt_mul_of_pos_right (by omega) (GM.pow_pos' tl)
theorem none_is {sc tl : Nat} (h1 : 2 ≤ sc) (h3 : 1 ≤ tl) : srt sc tl (sz sc tl (noneW sc tl)) = "none" ∧ sz sc tl (noneW sc tl) = noneW sc tl := by
  have pT1 := GM.pow_pos' (tl - 1)
  have pTT : (2 : Int) ^ tl = 2 ^ (tl - 1) * 2 := by rw [← GM.pow_s]; congr 1; omega
  have pST : (2 : Int) ^ (sc + tl) = 2 ^ sc * 2 ^ tl := GM.pow_add' sc tl
  have pS := GM.pow_pos' sc
  have tp := topS_pos tl h1
  have e : noneW sc tl = GM.topS sc tl + 2 ^ (tl - 1) := rfl
  have et : GM.topS sc tl = 2 ^ (sc + tl) - 2 ^ tl := by
    unfold GM.topS
    rw [Int.sub_mul, pST, Int.one_mul]
  have ez : sz sc tl (noneW sc tl) = noneW sc tl := Int.emod_eq_of_lt (by omega) (by omega)
  exact ⟨(srt_none _ _ _).mpr (by rw [ez]; omega), ez⟩
theorem end_is {sc tl : Nat} {s : Int} (h1 : 2 ≤ sc) (hs : s = 0 ∨ s = 1) : srt sc tl (sz sc tl (endW sc tl s)) = "endless" ∧ sz sc tl (endW sc tl s) = GM.topS sc tl ∧ GM.sgn sc tl (endW sc tl s) = s := by
  have e : endW sc tl s = s * 2 ^ (sc + tl) + GM.topS sc tl := by
    unfold endW GM.topS
    rw [Int.add_zero]
  have tp := topS_pos tl h1
  obtain ⟨m1, m2⟩ := word_of_u (tl := tl) h1 hs (Int.le_of_lt tp) (top_lt sc tl)
  rw [← e] at m1 m2
  exact ⟨(srt_endless (by rw [m1]; omega)).mpr m1, m1, m2⟩
/-! ### all turned -/
theorem prQ_nn98 {n : Int} (h : 0 ≤ n) (b : Int) : 0 ≤ GR.prQ n b := by
  unfold GR.prQ GR.cutQ
  refine Int.ediv_nonneg ?_ (by decide)
  split
  · exact Int.mul_nonneg h (Int.le_of_lt (GM.pow_pos' _))
  · exact Int.ediv_nonneg h (Int.le_of_lt (GM.pow_pos' _))
theorem trn_is (sc tl : Nat) (v : Int) : sz sc tl (trn sc tl v) = sz sc tl v ∧ GM.sgn sc tl (trn sc tl v) = 1 - GM.sgn sc tl v := by
  have z1 : sz sc tl v < 2 ^ (sc + tl) := Int.emod_lt_of_pos _ (GM.pow_pos' _)
  have s01 : 1 - GM.sgn sc tl v = 0 ∨ 1 - GM.sgn sc tl v = 1 := by
    rcases GM.sgn_01 (m := sc) (t := tl) (w := v) with z | z <;> omega
  obtain ⟨_, _, m1, m2⟩ := GM.mk_parts (m := sc) (t := tl) s01 (sz_nn sc tl v) z1
  exact ⟨m2, m1⟩
theorem rnd_form {sc tl : Nat} {s n p : Int} {w : Str} {m : Bool} (h1 : 2 ≤ sc) (hn : 0 ≤ n) : ∃ u, 0 ≤ u ∧ u ≤ GM.topS sc tl ∧ (GR.rnd sc tl s n p w m).1 = s * 2 ^ (sc + tl) + u := by
  obtain ⟨w1, w2, w3⟩ := wrd_U sc tl s
  obtain ⟨w4, w5, w6⟩ := wrd_U sc tl 0
  rw [Int.zero_mul, Int.zero_add] at w5
  have tp : 0 < UU sc tl := topS_pos tl h1
  have hz : 0 ≤ GR.siz sc tl s n p w m := by
    have l := GR.lap_ge sc tl n p
    have q := prQ_nn98 hn (GR.lap sc tl n p - p)
    have a := Int.mul_nonneg (show 0 ≤ GR.lap sc tl n p - GR.lea sc tl by omega) (Int.le_of_lt (GM.pow_pos' tl))
    unfold GR.siz GR.mny
    split <;> omega
  show ∃ u, 0 ≤ u ∧ u ≤ UU sc tl ∧ _
  unfold GR.rnd
  split
  · exact ⟨0, Int.le_refl 0, by omega, by rw [w3, Int.add_zero]⟩
  · split
    · show ∃ u, 0 ≤ u ∧ u ≤ UU sc tl ∧ GR.bey sc tl s w = _
      unfold GR.bey
      split
      · exact ⟨UU sc tl, by omega, by omega, w1⟩
      · exact ⟨UU sc tl - 1, by omega, by omega, w2⟩
    · rename_i hle
      rw [w5] at hle
      exact ⟨GR.siz sc tl s n p w m, hz, by omega, by rw [w3]⟩
def FlL (l : List Str) : Prop := l = [] ∨ l = (["over", "rounded"] : List Str) ∨ l = (["under", "rounded"] : List Str) ∨ l = (["rounded"] : List Str) ∨ l = (["bad"] : List Str)
theorem fl_rnd (sc tl : Nat) (s n p : Int) (w : Str) (m : Bool) : FlL (GR.rnd sc tl s n p w m).2 := by
  unfold FlL GR.rnd GR.flg
  repeat' split
  all_goals simp
theorem fl_tot (sc tl : Nat) (n p s : Int) (w : Str) : FlL (totR sc tl n p s w).2 := by
  unfold totR
  split
  · exact .inl rfl
  · exact fl_rnd _ _ _ _ _ _ _
end
section
variable {P : Program} {w : World} {K : PySem.W.Frag} {mg : Str → Option Value} {base : Heap}
variable {C : Addr} {a1 a2 a3 a4 a5 a6 a7 a8 a9 a10 a11 a12 a13 a14 a15 a16 a17 a18 a19 a20 a21 a22 a23 a24 a25 a26 a27 a28 a29 a30 a31 a32 a33 a34 a35 a36 a37 a38 a39 a40 a41 a42 a43 a44 a45 a46 a47 a48 a49 a50 a51 a52 : Addr} {l1 l2 l3 l4 l5 l6 l7 l8 l9 l10 l11 l12 l13 l14 l15 l16 l17 l18 l19 l20 l21 l22 l23 l24 l25 l26 l27 l28 l29 l30 l31 l32 l33 l34 l35 l36 l37 l38 l39 l40 l41 l42 l43 l44 l45 l46 l47 l48 l49 l50 l51 l52 : FuncData} {t47 t48 t49 tg_NEAR tg_CUT tg_UP tg_DOWN : Tok} {fW : Addr}
/-! ### texts of sorts -/
def CS : List Str := ["n", "s", "p", "e", "x"]
def G2 : List Int := [0, 1]
def g01 (g : Int) : Str := if g = 1 then "1" else "0"
def cp (a : Str) : Nat := a.cps.toList.headD 0
theorem in2 : ∀ a ∈ CS, ∀ b ∈ CS, ∀ c ∈ CS, (!(Builtin.Str.occurrences (a ++ b) c 0 (a ++ b).length 1).isEmpty) = decide (a = c ∨ b = c) := by decide +kernel
theorem in3 : ∀ a ∈ CS, ∀ b ∈ CS, ∀ d ∈ CS, (!(Builtin.Str.occurrences (a ++ b ++ d) "x" 0 (a ++ b ++ d).length 1).isEmpty) = decide (a = "x" ∨ b = "x" ∨ d = "x") := by decide +kernel
theorem eqee : ∀ a ∈ CS, ∀ b ∈ CS, (a ++ b = ("ee" : Str)) ↔ (a = "e" ∧ b = "e") := by decide +kernel
theorem eqnn : ∀ a ∈ CS, ∀ b ∈ CS, (a ++ b = ("nn" : Str)) ↔ (a = "n" ∧ b = "n") := by decide +kernel
theorem cp_is : ∀ a ∈ CS, (⟨#[cp a]⟩ : Str) = a := by decide +kernel
theorem at_0 : ∀ a ∈ CS, ∀ b ∈ CS, (a ++ b).length = 2 ∧ (a ++ b).cps.toList[0]? = some (cp a) ∧ (a ++ b).cps.toList[1]? = some (cp b) := by decide +kernel
theorem at_2 : ∀ a ∈ CS, ∀ b ∈ CS, ∀ c ∈ CS, (a ++ b ++ c).length = 3 ∧ (a ++ b ++ c).cps.toList[2]? = some (cp c) ∧ cutS (a ++ b ++ c) none (some 2) = a ++ b := by decide +kernel
theorem ind_e : ∀ a ∈ CS, ∀ b ∈ CS, (a = "e" ∨ b = "e") → Builtin.Str.occurrences (a ++ b) "e" 0 (a ++ b).length 1 = [if a = "e" then 0 else 1] := by decide +kernel
theorem str_g {g : Int} (h : g = 0 ∨ g = 1) : Str.ofString (toString g) = g01 g ∧ g.natAbs.log2 < 1920 := by
  rcases h with z | z <;> subst z <;> decide +kernel
theorem one_len (c : Str) (h : c = "e" ∨ c = "n" ∨ c = "b") {g : Int} : c.length + (g01 g).length ≤ sizeLine := by
  have : c.length = 1 := by rcases h with z | z | z <;> subst z <;> decide +kernel
  have h2 : (g01 g).length = 1 := by
    unfold g01
    split <;> decide +kernel
  rw [this, h2]
  decide
def sumW (a b : Str) (g h : Int) : Str := if a = "x" ∨ b = "x" then "none" else if (a = "e" ∧ b = "e") ∧ ¬ g = h then "bad" else if a = "e" then "e" ++ g01 g else if b = "e" then "e" ++ g01 h else ""
def prodW (a b : Str) (g : Int) : Str := if a = "x" ∨ b = "x" then "none" else if a = "e" ∨ b = "e" then (if a = "n" ∨ b = "n" then "bad" else "e" ++ g01 g) else if a = "n" ∨ b = "n" then "n" ++ g01 g else ""
def quoW (a b : Str) (g : Int) : Str := if a = "x" ∨ b = "x" then "none" else if (a = "n" ∧ b = "n") ∨ (a = "e" ∧ b = "e") then "bad" else if a = "e" then "e" ++ g01 g else if b = "e" ∨ a = "n" then "n" ++ g01 g else if b = "n" then "b" ++ g01 g else ""
def joinW (a b c : Str) (g k : Int) : Str := if a = "x" ∨ b = "x" ∨ c = "x" then "none" else if (a = "e" ∨ b = "e") ∧ (a = "n" ∨ b = "n") then "bad" else if a = "e" ∨ b = "e" then (if c = "e" ∧ ¬ k = g then "bad" else "e" ++ g01 g) else if c = "e" then "e" ++ g01 k else ""
theorem gnext_if18 {σ : L2.St} {H : Hp} {c : TT} {t u : TS} {r : TS} {D : Ends} (h : tIfS c t u { D with nx := r D } σ H) : tNext ({ D with nx := tSeq (tIfS c t u) r D } : Ends) σ H := h
theorem gset_if18 {i : Nat} {v : V} {σ : L2.St} {H : Hp} {c : TT} {t u r : TS} {D : Ends} (h : tIfS c t u { D with nx := r D } (σ.set i (some v)) H) : gName i v σ H ({ D with nx := tSeq (tIfS c t u) r D } : Ends).nx := h
theorem ret_if18 {c : TT} {ta tb : TE} {D : Ends} {σ : L2.St} {H : Hp} (R : Bool → Hp → Prop) (h : ∀ Q : Bool → Hp → Prop, (∀ z H', R z H' → Q z H') → c σ H Q) (q1 : ∀ H', R true H' → ta σ H' D.rt) (q2 : ∀ H', R false H' → tb σ H' D.rt) : tRet (tIf c ta tb) D σ H := h _ fun z H' r => by
  cases z with
  | true => exact q1 H' r
  | false => exact q2 H' r
def spSumW : Sp := fun vs H Q _ => ∃ (a b : Str) (t : Addr) (g h : Int), vs = [.str (a ++ b), .ref t] ∧ a ∈ CS ∧ b ∈ CS ∧ H t = some (.lst [.int g, .int h]) ∧ (g = 0 ∨ g = 1) ∧ (h = 0 ∨ h = 1) ∧ Q (.str (sumW a b g h)) H
theorem ok__law_sum_word (B : Bl mg) (L : LL K mg C a1 a2 a3 a4 a5 a6 a7 a8 a9 a10 a11 a12 a13 a14 a15 a16 a17 a18 a19 a20 a21 a22 a23 a24 a25 a26 a27 a28 a29 a30 a31 a32 a33 a34 a35 a36 a37 a38 a39 a40 a41 a42 a43 a44 a45 a46 a47 a48 a49 a50 a51 a52 l1 l2 l3 l4 l5 l6 l7 l8 l9 l10 l11 l12 l13 l14 l15 l16 l17 l18 l19 l20 l21 l22 l23 l24 l25 l26 l27 l28 l29 l30 l31 l32 l33 l34 l35 l36 l37 l38 l39 l40 l41 l42 l43 l44 l45 l46 l47 l48 l49 l50 l51 l52 t47 t48 t49 tg_NEAR tg_CUT tg_UP tg_DOWN fW) : FnOk P w K mg base CX0 1 a35 l35 ["_law_sorts", "_law_signs"] spSumW := by
  refine L.F__law_sum_word.ok sc__law_sum_word (fun vs H Q E h => ?_) (fun cdv A outer s H vs Q E hr h => ?_)
  · obtain ⟨a, b, t, g, h', rfl, _⟩ := h
    rfl
  obtain ⟨a, b, t, g, k, rfl, ha, hb, et, hg, hk, q⟩ := h
  refine ⟨_, (pss_cons (ps_if (pt_cmpR op_in_str pe_str (pv 0) (by rfl)) (pss_one (ps_ret pe_str)) pss_nil)
    (pss_cons (ps_if (PW.pt (pw_and (pt_cmpR op_eq (pv 0) pe_str (nomark _)) (pw_and1 (pt_cmpR op_ne (pe_ix ix_list (pv 1) pe_int (fun _ _ => rfl)) (pe_ix ix_list (pv 1) pe_int (fun _ _ => rfl)) (nomark _))))) (pss_one (ps_ret pe_str)) pss_nil)
    (pss_one (ps_ret (pe_ifExp (pt_cmpR op_in_str pe_str (pv 0) (by rfl)) (pe_op op_add_str pe_str (pe_callTy call_str_int (by rfl) B.str PyProof.Rows.boot_str (pa_cons (pe_ix ix_list (pv 1) (pe_bm PySem.F.plainAttrs_str PySem.F.slot_str_index PySem.F.type_str_index mt_sindex (pv 0) (pa_cons pe_str pa_nil)) (fun _ _ => rfl)) pa_nil))) pe_str))))), ?_⟩
  unfold sumW at q
  refine ⟨_, rfl, _, _, rfl, rfl, ?_⟩
  rw [in2 a ha b hb "x" (by decide)]
  refine ⟨_, rfl, ite2 (fun c => ?_) (fun c => ?_)⟩
  · rw [if_pos (of_decide_eq_true c)] at q
    exact q
  rw [if_neg (fun z => c (decide_eq_true z))] at q
  refine gnext_if18 ?_
  refine ifS_ev (fun r H' => r = decide ((a = "e" ∧ b = "e") ∧ ¬ g = k) ∧ H' = H) (fun Q' q' => ?_) (fun H' z => ?_) (fun H' z => ?_)
  · refine ⟨_, rfl, rfl, _, rfl, ite2 (fun c1 => ?_) (fun c1 => ?_)⟩
    · have e := (eqee a ha b hb).mp (V.str.inj (of_decide_eq_true c1))
      refine ⟨_, rfl, t, _, _, _, rfl, rfl, SqL.of et, rfl, _, rfl, t, _, _, _, rfl, rfl, SqL.of et, rfl, rfl, _, rfl, q' _ _ ⟨?_, rfl⟩⟩
      rw [dvi]
      by_cases z : g = k
      · rw [decide_eq_true z, decide_eq_false (fun y => y.2 z)]
        rfl
      · rw [decide_eq_false z, decide_eq_true ⟨e, z⟩]
        rfl
    · have e : ¬ (a = "e" ∧ b = "e") := fun z => c1 (decide_eq_true (congrArg V.str ((eqee a ha b hb).mpr z)))
      exact q' _ _ ⟨(decide_eq_false (fun y => e y.1)).symm, rfl⟩
  · obtain ⟨z, rfl⟩ := z
    rw [if_pos (of_decide_eq_true z.symm)] at q
    exact q
  obtain ⟨z, rfl⟩ := z
  rw [if_neg (of_decide_eq_false z.symm)] at q
  refine ⟨_, rfl, _, _, rfl, rfl, ?_⟩
  rw [in2 a ha b hb "e" (by decide)]
  refine ⟨_, rfl, ite2 (fun c1 => ?_) (fun c1 => ?_)⟩
  · have e := of_decide_eq_true c1
    refine ⟨_, rfl, _, rfl, rfl, _, _, _, _, rfl, rfl, ind_e a ha b hb e, ?_⟩
    by_cases z : a = "e"
    · rw [if_pos z] at q ⊢
      refine ⟨t, _, _, _, rfl, rfl, SqL.of et, rfl, g, rfl, (str_g hg).2, _, _, rfl, rfl, ?_⟩
      rw [(str_g hg).1]
      exact ⟨one_len "e" (.inl rfl), q⟩
    · rw [if_neg z] at q ⊢
      rw [if_pos (e.resolve_left z)] at q
      refine ⟨t, _, _, _, rfl, rfl, SqL.of et, rfl, k, rfl, (str_g hk).2, _, _, rfl, rfl, ?_⟩
      rw [(str_g hk).1]
      exact ⟨one_len "e" (.inl rfl), q⟩
  · have e : ¬ (a = "e" ∨ b = "e") := fun z => c1 (decide_eq_true z)
    rw [if_neg (fun z => e (.inl z)), if_neg (fun z => e (.inr z))] at q
    exact q
def spProdW : Sp := fun vs H Q _ => ∃ (a b : Str) (g : Int), vs = [.str (a ++ b), .int g] ∧ a ∈ CS ∧ b ∈ CS ∧ (g = 0 ∨ g = 1) ∧ Q (.str (prodW a b g)) H
theorem ok__law_product_word (B : Bl mg) (L : LL K mg C a1 a2 a3 a4 a5 a6 a7 a8 a9 a10 a11 a12 a13 a14 a15 a16 a17 a18 a19 a20 a21 a22 a23 a24 a25 a26 a27 a28 a29 a30 a31 a32 a33 a34 a35 a36 a37 a38 a39 a40 a41 a42 a43 a44 a45 a46 a47 a48 a49 a50 a51 a52 l1 l2 l3 l4 l5 l6 l7 l8 l9 l10 l11 l12 l13 l14 l15 l16 l17 l18 l19 l20 l21 l22 l23 l24 l25 l26 l27 l28 l29 l30 l31 l32 l33 l34 l35 l36 l37 l38 l39 l40 l41 l42 l43 l44 l45 l46 l47 l48 l49 l50 l51 l52 t47 t48 t49 tg_NEAR tg_CUT tg_UP tg_DOWN fW) : FnOk P w K mg base CX0 1 a36 l36 ["_law_sorts", "_law_sign"] spProdW := by
  refine L.F__law_product_word.ok sc__law_product_word (fun vs H Q E h => ?_) (fun cdv A outer s H vs Q E hr h => ?_)
  · obtain ⟨a, b, g, rfl, _⟩ := h
    rfl
  obtain ⟨a, b, g, rfl, ha, hb, hg, q⟩ := h
  refine ⟨_, (pss_cons (ps_if (pt_cmpR op_in_str pe_str (pv 0) (by rfl)) (pss_one (ps_ret pe_str)) pss_nil)
    (pss_cons (ps_if (pt_cmpR op_in_str pe_str (pv 0) (by rfl)) (pss_one (ps_ret (pe_ifExp (pt_cmpR op_in_str pe_str (pv 0) (by rfl)) pe_str (pe_op op_add_str pe_str (pe_callTy call_str_int (by rfl) B.str PyProof.Rows.boot_str (pa_cons (pv 1) pa_nil)))))) pss_nil)
    (pss_one (ps_ret (pe_ifExp (pt_cmpR op_in_str pe_str (pv 0) (by rfl)) (pe_op op_add_str pe_str (pe_callTy call_str_int (by rfl) B.str PyProof.Rows.boot_str (pa_cons (pv 1) pa_nil))) pe_str))))), ?_⟩
  unfold prodW at q
  refine ⟨_, rfl, _, _, rfl, rfl, ?_⟩
  rw [in2 a ha b hb "x" (by decide)]
  refine ⟨_, rfl, ite2 (fun c => ?_) (fun c => ?_)⟩
  · rw [if_pos (of_decide_eq_true c)] at q
    exact q
  rw [if_neg (fun z => c (decide_eq_true z))] at q
  refine ⟨_, rfl, _, _, rfl, rfl, ?_⟩
  rw [in2 a ha b hb "e" (by decide)]
  refine ⟨_, rfl, ite2 (fun c => ?_) (fun c => ?_)⟩
  · rw [if_pos (of_decide_eq_true c)] at q
    refine ⟨_, rfl, _, _, rfl, rfl, ?_⟩
    rw [in2 a ha b hb "n" (by decide)]
    refine ⟨_, rfl, ite2 (fun c => ?_) (fun c => ?_)⟩
    · rw [if_pos (of_decide_eq_true c)] at q
      exact q
    · rw [if_neg (fun z => c (decide_eq_true z))] at q
      refine ⟨_, rfl, g, rfl, (str_g hg).2, _, _, rfl, rfl, ?_⟩
      rw [(str_g hg).1]
      exact ⟨one_len "e" (.inl rfl), q⟩
  rw [if_neg (fun z => c (decide_eq_true z))] at q
  refine ⟨_, rfl, _, _, rfl, rfl, ?_⟩
  rw [in2 a ha b hb "n" (by decide)]
  refine ⟨_, rfl, ite2 (fun c => ?_) (fun c => ?_)⟩
  · rw [if_pos (of_decide_eq_true c)] at q
    refine ⟨_, rfl, g, rfl, (str_g hg).2, _, _, rfl, rfl, ?_⟩
    rw [(str_g hg).1]
    exact ⟨one_len "n" (.inr (.inl rfl)), q⟩
  · rw [if_neg (fun z => c (decide_eq_true z))] at q
    exact q
theorem inV2 (z : Str) : inV (.str z) [.str "nn", .str "ee"] = decide (z = "nn" ∨ z = "ee") := by
  apply Bool.eq_iff_iff.mpr
  rw [show ([.str "nn", .str "ee"] : List V) = (["nn", "ee"] : List Str).map V.str from rfl, in_strs, decide_eq_true_iff, m2]
  exact or_congr eq_comm eq_comm
def spQuoW : Sp := fun vs H Q _ => ∃ (a b : Str) (g : Int), vs = [.str (a ++ b), .int g] ∧ a ∈ CS ∧ b ∈ CS ∧ (g = 0 ∨ g = 1) ∧ ∀ H', Same H H' → Q (.str (quoW a b g)) H'
theorem ok__law_quotient_word (B : Bl mg) (L : LL K mg C a1 a2 a3 a4 a5 a6 a7 a8 a9 a10 a11 a12 a13 a14 a15 a16 a17 a18 a19 a20 a21 a22 a23 a24 a25 a26 a27 a28 a29 a30 a31 a32 a33 a34 a35 a36 a37 a38 a39 a40 a41 a42 a43 a44 a45 a46 a47 a48 a49 a50 a51 a52 l1 l2 l3 l4 l5 l6 l7 l8 l9 l10 l11 l12 l13 l14 l15 l16 l17 l18 l19 l20 l21 l22 l23 l24 l25 l26 l27 l28 l29 l30 l31 l32 l33 l34 l35 l36 l37 l38 l39 l40 l41 l42 l43 l44 l45 l46 l47 l48 l49 l50 l51 l52 t47 t48 t49 tg_NEAR tg_CUT tg_UP tg_DOWN fW) : FnOk P w K mg base CX0 1 a37 l37 ["_law_sorts", "_law_sign"] spQuoW := by
  refine L.F__law_quotient_word.ok sc__law_quotient_word (fun vs H Q E h => ?_) (fun cdv A outer s H vs Q E hr h => ?_)
  · obtain ⟨a, b, g, rfl, _⟩ := h
    rfl
  obtain ⟨a, b, g, rfl, ha, hb, hg, q⟩ := h
  refine ⟨_, (pss_cons (ps_if (pt_cmpR op_in_str pe_str (pv 0) (by rfl)) (pss_one (ps_ret pe_str)) pss_nil)
    (pss_cons (ps_if (pt_cmpR op_in_seq (pv 0) (pe_tup (pa_cons pe_str (pa_cons pe_str pa_nil))) (by rfl)) (pss_one (ps_ret pe_str)) pss_nil)
    (pss_cons (ps_if (pt_cmpR op_eq (pe_ix ix_str (pv 0) pe_int (fun _ _ => rfl)) pe_str (nomark _)) (pss_one (ps_ret (pe_op op_add_str pe_str (pe_callTy call_str_int (by rfl) B.str PyProof.Rows.boot_str (pa_cons (pv 1) pa_nil))))) pss_nil)
    (pss_cons (ps_if (PW.pt (pw_or (pt_cmpR op_eq (pe_ix ix_str (pv 0) pe_int (fun _ _ => rfl)) pe_str (nomark _)) (pw_or1 (pt_cmpR op_eq (pe_ix ix_str (pv 0) pe_int (fun _ _ => rfl)) pe_str (nomark _))))) (pss_one (ps_ret (pe_op op_add_str pe_str (pe_callTy call_str_int (by rfl) B.str PyProof.Rows.boot_str (pa_cons (pv 1) pa_nil))))) pss_nil)
    (pss_one (ps_ret (pe_ifExp (pt_cmpR op_eq (pe_ix ix_str (pv 0) pe_int (fun _ _ => rfl)) pe_str (nomark _)) (pe_op op_add_str pe_str (pe_callTy call_str_int (by rfl) B.str PyProof.Rows.boot_str (pa_cons (pv 1) pa_nil))) pe_str))))))), ?_⟩
  unfold quoW at q
  obtain ⟨l2, i0, i1⟩ := at_0 a ha b hb
  have lz : (a ++ b).length ≤ sizeLine := by
    rw [l2]
    decide
  have j0 : atI (a ++ b).cps.toList 0 = some (cp a) := atI_nat i0
  have j1 : atI (a ++ b).cps.toList 1 = some (cp b) := atI_nat i1
  have ka := cp_is a ha
  have kb := cp_is b hb
  refine ⟨_, rfl, _, _, rfl, rfl, ?_⟩
  rw [in2 a ha b hb "x" (by decide)]
  refine ⟨_, rfl, ite2 (fun c => ?_) (fun c => ?_)⟩
  · rw [if_pos (of_decide_eq_true c)] at q
    exact q _ (Same.refl _)
  rw [if_neg (fun z => c (decide_eq_true z))] at q
  refine ⟨_, rfl, (by show 2 ≤ sizeLine; decide), fun U nU => ?_⟩
  have sU := same_upd (o := .tup [.str "nn", .str "ee"]) nU
  refine ⟨U, _, rfl, .inr (.inl (.inl upd_same)), rfl, rfl, ?_⟩
  rw [show (if false = true then !inV (V.str (a ++ b)) [V.str "nn", V.str "ee"] else inV (V.str (a ++ b)) [V.str "nn", V.str "ee"]) = decide ((a = "n" ∧ b = "n") ∨ (a = "e" ∧ b = "e")) by
    rw [if_neg (by decide), inV2]
    exact decide_eq_decide.mpr (or_congr (eqnn a ha b hb) (eqee a ha b hb))]
  refine ⟨_, rfl, ite2 (fun c => ?_) (fun c => ?_)⟩
  · rw [if_pos (of_decide_eq_true c)] at q
    exact q _ sU
  rw [if_neg (fun z => c (decide_eq_true z))] at q
  refine ⟨_, rfl, _, _, _, rfl, rfl, lz, j0, ?_⟩
  rw [ka]
  refine ⟨rfl, _, rfl, ite2 (fun c => ?_) (fun c => ?_)⟩
  · rw [if_pos (V.str.inj (of_decide_eq_true c))] at q
    refine ⟨_, rfl, g, rfl, (str_g hg).2, _, _, rfl, rfl, ?_⟩
    rw [(str_g hg).1]
    exact ⟨one_len "e" (.inl rfl), q _ sU⟩
  rw [if_neg (fun z => c (decide_eq_true (congrArg V.str z)))] at q
  refine gnext_if18 ?_
  refine ifS_ev (fun r H' => r = decide (b = "e" ∨ a = "n") ∧ H' = upd H U (.tup [.str "nn", .str "ee"])) (fun Q' q' => ?_) (fun H' z => ?_) (fun H' z => ?_)
  · refine ⟨_, rfl, _, _, _, rfl, rfl, lz, j1, ?_⟩
    rw [kb]
    refine ⟨rfl, _, rfl, ite2 (fun c => ?_) (fun c => ?_)⟩
    · exact q' _ _ ⟨(decide_eq_true (.inl (V.str.inj (of_decide_eq_true c)))).symm, rfl⟩
    · refine ⟨_, rfl, _, _, _, rfl, rfl, lz, j0, ?_⟩
      rw [ka]
      refine ⟨rfl, _, rfl, q' _ _ ⟨?_, rfl⟩⟩
      have nb : ¬ b = "e" := fun z => c (decide_eq_true (congrArg V.str z))
      exact decide_eq_decide.mpr ⟨fun z => .inr (V.str.inj z), fun z => congrArg V.str (z.resolve_left nb)⟩
  · obtain ⟨z, rfl⟩ := z
    rw [if_pos (of_decide_eq_true z.symm)] at q
    refine ⟨_, rfl, g, rfl, (str_g hg).2, _, _, rfl, rfl, ?_⟩
    rw [(str_g hg).1]
    exact ⟨one_len "n" (.inr (.inl rfl)), q _ sU⟩
  obtain ⟨z, rfl⟩ := z
  rw [if_neg (of_decide_eq_false z.symm)] at q
  refine ⟨_, rfl, _, _, _, rfl, rfl, lz, j1, ?_⟩
  rw [kb]
  refine ⟨rfl, _, rfl, ite2 (fun c => ?_) (fun c => ?_)⟩
  · rw [if_pos (V.str.inj (of_decide_eq_true c))] at q
    refine ⟨_, rfl, g, rfl, (str_g hg).2, _, _, rfl, rfl, ?_⟩
    rw [(str_g hg).1]
    exact ⟨one_len "b" (.inr (.inr rfl)), q _ sU⟩
  · rw [if_neg (fun z => c (decide_eq_true (congrArg V.str z)))] at q
    exact q _ sU
theorem prod_say : ∀ a ∈ CS, ∀ b ∈ CS, ∀ g ∈ G2, (prodW a b g = "bad" ↔ ((a = "e" ∨ b = "e") ∧ (a = "n" ∨ b = "n")) ∧ ¬ (a = "x" ∨ b = "x")) ∧ (prodW a b g).length ≤ 4 ∧
    (¬ (a = "x" ∨ b = "x") → ¬ ((a = "e" ∨ b = "e") ∧ (a = "n" ∨ b = "n")) → (cutS (prodW a b g) none (some 1) = "e" ↔ (a = "e" ∨ b = "e")) ∧ ((a = "e" ∨ b = "e") → prodW a b g = "e" ++ g01 g ∧ (prodW a b g).cps.toList[1]? = some (cp (g01 g)) ∧ (⟨#[cp (g01 g)]⟩ : Str) = g01 g)) := by decide +kernel
theorem g01_inj {g h : Int} (hg : g = 0 ∨ g = 1) (hh : h = 0 ∨ h = 1) : g01 h = g01 g ↔ h = g := by
  rcases hg with z | z <;> rcases hh with y | y <;> subst z <;> subst y <;> decide +kernel
theorem mem_g2 {g : Int} (h : g = 0 ∨ g = 1) : g ∈ G2 := by
  rcases h with z | z <;> subst z <;> decide
def spJoinW : Sp := fun vs H Q _ => ∃ (a b c : Str) (t : Addr) (g h k : Int), vs = [.str (a ++ b ++ c), .ref t] ∧ a ∈ CS ∧ b ∈ CS ∧ c ∈ CS ∧ H t = some (.lst [.int g, .int h, .int k]) ∧ (g = 0 ∨ g = 1) ∧ (h = 0 ∨ h = 1) ∧ (k = 0 ∨ k = 1) ∧ Q (.str (joinW a b c (Builtin.bitXor g h) k)) H
theorem ok__law_join_word (B : Bl mg) (L : LL K mg C a1 a2 a3 a4 a5 a6 a7 a8 a9 a10 a11 a12 a13 a14 a15 a16 a17 a18 a19 a20 a21 a22 a23 a24 a25 a26 a27 a28 a29 a30 a31 a32 a33 a34 a35 a36 a37 a38 a39 a40 a41 a42 a43 a44 a45 a46 a47 a48 a49 a50 a51 a52 l1 l2 l3 l4 l5 l6 l7 l8 l9 l10 l11 l12 l13 l14 l15 l16 l17 l18 l19 l20 l21 l22 l23 l24 l25 l26 l27 l28 l29 l30 l31 l32 l33 l34 l35 l36 l37 l38 l39 l40 l41 l42 l43 l44 l45 l46 l47 l48 l49 l50 l51 l52 t47 t48 t49 tg_NEAR tg_CUT tg_UP tg_DOWN fW) : FnOk P w K mg base CX0 2 a38 l38 ["_law_sorts", "_law_signs"] spJoinW := by
  have G__law_product_word : FnOk P w K mg base CX0 1 a36 l36 ["_law_sorts", "_law_sign"] spProdW := (ok__law_product_word B L).mono (by decide)
  refine L.F__law_join_word.ok sc__law_join_word (fun vs H Q E h => ?_) (fun cdv A outer s H vs Q E hr h => ?_)
  · obtain ⟨a, b, c, t, g, h', k, rfl, _⟩ := h
    rfl
  obtain ⟨a, b, c, t, g, k, l, rfl, ha, hb, hc, et, hg, hk, hl, q⟩ := h
  refine ⟨_, (pss_cons (ps_set (i := 2) sc__law_join_word.nd rfl (.inl rfl) (pe_call G__law_product_word hr (by rfl) L.m__law_product_word L.F__law_product_word.kp L.b__law_product_word .nil pass0 (pa_cons (pe_slice sl_str (pv 0) po_none (po_some pe_int)) (pa_cons (pe_op op_xor (pe_ix ix_list (pv 1) pe_int (fun _ _ => rfl)) (pe_ix ix_list (pv 1) pe_int (fun _ _ => rfl))) pa_nil))))
    (pss_cons (ps_if (PW.pt (pw_or (pt_cmpR op_in_str pe_str (pv 0) (by rfl)) (pw_or1 (pt_cmpR op_eq (pv 2) pe_str (nomark _))))) (pss_one (ps_ret (pe_ifExp (pt_cmpR op_in_str pe_str (pv 0) (by rfl)) pe_str pe_str))) pss_nil)
    (pss_cons (ps_if (pt_cmpR op_eq (pe_slice sl_str (pv 2) po_none (po_some pe_int)) pe_str (nomark _)) (pss_one (ps_ret (pe_ifExp (PW.pt (pw_and (pt_cmpR op_eq (pe_ix ix_str (pv 0) pe_int (fun _ _ => rfl)) pe_str (nomark _)) (pw_and1 (pt_cmpR op_ne (pe_callTy call_str_int (by rfl) B.str PyProof.Rows.boot_str (pa_cons (pe_ix ix_list (pv 1) pe_int (fun _ _ => rfl)) pa_nil)) (pe_ix ix_str (pv 2) pe_int (fun _ _ => rfl)) (nomark _))))) pe_str (pv 2)))) pss_nil)
    (pss_one (ps_ret (pe_ifExp (pt_cmpR op_eq (pe_ix ix_str (pv 0) pe_int (fun _ _ => rfl)) pe_str (nomark _)) (pe_op op_add_str pe_str (pe_callTy call_str_int (by rfl) B.str PyProof.Rows.boot_str (pa_cons (pe_ix ix_list (pv 1) pe_int (fun _ _ => rfl)) pa_nil))) pe_str)))))), ?_⟩
  have x01 : Builtin.bitXor g k = 0 ∨ Builtin.bitXor g k = 1 := by
    rcases hg with z | z <;> rcases hk with y | y <;> subst z <;> subst y <;> decide +kernel
  obtain ⟨l3, i2, sl⟩ := at_2 a ha b hb c hc
  have lz : (a ++ b ++ c).length ≤ sizeLine := by
    rw [l3]
    decide
  have j2 : atI (a ++ b ++ c).cps.toList 2 = some (cp c) := atI_nat i2
  have kc := cp_is c hc
  unfold joinW at q
  refine ⟨_, rfl, 2, rfl, _, rfl, lz, ?_⟩
  rw [sl]
  refine ⟨_, rfl, t, _, _, _, rfl, rfl, SqL.of et, rfl, _, rfl, t, _, _, _, rfl, rfl, SqL.of et, rfl, _, _, rfl, rfl, ?_⟩
  refine ⟨a, b, Builtin.bitXor g k, rfl, ha, hb, x01, ?_⟩
  generalize Builtin.bitXor g k = x at *
  obtain ⟨p1, p2, p3⟩ := prod_say a ha b hb x (mem_g2 x01)
  refine gset_if18 ?_
  simp only [L2.start, List.map_cons, List.map_nil, List.length_cons, List.length_nil, List.replicate_succ, List.replicate_zero, List.cons_append, List.nil_append, List.set_cons_succ, List.set_cons_zero, Nat.reduceAdd, Nat.reduceSub, Nat.zero_add]
  refine ifS_ev (fun r H' => r = decide ((a = "x" ∨ b = "x" ∨ c = "x") ∨ prodW a b x = "bad") ∧ H' = H) (fun Q' q' => ?_) (fun H' z => ?_) (fun H' z => ?_)
  · refine ⟨_, rfl, _, _, rfl, rfl, ?_⟩
    rw [in3 a ha b hb c hc]
    refine ⟨_, rfl, ite2 (fun c => ?_) (fun c => ?_)⟩
    · exact q' _ _ ⟨(decide_eq_true (.inl (of_decide_eq_true c))).symm, rfl⟩
    · refine ⟨_, rfl, rfl, _, rfl, q' _ _ ⟨?_, rfl⟩⟩
      have nb := of_decide_eq_false (Bool.eq_false_iff.mpr c)
      exact decide_eq_decide.mpr ⟨fun z => .inr (V.str.inj z), fun z => congrArg V.str (z.resolve_left nb)⟩
  · obtain ⟨z, rfl⟩ := z
    have z := of_decide_eq_true z.symm
    refine ⟨_, rfl, _, _, rfl, rfl, ?_⟩
    rw [in3 a ha b hb c hc]
    refine ⟨_, rfl, ite2 (fun c => ?_) (fun c => ?_)⟩
    · rw [if_pos (of_decide_eq_true c)] at q
      exact q
    · have nb := of_decide_eq_false (Bool.eq_false_iff.mpr c)
      rw [if_neg nb, if_pos (p1.mp (z.resolve_left nb)).1] at q
      exact q
  obtain ⟨z, rfl⟩ := z
  have z := of_decide_eq_false z.symm
  have nx : ¬ (a = "x" ∨ b = "x" ∨ c = "x") := fun y => z (.inl y)
  have nx2 : ¬ (a = "x" ∨ b = "x") := fun y => nx (y.imp id Or.inl)
  have nd : ¬ ((a = "e" ∨ b = "e") ∧ (a = "n" ∨ b = "n")) := fun y => z (.inr (p1.mpr ⟨y, nx2⟩))
  rw [if_neg nx, if_neg nd] at q
  obtain ⟨p4, p5⟩ := p3 nx2 nd
  have lp : (prodW a b x).length ≤ sizeLine := Nat.le_trans p2 (by decide)
  refine ⟨_, rfl, 1, rfl, _, rfl, lp, rfl, _, rfl, ite2 (fun c1 => ?_) (fun c1 => ?_)⟩
  · have e := p4.mp (V.str.inj (of_decide_eq_true c1))
    obtain ⟨p6, p7, p8⟩ := p5 e
    have jp : atI (prodW a b x).cps.toList 1 = some (cp (g01 x)) := atI_nat p7
    rw [if_pos e] at q
    refine ret_if18 (fun r H2 => r = decide (c = "e" ∧ ¬ l = x) ∧ H2 = H') (fun Q' q' => ?_) (fun H2 z => ?_) (fun H2 z => ?_)
    · refine ⟨_, rfl, _, _, _, rfl, rfl, lz, j2, ?_⟩
      rw [kc]
      refine ⟨rfl, _, rfl, ite2 (fun c2 => ?_) (fun c2 => ?_)⟩
      · have ec := V.str.inj (of_decide_eq_true c2)
        refine ⟨_, rfl, t, _, _, _, rfl, rfl, SqL.of et, rfl, l, rfl, (str_g hl).2, ?_⟩
        rw [(str_g hl).1]
        refine ⟨_, rfl, _, _, _, rfl, rfl, lp, jp, ?_⟩
        rw [p8]
        refine ⟨rfl, _, rfl, q' _ _ ⟨?_, rfl⟩⟩
        have gi := g01_inj x01 hl
        by_cases y : l = x
        · rw [decide_eq_true (congrArg V.str (gi.mpr y)), decide_eq_false (fun w' => w'.2 y)]
          rfl
        · rw [decide_eq_false (fun w' => y (gi.mp (V.str.inj w'))), decide_eq_true ⟨ec, y⟩]
          rfl
      · exact q' _ _ ⟨(decide_eq_false (fun y => c2 (decide_eq_true (congrArg V.str y.1)))).symm, rfl⟩
    · obtain ⟨z, rfl⟩ := z
      rw [if_pos (of_decide_eq_true z.symm)] at q
      exact q
    · obtain ⟨z, rfl⟩ := z
      rw [if_neg (of_decide_eq_false z.symm), ← p6] at q
      exact ⟨_, rfl, q⟩
  have ne : ¬ (a = "e" ∨ b = "e") := fun y => c1 (decide_eq_true (congrArg V.str (p4.mpr y)))
  rw [if_neg ne] at q
  refine ⟨_, rfl, _, _, _, rfl, rfl, lz, j2, ?_⟩
  rw [kc]
  refine ⟨rfl, _, rfl, ite2 (fun c2 => ?_) (fun c2 => ?_)⟩
  · rw [if_pos (V.str.inj (of_decide_eq_true c2))] at q
    refine ⟨_, rfl, t, _, _, _, rfl, rfl, SqL.of et, rfl, l, rfl, (str_g hl).2, _, _, rfl, rfl, ?_⟩
    rw [(str_g hl).1]
    exact ⟨one_len "e" (.inl rfl), q⟩
  · rw [if_neg (fun y => c2 (decide_eq_true (congrArg V.str y)))] at q
    exact q
end
section
variable {P : Program} {w : World} {K : PySem.W.Frag} {mg : Str → Option Value} {base : Heap}
variable {C : Addr} {a1 a2 a3 a4 a5 a6 a7 a8 a9 a10 a11 a12 a13 a14 a15 a16 a17 a18 a19 a20 a21 a22 a23 a24 a25 a26 a27 a28 a29 a30 a31 a32 a33 a34 a35 a36 a37 a38 a39 a40 a41 a42 a43 a44 a45 a46 a47 a48 a49 a50 a51 a52 : Addr} {l1 l2 l3 l4 l5 l6 l7 l8 l9 l10 l11 l12 l13 l14 l15 l16 l17 l18 l19 l20 l21 l22 l23 l24 l25 l26 l27 l28 l29 l30 l31 l32 l33 l34 l35 l36 l37 l38 l39 l40 l41 l42 l43 l44 l45 l46 l47 l48 l49 l50 l51 l52 : FuncData} {t47 t48 t49 tg_NEAR tg_CUT tg_UP tg_DOWN : Tok} {fW : Addr}
/-! ### what is due of sorts -/
def cs (s : Str) : Str := if s = "nought" then "n" else if s = "small" then "s" else if s = "plain" then "p" else if s = "endless" then "e" else "x"
theorem srt_five (m t : Nat) (s : Int) : srt m t s = "nought" ∨ srt m t s = "small" ∨ srt m t s = "plain" ∨ srt m t s = "endless" ∨ srt m t s = "none" := by
  unfold srt
  repeat' split
  all_goals simp
theorem cs_is (m t : Nat) (s : Int) : cs (srt m t s) ∈ CS ∧ (cs (srt m t s) = "x" ↔ srt m t s = "none") ∧ (cs (srt m t s) = "e" ↔ srt m t s = "endless") ∧ (cs (srt m t s) = "n" ↔ srt m t s = "nought") := by
  rcases srt_five m t s with e | e | e | e | e <;> rw [e] <;> decide +kernel
def FlN (l : List Str) : Prop := l = [] ∨ l = (["over", "rounded"] : List Str) ∨ l = (["under", "rounded"] : List Str) ∨ l = (["rounded"] : List Str)
def FitP (sc tl : Nat) (r : Int × List Str) (w : Str) : Prop :=
  (w = "" ∧ sz sc tl r.1 ≤ GM.topS sc tl ∧ FlN r.2) ∨ (w = "none" ∧ r = (noneW sc tl, [])) ∨ (w = "bad" ∧ r = (noneW sc tl, (["bad"] : List Str))) ∨
  ∃ g : Int, (g = 0 ∨ g = 1) ∧ ((w = "e" ++ g01 g ∧ r = (endW sc tl g, [])) ∨ (w = "n" ++ g01 g ∧ r = (g * 2 ^ (sc + tl), [])) ∨ (w = "b" ++ g01 g ∧ r = (endW sc tl g, (["bynought"] : List Str))))
theorem rnd_fine {sc tl : Nat} {s n p : Int} {w : Str} {m : Bool} (h1 : 2 ≤ sc) (hs : s = 0 ∨ s = 1) (hn : 0 ≤ n) : sz sc tl (GR.rnd sc tl s n p w m).1 ≤ GM.topS sc tl ∧ FlN (GR.rnd sc tl s n p w m).2 := by
  refine ⟨?_, ?_⟩
  · obtain ⟨u, u0, u1, eu⟩ := rnd_form (sc := sc) (tl := tl) (s := s) (p := p) (w := w) (m := m) h1 hn
    have tl' := top_lt sc tl
    rw [eu, (word_of_u (tl := tl) (u := u) h1 hs u0 (by omega)).1]
    exact u1
  · unfold FlN GR.rnd GR.flg
    repeat' split
    all_goals simp
theorem tot_fine {sc tl : Nat} {n p s : Int} {w : Str} (h1 : 2 ≤ sc) (hs : s = 0 ∨ s = 1) : sz sc tl (totR sc tl n p s w).1 ≤ GM.topS sc tl ∧ FlN (totR sc tl n p s w).2 := by
  unfold totR
  split
  · have tp := topS_pos tl h1
    have e := (word_of_u (tl := tl) (u := 0) h1 hs (Int.le_refl 0) (GM.pow_pos' _)).1
    rw [Int.add_zero] at e
    refine ⟨?_, .inl rfl⟩
    show sz sc tl (s * 2 ^ (sc + tl)) ≤ _
    rw [e]
    omega
  · exact rnd_fine h1 (by split <;> simp) (ab_nn _)
theorem fit_add {sc tl : Nat} {a b : Int} {how : Str} (h1 : 2 ≤ sc) : FitP sc tl (addR sc tl a b how) (sumW (cs (srt sc tl (sz sc tl a))) (cs (srt sc tl (sz sc tl b))) (GM.sgn sc tl a) (GM.sgn sc tl b)) := by
  obtain ⟨_, ca, ca2, _⟩ := cs_is sc tl (sz sc tl a)
  obtain ⟨_, cb, cb2, _⟩ := cs_is sc tl (sz sc tl b)
  have tp := srt_top sc tl
  have ga := GM.sgn_01 (m := sc) (t := tl) (w := a)
  have gb := GM.sgn_01 (m := sc) (t := tl) (w := b)
  unfold addR sumW
  by_cases n : srt sc tl (sz sc tl a) = "none" ∨ srt sc tl (sz sc tl b) = "none"
  · have n' := n.imp ca.mpr cb.mpr
    rw [if_pos n, if_pos n']
    exact .inr (.inl ⟨rfl, rfl⟩)
  have n' := fun z : cs (srt sc tl (sz sc tl a)) = "x" ∨ cs (srt sc tl (sz sc tl b)) = "x" => n (z.imp ca.mp cb.mp)
  rw [if_neg n, if_neg n']
  have ea : GM.topS sc tl ≤ sz sc tl a ↔ cs (srt sc tl (sz sc tl a)) = "e" := ⟨fun z => ca2.mpr (((tp _).mpr z).resolve_right (fun y => n (.inl y))), fun z => (tp _).mp (.inl (ca2.mp z))⟩
  have eb : GM.topS sc tl ≤ sz sc tl b ↔ cs (srt sc tl (sz sc tl b)) = "e" := ⟨fun z => cb2.mpr (((tp _).mpr z).resolve_right (fun y => n (.inr y))), fun z => (tp _).mp (.inl (cb2.mp z))⟩
  unfold wo
  by_cases pa : GM.topS sc tl ≤ sz sc tl a <;> by_cases pb : GM.topS sc tl ≤ sz sc tl b
  · rw [if_pos pa, if_pos pb]
    simp only [tadR]
    by_cases s : GM.sgn sc tl a = GM.sgn sc tl b
    · rw [if_pos s, if_neg (fun z => z.2 s), if_pos (ea.mp pa)]
      exact .inr (.inr (.inr ⟨_, ga, .inl ⟨rfl, rfl⟩⟩))
    · rw [if_neg s, if_pos ⟨⟨ea.mp pa, eb.mp pb⟩, s⟩]
      exact .inr (.inr (.inl ⟨rfl, rfl⟩))
  · rw [if_pos pa, if_neg pb, if_neg (fun z => pb (eb.mpr z.1.2)), if_pos (ea.mp pa)]
    exact .inr (.inr (.inr ⟨_, ga, .inl ⟨rfl, rfl⟩⟩))
  · rw [if_neg pa, if_pos pb, if_neg (fun z => pa (ea.mpr z.1.1)), if_neg (fun z => pa (ea.mpr z)), if_pos (eb.mp pb)]
    exact .inr (.inr (.inr ⟨_, gb, .inl ⟨rfl, rfl⟩⟩))
  · rw [if_neg pa, if_neg pb, if_neg (fun z => pa (ea.mpr z.1.1)), if_neg (fun z => pa (ea.mpr z)), if_neg (fun z => pb (eb.mpr z))]
    exact .inl ⟨rfl, tot_fine h1 (nsg_01 ga _)⟩
theorem fit_mul {sc tl : Nat} {a b : Int} {how : Str} (h1 : 2 ≤ sc) : FitP sc tl (mulR sc tl a b how) (prodW (cs (srt sc tl (sz sc tl a))) (cs (srt sc tl (sz sc tl b))) (sx sc tl a b)) := by
  obtain ⟨_, ca, ca2, ca3⟩ := cs_is sc tl (sz sc tl a)
  obtain ⟨_, cb, cb2, cb3⟩ := cs_is sc tl (sz sc tl b)
  have tp := srt_top sc tl
  have s01 := sx_01 sc tl a b
  unfold mulR prodW
  simp only [ca, cb, ca2, cb2, ca3, cb3]
  by_cases n : srt sc tl (sz sc tl a) = "none" ∨ srt sc tl (sz sc tl b) = "none"
  · rw [if_pos n, if_pos n]
    exact .inr (.inl ⟨rfl, rfl⟩)
  rw [if_neg n, if_neg n]
  have en : ∀ v : Int, ¬ srt sc tl (sz sc tl v) = "none" → (GM.topS sc tl ≤ sz sc tl v ↔ srt sc tl (sz sc tl v) = "endless") := fun v hv => ⟨fun z => ((tp _).mpr z).resolve_right hv, fun z => (tp _).mp (.inl z)⟩
  have ea := en a (fun z => n (.inl z))
  have eb := en b (fun z => n (.inr z))
  by_cases e : srt sc tl (sz sc tl a) = "endless" ∨ srt sc tl (sz sc tl b) = "endless"
  · rw [if_pos e]
    by_cases z : srt sc tl (sz sc tl a) = "nought" ∨ srt sc tl (sz sc tl b) = "nought"
    · rw [if_pos ⟨e, z⟩, if_pos z]
      exact .inr (.inr (.inl ⟨rfl, rfl⟩))
    · rw [if_neg (fun y => z y.2), if_neg z, if_pos (e.imp ea.mpr eb.mpr)]
      exact .inr (.inr (.inr ⟨_, s01, .inl ⟨rfl, rfl⟩⟩))
  rw [if_neg (fun y => e y.1), if_neg e]
  have nt : ¬ (GM.topS sc tl ≤ sz sc tl a ∨ GM.topS sc tl ≤ sz sc tl b) := fun z => e (z.imp ea.mp eb.mp)
  rw [if_neg nt]
  by_cases z : srt sc tl (sz sc tl a) = "nought" ∨ srt sc tl (sz sc tl b) = "nought"
  · rw [if_pos z]
    have P0 : wn sc tl a * wn sc tl b = 0 := Int.mul_eq_zero.mpr (z.imp (fun y => (wn_zero sc tl a).1.mpr ((srt_nought _ _ _).mp y).2) (fun y => (wn_zero sc tl b).1.mpr ((srt_nought _ _ _).mp y).2))
    refine .inr (.inr (.inr ⟨_, s01, .inr (.inl ⟨rfl, ?_⟩)⟩))
    rw [P0]
    unfold GR.rnd
    rw [if_pos (show ab 0 = 0 from rfl)]
    unfold GR.wrd
    rw [Int.zero_mul, Int.add_zero, Int.add_zero]
  · rw [if_neg z]
    exact .inl ⟨rfl, rnd_fine h1 s01 (ab_nn _)⟩
theorem fit_quo {sc tl : Nat} {a b : Int} {how : Str} (h1 : 2 ≤ sc) : FitP sc tl (divR sc tl a b how) (quoW (cs (srt sc tl (sz sc tl a))) (cs (srt sc tl (sz sc tl b))) (sx sc tl a b)) := by
  obtain ⟨_, ca, ca2, ca3⟩ := cs_is sc tl (sz sc tl a)
  obtain ⟨_, cb, cb2, cb3⟩ := cs_is sc tl (sz sc tl b)
  have s01 := sx_01 sc tl a b
  unfold divR quoW
  simp only [ca, cb, ca2, cb2, ca3, cb3]
  split
  · exact .inr (.inl ⟨rfl, rfl⟩)
  split
  · exact .inr (.inr (.inl ⟨rfl, rfl⟩))
  split
  · exact .inr (.inr (.inr ⟨_, s01, .inl ⟨rfl, rfl⟩⟩))
  split
  · exact .inr (.inr (.inr ⟨_, s01, .inr (.inl ⟨rfl, rfl⟩)⟩))
  split
  · exact .inr (.inr (.inr ⟨_, s01, .inr (.inr ⟨rfl, rfl⟩)⟩))
  · unfold quoR
    refine .inl ⟨rfl, rnd_fine h1 s01 (Int.ediv_nonneg (Int.mul_nonneg (ab_nn _) (Int.le_of_lt (GM.pow_pos' _))) (ab_nn _))⟩
theorem fit_join {sc tl : Nat} {a b c : Int} {how : Str} (h1 : 2 ≤ sc) : FitP sc tl (joinR sc tl a b c how) (joinW (cs (srt sc tl (sz sc tl a))) (cs (srt sc tl (sz sc tl b))) (cs (srt sc tl (sz sc tl c))) (sx sc tl a b) (GM.sgn sc tl c)) := by
  obtain ⟨_, ca, ca2, ca3⟩ := cs_is sc tl (sz sc tl a)
  obtain ⟨_, cb, cb2, cb3⟩ := cs_is sc tl (sz sc tl b)
  obtain ⟨_, cc, cc2, cc3⟩ := cs_is sc tl (sz sc tl c)
  have tp := srt_top sc tl
  have s01 := sx_01 sc tl a b
  have gc := GM.sgn_01 (m := sc) (t := tl) (w := c)
  unfold joinR joinW
  simp only [ca, cb, cc, ca2, cb2, cc2, ca3, cb3]
  by_cases n : srt sc tl (sz sc tl a) = "none" ∨ srt sc tl (sz sc tl b) = "none" ∨ srt sc tl (sz sc tl c) = "none"
  · rw [if_pos n, if_pos n]
    exact .inr (.inl ⟨rfl, rfl⟩)
  rw [if_neg n, if_neg n]
  by_cases d : (srt sc tl (sz sc tl a) = "endless" ∨ srt sc tl (sz sc tl b) = "endless") ∧ (srt sc tl (sz sc tl a) = "nought" ∨ srt sc tl (sz sc tl b) = "nought")
  · rw [if_pos d, if_pos d]
    exact .inr (.inr (.inl ⟨rfl, rfl⟩))
  rw [if_neg d, if_neg d]
  have en : ∀ v : Int, ¬ srt sc tl (sz sc tl v) = "none" → (GM.topS sc tl ≤ sz sc tl v ↔ srt sc tl (sz sc tl v) = "endless") := fun v hv => ⟨fun z => ((tp _).mpr z).resolve_right hv, fun z => (tp _).mp (.inl z)⟩
  have ea := en a (fun z => n (.inl z))
  have eb := en b (fun z => n (.inr (.inl z)))
  have ec := en c (fun z => n (.inr (.inr z)))
  unfold po wo
  by_cases e : srt sc tl (sz sc tl a) = "endless" ∨ srt sc tl (sz sc tl b) = "endless" <;> by_cases f : srt sc tl (sz sc tl c) = "endless"
  · rw [if_pos (e.imp ea.mpr eb.mpr), if_pos (ec.mpr f), if_pos e]
    simp only [tadR]
    by_cases s : sx sc tl a b = GM.sgn sc tl c
    · rw [if_pos s, if_neg (fun z => z.2 s.symm)]
      exact .inr (.inr (.inr ⟨_, s01, .inl ⟨rfl, rfl⟩⟩))
    · rw [if_neg s, if_pos ⟨f, fun z => s z.symm⟩]
      exact .inr (.inr (.inl ⟨rfl, rfl⟩))
  · rw [if_pos (e.imp ea.mpr eb.mpr), if_neg (fun z => f (ec.mp z)), if_pos e, if_neg (fun z => f z.1)]
    exact .inr (.inr (.inr ⟨_, s01, .inl ⟨rfl, rfl⟩⟩))
  · rw [if_neg (fun z => e (z.imp ea.mp eb.mp)), if_pos (ec.mpr f), if_neg e, if_pos f]
    exact .inr (.inr (.inr ⟨_, gc, .inl ⟨rfl, rfl⟩⟩))
  · rw [if_neg (fun z => e (z.imp ea.mp eb.mp)), if_neg (fun z => f (ec.mp z)), if_neg e, if_neg f]
    exact .inl ⟨rfl, tot_fine h1 (nsg_01 s01 _)⟩

theorem txt_say : ∀ g ∈ G2, ∀ c ∈ (["e", "n", "b"] : List Str), ¬ c ++ g01 g = "" ∧ inV (.str (c ++ g01 g)) [.str "none", .str "bad"] = false ∧ (c ++ g01 g).length = 2 ∧ (c ++ g01 g).cps.toList[0]? = some (cp c) ∧ (⟨#[cp c]⟩ : Str) = c ∧ (c ++ g01 g).cps.toList[1]? = some (cp (g01 g)) ∧ (⟨#[cp (g01 g)]⟩ : Str) = g01 g ∧ PySem.intText? (g01 g) = some g ∧ (g01 g).length ≤ 640 := by decide +kernel
theorem fln_say {l : List Str} (h : FlN l) : inV (.str "bad") (l.map V.str) = false ∧ inV (.str "bynought") (l.map V.str) = false ∧ (l.map V.str).all flatV = true := by
  rcases h with e | e | e | e <;> subst e <;> decide +kernel
theorem gnext_asg18 {σ : L2.St} {H : Hp} {t : TE} {g : TG} {r : TS} {D : Ends} (h : t σ H (fun x H1 => g x σ H1 ({ D with nx := r D } : Ends).nx)) : tNext ({ D with nx := tSeq (tAsg t g) r D } : Ends) σ H := h
theorem gset_asg18 {i : Nat} {v : V} {σ : L2.St} {H : Hp} {t : TE} {g : TG} {r : TS} {D : Ends} (h : t (σ.set i (some v)) H (fun x H1 => g x (σ.set i (some v)) H1 ({ D with nx := r D } : Ends).nx)) : gName i v σ H ({ D with nx := tSeq (tAsg t g) r D } : Ends).nx := h
def spFits : Sp := fun vs H Q _ => ∃ (sc tl : Nat) (t : Addr) (r : Int × List Str) (w : Str), vs = [.int (sc : Int), .int (tl : Int), .ref t, .str w] ∧ 2 ≤ sc ∧ sc ≤ 8 ∧ 1 ≤ tl ∧ tl ≤ 24 ∧ PairAt H t r ∧ FitP sc tl r w ∧ ∀ H', Same H H' → Q (.bl true) H'
theorem ok__law_fits (B : Bl mg) (L : LL K mg C a1 a2 a3 a4 a5 a6 a7 a8 a9 a10 a11 a12 a13 a14 a15 a16 a17 a18 a19 a20 a21 a22 a23 a24 a25 a26 a27 a28 a29 a30 a31 a32 a33 a34 a35 a36 a37 a38 a39 a40 a41 a42 a43 a44 a45 a46 a47 a48 a49 a50 a51 a52 l1 l2 l3 l4 l5 l6 l7 l8 l9 l10 l11 l12 l13 l14 l15 l16 l17 l18 l19 l20 l21 l22 l23 l24 l25 l26 l27 l28 l29 l30 l31 l32 l33 l34 l35 l36 l37 l38 l39 l40 l41 l42 l43 l44 l45 l46 l47 l48 l49 l50 l51 l52 t47 t48 t49 tg_NEAR tg_CUT tg_UP tg_DOWN fW) : FnOk P w K mg base CX0 7 a39 l39 ["_law_scale", "_law_tail", "_law_told", "_law_word"] spFits := by
  have G__law_none : FnOk P w K mg base CX0 6 a33 l33 ["_law_scale", "_law_tail"] spLNone := (ok__law_none B L).mono (by decide)
  have G__law_same : FnOk P w K mg base CX0 6 a31 l31 ["_law_found", "_law_due"] (spSame K 4) := (ok_same L.F__law_same L.b__law_same L.m__law_same B 4).mono (by decide)
  refine L.F__law_fits.ok sc__law_fits (fun vs H Q E h => ?_) (fun cdv A outer s H vs Q E hr h => ?_)
  · obtain ⟨sc, tl, t, r, w', rfl, _⟩ := h
    rfl
  obtain ⟨sc, tl, t, r, w', rfl, h1, h2, h3, h4, PT, hf, q⟩ := h
  refine ⟨_, (pss_cons (ps_if (pt_cmpR op_eq (pv 3) pe_str (nomark _)) (pss_cons (ps_set (i := 4) sc__law_fits.nd rfl (.inl rfl) (pe_op op_shlN (pe_op op_sub (pe_op op_oneShl pe_int (pv 0)) pe_int) (pv 1)))
    (pss_cons (ps_set (i := 5) sc__law_fits.nd rfl (.inl rfl) (pe_cmpR op_le (pe_op op_andM (pe_ix ix_tup (pv 2) pe_int (fun _ _ => rfl)) (pe_op op_sub (pe_op op_oneShl pe_int (pe_op op_add (pv 0) (pv 1))) pe_int)) (pv 4) (nomark _)))
    (pss_one (ps_ret (pe_and (pv 5) (pe_and (pe_cmpR op_notIn_seq pe_str (pe_ix ix_tup (pv 2) pe_int (fun _ _ => rfl)) (by rfl)) (pe_one (pe_cmpR op_notIn_seq pe_str (pe_ix ix_tup (pv 2) pe_int (fun _ _ => rfl)) (by rfl))))))))) pss_nil)
    (pss_cons (ps_if (pt_cmpR op_in_seq (pv 3) (pe_tup (pa_cons pe_str (pa_cons pe_str pa_nil))) (by rfl)) (pss_one (ps_ret (pe_call G__law_same hr (by rfl) L.m__law_same L.F__law_same.kp L.b__law_same .nil pass0 (pa_cons (pv 2) (pa_cons (pe_tup (pa_cons (pe_call G__law_none hr (by rfl) L.m__law_none L.F__law_none.kp L.b__law_none .nil pass0 (pa_cons (pv 0) (pa_cons (pv 1) pa_nil))) (pa_cons (pe_ifExp (pt_cmpR op_eq (pv 3) pe_str (nomark _)) (pe_tup (pa_cons pe_str pa_nil)) (pe_tup pa_nil)) pa_nil))) pa_nil))))) pss_nil)
    (pss_cons (ps_set (i := 6) sc__law_fits.nd rfl (.inl rfl) (pe_ifExp (pt_cmpR op_eq (pe_ix ix_str (pv 3) pe_int (fun _ _ => rfl)) pe_str (nomark _)) pe_int (pe_op op_shlN (pe_op op_sub (pe_op op_oneShl pe_int (pv 0)) pe_int) (pv 1))))
    (pss_cons (ps_set (i := 7) sc__law_fits.nd rfl (.inl rfl) (pe_ifExp (pt_cmpR op_eq (pe_ix ix_str (pv 3) pe_int (fun _ _ => rfl)) pe_str (nomark _)) (pe_tup (pa_cons pe_str pa_nil)) (pe_tup pa_nil)))
    (pss_one (ps_ret (pe_call G__law_same hr (by rfl) L.m__law_same L.F__law_same.kp L.b__law_same .nil pass0 (pa_cons (pv 2) (pa_cons (pe_tup (pa_cons (pe_op op_add (pv 6) (pe_op op_shlN (pe_callTy call_int_str (by rfl) B.int PyProof.Rows.boot_int (pa_cons (pe_ix ix_str (pv 3) pe_int (fun _ _ => rfl)) pa_nil)) (pe_op op_add (pv 0) (pv 1)))) (pa_cons (pv 7) pa_nil))) pa_nil))))))))), ?_⟩
  have p8 : (2 : Int) ^ sc ≤ 2 ^ 8 := GM.pow_le' h2
  have pS := GM.pow_pos' sc
  obtain ⟨f, et, ef⟩ := id PT
  rcases hf with ⟨rfl, hz, hl⟩ | hf
  · refine ⟨_, rfl, rfl, _, rfl, iteT ?_⟩
    refine ⟨_, rfl, sc, rfl, rfl, by omega, _, _, rfl, rfl, _, rfl, _, tl, rfl, rfl, shl_ok (n := 9) (by omega) (by omega), ?_⟩
    refine gI (show _ = GM.topS sc tl from rfl) ?_
    simp only [L2.start, List.map_cons, List.map_nil, List.length_cons, List.length_nil, List.replicate_succ, List.replicate_zero, List.cons_append, List.nil_append, List.set_cons_succ, List.set_cons_zero, Nat.reduceAdd, Nat.reduceSub, Nat.zero_add]
    refine ⟨_, rfl, t, _, _, _, rfl, rfl, .inl (.inl et), rfl, _, rfl, _, rfl, _, _, rfl, rfl, sc + tl, rfl, rfl, by omega, _, _, rfl, rfl, _, sc + tl, rfl, rfl, _, rfl, _, _, rfl, rfl, ?_⟩
    refine gB (show _ = true from decide_eq_true hz) ?_
    simp only [L2.start, List.map_cons, List.map_nil, List.length_cons, List.length_nil, List.replicate_succ, List.replicate_zero, List.cons_append, List.nil_append, List.set_cons_succ, List.set_cons_zero, Nat.reduceAdd, Nat.reduceSub, Nat.zero_add]
    obtain ⟨f1, f2, f3⟩ := fln_say hl
    refine ⟨_, rfl, _, rfl, iteT ?_⟩
    refine ⟨_, rfl, t, _, _, _, rfl, rfl, .inl (.inl et), rfl, f, _, rfl, .inr (.inl (.inl ef)), rfl, f3, ?_⟩
    rw [f1]
    refine ⟨_, rfl, iteT ?_⟩
    refine ⟨_, rfl, t, _, _, _, rfl, rfl, .inl (.inl et), rfl, f, _, rfl, .inr (.inl (.inl ef)), rfl, f3, ?_⟩
    rw [f2]
    exact q _ (Same.refl _)
  rcases hf with ⟨rfl, rfl⟩ | ⟨rfl, rfl⟩ | ⟨g, hg, hw⟩
  · refine ⟨_, rfl, rfl, _, rfl, ite2 (fun c => absurd c (by decide +kernel)) (fun _ => ?_)⟩
    refine ⟨_, rfl, (by show 2 ≤ sizeLine; decide), fun U nU => ?_⟩
    have sU := same_upd (o := .tup [.str "none", .str "bad"]) nU
    refine ⟨U, _, rfl, .inr (.inl (.inl upd_same)), rfl, rfl, _, rfl, ite2 (fun _ => ?_) (fun c => absurd (by decide +kernel) c)⟩
    refine ⟨_, rfl, _, rfl, _, rfl, sc, tl, rfl, h2, h3, h4, _, rfl, rfl, _, rfl, ite2 (fun c => absurd c (by decide +kernel)) (fun _ => ?_)⟩
    refine ⟨Nat.zero_le _, fun e ne => ⟨(by show 2 ≤ sizeLine; decide), fun u nu => ?_⟩⟩
    have s := (sU.trans (same_upd (o := .tup (([] : List Str).map V.str)) ne)).trans (same_upd (o := .tup [.int (noneW sc tl), .ref e]) nu)
    have P2 : PairAt (upd (upd (upd H U (.tup [.str "none", .str "bad"])) e (.tup (([] : List Str).map V.str))) u (.tup [.int (noneW sc tl), .ref e])) u (noneW sc tl, ([] : List Str)) := ⟨e, upd_same, same_upd nu _ _ upd_same⟩
    exact ⟨_, _, _, 3, rfl, rfl, lv_pair3 _ (Nat.le_of_ble_eq_true rfl), dp_pair (PT.same s), dp_pair P2, fun H' s' => q _ (s.trans s')⟩
  · refine ⟨_, rfl, rfl, _, rfl, ite2 (fun c => absurd c (by decide +kernel)) (fun _ => ?_)⟩
    refine ⟨_, rfl, (by show 2 ≤ sizeLine; decide), fun U nU => ?_⟩
    have sU := same_upd (o := .tup [.str "none", .str "bad"]) nU
    refine ⟨U, _, rfl, .inr (.inl (.inl upd_same)), rfl, rfl, _, rfl, ite2 (fun _ => ?_) (fun c => absurd (by decide +kernel) c)⟩
    refine ⟨_, rfl, _, rfl, _, rfl, sc, tl, rfl, h2, h3, h4, _, rfl, rfl, _, rfl, ite2 (fun _ => ?_) (fun c => absurd (by decide +kernel) c)⟩
    refine ⟨(by show 1 ≤ sizeLine; decide), fun e ne => ⟨(by show 2 ≤ sizeLine; decide), fun u nu => ?_⟩⟩
    have s := (sU.trans (same_upd (o := .tup ((["bad"] : List Str).map V.str)) ne)).trans (same_upd (o := .tup [.int (noneW sc tl), .ref e]) nu)
    have P2 : PairAt (upd (upd (upd H U (.tup [.str "none", .str "bad"])) e (.tup ((["bad"] : List Str).map V.str))) u (.tup [.int (noneW sc tl), .ref e])) u (noneW sc tl, (["bad"] : List Str)) := ⟨e, upd_same, same_upd nu _ _ upd_same⟩
    exact ⟨_, _, _, 3, rfl, rfl, lv_pair3 _ (Nat.le_of_ble_eq_true rfl), dp_pair (PT.same s), dp_pair P2, fun H' s' => q _ (s.trans s')⟩
  · obtain ⟨c, hc, rfl, er⟩ : ∃ c, c ∈ (["e", "n", "b"] : List Str) ∧ w' = c ++ g01 g ∧ r = ((if c = "n" then 0 else GM.topS sc tl) + g * 2 ^ (sc + tl), if c = "b" then (["bynought"] : List Str) else []) := by
      rcases hw with ⟨z, y⟩ | ⟨z, y⟩ | ⟨z, y⟩
      · refine ⟨"e", by decide +kernel, z, ?_⟩
        rw [y, if_neg (by decide +kernel), if_neg (by decide +kernel)]
        unfold endW GM.topS
        rw [Int.add_zero, Int.add_comm]
      · refine ⟨"n", by decide +kernel, z, ?_⟩
        rw [y, if_pos rfl, if_neg (by decide +kernel), Int.zero_add]
      · refine ⟨"b", by decide +kernel, z, ?_⟩
        rw [y, if_neg (by decide +kernel), if_pos rfl]
        unfold endW GM.topS
        rw [Int.add_zero, Int.add_comm]
    obtain ⟨t1, t2, t3, t4, t5, t6, t7, t8, t9⟩ := txt_say g (mem_g2 hg) c hc
    have lw : (c ++ g01 g).length ≤ sizeLine := by
      rw [t3]
      decide
    have k0 : atI (c ++ g01 g).cps.toList 0 = some (cp c) := atI_nat t4
    have k1 : atI (c ++ g01 g).cps.toList 1 = some (cp (g01 g)) := atI_nat t6
    refine ⟨_, rfl, rfl, _, rfl, ite2 (fun c => absurd (V.str.inj (of_decide_eq_true c)) t1) (fun _ => ?_)⟩
    refine ⟨_, rfl, (by show 2 ≤ sizeLine; decide), fun U nU => ?_⟩
    have sU := same_upd (o := .tup [.str "none", .str "bad"]) nU
    refine ⟨U, _, rfl, .inr (.inl (.inl upd_same)), rfl, rfl, _, rfl, ite2 (fun z => absurd (t2.symm.trans z) (by decide)) (fun _ => ?_)⟩
    generalize upd H U (.tup [.str "none", .str "bad"]) = H1 at *
    refine gnext_asg18 ?_
    refine if_ev (fun z H' => z = .int (if c = "n" then 0 else GM.topS sc tl) ∧ H' = H1) (fun Q' q' => ?_) ?_
    · refine ⟨_, rfl, _, _, _, rfl, rfl, lw, k0, ?_⟩
      rw [t5]
      refine ⟨rfl, _, rfl, ite2 (fun z => ?_) (fun z => ?_)⟩
      · exact q' _ _ ⟨by rw [if_pos (V.str.inj (of_decide_eq_true z))], rfl⟩
      · refine ⟨_, rfl, sc, rfl, rfl, by omega, _, _, rfl, rfl, _, rfl, _, tl, rfl, rfl, shl_ok (n := 9) (by omega) (by omega), q' _ _ ⟨?_, rfl⟩⟩
        rw [if_neg (show ¬ c = "n" from fun y => z (decide_eq_true (congrArg V.str y)))]
        rfl
    rintro _ H2 ⟨rfl, rfl⟩
    refine gset_asg18 ?_
    simp only [L2.start, List.map_cons, List.map_nil, List.length_cons, List.length_nil, List.replicate_succ, List.replicate_zero, List.cons_append, List.nil_append, List.set_cons_succ, List.set_cons_zero, Nat.reduceAdd, Nat.reduceSub, Nat.zero_add]
    refine if_ev (fun z H' => ∃ e, z = .ref e ∧ Same H2 H' ∧ H' e = some (.tup ((if c = "b" then (["bynought"] : List Str) else []).map V.str))) (fun Q' q' => ?_) ?_
    · refine ⟨_, rfl, _, _, _, rfl, rfl, lw, k0, ?_⟩
      rw [t5]
      refine ⟨rfl, _, rfl, ite2 (fun z => ?_) (fun z => ?_)⟩
      · refine ⟨(by show 1 ≤ sizeLine; decide), fun e ne => q' _ _ ⟨e, rfl, same_upd ne, ?_⟩⟩
        rw [if_pos (V.str.inj (of_decide_eq_true z))]
        exact upd_same
      · refine ⟨Nat.zero_le _, fun e ne => q' _ _ ⟨e, rfl, same_upd ne, ?_⟩⟩
        rw [if_neg (show ¬ c = "b" from fun y => z (decide_eq_true (congrArg V.str y)))]
        exact upd_same
    rintro _ H3 ⟨e, rfl, s3, ee⟩
    refine ⟨_, rfl, _, rfl, _, rfl, _, _, _, rfl, rfl, lw, k1, ?_⟩
    rw [t7]
    refine ⟨_, _, rfl, t8, t9, ?_⟩
    refine ⟨_, rfl, _, rfl, _, _, rfl, rfl, _, sc + tl, rfl, rfl, shl_ok (n := 1) (by omega) (by omega), _, _, rfl, rfl, ?_⟩
    refine ⟨_, rfl, (by show 2 ≤ sizeLine; decide), fun u nu => ?_⟩
    have s4 := s3.trans (same_upd (o := .tup [.int ((if c = "n" then 0 else GM.topS sc tl) + g * 2 ^ (sc + tl)), .ref e]) nu)
    have P2 : PairAt (upd H3 u (.tup [.int ((if c = "n" then 0 else GM.topS sc tl) + g * 2 ^ (sc + tl)), .ref e])) u r := by
      rw [er]
      exact ⟨e, upd_same, same_upd nu _ _ ee⟩
    have hlen : r.2.length ≤ 1000 := by
      rw [er]
      show (if c = "b" then (["bynought"] : List Str) else []).length ≤ 1000
      split
      · exact Nat.le_of_ble_eq_true rfl
      · exact Nat.le_of_ble_eq_true rfl
    exact ⟨_, _, _, 3, rfl, rfl, lv_pair3 _ hlen, dp_pair (PT.same (sU.trans s4)), dp_pair P2, fun H' s' => q _ ((sU.trans s4).trans s')⟩
end
section
variable {P : Program} {w : World} {K : PySem.W.Frag} {mg : Str → Option Value} {base : Heap}
variable {C : Addr} {a1 a2 a3 a4 a5 a6 a7 a8 a9 a10 a11 a12 a13 a14 a15 a16 a17 a18 a19 a20 a21 a22 a23 a24 a25 a26 a27 a28 a29 a30 a31 a32 a33 a34 a35 a36 a37 a38 a39 a40 a41 a42 a43 a44 a45 a46 a47 a48 a49 a50 a51 a52 : Addr} {l1 l2 l3 l4 l5 l6 l7 l8 l9 l10 l11 l12 l13 l14 l15 l16 l17 l18 l19 l20 l21 l22 l23 l24 l25 l26 l27 l28 l29 l30 l31 l32 l33 l34 l35 l36 l37 l38 l39 l40 l41 l42 l43 l44 l45 l46 l47 l48 l49 l50 l51 l52 : FuncData} {t47 t48 t49 tg_NEAR tg_CUT tg_UP tg_DOWN : Tok} {fW : Addr}
def WsAt (sc tl : Nat) (H : Hp) (l : Addr) (n : Nat) : Prop := ∃ ps : List Addr, H l = some (.lst (ps.map V.ref)) ∧ ps.length = n ∧ ∀ (i : Nat) (p : Addr), ps[i]? = some p → p ≠ l ∧ ∃ v : Int, H p = some (.tup [.str (cs (srt sc tl (sz sc tl v))), .int v]) ∧ 0 ≤ v ∧ v < 2 ^ (1 + sc + tl)
theorem tup_ne {c : Int} {H : Hp} {b y : Addr} {xs : List V} (hB : BoxAt c H b) (e : H y = some (.tup xs)) : y ≠ b := fun z => by
  obtain ⟨_, _, _, eb, _⟩ := hB
  rw [z, eb] at e
  cases e
theorem gset_for18 {i : Nat} {v : V} {σ : L2.St} {H : Hp} {wi : TI} {g : TG} {t : TS} {D : Ends} (h : tFor wi g t D (σ.set i (some v)) H) : gName i v σ H (tFor wi g t D) := h
theorem code_n (sc tl : Nat) (h1 : 2 ≤ sc) : cs (srt sc tl 0) = "n" := (cs_is sc tl 0).2.2.2.mpr ((srt_nought _ _ _).mpr ⟨by have := topS_pos tl h1; omega, rfl⟩)
theorem code_e (sc tl : Nat) : cs (srt sc tl (GM.topS sc tl)) = "e" := (cs_is sc tl _).2.2.1.mpr ((srt_endless (by omega)).mpr rfl)
theorem code_x {sc tl : Nat} {u : Int} (h : GM.topS sc tl < u) : cs (srt sc tl u) = "x" := (cs_is sc tl _).2.1.mpr ((srt_none _ _ _).mpr h)
theorem code_s {sc tl : Nat} {u : Int} (h0 : 1 ≤ u) (h1 : u < 2 ^ tl) (h2 : u < GM.topS sc tl) : cs (srt sc tl u) = "s" := by
  unfold srt
  rw [if_neg (by omega), if_neg (by omega), if_pos (Int.ediv_eq_zero_of_lt (by omega) h1)]
  decide +kernel
theorem code_p {sc tl : Nat} {u : Int} (h1 : 2 ^ tl ≤ u) (h2 : u < GM.topS sc tl) : cs (srt sc tl u) = "p" := by
  have hp := GM.pow_pos' tl
  have : 1 ≤ u / 2 ^ tl := (Int.le_ediv_iff_mul_le hp).mpr (by omega)
  unfold srt
  rw [if_neg (by omega), if_neg (by omega), if_neg (by omega)]
  decide +kernel
def spWs18 : Sp := fun vs H Q _ => ∃ (b : Addr) (sc tl : Nat) (c : Int), vs = [.ref b, .int (sc : Int), .int (tl : Int)] ∧ 2 ≤ sc ∧ sc ≤ 8 ∧ 1 ≤ tl ∧ tl ≤ 24 ∧ BoxAt c H b ∧ c ≤ 900000000 ∧
  ∀ (l : Addr) (H' : Hp), WsAt sc tl H' l 10 → l ≠ b → BoxAt (c + 60) H' b → Keep b H H' → Q (.ref l) H'
theorem ok__law_words (B : Bl mg) (L : LL K mg C a1 a2 a3 a4 a5 a6 a7 a8 a9 a10 a11 a12 a13 a14 a15 a16 a17 a18 a19 a20 a21 a22 a23 a24 a25 a26 a27 a28 a29 a30 a31 a32 a33 a34 a35 a36 a37 a38 a39 a40 a41 a42 a43 a44 a45 a46 a47 a48 a49 a50 a51 a52 l1 l2 l3 l4 l5 l6 l7 l8 l9 l10 l11 l12 l13 l14 l15 l16 l17 l18 l19 l20 l21 l22 l23 l24 l25 l26 l27 l28 l29 l30 l31 l32 l33 l34 l35 l36 l37 l38 l39 l40 l41 l42 l43 l44 l45 l46 l47 l48 l49 l50 l51 l52 t47 t48 t49 tg_NEAR tg_CUT tg_UP tg_DOWN fW) : FnOk P w K mg base CX0 3 a34 l34 ["_law_box_here", "_law_scale", "_law_tail"] spWs18 := by
  have G__law_take : FnOk P w K mg base CX0 2 a29 l29 ["_law_box_here", "_law_size"] (spTake 2) := (ok_take L.F__law_take L.b__law_take L.m__law_take B 2).mono (by decide)
  refine L.F__law_words.ok sc__law_words (fun vs H Q E h => ?_) (fun cdv A outer s H vs Q E hr h => ?_)
  · obtain ⟨b, sc, tl, c, rfl, _⟩ := h
    rfl
  obtain ⟨b, sc, tl, c, rfl, h1, h2, h3, h4, hB, hc, q⟩ := h
  refine ⟨_, (pss_cons (ps_par (by rfl) sc__law_words.nd (i := 3) (j := 4) rfl rfl (by decide) rfl rfl (pa_cons (pe_op op_shlN (pe_op op_sub (pe_op op_oneShl pe_int (pv 1)) pe_int) (pv 2)) (pa_cons (pe_lst pa_nil) pa_nil)) (by rfl))
    (pss_cons (ps_for PassesOwn.never rfl (pi_range1 (by rfl) B.range (pa_cons pe_int pa_nil)) (pg_name (i := 5) sc__law_words.nd rfl (.inl rfl)) (pss_cons (ps_par (by rfl) sc__law_words.nd (i := 6) (j := 7) rfl rfl (by decide) rfl rfl (pa_cons (pe_op op_add pe_int (pe_call G__law_take hr (by rfl) L.m__law_take L.F__law_take.kp L.b__law_take .nil pass0 (pa_cons (pv 0) (pa_cons (pe_op op_sub (pe_op op_oneShl pe_int (pv 2)) pe_int) pa_nil)))) (pa_cons (pe_op op_add (pe_op op_oneShl pe_int (pv 2)) (pe_call G__law_take hr (by rfl) L.m__law_take L.F__law_take.kp L.b__law_take .nil pass0 (pa_cons (pv 0) (pa_cons (pe_op op_sub (pv 3) (pe_op op_oneShl pe_int (pv 2))) pa_nil)))) pa_nil)) (by rfl))
    (pss_cons (ps_set (i := 8) sc__law_words.nd rfl (.inl rfl) (pe_op op_add (pe_op op_add (pv 3) pe_int) (pe_call G__law_take hr (by rfl) L.m__law_take L.F__law_take.kp L.b__law_take .nil pass0 (pa_cons (pv 0) (pa_cons (pe_op op_sub (pe_op op_oneShl pe_int (pv 2)) pe_int) pa_nil)))))
    (pss_one (ps_for PassesOwn.never rfl (pi_tup (pe_tup (pa_cons (pe_tup (pa_cons pe_str (pa_cons pe_int pa_nil))) (pa_cons (pe_tup (pa_cons pe_str (pa_cons (pv 6) pa_nil))) (pa_cons (pe_tup (pa_cons pe_str (pa_cons (pv 7) pa_nil))) (pa_cons (pe_tup (pa_cons pe_str (pa_cons (pv 3) pa_nil))) (pa_cons (pe_tup (pa_cons pe_str (pa_cons (pv 8) pa_nil))) pa_nil))))))) (pg_tup (by rfl) (pgs_cons (pg_name (i := 9) sc__law_words.nd rfl (.inl rfl)) (pgs_cons (pg_name (i := 10) sc__law_words.nd rfl (.inl rfl)) pgs_nil))) (pss_one (ps_expr (pe_bm PySem.F.plainAttrs_list PySem.F.slot_list_append PySem.F.type_list_append mt_append (pv 4) (pa_cons (pe_tup (pa_cons (pv 9) (pa_cons (pe_op op_add (pv 10) (pe_op op_shlN (pe_call G__law_take hr (by rfl) L.m__law_take L.F__law_take.kp L.b__law_take .nil pass0 (pa_cons (pv 0) (pa_cons pe_int pa_nil))) (pe_op op_add (pv 1) (pv 2)))) pa_nil))) pa_nil)))))))))
    (pss_one (ps_ret (pv 4))))), ?_⟩
  have p8 : (2 : Int) ^ sc ≤ 2 ^ 8 := GM.pow_le' h2
  have pS4 : (2 : Int) ^ 2 ≤ 2 ^ sc := GM.pow_le' h1
  have pT := GM.pow_pos' tl
  have pT2 : (2 : Int) ^ 1 ≤ 2 ^ tl := GM.pow_le' h3
  have pT24 : (2 : Int) ^ tl ≤ 2 ^ 24 := GM.pow_le' h4
  have pST : (2 : Int) ^ (sc + tl) = 2 ^ sc * 2 ^ tl := GM.pow_add' sc tl
  have p1 : (2 : Int) ^ (1 + sc + tl) = 2 ^ (sc + tl) * 2 := by rw [← GM.pow_s]; congr 1; omega
  have hT : GM.topS sc tl = 2 ^ (sc + tl) - 2 ^ tl := by
    unfold GM.topS
    rw [Int.sub_mul, pST]
    omega
  have p4T : 4 * 2 ^ tl ≤ (2 : Int) ^ (sc + tl) := by
    rw [pST]
    exact Int.mul_le_mul_of_nonneg_right pS4 (by omega)
  have p32 : (2 : Int) ^ (sc + tl) ≤ 2 ^ 32 := GM.pow_le' (by omega)
  have e14 : (10000000 : Int) ^ 2 = 100000000000000 := by decide
  refine ⟨_, rfl, sc, rfl, rfl, by omega, _, _, rfl, rfl, _, rfl, _, tl, rfl, rfl, shl_ok (n := 9) (by omega) (by omega), ?_⟩
  refine ⟨Nat.zero_le _, fun l nl => ?_⟩
  refine ⟨.int (GM.topS sc tl), .ref l, rfl, ?_⟩
  simp only [L2.start, List.map_cons, List.map_nil, List.length_cons, List.length_nil, List.replicate_succ, List.replicate_zero, List.cons_append, List.nil_append, List.set_cons_succ, List.set_cons_zero, Nat.reduceAdd, Nat.reduceSub, Nat.zero_add]
  have nlb : l ≠ b := (hB.ne nl).symm
  have sl := same_upd (o := .lst []) nl
  refine ⟨2, rfl, by decide, by decide, for_range (n := 2) (fun i σ H5 => ∃ (y5 y6 y7 y8 y9 y10 : Option V), σ = [some (.ref b), some (.int (sc : Int)), some (.int (tl : Int)), some (.int (GM.topS sc tl)), some (.ref l), y5, y6, y7, y8, y9, y10] ∧ Keep b H H5 ∧ BoxAt (c + 25 * i) H5 b ∧ WsAt sc tl H5 l (5 * i)) ⟨_, _, _, _, _, _, rfl, Keep.ofSame sl, (hB.same sl).mono (by omega), [], upd_same, rfl, fun i p h => by cases h⟩ ?_ ?_⟩
  · rintro i σ H5 hi ⟨y5, y6, y7, y8, y9, y10, rfl, k5, B5, W5⟩
    refine ⟨_, rfl, _, rfl, tl, rfl, rfl, by omega, _, _, rfl, rfl, b, _, _, rfl, B5, (by omega), (by rw [e14]; omega), (by omega), (by omega), (by decide), fun r1 H6 u1 v1 B6 k6 => ?_⟩
    replace B6 := bx2 B6
    refine ⟨_, _, rfl, rfl, ?_⟩
    refine ⟨_, rfl, tl, rfl, rfl, by omega, _, rfl, _, rfl, _, rfl, tl, rfl, rfl, by omega, _, _, rfl, rfl, b, _, _, rfl, B6, (by omega), (by rw [e14]; omega), (by omega), (by omega), (by decide), fun r2 H7 u2 v2 B7 k7 => ?_⟩
    replace B7 := bx2 B7
    refine ⟨_, _, rfl, rfl, .int (1 + r1), .int (2 ^ tl + r2), rfl, ?_⟩
    simp only [L2.start, List.map_cons, List.map_nil, List.length_cons, List.length_nil, List.replicate_succ, List.replicate_zero, List.cons_append, List.nil_append, List.set_cons_succ, List.set_cons_zero, Nat.reduceAdd, Nat.reduceSub, Nat.zero_add]
    refine ⟨_, rfl, _, _, rfl, rfl, _, rfl, _, rfl, tl, rfl, rfl, by omega, _, _, rfl, rfl, b, _, _, rfl, B7, (by omega), (by rw [e14]; omega), (by omega), (by omega), (by decide), fun r3 H8 u3 v3 B8 k8 => ?_⟩
    replace B8 := bx2 B8
    refine ⟨_, _, rfl, rfl, ?_⟩
    simp only [L2.start, List.map_cons, List.map_nil, List.length_cons, List.length_nil, List.replicate_succ, List.replicate_zero, List.cons_append, List.nil_append, List.set_cons_succ, List.set_cons_zero, Nat.reduceAdd, Nat.reduceSub, Nat.zero_add]
    refine gset_for18 ?_
    simp only [L2.start, List.map_cons, List.map_nil, List.length_cons, List.length_nil, List.replicate_succ, List.replicate_zero, List.cons_append, List.nil_append, List.set_cons_succ, List.set_cons_zero, Nat.reduceAdd, Nat.reduceSub, Nat.zero_add]
    refine ⟨(by show 2 ≤ sizeLine; decide), fun t1 nt1 => ⟨_, rfl, (by show 2 ≤ sizeLine; decide), fun t2 nt2 => ⟨_, rfl, (by show 2 ≤ sizeLine; decide), fun t3 nt3 => ⟨_, rfl, (by show 2 ≤ sizeLine; decide), fun t4 nt4 => ⟨_, rfl, (by show 2 ≤ sizeLine; decide), fun t5 nt5 => ⟨(by show 5 ≤ sizeLine; decide), fun tw ntw => ?_⟩⟩⟩⟩⟩⟩
    have n1 := same_upd (o := .tup [.str "n", .int 0]) nt1
    have n2 := same_upd (o := .tup [.str "s", .int (1 + r1)]) nt2
    have n3 := same_upd (o := .tup [.str "p", .int (2 ^ tl + r2)]) nt3
    have n4 := same_upd (o := .tup [.str "e", .int (GM.topS sc tl)]) nt4
    have n5 := same_upd (o := .tup [.str "x", .int (GM.topS sc tl + 1 + r3)]) nt5
    have nw := same_upd (o := .tup ([t1, t2, t3, t4, t5].map V.ref)) ntw
    obtain ⟨HA, hHA⟩ : ∃ HA, HA = upd (upd (upd (upd (upd (upd H8 t1 (.tup [.str "n", .int 0])) t2 (.tup [.str "s", .int (1 + r1)])) t3 (.tup [.str "p", .int (2 ^ tl + r2)])) t4 (.tup [.str "e", .int (GM.topS sc tl)])) t5 (.tup [.str "x", .int (GM.topS sc tl + 1 + r3)])) tw (.tup ([t1, t2, t3, t4, t5].map V.ref)) := ⟨_, rfl⟩
    have sA : Same H8 HA := by
      rw [hHA]
      exact n1.trans (n2.trans (n3.trans (n4.trans (n5.trans nw))))
    have etw : HA tw = some (.tup ([t1, t2, t3, t4, t5].map V.ref)) := by
      rw [hHA]
      exact upd_same
    have hts : ∀ (j : Nat) (t : Addr), [t1, t2, t3, t4, t5][j]? = some t → ∃ (k : Str) (u : Int), HA t = some (.tup [.str k, .int u]) ∧ 0 ≤ u ∧ u < 2 ^ (sc + tl) ∧ cs (srt sc tl u) = k := by
      intro j t hj
      rw [hHA]
      match j, hj with
      | 0, e => cases e; exact ⟨_, _, (n2.trans (n3.trans (n4.trans (n5.trans nw)))) _ _ upd_same, Int.le_refl 0, by omega, code_n sc tl h1⟩
      | 1, e => cases e; exact ⟨_, _, (n3.trans (n4.trans (n5.trans nw))) _ _ upd_same, by omega, by omega, code_s (by omega) (by omega) (by omega)⟩
      | 2, e => cases e; exact ⟨_, _, (n4.trans (n5.trans nw)) _ _ upd_same, by omega, by omega, code_p (by omega) (by omega)⟩
      | 3, e => cases e; exact ⟨_, _, (n5.trans nw) _ _ upd_same, by omega, by omega, code_e sc tl⟩
      | 4, e => cases e; exact ⟨_, _, nw _ _ upd_same, by omega, by omega, code_x (by omega)⟩
    refine ⟨tw, rfl, ⟨[t1, t2, t3, t4, t5].map V.ref, .inl (.inl upd_same)⟩, ?_⟩
    have kA : Keep b H HA := (((k5.trans k6).trans k7).trans k8).trans (Keep.ofSame sA)
    have BA := B8.same sA
    have WA : WsAt sc tl HA l (5 * i) := by
      obtain ⟨ps, el, hps, hpp⟩ := W5
      have k58 := ((k6.trans k7).trans k8).trans (Keep.ofSame sA)
      refine ⟨ps, k58 _ _ el nlb, hps, fun j p hj => ?_⟩
      obtain ⟨npl, v, ev, hv⟩ := hpp j p hj
      exact ⟨npl, v, k58 _ _ ev (tup_ne B5 ev), hv⟩
    have ntl : ∀ {y : Addr} {xs : List V}, HA y = some (.tup xs) → y ≠ l ∧ y ≠ b := fun {y xs} e => ⟨(fun z => by
      obtain ⟨ps, el, _⟩ := WA
      rw [z, el] at e
      cases e), tup_ne BA e⟩
    rw [show (upd (upd (upd (upd (upd (upd H8 t1 (.tup [.str "n", .int 0])) t2 (.tup [.str "s", .int (1 + r1)])) t3 (.tup [.str "p", .int (2 ^ tl + r2)])) t4 (.tup [.str "e", .int (GM.topS sc tl)])) t5 (.tup [.str "x", .int (GM.topS sc tl + 1 + r3)])) tw (.tup [.ref t1, .ref t2, .ref t3, .ref t4, .ref t5])) = HA from hHA.symm]
    refine for_tup (K := K) (a := tw) (xs := [t1, t2, t3, t4, t5].map V.ref) (fun i' σ Hx => ∃ (y5 y9 y10 : Option V), σ = [some (.ref b), some (.int (sc : Int)), some (.int (tl : Int)), some (.int (GM.topS sc tl)), some (.ref l), y5, some (.int (1 + r1)), some (.int (2 ^ tl + r2)), some (.int (GM.topS sc tl + 1 + r3)), y9, y10] ∧ (∀ y u, HA y = some u → y ≠ b → y ≠ l → Hx y = some u) ∧ BoxAt (c + 25 * i + 6 + 2 * i') Hx b ∧ WsAt sc tl Hx l (5 * i + i'))
      ⟨_, _, _, rfl, fun _ _ e _ _ => e, BA.mono (by omega), WA⟩ (fun i' σ Hx _ ⟨_, _, _, _, kx, _, _⟩ => .inl (.inl (kx _ _ etw (ntl etw).2 (ntl etw).1))) ?_ ?_
    · rintro i' z σ Hx hz ⟨y5, y9, y10, rfl, kx, Bx, Wx⟩
      rw [List.getElem?_map] at hz
      obtain ⟨t, ht, rfl⟩ : ∃ t, [t1, t2, t3, t4, t5][i']? = some t ∧ z = .ref t := by
        cases e : [t1, t2, t3, t4, t5][i']? with
        | none => rw [e] at hz; cases hz
        | some y => rw [e] at hz; exact ⟨y, rfl, (Option.some.inj hz).symm⟩
      obtain ⟨k, u, eu, u0, u1, ku⟩ := hts i' t ht
      have hi5 : i' < 5 := by
        apply Classical.byContradiction
        intro y
        rw [List.getElem?_eq_none (by show 5 ≤ i'; omega)] at ht
        cases ht
      have eux := kx _ _ eu (ntl eu).2 (ntl eu).1
      refine ⟨t, _, rfl, .inl (.inl eux), rfl, _, _, rfl, _, _, rfl, rfl, ?_⟩
      obtain ⟨ps, el, hps, hpp⟩ := Wx
      refine ⟨_, rfl, .inl ⟨rfl, _, SqL.of el⟩, _, rfl, _, rfl, _, rfl, b, _, _, rfl, Bx, (by decide), (by decide), (by decide), (by omega), (by decide), fun r Hy ur vr By ky => ?_⟩
      replace By := bx2 By
      have hr01 : r = 0 ∨ r = 1 := by omega
      refine ⟨_, rfl, _, rfl, _, _, rfl, rfl, _, sc + tl, rfl, rfl, shl_ok (n := 2) (by omega) (by omega), _, _, rfl, rfl, (by show 2 ≤ sizeLine; decide), fun p np => ?_⟩
      have sp := same_upd (o := .tup [.str k, .int (u + r * 2 ^ (sc + tl))]) np
      have ely := sp _ _ (ky _ _ el nlb)
      have npl : p ≠ l := fun z => by
        rw [z, ky _ _ el nlb] at np
        cases np
      refine ⟨l, _, _, rfl, rfl, ely, ?_, ?_⟩
      · rw [List.length_map, hps]
        exact small1000 (by have : i < 2 := hi; omega)
      refine ⟨_, _, _, rfl, fun y v e n m => ?_, ?_, ps ++ [p], ?_, ?_, ?_⟩
      · rw [upd_ne m]
        exact sp _ _ (ky _ _ (kx _ _ e n m) n)
      · refine BoxAt.mono ((By.same sp).at (upd_ne nlb.symm)) ?_
        show c + 25 * (i : Int) + 6 + 2 * (i' : Int) + 2 ≤ c + 25 * (i : Int) + 6 + 2 * ((i' + 1 : Nat) : Int)
        omega
      · rw [upd_same, List.map_append]
        rfl
      · rw [List.length_append, hps]
        rfl
      · intro j' p' hj'
        obtain ⟨m1, m2⟩ := word_of_u (tl := tl) (u := u) h1 hr01 u0 u1
        by_cases cc : j' < ps.length
        · rw [List.getElem?_append_left cc] at hj'
          obtain ⟨n1, v, ev, hv⟩ := hpp j' p' hj'
          exact ⟨n1, v, by rw [upd_ne n1]; exact sp _ _ (ky _ _ ev (tup_ne Bx ev)), hv⟩
        · rw [List.getElem?_append_right (by omega)] at hj'
          have hj0 : j' - ps.length = 0 := by
            apply Classical.byContradiction
            intro z
            rw [List.getElem?_eq_none (by show 1 ≤ j' - ps.length; omega)] at hj'
            cases hj'
          rw [hj0] at hj'
          have ew : p = p' := Option.some.inj hj'
          rw [← ew]
          have ec : u + r * 2 ^ (sc + tl) = r * 2 ^ (sc + tl) + u := Int.add_comm _ _
          refine ⟨npl, u + r * 2 ^ (sc + tl), ?_, ?_, ?_⟩
          · rw [upd_ne npl, upd_same, show sz sc tl (u + r * 2 ^ (sc + tl)) = u by rw [ec]; exact m1, ku]
          · rcases hr01 with z | z <;> subst z <;> omega
          · rw [p1]
            rcases hr01 with z | z <;> subst z <;> omega
    · rintro σ Hx ⟨y5, y9, y10, rfl, kx, Bx, Wx⟩
      refine ⟨_, _, _, _, _, _, rfl, fun y v e n => ?_, Bx.mono ?_, ?_⟩
      · exact kx _ _ (kA _ _ e n) n (ne_of_none e nl)
      · show c + 25 * (i : Int) + 6 + 2 * ((5 : Nat) : Int) ≤ _
        omega
      · rw [show 5 * (i + 1) = 5 * i + 5 by omega]
        exact Wx
  · rintro σ H5 ⟨y5, y6, y7, y8, y9, y10, rfl, k5, B5, W5⟩
    exact ⟨_, rfl, q l _ W5 nlb (B5.mono (by omega)) k5⟩
end
section
variable {P : Program} {w : World} {K : PySem.W.Frag} {mg : Str → Option Value} {base : Heap}
variable {C : Addr} {a1 a2 a3 a4 a5 a6 a7 a8 a9 a10 a11 a12 a13 a14 a15 a16 a17 a18 a19 a20 a21 a22 a23 a24 a25 a26 a27 a28 a29 a30 a31 a32 a33 a34 a35 a36 a37 a38 a39 a40 a41 a42 a43 a44 a45 a46 a47 a48 a49 a50 a51 a52 : Addr} {l1 l2 l3 l4 l5 l6 l7 l8 l9 l10 l11 l12 l13 l14 l15 l16 l17 l18 l19 l20 l21 l22 l23 l24 l25 l26 l27 l28 l29 l30 l31 l32 l33 l34 l35 l36 l37 l38 l39 l40 l41 l42 l43 l44 l45 l46 l47 l48 l49 l50 l51 l52 : FuncData} {t47 t48 t49 tg_NEAR tg_CUT tg_UP tg_DOWN : Tok} {fW : Addr}
def RwAt (sc tl : Nat) (H : Hp) (R : Addr) (n : Nat) : Prop := ∃ ts : List Addr, H R = some (.lst (ts.map V.ref)) ∧ ts.length = n ∧ ∀ (i : Nat) (t : Addr), ts[i]? = some t → ∃ (p : Addr) (r : Int × List Str) (w' : Str), H t = some (.tup [.ref p, .str w']) ∧ PairAt H p r ∧ FitP sc tl r w'
theorem RwAt.same {sc tl : Nat} {H H' : Hp} {R : Addr} {n : Nat} (h : RwAt sc tl H R n) (s : Same H H') : RwAt sc tl H' R n := by
  obtain ⟨ts, e, l, g⟩ := h
  refine ⟨ts, s _ _ e, l, fun i t ht => ?_⟩
  obtain ⟨p, r, w', e1, e2, e3⟩ := g i t ht
  exact ⟨p, r, w', s _ _ e1, e2.same s, e3⟩
theorem PairAt.keepT {H H' : Hp} {p : Addr} {r : Int × List Str} (h : PairAt H p r) (k : ∀ y xs, H y = some (.tup xs) → H' y = some (.tup xs)) : PairAt H' p r := by
  obtain ⟨f, e1, e2⟩ := h
  exact ⟨f, k _ _ e1, k _ _ e2⟩
theorem RwAt.push {sc tl : Nat} {H : Hp} {R t p : Addr} {n : Nat} {r : Int × List Str} {w' : Str} (h : RwAt sc tl H R n) (et : H t = some (.tup [.ref p, .str w'])) (ep : PairAt H p r) (hf : FitP sc tl r w') :
    ∃ ts : List Addr, H R = some (.lst (ts.map V.ref)) ∧ ts.length = n ∧ RwAt sc tl (upd H R (.lst (ts.map V.ref ++ [.ref t]))) R (n + 1) := by
  obtain ⟨ts, e, l, g⟩ := h
  have kT : ∀ y xs, H y = some (.tup xs) → (upd H R (.lst (ts.map V.ref ++ [.ref t]))) y = some (.tup xs) := fun y xs hy => by
    rw [upd_ne (fun z => by rw [z, e] at hy; cases hy)]
    exact hy
  refine ⟨ts, e, l, ts ++ [t], ?_, by rw [List.length_append, l]; rfl, fun i u hu => ?_⟩
  · rw [upd_same, List.map_append]
    rfl
  by_cases c : i < ts.length
  · rw [List.getElem?_append_left c] at hu
    obtain ⟨p', r', w2, e1, e2, e3⟩ := g i u hu
    exact ⟨p', r', w2, kT _ _ e1, e2.keepT kT, e3⟩
  · rw [List.getElem?_append_right (by omega)] at hu
    have hj0 : i - ts.length = 0 := by
      apply Classical.byContradiction
      intro z
      rw [List.getElem?_eq_none (by show 1 ≤ i - ts.length; omega)] at hu
      cases hu
    rw [hj0] at hu
    have : t = u := Option.some.inj hu
    rw [← this]
    exact ⟨p, r, w', kT _ _ et, ep.keepT kT, hf⟩
theorem RwAt.keepb {sc tl : Nat} {H H' : Hp} {R b : Addr} {n : Nat} {c : Int} (h : RwAt sc tl H R n) (hB : BoxAt c H b) (k : Keep b H H') (nR : R ≠ b) : RwAt sc tl H' R n := by
  obtain ⟨ts, e, l, g⟩ := h
  have kT : ∀ y xs, H y = some (.tup xs) → H' y = some (.tup xs) := fun y xs hy => k _ _ hy (tup_ne hB hy)
  refine ⟨ts, k _ _ e nR, l, fun i t ht => ?_⟩
  obtain ⟨p, r, w', e1, e2, e3⟩ := g i t ht
  exact ⟨p, r, w', kT _ _ e1, e2.keepT kT, e3⟩
theorem WsAt.keep {sc tl : Nat} {H H' : Hp} {l b : Addr} {n : Nat} {c : Int} (h : WsAt sc tl H l n) (hB : BoxAt c H b) (k : Keep b H H') (nl : l ≠ b) : WsAt sc tl H' l n := by
  obtain ⟨ps, e, hl, g⟩ := h
  refine ⟨ps, k _ _ e nl, hl, fun i p hp => ?_⟩
  obtain ⟨n1, v, ev, hv⟩ := g i p hp
  exact ⟨n1, v, k _ _ ev (tup_ne hB ev), hv⟩
theorem keep_upd18 {b R : Addr} {H H' : Hp} {o : HO} (k : Keep b H H') (n : H R = none) : Keep b H (upd H' R o) := fun y u e m => by
  rw [upd_ne (ne_of_none e n)]
  exact k _ _ e m
theorem box_upd18 {b R : Addr} {H : Hp} {c : Int} {o : HO} (h : BoxAt c H b) (n : R ≠ b) : BoxAt c (upd H R o) b := by
  obtain ⟨x0, x1, x2, e, r⟩ := h
  exact ⟨x0, x1, x2, by rw [upd_ne n.symm]; exact e, r⟩
theorem fat_upd18 {C R x : Addr} {H : Hp} {sc tl : Nat} {o : HO} (h : FAt C H x sc tl) (n : x ≠ R) : FAt C (upd H R o) x sc tl := by
  obtain ⟨dx, e, r⟩ := h
  exact ⟨dx, by rw [upd_ne n]; exact e, r⟩
theorem len1 : ∀ a ∈ CS, a.length = 1 := by decide +kernel
theorem RwAt.one {sc tl : Nat} {H : Hp} {R t p : Addr} {r : Int × List Str} {w' : Str} (nR : H R = none) (et : H t = some (.tup [.ref p, .str w'])) (ep : PairAt H p r) (hf : FitP sc tl r w') : RwAt sc tl (upd H R (.lst [.ref t])) R 1 := by
  have s := same_upd (o := .lst [.ref t]) nR
  refine ⟨[t], upd_same, rfl, fun i u hu => ?_⟩
  match i, hu with
  | 0, e =>
    cases e
    exact ⟨p, r, w', s _ _ et, ep.same s, hf⟩
structure Cx18 (C b x R S1 S2 : Addr) (sc tl : Nat) (va vb : Int) (H2 H : Hp) (n : Nat) (c : Int) : Prop where
  kp : Keep b H2 H
  bx : BoxAt c H b
  fa : FAt C H x sc tl
  e1 : H S1 = some (.lst [.int (GM.sgn sc tl va), .int (GM.sgn sc tl vb)])
  e2 : H S2 = some (.lst [.int (GM.sgn sc tl va), .int (1 - GM.sgn sc tl vb)])
  rw' : RwAt sc tl H R n
  fR : H2 R = none
  n1 : R ≠ b
  n2 : x ≠ R
  n3 : S1 ≠ R
  n4 : S2 ≠ R
theorem Cx18.same {C b x R S1 S2 : Addr} {sc tl : Nat} {va vb : Int} {H2 H H' : Hp} {n : Nat} {c : Int} (h : Cx18 C b x R S1 S2 sc tl va vb H2 H n c) (s : Same H H') : Cx18 C b x R S1 S2 sc tl va vb H2 H' n c :=
  ⟨h.kp.trans (Keep.ofSame s), h.bx.same s, h.fa.same s, s _ _ h.e1, s _ _ h.e2, h.rw'.same s, h.fR, h.n1, h.n2, h.n3, h.n4⟩
theorem Cx18.push {C b x R S1 S2 : Addr} {sc tl : Nat} {va vb : Int} {H2 H : Hp} {n : Nat} {c : Int} {t p : Addr} {r : Int × List Str} {w' : Str} (h : Cx18 C b x R S1 S2 sc tl va vb H2 H n c) (et : H t = some (.tup [.ref p, .str w'])) (ep : PairAt H p r) (hf : FitP sc tl r w') :
    ∃ ts : List Addr, H R = some (.lst (ts.map V.ref)) ∧ ts.length = n ∧ Cx18 C b x R S1 S2 sc tl va vb H2 (upd H R (.lst (ts.map V.ref ++ [.ref t]))) (n + 1) c := by
  obtain ⟨ts, e, l, g⟩ := h.rw'.push et ep hf
  exact ⟨ts, e, l, keep_upd18 h.kp h.fR, box_upd18 h.bx h.n1, fat_upd18 h.fa h.n2, by rw [upd_ne h.n3]; exact h.e1, by rw [upd_ne h.n4]; exact h.e2, g, h.fR, h.n1, h.n2, h.n3, h.n4⟩
def spRt18 : Sp := fun vs H Q _ => ∃ (b : Addr) (sc tl : Nat) (c : Int) (how : Str), vs = [.ref b, .int (sc : Int), .int (tl : Int), .str how] ∧ 2 ≤ sc ∧ sc ≤ 8 ∧ 1 ≤ tl ∧ tl ≤ 24 ∧ how ∈ WL ∧ BoxAt c H b ∧ c ≤ 800000000 ∧
  ∀ (H' : Hp), BoxAt (c + 400) H' b → Keep b H H' → Q (.bl true) H'
theorem ok__law_right (B : Bl mg) (L : LL K mg C a1 a2 a3 a4 a5 a6 a7 a8 a9 a10 a11 a12 a13 a14 a15 a16 a17 a18 a19 a20 a21 a22 a23 a24 a25 a26 a27 a28 a29 a30 a31 a32 a33 a34 a35 a36 a37 a38 a39 a40 a41 a42 a43 a44 a45 a46 a47 a48 a49 a50 a51 a52 l1 l2 l3 l4 l5 l6 l7 l8 l9 l10 l11 l12 l13 l14 l15 l16 l17 l18 l19 l20 l21 l22 l23 l24 l25 l26 l27 l28 l29 l30 l31 l32 l33 l34 l35 l36 l37 l38 l39 l40 l41 l42 l43 l44 l45 l46 l47 l48 l49 l50 l51 l52 t47 t48 t49 tg_NEAR tg_CUT tg_UP tg_DOWN fW) : FnOk P w K mg base CX0 9 a40 l40 ["_law_box_here", "_law_scale", "_law_tail", "_law_how"] spRt18 := by
  have G_Form___init__ : FnOk P w K mg base CX0 7 a41 l41 ["self", "scale", "tail"] (spInit C) := (ok_Form___init__ B L).mono (by decide)
  have G__law_words : FnOk P w K mg base CX0 8 a34 l34 ["_law_box_here", "_law_scale", "_law_tail"] spWs18 := (ok__law_words B L).mono (by decide)
  have G__law_take : FnOk P w K mg base CX0 8 a29 l29 ["_law_box_here", "_law_size"] (spTake 2) := (ok_take L.F__law_take L.b__law_take L.m__law_take B 2).mono (by decide)
  have G_added : FnOk P w K mg base CX0 8 a10 l10 ["form", "a", "b", "way"] (spAdd C) := (ok_added B L).mono (by decide)
  have G_taken : FnOk P w K mg base CX0 8 a11 l11 ["form", "a", "b", "way"] (spTake2 C) := (ok_taken B L).mono (by decide)
  have G_multiplied : FnOk P w K mg base CX0 8 a12 l12 ["form", "a", "b", "way"] (spMul C) := (ok_multiplied B L).mono (by decide)
  have G_divided : FnOk P w K mg base CX0 8 a13 l13 ["form", "a", "b", "way"] (spDiv C) := (ok_divided B L).mono (by decide)
  have G_joined : FnOk P w K mg base CX0 8 a14 l14 ["form", "a", "b", "c", "way"] (spJoin C) := (ok_joined B L).mono (by decide)
  have G__law_sum_word : FnOk P w K mg base CX0 8 a35 l35 ["_law_sorts", "_law_signs"] spSumW := (ok__law_sum_word B L).mono (by decide)
  have G__law_product_word : FnOk P w K mg base CX0 8 a36 l36 ["_law_sorts", "_law_sign"] spProdW := (ok__law_product_word B L).mono (by decide)
  have G__law_quotient_word : FnOk P w K mg base CX0 8 a37 l37 ["_law_sorts", "_law_sign"] spQuoW := (ok__law_quotient_word B L).mono (by decide)
  have G__law_join_word : FnOk P w K mg base CX0 8 a38 l38 ["_law_sorts", "_law_signs"] spJoinW := (ok__law_join_word B L).mono (by decide)
  have G__law_fits : FnOk P w K mg base CX0 8 a39 l39 ["_law_scale", "_law_tail", "_law_told", "_law_word"] spFits := (ok__law_fits B L).mono (by decide)
  refine L.F__law_right.ok sc__law_right (fun vs H Q E h => ?_) (fun cdv A outer s H vs Q E hr h => ?_)
  · obtain ⟨b, sc, tl, c, how, rfl, _⟩ := h
    rfl
  obtain ⟨b, sc, tl, c, how, rfl, h1, h2, h3, h4, hh, hB, hc, q⟩ := h
  refine ⟨_, (pss_cons (ps_par (by rfl) sc__law_right.nd (i := 4) (j := 5) rfl rfl (by decide) rfl rfl (pa_cons (pe_make L.M G_Form___init__ hr (by rfl) L.T.mgC L.b_Form___init__ .nil pass0 (pa_cons (pv 1) (pa_cons (pv 2) pa_nil))) (pa_cons (pe_call G__law_words hr (by rfl) L.m__law_words L.F__law_words.kp L.b__law_words .nil pass0 (pa_cons (pv 0) (pa_cons (pv 1) (pa_cons (pv 2) pa_nil)))) pa_nil)) (by rfl))
    (pss_cons (ps_for PassesOwn.never rfl (pi_list (pv 5)) (pg_tup (by rfl) (pgs_cons (pg_name (i := 6) sc__law_right.nd rfl (.inl rfl)) (pgs_cons (pg_name (i := 7) sc__law_right.nd rfl (.inl rfl)) pgs_nil))) (pss_one (ps_for PassesOwn.never rfl (pi_list (pv 5)) (pg_tup (by rfl) (pgs_cons (pg_name (i := 8) sc__law_right.nd rfl (.inl rfl)) (pgs_cons (pg_name (i := 9) sc__law_right.nd rfl (.inl rfl)) pgs_nil))) (pss_cons (ps_par (by rfl) sc__law_right.nd (i := 10) (j := 11) rfl rfl (by decide) rfl rfl (pa_cons (pe_op op_add_str (pv 6) (pv 8)) (pa_cons (pe_lst (pa_cons (pe_op op_shrN (pv 7) (pe_op op_add (pv 1) (pv 2))) (pa_cons (pe_op op_shrN (pv 9) (pe_op op_add (pv 1) (pv 2))) pa_nil))) pa_nil)) (by rfl))
    (pss_cons (ps_par (by rfl) sc__law_right.nd (i := 12) (j := 13) rfl rfl (by decide) rfl rfl (pa_cons (pe_op op_xor (pe_ix ix_list (pv 11) pe_int (fun _ _ => rfl)) (pe_ix ix_list (pv 11) pe_int (fun _ _ => rfl))) (pa_cons (pe_lst (pa_cons (pe_ix ix_list (pv 11) pe_int (fun _ _ => rfl)) (pa_cons (pe_op op_sub pe_int (pe_ix ix_list (pv 11) pe_int (fun _ _ => rfl))) pa_nil))) pa_nil)) (by rfl))
    (pss_cons (ps_set (i := 14) sc__law_right.nd rfl (.inl rfl) (pe_lst (pa_cons (pe_tup (pa_cons (pe_callN G_added hr (by rfl) L.m_added L.F_added.kp (L.kb_added_way).choose_spec pass0 (pa_cons (pv 4) (pa_cons (pv 7) (pa_cons (pv 9) pa_nil))) (pk_cons (pv 3) pk_nil)) (pa_cons (pe_call G__law_sum_word hr (by rfl) L.m__law_sum_word L.F__law_sum_word.kp L.b__law_sum_word .nil pass0 (pa_cons (pv 10) (pa_cons (pv 11) pa_nil))) pa_nil))) pa_nil)))
    (pss_cons (ps_expr (pe_bm PySem.F.plainAttrs_list PySem.F.slot_list_append PySem.F.type_list_append mt_append (pv 14) (pa_cons (pe_tup (pa_cons (pe_callN G_taken hr (by rfl) L.m_taken L.F_taken.kp (L.kb_taken_way).choose_spec pass0 (pa_cons (pv 4) (pa_cons (pv 7) (pa_cons (pv 9) pa_nil))) (pk_cons (pv 3) pk_nil)) (pa_cons (pe_call G__law_sum_word hr (by rfl) L.m__law_sum_word L.F__law_sum_word.kp L.b__law_sum_word .nil pass0 (pa_cons (pv 10) (pa_cons (pv 13) pa_nil))) pa_nil))) pa_nil)))
    (pss_cons (ps_expr (pe_bm PySem.F.plainAttrs_list PySem.F.slot_list_append PySem.F.type_list_append mt_append (pv 14) (pa_cons (pe_tup (pa_cons (pe_callN G_multiplied hr (by rfl) L.m_multiplied L.F_multiplied.kp (L.kb_multiplied_way).choose_spec pass0 (pa_cons (pv 4) (pa_cons (pv 7) (pa_cons (pv 9) pa_nil))) (pk_cons (pv 3) pk_nil)) (pa_cons (pe_call G__law_product_word hr (by rfl) L.m__law_product_word L.F__law_product_word.kp L.b__law_product_word .nil pass0 (pa_cons (pv 10) (pa_cons (pv 12) pa_nil))) pa_nil))) pa_nil)))
    (pss_cons (ps_expr (pe_bm PySem.F.plainAttrs_list PySem.F.slot_list_append PySem.F.type_list_append mt_append (pv 14) (pa_cons (pe_tup (pa_cons (pe_callN G_divided hr (by rfl) L.m_divided L.F_divided.kp (L.kb_divided_way).choose_spec pass0 (pa_cons (pv 4) (pa_cons (pv 7) (pa_cons (pv 9) pa_nil))) (pk_cons (pv 3) pk_nil)) (pa_cons (pe_call G__law_quotient_word hr (by rfl) L.m__law_quotient_word L.F__law_quotient_word.kp L.b__law_quotient_word .nil pass0 (pa_cons (pv 10) (pa_cons (pv 12) pa_nil))) pa_nil))) pa_nil)))
    (pss_cons (ps_asg (pe_ix ix_list (pv 5) (pe_call G__law_take hr (by rfl) L.m__law_take L.F__law_take.kp L.b__law_take .nil pass0 (pa_cons (pv 0) (pa_cons pe_int pa_nil))) (fun _ _ => rfl)) (pg_tup (by rfl) (pgs_cons (pg_name (i := 15) sc__law_right.nd rfl (.inl rfl)) (pgs_cons (pg_name (i := 16) sc__law_right.nd rfl (.inl rfl)) pgs_nil))))
    (pss_cons (ps_set (i := 17) sc__law_right.nd rfl (.inl rfl) (pe_call G__law_join_word hr (by rfl) L.m__law_join_word L.F__law_join_word.kp L.b__law_join_word .nil pass0 (pa_cons (pe_op op_add_str (pv 10) (pv 15)) (pa_cons (pe_op op_cat (pv 11) (pe_lst (pa_cons (pe_op op_shrN (pv 16) (pe_op op_add (pv 1) (pv 2))) pa_nil))) pa_nil))))
    (pss_cons (ps_expr (pe_bm PySem.F.plainAttrs_list PySem.F.slot_list_append PySem.F.type_list_append mt_append (pv 14) (pa_cons (pe_tup (pa_cons (pe_callN G_joined hr (by rfl) L.m_joined L.F_joined.kp (L.kb_joined_way).choose_spec pass0 (pa_cons (pv 4) (pa_cons (pv 7) (pa_cons (pv 9) (pa_cons (pv 16) pa_nil)))) (pk_cons (pv 3) pk_nil)) (pa_cons (pv 17) pa_nil))) pa_nil)))
    (pss_one (ps_if (pt_not (pt_val (pe_callB (cr_all rfl) (by rfl) B.all boot_all (pa_cons (pe_lc (own := [("_law_told", 18), ("_law_word", 19)]) (g := gTup K 2 (gCons (gName 18) (gCons (gName 19) gNil))) (by rfl) sc__law_right.nd (pi_list (pv 14)) (blkOk_by (own := [("_law_told", 18), ("_law_word", 19)]) (N := ["_law_box_here", "_law_scale", "_law_tail", "_law_how", "_law_form_here", "_law_words_here", "_law_sort", "_law_a", "_law_other", "_law_b", "_law_sorts", "_law_signs", "_law_sign", "_law_turned", "_law_rows", "_law_third", "_law_c", "_law_last", "_law_told", "_law_word"]) (sc := defScope s__law_right) (by decide +kernel)) (fun _ _ _ _ _ => pg_tup rfl (pgs_cons (pg_name (i := 18) sc__law_right.nd rfl (Or.inl rfl) (.inr rfl)) (pgs_cons (pg_name (i := 19) sc__law_right.nd rfl (Or.inl rfl) (.inr rfl)) pgs_nil))) (fun _ _ _ _ _ => pts_nil) (fun _ _ _ _ _ => (pe_call G__law_fits hr (by rfl) L.m__law_fits L.F__law_fits.kp L.b__law_fits .nil pass0 (pa_cons (pv 1) (pa_cons (pv 2) (pa_cons (pv 18) (pa_cons (pv 19) pa_nil))))))) pa_nil)))) (pss_one (ps_ret pe_bl)) pss_nil))))))))))))))
    (pss_one (ps_ret pe_bl)))), ?_⟩
  refine ⟨_, rfl, _, rfl, fun x dx nx ndx ne => ?_⟩
  refine ⟨x, dx, sc, tl, rfl, upd_same, h1, h2, h3, h4, fun H1 F1 kp => ⟨rfl, ?_⟩⟩
  have s1 : Same H H1 := made nx ndx ne kp
  have nxb : x ≠ b := (hB.ne nx).symm
  have B1 := hB.same s1
  refine ⟨_, rfl, _, rfl, _, rfl, b, sc, tl, _, rfl, h1, h2, h3, h4, B1, by omega, fun l H2 W2 nlb B2 k2 => ?_⟩
  refine ⟨.ref x, .ref l, rfl, ?_⟩
  simp only [L2.start, List.map_cons, List.map_nil, List.length_cons, List.length_nil, List.replicate_succ, List.replicate_zero, List.cons_append, List.nil_append, List.set_cons_succ, List.set_cons_zero, Nat.reduceAdd, Nat.reduceSub, Nat.zero_add]
  have F2 := F1.keep k2 nxb
  obtain ⟨ps, el, hps, hpp⟩ := id W2
  refine ⟨_, rfl, l, rfl, ⟨_, SqL.of el⟩, ?_⟩
  refine for_list (K := K) (a := l) (xs := ps.map V.ref) (fun i σ Hx => ∃ (y6 y7 y8 y9 y10 y11 y12 y13 y14 y15 y16 y17 : Option V), σ = [some (.ref b), some (.int (sc : Int)), some (.int (tl : Int)), some (.str how), some (.ref x), some (.ref l), y6, y7, y8, y9, y10, y11, y12, y13, y14, y15, y16, y17, none, none] ∧ Keep b H2 Hx ∧ BoxAt (c + 60 + 20 * i) Hx b)
    ⟨_, _, _, _, _, _, _, _, _, _, _, _, rfl, fun _ _ e _ => e, B2.mono (by omega)⟩ (fun i σ Hx _ ⟨_, _, _, _, _, _, _, _, _, _, _, _, _, kx, _⟩ => SqL.of (kx _ _ el nlb)) ?_ ?_
  · rintro i z σ Hx hz ⟨y6, y7, y8, y9, y10, y11, y12, y13, y14, y15, y16, y17, rfl, kx, Bx⟩
    rw [List.getElem?_map] at hz
    obtain ⟨pa, hpa, rfl⟩ : ∃ t, ps[i]? = some t ∧ z = .ref t := by
      cases e : ps[i]? with
      | none => rw [e] at hz; cases hz
      | some y => rw [e] at hz; exact ⟨y, rfl, (Option.some.inj hz).symm⟩
    have hi : i < 10 := by
      rw [← hps]
      exact (List.getElem?_eq_some_iff.mp hpa).1
    obtain ⟨_, va, ea, a0, a1⟩ := hpp i pa hpa
    have eax := kx _ _ ea (tup_ne B2 ea)
    refine ⟨pa, _, rfl, .inl (.inl eax), rfl, _, _, rfl, _, _, rfl, rfl, ?_⟩
    simp only [L2.start, List.map_cons, List.map_nil, List.length_cons, List.length_nil, List.replicate_succ, List.replicate_zero, List.cons_append, List.nil_append, List.set_cons_succ, List.set_cons_zero, Nat.reduceAdd, Nat.reduceSub, Nat.zero_add]
    refine ⟨_, rfl, l, rfl, ⟨_, SqL.of (kx _ _ el nlb)⟩, ?_⟩
    refine for_list (K := K) (a := l) (xs := ps.map V.ref) (fun j σ Hy => ∃ (y8 y9 y10 y11 y12 y13 y14 y15 y16 y17 : Option V), σ = [some (.ref b), some (.int (sc : Int)), some (.int (tl : Int)), some (.str how), some (.ref x), some (.ref l), some (.str (cs (srt sc tl (sz sc tl va)))), some (.int va), y8, y9, y10, y11, y12, y13, y14, y15, y16, y17, none, none] ∧ Keep b H2 Hy ∧ BoxAt (c + 60 + 20 * i + 2 * j) Hy b)
      ⟨_, _, _, _, _, _, _, _, _, _, rfl, kx, Bx.mono (by omega)⟩ (fun j σ Hy _ ⟨_, _, _, _, _, _, _, _, _, _, _, ky, _⟩ => SqL.of (ky _ _ el nlb)) ?_ ?_
    · rintro j z σ Hy hz ⟨y8, y9, y10, y11, y12, y13, y14, y15, y16, y17, rfl, ky, By⟩
      rw [List.getElem?_map] at hz
      obtain ⟨pb, hpb, rfl⟩ : ∃ t, ps[j]? = some t ∧ z = .ref t := by
        cases e : ps[j]? with
        | none => rw [e] at hz; cases hz
        | some y => rw [e] at hz; exact ⟨y, rfl, (Option.some.inj hz).symm⟩
      have hj : j < 10 := by
        rw [← hps]
        exact (List.getElem?_eq_some_iff.mp hpb).1
      obtain ⟨_, vb, eb, b0, b1⟩ := hpp j pb hpb
      have eby := ky _ _ eb (tup_ne B2 eb)
      refine ⟨pb, _, rfl, .inl (.inl eby), rfl, _, _, rfl, _, _, rfl, rfl, ?_⟩
      simp only [L2.start, List.map_cons, List.map_nil, List.length_cons, List.length_nil, List.replicate_succ, List.replicate_zero, List.cons_append, List.nil_append, List.set_cons_succ, List.set_cons_zero, Nat.reduceAdd, Nat.reduceSub, Nat.zero_add]
      have ca := cs_is sc tl (sz sc tl va)
      have cb := cs_is sc tl (sz sc tl vb)
      have ga := GM.sgn_01 (m := sc) (t := tl) (w := va)
      have gb := GM.sgn_01 (m := sc) (t := tl) (w := vb)
      have s01 := sx_01 sc tl va vb
      refine ⟨_, rfl, _, rfl, _, _, rfl, rfl, (by rw [len1 _ ca.1, len1 _ cb.1]; decide), _, rfl, _, rfl, _, rfl, _, _, rfl, rfl, _, sc + tl, rfl, rfl, _, rfl, _, rfl, _, rfl, _, _, rfl, rfl, _, sc + tl, rfl, rfl, (by show 2 ≤ sizeLine; decide), fun S1 nS1 => ?_⟩
      refine ⟨.str (cs (srt sc tl (sz sc tl va)) ++ cs (srt sc tl (sz sc tl vb))), .ref S1, rfl, ?_⟩
      simp only [L2.start, List.map_cons, List.map_nil, List.length_cons, List.length_nil, List.replicate_succ, List.replicate_zero, List.cons_append, List.nil_append, List.set_cons_succ, List.set_cons_zero, Nat.reduceAdd, Nat.reduceSub, Nat.zero_add]
      have eS1 : (upd Hy S1 (.lst [.int (va / 2 ^ (sc + tl)), .int (vb / 2 ^ (sc + tl))])) S1 = some (.lst [.int (GM.sgn sc tl va), .int (GM.sgn sc tl vb)]) := by
        rw [upd_same, sgn_div a0 a1, sgn_div b0 b1]
      have sS1 := same_upd (o := .lst [.int (va / 2 ^ (sc + tl)), .int (vb / 2 ^ (sc + tl))]) nS1
      generalize upd Hy S1 (.lst [.int (va / 2 ^ (sc + tl)), .int (vb / 2 ^ (sc + tl))]) = H3 at *
      refine ⟨_, rfl, S1, _, _, _, rfl, rfl, SqL.of eS1, rfl, _, rfl, S1, _, _, _, rfl, rfl, SqL.of eS1, rfl, _, _, rfl, rfl, _, rfl, S1, _, _, _, rfl, rfl, SqL.of eS1, rfl, _, rfl, S1, _, _, _, rfl, rfl, SqL.of eS1, rfl, _, _, rfl, rfl, (by show 2 ≤ sizeLine; decide), fun S2 nS2 => ?_⟩
      refine ⟨.int (sx sc tl va vb), .ref S2, by rw [← sx_xor], ?_⟩
      simp only [L2.start, List.map_cons, List.map_nil, List.length_cons, List.length_nil, List.replicate_succ, List.replicate_zero, List.cons_append, List.nil_append, List.set_cons_succ, List.set_cons_zero, Nat.reduceAdd, Nat.reduceSub, Nat.zero_add]
      have sS2 := same_upd (o := .lst [.int (GM.sgn sc tl va), .int (1 - GM.sgn sc tl vb)]) nS2
      have eS2 : (upd H3 S2 (.lst [.int (GM.sgn sc tl va), .int (1 - GM.sgn sc tl vb)])) S2 = some (.lst [.int (GM.sgn sc tl va), .int (1 - GM.sgn sc tl vb)]) := upd_same
      have eS1' := sS2 _ _ eS1
      have w4 := sS1.trans sS2
      generalize upd H3 S2 (.lst [.int (GM.sgn sc tl va), .int (1 - GM.sgn sc tl vb)]) = H4 at *
      have F4 := (F2.keep ky nxb).same w4
      refine ⟨_, rfl, _, rfl, _, rfl, _, rfl, rfl, rfl, x, sc, tl, va, vb, how, rfl, F4, fun p1 H5 s5 P1 => ?_⟩
      refine ⟨_, rfl, _, rfl, cs (srt sc tl (sz sc tl va)), cs (srt sc tl (sz sc tl vb)), S1, _, _, rfl, ca.1, cb.1, s5 _ _ eS1', ga, gb, ?_⟩
      refine ⟨(by show 2 ≤ sizeLine; decide), fun t1 nt1 => ⟨(by show 1 ≤ sizeLine; decide), fun R nR => ?_⟩⟩
      have st1 := same_upd (o := .tup [.ref p1, .str (sumW (cs (srt sc tl (sz sc tl va))) (cs (srt sc tl (sz sc tl vb))) (GM.sgn sc tl va) (GM.sgn sc tl vb))]) nt1
      have sR := same_upd (o := .lst [.ref t1]) nR
      have RW := RwAt.one (sc := sc) (tl := tl) nR upd_same (P1.same st1) (fit_add (how := how) h1)
      have w5 := w4.trans (s5.trans st1)
      have hR0 := w5.free nR
      have nRb : R ≠ b := ((By.same w5).ne nR).symm
      have fx : x ≠ R := by
        obtain ⟨_, e, _⟩ := F4.same (s5.trans st1)
        exact ne_of_none e nR
      have X1 : Cx18 C b x R S1 S2 sc tl va vb H2 _ 1 _ := ⟨ky.trans (Keep.ofSame (w5.trans sR)), By.same (w5.trans sR), F4.same ((s5.trans st1).trans sR), ((s5.trans st1).trans sR) _ _ eS1', ((s5.trans st1).trans sR) _ _ eS2, RW, Keep.none ky nRb hR0, nRb, fx, ne_of_none ((s5.trans st1) _ _ eS1') nR, ne_of_none ((s5.trans st1) _ _ eS2) nR⟩
      clear RW
      generalize upd (upd H5 t1 _) R (.lst [.ref t1]) = H6 at *
      clear sR w5 st1 nR nt1 P1 s5 F4 eS1 eS1' eS2 sS1 sS2 w4 hR0
      have cb1 : 1 - GM.sgn sc tl vb = 0 ∨ 1 - GM.sgn sc tl vb = 1 := by omega
      obtain ⟨ts1, eR1, _⟩ := id X1.rw'
      refine ⟨_, rfl, .inl ⟨rfl, _, SqL.of eR1⟩, _, rfl, _, rfl, _, rfl, _, rfl, rfl, rfl, x, sc, tl, va, vb, how, rfl, X1.fa, fun pp H7 s7 PP => ?_⟩
      have Y1 := X1.same s7
      refine ⟨_, rfl, _, rfl, (cs (srt sc tl (sz sc tl va))), (cs (srt sc tl (sz sc tl vb))), S2, _, _, rfl, ca.1, cb.1, Y1.e2, ga, cb1, ?_⟩
      refine ⟨(by show 2 ≤ sizeLine; decide), fun tt ntt => ?_⟩
      have stt := same_upd (o := .tup [.ref pp, .str (sumW (cs (srt sc tl (sz sc tl va))) (cs (srt sc tl (sz sc tl vb))) (GM.sgn sc tl va) (1 - GM.sgn sc tl vb))]) ntt
      obtain ⟨us, eR, lR, X2⟩ := (Y1.same stt).push upd_same (PP.same stt) (by have f := fit_add (sc := sc) (tl := tl) (a := va) (b := trn sc tl vb) (how := how) h1; rw [(trn_is sc tl vb).1, (trn_is sc tl vb).2] at f; exact f)
      refine ⟨R, _, _, rfl, rfl, eR, (by rw [List.length_map, lR]; decide), ?_⟩
      clear PP eR lR Y1 stt ntt s7 eR1 X1
      generalize upd (upd _ tt _) R _ = HH2 at *
      obtain ⟨ts2, eR2, _⟩ := id X2.rw'
      refine ⟨_, rfl, .inl ⟨rfl, _, SqL.of eR2⟩, _, rfl, _, rfl, _, rfl, _, rfl, rfl, rfl, x, sc, tl, va, vb, how, rfl, X2.fa, fun pp H7 s7 PP => ?_⟩
      have Y2 := X2.same s7
      refine ⟨_, rfl, _, rfl, (cs (srt sc tl (sz sc tl va))), (cs (srt sc tl (sz sc tl vb))), _, rfl, ca.1, cb.1, s01, ?_⟩
      refine ⟨(by show 2 ≤ sizeLine; decide), fun tt ntt => ?_⟩
      have stt := same_upd (o := .tup [.ref pp, .str (prodW (cs (srt sc tl (sz sc tl va))) (cs (srt sc tl (sz sc tl vb))) (sx sc tl va vb))]) ntt
      obtain ⟨us, eR, lR, X3⟩ := (Y2.same stt).push upd_same (PP.same stt) (fit_mul h1)
      refine ⟨R, _, _, rfl, rfl, eR, (by rw [List.length_map, lR]; decide), ?_⟩
      clear PP eR lR Y2 stt ntt s7 eR2 X2
      generalize upd (upd _ tt _) R _ = HH3 at *
      obtain ⟨ts3, eR3, _⟩ := id X3.rw'
      refine ⟨_, rfl, .inl ⟨rfl, _, SqL.of eR3⟩, _, rfl, _, rfl, _, rfl, _, rfl, rfl, rfl, x, sc, tl, va, vb, how, rfl, X3.fa, fun pp H7 s7 PP => ?_⟩
      have Y3 := X3.same s7
      refine ⟨_, rfl, _, rfl, (cs (srt sc tl (sz sc tl va))), (cs (srt sc tl (sz sc tl vb))), _, rfl, ca.1, cb.1, s01, fun H8 s8 => ?_⟩
      replace Y3 := Y3.same s8
      refine ⟨(by show 2 ≤ sizeLine; decide), fun tt ntt => ?_⟩
      have stt := same_upd (o := .tup [.ref pp, .str (quoW (cs (srt sc tl (sz sc tl va))) (cs (srt sc tl (sz sc tl vb))) (sx sc tl va vb))]) ntt
      obtain ⟨us, eR, lR, X4⟩ := (Y3.same stt).push upd_same (PP.same (s8.trans stt)) (fit_quo h1)
      refine ⟨R, _, _, rfl, rfl, eR, (by rw [List.length_map, lR]; decide), ?_⟩
      clear PP eR lR Y3 stt ntt s7 eR3 X3
      generalize upd (upd _ tt _) R _ = HH4 at *
      refine ⟨_, rfl, _, rfl, b, _, _, rfl, X4.bx, (by decide), (by decide), (by decide), (by omega), (by decide), fun rr H7 ur vr B7 k7 => ?_⟩
      replace B7 := bx2 B7
      have RW7 := X4.rw'.keepb X4.bx k7 X4.n1
      have ky7 := X4.kp.trans k7
      obtain ⟨pc, hpc⟩ : ∃ t, ps[rr.toNat]? = some t := by
        have : rr.toNat < ps.length := by
          rw [hps]
          omega
        exact ⟨_, List.getElem?_eq_getElem this⟩
      obtain ⟨_, vc, ec, c0, c1⟩ := hpp _ pc hpc
      have ecx := ky7 _ _ ec (tup_ne B2 ec)
      have hat : atI (ps.map V.ref) rr = some (.ref pc) := by
        have : rr = ((rr.toNat : Nat) : Int) := by omega
        rw [this]
        refine atI_nat ?_
        rw [List.getElem?_map, hpc]
        rfl
      refine ⟨l, _, _, _, rfl, rfl, SqL.of (ky7 _ _ el nlb), hat, ?_⟩
      refine ⟨pc, _, rfl, .inl (.inl ecx), rfl, _, _, rfl, _, _, rfl, rfl, ?_⟩
      simp only [L2.start, List.map_cons, List.map_nil, List.length_cons, List.length_nil, List.replicate_succ, List.replicate_zero, List.cons_append, List.nil_append, List.set_cons_succ, List.set_cons_zero, Nat.reduceAdd, Nat.reduceSub, Nat.zero_add]
      have cc := cs_is sc tl (sz sc tl vc)
      have gc := GM.sgn_01 (m := sc) (t := tl) (w := vc)
      have e17 : H7 S1 = some (.lst [.int (GM.sgn sc tl va), .int (GM.sgn sc tl vb)]) := k7 _ _ X4.e1 (fun z => by
        obtain ⟨_, _, _, e, _⟩ := X4.bx
        have e2 := X4.e1
        rw [z, e] at e2
        cases e2)
      have l2 : ((cs (srt sc tl (sz sc tl va))) ++ (cs (srt sc tl (sz sc tl vb)))).length = 2 := (at_0 _ ca.1 _ cb.1).1
      refine ⟨_, rfl, _, rfl, _, _, rfl, rfl, (by rw [l2, len1 _ cc.1]; decide), _, rfl, _, rfl, _, rfl, _, rfl, _, _, rfl, rfl, _, sc + tl, rfl, rfl, ?_⟩
      rw [sgn_div c0 c1]
      refine ⟨(by show 1 ≤ sizeLine; decide), fun S3 nS3 => ?_⟩
      have sS3 := same_upd (o := .lst [.int (GM.sgn sc tl vc)]) nS3
      refine ⟨S1, S3, _, _, rfl, rfl, sS3 _ _ e17, upd_same, (by show 2 + 1 ≤ sizeLine; decide), fun S4 nS4 => ?_⟩
      have sS4 := same_upd (o := .lst ([.int (GM.sgn sc tl va), .int (GM.sgn sc tl vb)] ++ [.int (GM.sgn sc tl vc)])) nS4
      refine ⟨(cs (srt sc tl (sz sc tl va))), (cs (srt sc tl (sz sc tl vb))), (cs (srt sc tl (sz sc tl vc))), S4, _, _, _, rfl, ca.1, cb.1, cc.1, upd_same, ga, gb, gc, ?_⟩
      rw [sx_xor]
      have w8 := sS3.trans sS4
      have RW8 := RW7.same w8
      have F8 := (X4.fa.keep k7 nxb).same w8
      have B8 := B7.same w8
      have ky8 := ky7.trans (Keep.ofSame w8)
      clear e17 sS3 sS4 nS4 RW7 B7 ky7 ecx
      generalize upd (upd H7 S3 _) S4 _ = H8 at *
      simp only [L2.start, List.map_cons, List.map_nil, List.length_cons, List.length_nil, List.replicate_succ, List.replicate_zero, List.cons_append, List.nil_append, List.set_cons_succ, List.set_cons_zero, Nat.reduceAdd, Nat.reduceSub, Nat.zero_add]
      obtain ⟨ts4, eR4, _⟩ := id RW8
      refine ⟨_, rfl, .inl ⟨rfl, _, SqL.of eR4⟩, _, rfl, _, rfl, _, rfl, _, rfl, _, rfl, rfl, rfl, x, sc, tl, va, vb, vc, how, rfl, F8, fun pp H9 s9 PP => ?_⟩
      refine ⟨_, rfl, (by show 2 ≤ sizeLine; decide), fun tt ntt => ?_⟩
      have stt := same_upd (o := .tup [.ref pp, .str (joinW (cs (srt sc tl (sz sc tl va))) (cs (srt sc tl (sz sc tl vb))) (cs (srt sc tl (sz sc tl vc))) (sx sc tl va vb) (GM.sgn sc tl vc))]) ntt
      obtain ⟨us, eR, lR, RW9⟩ := ((RW8.same s9).same stt).push upd_same (PP.same stt) (fit_join h1)
      refine ⟨R, _, _, rfl, rfl, eR, (by rw [List.length_map, lR]; decide), ?_⟩
      have k10 := keep_upd18 (o := .lst (us.map V.ref ++ [.ref tt])) (ky8.trans (Keep.ofSame (s9.trans stt))) X4.fR
      have B10 := box_upd18 (o := .lst (us.map V.ref ++ [.ref tt])) (B8.same (s9.trans stt)) X4.n1
      clear eR lR
      generalize upd (upd _ tt _) R _ = HA at *
      obtain ⟨ts, eR, lR, hts⟩ := RW9
      refine ⟨_, rfl, R, rfl, ⟨_, SqL.of eR⟩, fun D nD => ?_⟩
      refine lc_it (walk_list (K := K) (a := R) (xs := ts.map V.ref)) (fun i H' => Same HA H' ∧ H' D = some (.lst (List.replicate i (.bl true)))) ⟨same_upd nD, upd_same⟩ (fun i H' _ ⟨s', _⟩ => SqL.of (s' _ _ eR)) ?_ ?_
      · rintro j' z HB HC hj' ⟨sB, eD⟩ ⟨rfl, hz⟩
        rw [List.getElem?_map] at hz
        obtain ⟨t, ht, rfl⟩ : ∃ t, ts[j']? = some t ∧ z = .ref t := by
          cases e : ts[j']? with
          | none => rw [e] at hz; cases hz
          | some y => rw [e] at hz; exact ⟨y, rfl, (Option.some.inj hz).symm⟩
        obtain ⟨p, r, w', et, Pt, hf⟩ := hts j' t ht
        refine ⟨t, _, rfl, .inl (.inl (sB _ _ et)), rfl, _, _, rfl, _, _, rfl, rfl, ?_⟩
        refine ⟨rfl, yesT ?_⟩
        refine ⟨_, rfl, _, rfl, _, rfl, _, rfl, sc, tl, p, r, w', rfl, h1, h2, h3, h4, Pt.same sB, hf, fun HD sD => ?_⟩
        refine ⟨_, sD _ _ eD, ?_, fun y u e => ?_, ?_⟩
        · rw [List.length_replicate]
          rw [List.length_map, lR] at hj'
          exact small1000 (by omega)
        · rw [upd_ne (ne_of_none e nD)]
          exact sD _ _ (sB _ _ e)
        · rw [upd_same, repl_snoc]
      · rintro HB ⟨sB, eD⟩
        rw [List.length_map, lR] at eD
        refine ⟨D, List.replicate 5 true, rfl, .inl (.inl (by rw [List.map_replicate]; exact eD)), _, rfl, iteF ?_⟩
        refine ⟨_, _, _, _, _, _, _, _, _, _, rfl, k10.trans (Keep.ofSame sB), (B10.same sB).mono ?_⟩
        show c + 60 + 20 * (i : Int) + 2 * (j : Int) + 2 ≤ c + 60 + 20 * (i : Int) + 2 * ((j + 1 : Nat) : Int)
        omega
    · rintro σ Hy ⟨y8, y9, y10, y11, y12, y13, y14, y15, y16, y17, rfl, ky, By⟩
      refine ⟨_, _, _, _, _, _, _, _, _, _, _, _, rfl, ky, By.mono ?_⟩
      rw [List.length_map, hps]
      show c + 60 + 20 * (i : Int) + 2 * ((10 : Nat) : Int) ≤ c + 60 + 20 * ((i + 1 : Nat) : Int)
      omega
  · rintro σ Hx ⟨y6, y7, y8, y9, y10, y11, y12, y13, y14, y15, y16, y17, rfl, kx, Bx⟩
    rw [List.length_map, hps] at Bx
    exact q _ (Bx.mono (by show c + 60 + 20 * ((10 : Nat) : Int) ≤ c + 400; omega)) (((Keep.ofSame s1).trans k2).trans kx)
end
section
variable {P : Program} {w : World} {K : PySem.W.Frag} {mg : Str → Option Value} {base : Heap}
variable {C : Addr} {a1 a2 a3 a4 a5 a6 a7 a8 a9 a10 a11 a12 a13 a14 a15 a16 a17 a18 a19 a20 a21 a22 a23 a24 a25 a26 a27 a28 a29 a30 a31 a32 a33 a34 a35 a36 a37 a38 a39 a40 a41 a42 a43 a44 a45 a46 a47 a48 a49 a50 a51 a52 : Addr} {l1 l2 l3 l4 l5 l6 l7 l8 l9 l10 l11 l12 l13 l14 l15 l16 l17 l18 l19 l20 l21 l22 l23 l24 l25 l26 l27 l28 l29 l30 l31 l32 l33 l34 l35 l36 l37 l38 l39 l40 l41 l42 l43 l44 l45 l46 l47 l48 l49 l50 l51 l52 : FuncData} {t47 t48 t49 tg_NEAR tg_CUT tg_UP tg_DOWN : Tok} {fW : Addr}
def spLaw (K : PySem.W.Frag) : Sp := fun vs H Q _ => ∃ (a : Addr) (ns : List Int), vs = [.ref a] ∧ SqL K H a (ns.map V.int) ∧ ns.length ≤ 63 ∧ ∀ H', Q (.bl true) H'
theorem ok_law {f : Addr} {fd : FuncData} (F : Fun K "law" "law" s_law f fd) (B : Bl mg) (L : LL K mg C a1 a2 a3 a4 a5 a6 a7 a8 a9 a10 a11 a12 a13 a14 a15 a16 a17 a18 a19 a20 a21 a22 a23 a24 a25 a26 a27 a28 a29 a30 a31 a32 a33 a34 a35 a36 a37 a38 a39 a40 a41 a42 a43 a44 a45 a46 a47 a48 a49 a50 a51 a52 l1 l2 l3 l4 l5 l6 l7 l8 l9 l10 l11 l12 l13 l14 l15 l16 l17 l18 l19 l20 l21 l22 l23 l24 l25 l26 l27 l28 l29 l30 l31 l32 l33 l34 l35 l36 l37 l38 l39 l40 l41 l42 l43 l44 l45 l46 l47 l48 l49 l50 l51 l52 t47 t48 t49 tg_NEAR tg_CUT tg_UP tg_DOWN fW) : FnOk P w K mg base CX0 10 f fd ["_law_script"] (spLaw K) := by
  have G__law_folded : FnOk P w K mg base CX0 9 a30 l30 ["_law_script", "_law_size"] (spFolded K) := ok_folded L.F__law_folded B
  have G__law_box : FnOk P w K mg base CX0 9 a28 l28 ["_law_script", "_law_k"] (spBox K) := ok_box L.F__law_box B
  have G__law_form : FnOk P w K mg base CX0 9 a32 l32 ["_law_box_here"] spForm := (ok__law_form B L).mono (by decide)
  have G__law_take : FnOk P w K mg base CX0 9 a29 l29 ["_law_box_here", "_law_size"] (spTake 2) := (ok_take L.F__law_take L.b__law_take L.m__law_take B 2).mono (by decide)
  have G__law_right : FnOk P w K mg base CX0 9 a40 l40 ["_law_box_here", "_law_scale", "_law_tail", "_law_how"] spRt18 := (ok__law_right B L).mono (by decide)
  refine F.ok sc_law (fun vs H Q E h => ?_) (fun cdv A outer s H vs Q E hr h => ?_)
  · obtain ⟨a, ns, rfl, _⟩ := h
    rfl
  obtain ⟨a, ns, rfl, hS, h63, q⟩ := h
  refine ⟨_, (pss_cons (ps_set (i := 1) sc_law.nd rfl (.inl rfl) (pe_call G__law_folded hr (by rfl) L.m__law_folded L.F__law_folded.kp L.b__law_folded .nil pass0 (pa_cons (pv 0) (pa_cons pe_int pa_nil))))
    (pss_cons (ps_for PassesOwn.never rfl (pi_range1 (by rfl) B.range (pa_cons (pe_callB (call_max2 rfl) (by rfl) B.max boot_max (pa_cons pe_int (pa_cons (pe_callB call_len_seq (by rfl) B.len PySem.boot_len (pa_cons (pv 1) pa_nil)) pa_nil))) pa_nil)) (pg_name (i := 2) sc_law.nd rfl (.inl rfl)) (pss_cons (ps_set (i := 3) sc_law.nd rfl (.inl rfl) (pe_call G__law_box hr (by rfl) L.m__law_box L.F__law_box.kp L.b__law_box .nil pass0 (pa_cons (pv 1) (pa_cons (pv 2) pa_nil))))
    (pss_cons (ps_asg (pe_call G__law_form hr (by rfl) L.m__law_form L.F__law_form.kp L.b__law_form .nil pass0 (pa_cons (pv 3) pa_nil)) (pg_tup (by rfl) (pgs_cons (pg_name (i := 4) sc_law.nd rfl (.inl rfl)) (pgs_cons (pg_name (i := 5) sc_law.nd rfl (.inl rfl)) pgs_nil))))
    (pss_one (ps_if (pt_not (pt_val (pe_call G__law_right hr (by rfl) L.m__law_right L.F__law_right.kp L.b__law_right .nil pass0 (pa_cons (pv 3) (pa_cons (pv 4) (pa_cons (pv 5) (pa_cons (pe_ix ix_tup (pe_glob (v := .ref fW) rfl L.W.mgW rfl) (pe_call G__law_take hr (by rfl) L.m__law_take L.F__law_take.kp L.b__law_take .nil pass0 (pa_cons (pv 3) (pa_cons pe_int pa_nil))) (fun _ _ => rfl)) pa_nil))))))) (pss_one (ps_ret pe_bl)) pss_nil)))))
    (pss_one (ps_ret pe_bl)))), ?_⟩
  refine ⟨_, rfl, a, ns, 3, rfl, hS, h63, by decide, by decide, fun p H1 zs np s1 ep lz => ?_⟩
  have lz2 : zs.length ≤ 3 := by omega
  refine ⟨_, rfl, p, _, rfl, .inl (SqL.of ep), _, _, rfl, ?_⟩
  obtain ⟨n, en, hn⟩ : ∃ n : Nat, (if (((zs.map V.int).length : Nat) : Int) > 1 then (((zs.map V.int).length : Nat) : Int) else 1) = (n : Int) ∧ n ≤ 3 := by
    rw [List.length_map]
    split
    · exact ⟨zs.length, rfl, lz2⟩
    · exact ⟨1, rfl, by decide⟩
  rw [en]
  refine ⟨_, rfl, by omega, by omega, ?_⟩
  rw [Int.toNat_natCast]
  refine for_range (n := n) (fun i σ H5 => ∃ (y2 y3 y4 y5 : Option V), σ = [some (.ref a), some (.ref p), y2, y3, y4, y5] ∧ Same H1 H5) ⟨none, none, none, none, rfl, Same.refl _⟩ ?_ ?_
  · rintro i σ H5 hi ⟨y2, y3, y4, y5, rfl, s5⟩
    refine ⟨_, rfl, _, rfl, p, zs, _, rfl, SqL.of (s5 _ _ ep), by omega, by omega, fun b H6 nb s6 B6 => ?_⟩
    refine ⟨_, rfl, b, _, rfl, B6, by decide, fun pp sc tl H7 epp h1 h2 h3 h4 B7 k7 => ?_⟩
    refine ⟨pp, _, rfl, .inl (.inl epp), rfl, _, _, rfl, _, _, rfl, rfl, ?_⟩
    simp only [L2.start, List.map_cons, List.map_nil, List.length_cons, List.length_nil, List.replicate_succ, List.replicate_zero, List.cons_append, List.nil_append, List.set_cons_succ, List.set_cons_zero, Nat.reduceAdd, Nat.reduceSub, Nat.zero_add]
    refine ⟨_, rfl, _, rfl, _, rfl, _, rfl, b, _, _, rfl, B7, (by decide), (by decide), (by decide), (by decide), (by decide), fun rw H8 u8 v8 B8 k8 => ?_⟩
    replace B8 := bx2 B8
    obtain ⟨how, ehow, hh⟩ : ∃ how : Str, atI (WL.map V.str) rw = some (.str how) ∧ how ∈ WL := by
      have : rw = 0 ∨ rw = 1 ∨ rw = 2 ∨ rw = 3 := by omega
      rcases this with z | z | z | z <;> subst z <;> exact ⟨_, rfl, by decide⟩
    refine ⟨fW, _, _, _, rfl, rfl, L.W.sq _, ehow, ?_⟩
    refine ⟨b, sc, tl, _, how, rfl, h1, h2, h3, h4, hh, B8, by decide, fun H9 B9 k9 => ?_⟩
    refine ⟨_, rfl, iteF ?_⟩
    exact ⟨_, _, _, _, rfl, fun y u e => ((k7.trans k8).trans k9) _ _ (s6 _ _ (s5 _ _ e)) (ne_of_none (s5 _ _ e) nb)⟩
  · rintro σ H5 ⟨y2, y3, y4, y5, rfl, s5⟩
    exact q _
end
theorem all_mk {l : PySem.W.OpenLaw} {w : World} {K : PySem.W.Frag} {h : Heap} {mg : Str → Option Value} {fa f1 f2 f3 f4 f5 f6 f7 f8 f9 f10 f11 f12 f13 f14 f15 f16 f17 f18 f19 f20 f21 f22 f23 f24 f25 f26 f27 f28 f29 f30 f31 f32 f33 f34 f35 f36 f37 f38 f39 f40 f41 f42 f43 f44 f45 f46 f47 f48 f49 f50 f51 f52 f53 C : Addr} (X : K.In h) (G : h.Ns mainGlobals mg) (hfa : mg "law" = some (.ref fa))
    {od1 an1 od2 an2 od3 an3 od4 an4 od5 an5 od6 an6 od7 an7 od8 an8 od9 an9 od10 an10 od11 an11 od12 an12 od13 an13 od14 an14 od15 an15 od16 an16 od17 an17 od18 an18 od19 an19 od20 an20 od21 an21 od22 an22 od23 an23 od24 an24 od25 an25 od26 an26 od27 an27 od28 an28 od29 an29 od30 an30 od31 an31 od32 an32 od33 an33 od34 an34 od35 an35 od36 an36 od37 an37 od38 an38 od39 an39 od40 an40 od41 an41 od42 an42 od43 an43 od44 an44 od45 an45 od46 an46 od47 an47 od48 an48 od49 an49 od50 an50 od51 an51 od52 an52 od53 an53 : Option Addr} {sl1 sl2 sl3 sl4 sl5 sl6 sl7 sl8 sl9 sl10 sl11 sl12 sl13 sl14 sl15 sl16 sl17 sl18 sl19 sl20 sl21 sl22 sl23 sl24 sl25 sl26 sl27 sl28 sl29 sl30 sl31 sl32 sl33 sl34 sl35 sl36 sl37 sl38 sl39 sl40 sl41 sl42 sl43 sl44 sl45 sl46 sl47 sl48 sl49 sl50 sl51 sl52 sl53 : Array (Option Value)} {oc1 kV1 dc1 pm1 cd1 ct1 oc2 kV2 dc2 pm2 cd2 ct2 oc3 kV3 dc3 pm3 cd3 ct3 oc4 dc4 pm4 cd4 ct4 oc5 kV5 dc5 pm5 cd5 ct5 oc6 kV6 dc6 pm6 cd6 ct6 oc7 kV7 dc7 pm7 cd7 ct7 oc8 kV8 dc8 pm8 cd8 ct8 oc9 kV9 dc9 pm9 cd9 ct9 oc10 dc10 pm10 cd10 ct10 oc11 dc11 pm11 cd11 ct11 oc12 dc12 pm12 cd12 ct12 oc13 dc13 pm13 cd13 ct13 oc14 dc14 pm14 cd14 ct14 oc15 kV15 dc15 pm15 cd15 ct15 oc16 kV16 dc16 pm16 cd16 ct16 oc17 kV17 dc17 pm17 cd17 ct17 oc18 kV18 dc18 pm18 cd18 ct18 oc19 kV19 dc19 pm19 cd19 ct19 oc20 kV20 dc20 pm20 cd20 ct20 oc21 kV21 dc21 pm21 cd21 ct21 oc22 kV22 dc22 pm22 cd22 ct22 oc23 kV23 dc23 pm23 cd23 ct23 oc24 kV24 dc24 pm24 cd24 ct24 oc25 kV25 dc25 pm25 cd25 ct25 oc26 kV26 dc26 pm26 cd26 ct26 oc27 kV27 dc27 pm27 cd27 ct27 oc28 kV28 dc28 pm28 cd28 ct28 oc29 kV29 dc29 pm29 cd29 ct29 oc30 kV30 dc30 pm30 cd30 ct30 oc31 kV31 dc31 pm31 cd31 ct31 oc32 kV32 dc32 pm32 cd32 ct32 oc33 kV33 dc33 pm33 cd33 ct33 oc34 kV34 dc34 pm34 cd34 ct34 oc35 kV35 dc35 pm35 cd35 ct35 oc36 kV36 dc36 pm36 cd36 ct36 oc37 kV37 dc37 pm37 cd37 ct37 oc38 kV38 dc38 pm38 cd38 ct38 oc39 kV39 dc39 pm39 cd39 ct39 oc40 kV40 dc40 pm40 cd40 ct40 oc41 kV41 dc41 pm41 cd41 ct41 oc42 kV42 dc42 pm42 cd42 ct42 oc43 kV43 dc43 pm43 cd43 ct43 oc44 kV44 dc44 pm44 cd44 ct44 oc45 kV45 dc45 pm45 cd45 ct45 oc46 kV46 dc46 pm46 cd46 ct46 oc47 kV47 dc47 pm47 cd47 ct47 oc48 kV48 dc48 pm48 cd48 ct48 oc49 kV49 dc49 pm49 cd49 ct49 oc50 kV50 dc50 pm50 cd50 ct50 oc51 kV51 dc51 pm51 cd51 ct51 oc52 kV52 dc52 pm52 cd52 ct52 oc53 kV53 dc53 pm53 cd53 ct53 oT48 oT49 oT50 : Value}
    {vT48 vT49 vT50 : Tok}
    {T48 T49 T50 : Addr} {dT48 dT49 dT50 : Option Addr} {nT48 nT49 nT50 : Nat} {sT48 sT49 sT50 : Array (Option Value)}
    {fF : Addr} {odF : Option Addr} {slF : Array (Option Value)} {nF : Nat} {u1 u2 u3 u4 : Tok} {tgNEAR tgCUT tgUP tgDOWN : Tok}
    {Dk4 : Addr} {tk4_0 : Tok}
    {Dk10 : Addr} {tk10_0 : Tok}
    {Dk11 : Addr} {tk11_0 : Tok}
    {Dk12 : Addr} {tk12_0 : Tok}
    {Dk13 : Addr} {tk13_0 : Tok}
    {Dk14 : Addr} {tk14_0 : Tok}
    (a1 : PySem.W.nsIn K mainGlobals "cut_off" = some (some (.ref f1))) (l1 : K.lookup f1 = some ⟨oc1, od1, .func (PySem.W.fnOf "cut_off" "cut_off" (defArgs s_cut_off) (defBody s_cut_off) (defScope s_cut_off) .none kV1 dc1 pm1 an1 cd1 ct1), sl1⟩) (c1 : PySem.W.codeIn K cd1 "cut_off" = true) (k1 : PySem.W.keepIn K (.ref f1) = true)
    (a2 : PySem.W.nsIn K mainGlobals "last_power" = some (some (.ref f2))) (l2 : K.lookup f2 = some ⟨oc2, od2, .func (PySem.W.fnOf "last_power" "last_power" (defArgs s_last_power) (defBody s_last_power) (defScope s_last_power) .none kV2 dc2 pm2 an2 cd2 ct2), sl2⟩) (c2 : PySem.W.codeIn K cd2 "last_power" = true) (k2 : PySem.W.keepIn K (.ref f2) = true)
    (a3 : PySem.W.nsIn K mainGlobals "least_power" = some (some (.ref f3))) (l3 : K.lookup f3 = some ⟨oc3, od3, .func (PySem.W.fnOf "least_power" "least_power" (defArgs s_least_power) (defBody s_least_power) (defScope s_least_power) .none kV3 dc3 pm3 an3 cd3 ct3), sl3⟩) (c3 : PySem.W.codeIn K cd3 "least_power" = true) (k3 : PySem.W.keepIn K (.ref f3) = true)
    (a4 : PySem.W.nsIn K mainGlobals "rounded" = some (some (.ref f4))) (l4 : K.lookup f4 = some ⟨oc4, od4, .func (PySem.W.fnOf "rounded" "rounded" (defArgs s_rounded) (defBody s_rounded) (defScope s_rounded) .none (.ref Dk4) dc4 pm4 an4 cd4 ct4), sl4⟩) (c4 : PySem.W.codeIn K cd4 "rounded" = true) (k4 : PySem.W.keepIn K (.ref f4) = true)
    (w4_0 : PySem.W.nsIn K Dk4 "way" = some (some (.str "near" tk4_0)))
    (w4_1 : PySem.W.nsIn K Dk4 "more" = some (some (.bool false)))
    (a5 : PySem.W.nsIn K mainGlobals "parted" = some (some (.ref f5))) (l5 : K.lookup f5 = some ⟨oc5, od5, .func (PySem.W.fnOf "parted" "parted" (defArgs s_parted) (defBody s_parted) (defScope s_parted) .none kV5 dc5 pm5 an5 cd5 ct5), sl5⟩) (c5 : PySem.W.codeIn K cd5 "parted" = true) (k5 : PySem.W.keepIn K (.ref f5) = true)
    (a6 : PySem.W.nsIn K mainGlobals "goes_up" = some (some (.ref f6))) (l6 : K.lookup f6 = some ⟨oc6, od6, .func (PySem.W.fnOf "goes_up" "goes_up" (defArgs s_goes_up) (defBody s_goes_up) (defScope s_goes_up) .none kV6 dc6 pm6 an6 cd6 ct6), sl6⟩) (c6 : PySem.W.codeIn K cd6 "goes_up" = true) (k6 : PySem.W.keepIn K (.ref f6) = true)
    (a7 : PySem.W.nsIn K mainGlobals "goes_away" = some (some (.ref f7))) (l7 : K.lookup f7 = some ⟨oc7, od7, .func (PySem.W.fnOf "goes_away" "goes_away" (defArgs s_goes_away) (defBody s_goes_away) (defScope s_goes_away) .none kV7 dc7 pm7 an7 cd7 ct7), sl7⟩) (c7 : PySem.W.codeIn K cd7 "goes_away" = true) (k7 : PySem.W.keepIn K (.ref f7) = true)
    (a8 : PySem.W.nsIn K mainGlobals "word_beyond" = some (some (.ref f8))) (l8 : K.lookup f8 = some ⟨oc8, od8, .func (PySem.W.fnOf "word_beyond" "word_beyond" (defArgs s_word_beyond) (defBody s_word_beyond) (defScope s_word_beyond) .none kV8 dc8 pm8 an8 cd8 ct8), sl8⟩) (c8 : PySem.W.codeIn K cd8 "word_beyond" = true) (k8 : PySem.W.keepIn K (.ref f8) = true)
    (a9 : PySem.W.nsIn K mainGlobals "flags_of_rest" = some (some (.ref f9))) (l9 : K.lookup f9 = some ⟨oc9, od9, .func (PySem.W.fnOf "flags_of_rest" "flags_of_rest" (defArgs s_flags_of_rest) (defBody s_flags_of_rest) (defScope s_flags_of_rest) .none kV9 dc9 pm9 an9 cd9 ct9), sl9⟩) (c9 : PySem.W.codeIn K cd9 "flags_of_rest" = true) (k9 : PySem.W.keepIn K (.ref f9) = true)
    (a10 : PySem.W.nsIn K mainGlobals "added" = some (some (.ref f10))) (l10 : K.lookup f10 = some ⟨oc10, od10, .func (PySem.W.fnOf "added" "added" (defArgs s_added) (defBody s_added) (defScope s_added) .none (.ref Dk10) dc10 pm10 an10 cd10 ct10), sl10⟩) (c10 : PySem.W.codeIn K cd10 "added" = true) (k10 : PySem.W.keepIn K (.ref f10) = true)
    (w10_0 : PySem.W.nsIn K Dk10 "way" = some (some (.str "near" tk10_0)))
    (a11 : PySem.W.nsIn K mainGlobals "taken" = some (some (.ref f11))) (l11 : K.lookup f11 = some ⟨oc11, od11, .func (PySem.W.fnOf "taken" "taken" (defArgs s_taken) (defBody s_taken) (defScope s_taken) .none (.ref Dk11) dc11 pm11 an11 cd11 ct11), sl11⟩) (c11 : PySem.W.codeIn K cd11 "taken" = true) (k11 : PySem.W.keepIn K (.ref f11) = true)
    (w11_0 : PySem.W.nsIn K Dk11 "way" = some (some (.str "near" tk11_0)))
    (a12 : PySem.W.nsIn K mainGlobals "multiplied" = some (some (.ref f12))) (l12 : K.lookup f12 = some ⟨oc12, od12, .func (PySem.W.fnOf "multiplied" "multiplied" (defArgs s_multiplied) (defBody s_multiplied) (defScope s_multiplied) .none (.ref Dk12) dc12 pm12 an12 cd12 ct12), sl12⟩) (c12 : PySem.W.codeIn K cd12 "multiplied" = true) (k12 : PySem.W.keepIn K (.ref f12) = true)
    (w12_0 : PySem.W.nsIn K Dk12 "way" = some (some (.str "near" tk12_0)))
    (a13 : PySem.W.nsIn K mainGlobals "divided" = some (some (.ref f13))) (l13 : K.lookup f13 = some ⟨oc13, od13, .func (PySem.W.fnOf "divided" "divided" (defArgs s_divided) (defBody s_divided) (defScope s_divided) .none (.ref Dk13) dc13 pm13 an13 cd13 ct13), sl13⟩) (c13 : PySem.W.codeIn K cd13 "divided" = true) (k13 : PySem.W.keepIn K (.ref f13) = true)
    (w13_0 : PySem.W.nsIn K Dk13 "way" = some (some (.str "near" tk13_0)))
    (a14 : PySem.W.nsIn K mainGlobals "joined" = some (some (.ref f14))) (l14 : K.lookup f14 = some ⟨oc14, od14, .func (PySem.W.fnOf "joined" "joined" (defArgs s_joined) (defBody s_joined) (defScope s_joined) .none (.ref Dk14) dc14 pm14 an14 cd14 ct14), sl14⟩) (c14 : PySem.W.codeIn K cd14 "joined" = true) (k14 : PySem.W.keepIn K (.ref f14) = true)
    (w14_0 : PySem.W.nsIn K Dk14 "way" = some (some (.str "near" tk14_0)))
    (a15 : PySem.W.nsIn K mainGlobals "has_none" = some (some (.ref f15))) (l15 : K.lookup f15 = some ⟨oc15, od15, .func (PySem.W.fnOf "has_none" "has_none" (defArgs s_has_none) (defBody s_has_none) (defScope s_has_none) .none kV15 dc15 pm15 an15 cd15 ct15), sl15⟩) (c15 : PySem.W.codeIn K cd15 "has_none" = true) (k15 : PySem.W.keepIn K (.ref f15) = true)
    (a16 : PySem.W.nsIn K mainGlobals "bad" = some (some (.ref f16))) (l16 : K.lookup f16 = some ⟨oc16, od16, .func (PySem.W.fnOf "bad" "bad" (defArgs s_bad) (defBody s_bad) (defScope s_bad) .none kV16 dc16 pm16 an16 cd16 ct16), sl16⟩) (c16 : PySem.W.codeIn K cd16 "bad" = true) (k16 : PySem.W.keepIn K (.ref f16) = true)
    (a17 : PySem.W.nsIn K mainGlobals "is_endless_by_nought" = some (some (.ref f17))) (l17 : K.lookup f17 = some ⟨oc17, od17, .func (PySem.W.fnOf "is_endless_by_nought" "is_endless_by_nought" (defArgs s_is_endless_by_nought) (defBody s_is_endless_by_nought) (defScope s_is_endless_by_nought) .none kV17 dc17 pm17 an17 cd17 ct17), sl17⟩) (c17 : PySem.W.codeIn K cd17 "is_endless_by_nought" = true) (k17 : PySem.W.keepIn K (.ref f17) = true)
    (a18 : PySem.W.nsIn K mainGlobals "sign_of" = some (some (.ref f18))) (l18 : K.lookup f18 = some ⟨oc18, od18, .func (PySem.W.fnOf "sign_of" "sign_of" (defArgs s_sign_of) (defBody s_sign_of) (defScope s_sign_of) .none kV18 dc18 pm18 an18 cd18 ct18), sl18⟩) (c18 : PySem.W.codeIn K cd18 "sign_of" = true) (k18 : PySem.W.keepIn K (.ref f18) = true)
    (a19 : PySem.W.nsIn K mainGlobals "unlike_sign" = some (some (.ref f19))) (l19 : K.lookup f19 = some ⟨oc19, od19, .func (PySem.W.fnOf "unlike_sign" "unlike_sign" (defArgs s_unlike_sign) (defBody s_unlike_sign) (defScope s_unlike_sign) .none kV19 dc19 pm19 an19 cd19 ct19), sl19⟩) (c19 : PySem.W.codeIn K cd19 "unlike_sign" = true) (k19 : PySem.W.keepIn K (.ref f19) = true)
    (a20 : PySem.W.nsIn K mainGlobals "term_of" = some (some (.ref f20))) (l20 : K.lookup f20 = some ⟨oc20, od20, .func (PySem.W.fnOf "term_of" "term_of" (defArgs s_term_of) (defBody s_term_of) (defScope s_term_of) .none kV20 dc20 pm20 an20 cd20 ct20), sl20⟩) (c20 : PySem.W.codeIn K cd20 "term_of" = true) (k20 : PySem.W.keepIn K (.ref f20) = true)
    (a21 : PySem.W.nsIn K mainGlobals "product_of" = some (some (.ref f21))) (l21 : K.lookup f21 = some ⟨oc21, od21, .func (PySem.W.fnOf "product_of" "product_of" (defArgs s_product_of) (defBody s_product_of) (defScope s_product_of) .none kV21 dc21 pm21 an21 cd21 ct21), sl21⟩) (c21 : PySem.W.codeIn K cd21 "product_of" = true) (k21 : PySem.W.keepIn K (.ref f21) = true)
    (a22 : PySem.W.nsIn K mainGlobals "terms_added" = some (some (.ref f22))) (l22 : K.lookup f22 = some ⟨oc22, od22, .func (PySem.W.fnOf "terms_added" "terms_added" (defArgs s_terms_added) (defBody s_terms_added) (defScope s_terms_added) .none kV22 dc22 pm22 an22 cd22 ct22), sl22⟩) (c22 : PySem.W.codeIn K cd22 "terms_added" = true) (k22 : PySem.W.keepIn K (.ref f22) = true)
    (a23 : PySem.W.nsIn K mainGlobals "nought_sign" = some (some (.ref f23))) (l23 : K.lookup f23 = some ⟨oc23, od23, .func (PySem.W.fnOf "nought_sign" "nought_sign" (defArgs s_nought_sign) (defBody s_nought_sign) (defScope s_nought_sign) .none kV23 dc23 pm23 an23 cd23 ct23), sl23⟩) (c23 : PySem.W.codeIn K cd23 "nought_sign" = true) (k23 : PySem.W.keepIn K (.ref f23) = true)
    (a24 : PySem.W.nsIn K mainGlobals "worths_added" = some (some (.ref f24))) (l24 : K.lookup f24 = some ⟨oc24, od24, .func (PySem.W.fnOf "worths_added" "worths_added" (defArgs s_worths_added) (defBody s_worths_added) (defScope s_worths_added) .none kV24 dc24 pm24 an24 cd24 ct24), sl24⟩) (c24 : PySem.W.codeIn K cd24 "worths_added" = true) (k24 : PySem.W.keepIn K (.ref f24) = true)
    (a25 : PySem.W.nsIn K mainGlobals "quotient_rounded" = some (some (.ref f25))) (l25 : K.lookup f25 = some ⟨oc25, od25, .func (PySem.W.fnOf "quotient_rounded" "quotient_rounded" (defArgs s_quotient_rounded) (defBody s_quotient_rounded) (defScope s_quotient_rounded) .none kV25 dc25 pm25 an25 cd25 ct25), sl25⟩) (c25 : PySem.W.codeIn K cd25 "quotient_rounded" = true) (k25 : PySem.W.keepIn K (.ref f25) = true)
    (a26 : PySem.W.nsIn K mainGlobals "is_number" = some (some (.ref f26))) (l26 : K.lookup f26 = some ⟨oc26, od26, .func (PySem.W.fnOf "is_number" "is_number" (defArgs s_is_number) (defBody s_is_number) (defScope s_is_number) .none kV26 dc26 pm26 an26 cd26 ct26), sl26⟩) (c26 : PySem.W.codeIn K cd26 "is_number" = true) (k26 : PySem.W.keepIn K (.ref f26) = true)
    (a27 : PySem.W.nsIn K mainGlobals "is_number_in" = some (some (.ref f27))) (l27 : K.lookup f27 = some ⟨oc27, od27, .func (PySem.W.fnOf "is_number_in" "is_number_in" (defArgs s_is_number_in) (defBody s_is_number_in) (defScope s_is_number_in) .none kV27 dc27 pm27 an27 cd27 ct27), sl27⟩) (c27 : PySem.W.codeIn K cd27 "is_number_in" = true) (k27 : PySem.W.keepIn K (.ref f27) = true)
    (a28 : PySem.W.nsIn K mainGlobals "_law_box" = some (some (.ref f28))) (l28 : K.lookup f28 = some ⟨oc28, od28, .func (PySem.W.fnOf "_law_box" "_law_box" (defArgs sBox) (defBody sBox) (defScope sBox) .none kV28 dc28 pm28 an28 cd28 ct28), sl28⟩) (c28 : PySem.W.codeIn K cd28 "_law_box" = true) (k28 : PySem.W.keepIn K (.ref f28) = true)
    (a29 : PySem.W.nsIn K mainGlobals "_law_take" = some (some (.ref f29))) (l29 : K.lookup f29 = some ⟨oc29, od29, .func (PySem.W.fnOf "_law_take" "_law_take" (defArgs sTake) (defBody sTake) (defScope sTake) .none kV29 dc29 pm29 an29 cd29 ct29), sl29⟩) (c29 : PySem.W.codeIn K cd29 "_law_take" = true) (k29 : PySem.W.keepIn K (.ref f29) = true)
    (a30 : PySem.W.nsIn K mainGlobals "_law_folded" = some (some (.ref f30))) (l30 : K.lookup f30 = some ⟨oc30, od30, .func (PySem.W.fnOf "_law_folded" "_law_folded" (defArgs sFolded) (defBody sFolded) (defScope sFolded) .none kV30 dc30 pm30 an30 cd30 ct30), sl30⟩) (c30 : PySem.W.codeIn K cd30 "_law_folded" = true) (k30 : PySem.W.keepIn K (.ref f30) = true)
    (a31 : PySem.W.nsIn K mainGlobals "_law_same" = some (some (.ref f31))) (l31 : K.lookup f31 = some ⟨oc31, od31, .func (PySem.W.fnOf "_law_same" "_law_same" (defArgs sSame) (defBody sSame) (defScope sSame) .none kV31 dc31 pm31 an31 cd31 ct31), sl31⟩) (c31 : PySem.W.codeIn K cd31 "_law_same" = true) (k31 : PySem.W.keepIn K (.ref f31) = true)
    (a32 : PySem.W.nsIn K mainGlobals "_law_form" = some (some (.ref f32))) (l32 : K.lookup f32 = some ⟨oc32, od32, .func (PySem.W.fnOf "_law_form" "_law_form" (defArgs s__law_form) (defBody s__law_form) (defScope s__law_form) .none kV32 dc32 pm32 an32 cd32 ct32), sl32⟩) (c32 : PySem.W.codeIn K cd32 "_law_form" = true) (k32 : PySem.W.keepIn K (.ref f32) = true)
    (a33 : PySem.W.nsIn K mainGlobals "_law_none" = some (some (.ref f33))) (l33 : K.lookup f33 = some ⟨oc33, od33, .func (PySem.W.fnOf "_law_none" "_law_none" (defArgs s__law_none) (defBody s__law_none) (defScope s__law_none) .none kV33 dc33 pm33 an33 cd33 ct33), sl33⟩) (c33 : PySem.W.codeIn K cd33 "_law_none" = true) (k33 : PySem.W.keepIn K (.ref f33) = true)
    (a34 : PySem.W.nsIn K mainGlobals "_law_words" = some (some (.ref f34))) (l34 : K.lookup f34 = some ⟨oc34, od34, .func (PySem.W.fnOf "_law_words" "_law_words" (defArgs s__law_words) (defBody s__law_words) (defScope s__law_words) .none kV34 dc34 pm34 an34 cd34 ct34), sl34⟩) (c34 : PySem.W.codeIn K cd34 "_law_words" = true) (k34 : PySem.W.keepIn K (.ref f34) = true)
    (a35 : PySem.W.nsIn K mainGlobals "_law_sum_word" = some (some (.ref f35))) (l35 : K.lookup f35 = some ⟨oc35, od35, .func (PySem.W.fnOf "_law_sum_word" "_law_sum_word" (defArgs s__law_sum_word) (defBody s__law_sum_word) (defScope s__law_sum_word) .none kV35 dc35 pm35 an35 cd35 ct35), sl35⟩) (c35 : PySem.W.codeIn K cd35 "_law_sum_word" = true) (k35 : PySem.W.keepIn K (.ref f35) = true)
    (a36 : PySem.W.nsIn K mainGlobals "_law_product_word" = some (some (.ref f36))) (l36 : K.lookup f36 = some ⟨oc36, od36, .func (PySem.W.fnOf "_law_product_word" "_law_product_word" (defArgs s__law_product_word) (defBody s__law_product_word) (defScope s__law_product_word) .none kV36 dc36 pm36 an36 cd36 ct36), sl36⟩) (c36 : PySem.W.codeIn K cd36 "_law_product_word" = true) (k36 : PySem.W.keepIn K (.ref f36) = true)
    (a37 : PySem.W.nsIn K mainGlobals "_law_quotient_word" = some (some (.ref f37))) (l37 : K.lookup f37 = some ⟨oc37, od37, .func (PySem.W.fnOf "_law_quotient_word" "_law_quotient_word" (defArgs s__law_quotient_word) (defBody s__law_quotient_word) (defScope s__law_quotient_word) .none kV37 dc37 pm37 an37 cd37 ct37), sl37⟩) (c37 : PySem.W.codeIn K cd37 "_law_quotient_word" = true) (k37 : PySem.W.keepIn K (.ref f37) = true)
    (a38 : PySem.W.nsIn K mainGlobals "_law_join_word" = some (some (.ref f38))) (l38 : K.lookup f38 = some ⟨oc38, od38, .func (PySem.W.fnOf "_law_join_word" "_law_join_word" (defArgs s__law_join_word) (defBody s__law_join_word) (defScope s__law_join_word) .none kV38 dc38 pm38 an38 cd38 ct38), sl38⟩) (c38 : PySem.W.codeIn K cd38 "_law_join_word" = true) (k38 : PySem.W.keepIn K (.ref f38) = true)
    (a39 : PySem.W.nsIn K mainGlobals "_law_fits" = some (some (.ref f39))) (l39 : K.lookup f39 = some ⟨oc39, od39, .func (PySem.W.fnOf "_law_fits" "_law_fits" (defArgs s__law_fits) (defBody s__law_fits) (defScope s__law_fits) .none kV39 dc39 pm39 an39 cd39 ct39), sl39⟩) (c39 : PySem.W.codeIn K cd39 "_law_fits" = true) (k39 : PySem.W.keepIn K (.ref f39) = true)
    (a40 : PySem.W.nsIn K mainGlobals "_law_right" = some (some (.ref f40))) (l40 : K.lookup f40 = some ⟨oc40, od40, .func (PySem.W.fnOf "_law_right" "_law_right" (defArgs s__law_right) (defBody s__law_right) (defScope s__law_right) .none kV40 dc40 pm40 an40 cd40 ct40), sl40⟩) (c40 : PySem.W.codeIn K cd40 "_law_right" = true) (k40 : PySem.W.keepIn K (.ref f40) = true)
    (a41 : PySem.W.nsIn K mainGlobals "law" = some (some (.ref f41))) (l41 : K.lookup f41 = some ⟨oc41, od41, .func (PySem.W.fnOf "law" "law" (defArgs s_law) (defBody s_law) (defScope s_law) .none kV41 dc41 pm41 an41 cd41 ct41), sl41⟩) (c41 : PySem.W.codeIn K cd41 "law" = true) (k41 : PySem.W.keepIn K (.ref f41) = true)
    (aC : PySem.W.nsIn K mainGlobals "Form" = some (some (.ref C)))
    (pgC : PySem.W.plainGet K C Str.empty = true) (hdC : PySem.W.hasDictIn K C = true) (poC : PySem.W.plainOver K C = true) (saC : PySem.W.findIn K (.ref C) "__setattr__" = some (some (.builtin "object.__setattr__"))) (mkC : PySem.W.makesIn K C = true) (kcC : PySem.W.keepIn K (.ref C) = true)
    (naC0 : PySem.W.findIn K (.ref C) "scale" = some none)
    (naC1 : PySem.W.findIn K (.ref C) "tail" = some none)
    (a42 : PySem.W.findIn K (.ref C) "__init__" = some (some (.ref f42))) (i42 : PySem.W.isFn K (.ref f42) = true) (l42 : K.lookup f42 = some ⟨oc42, od42, .func (PySem.W.fnOf "__init__" "Form.__init__" (defArgs s_Form___init__) (defBody s_Form___init__) (defScope s_Form___init__) .none kV42 dc42 pm42 an42 cd42 ct42), sl42⟩) (c42 : PySem.W.codeIn K cd42 "Form.__init__" = true) (k42 : PySem.W.keepIn K (.ref f42) = true)
    (a43 : PySem.W.findIn K (.ref C) "bias" = some (some (.ref f43))) (i43 : PySem.W.isFn K (.ref f43) = true) (l43 : K.lookup f43 = some ⟨oc43, od43, .func (PySem.W.fnOf "bias" "Form.bias" (defArgs s_Form_bias) (defBody s_Form_bias) (defScope s_Form_bias) .none kV43 dc43 pm43 an43 cd43 ct43), sl43⟩) (c43 : PySem.W.codeIn K cd43 "Form.bias" = true) (k43 : PySem.W.keepIn K (.ref f43) = true)
    (a44 : PySem.W.findIn K (.ref C) "top" = some (some (.ref f44))) (i44 : PySem.W.isFn K (.ref f44) = true) (l44 : K.lookup f44 = some ⟨oc44, od44, .func (PySem.W.fnOf "top" "Form.top" (defArgs s_Form_top) (defBody s_Form_top) (defScope s_Form_top) .none kV44 dc44 pm44 an44 cd44 ct44), sl44⟩) (c44 : PySem.W.codeIn K cd44 "Form.top" = true) (k44 : PySem.W.keepIn K (.ref f44) = true)
    (a45 : PySem.W.findIn K (.ref C) "parts" = some (some (.ref f45))) (i45 : PySem.W.isFn K (.ref f45) = true) (l45 : K.lookup f45 = some ⟨oc45, od45, .func (PySem.W.fnOf "parts" "Form.parts" (defArgs s_Form_parts) (defBody s_Form_parts) (defScope s_Form_parts) .none kV45 dc45 pm45 an45 cd45 ct45), sl45⟩) (c45 : PySem.W.codeIn K cd45 "Form.parts" = true) (k45 : PySem.W.keepIn K (.ref f45) = true)
    (a46 : PySem.W.findIn K (.ref C) "word_of" = some (some (.ref f46))) (i46 : PySem.W.isFn K (.ref f46) = true) (l46 : K.lookup f46 = some ⟨oc46, od46, .func (PySem.W.fnOf "word_of" "Form.word_of" (defArgs s_Form_word_of) (defBody s_Form_word_of) (defScope s_Form_word_of) .none kV46 dc46 pm46 an46 cd46 ct46), sl46⟩) (c46 : PySem.W.codeIn K cd46 "Form.word_of" = true) (k46 : PySem.W.keepIn K (.ref f46) = true)
    (a47 : PySem.W.findIn K (.ref C) "sort_of" = some (some (.ref f47))) (i47 : PySem.W.isFn K (.ref f47) = true) (l47 : K.lookup f47 = some ⟨oc47, od47, .func (PySem.W.fnOf "sort_of" "Form.sort_of" (defArgs s_Form_sort_of) (defBody s_Form_sort_of) (defScope s_Form_sort_of) .none kV47 dc47 pm47 an47 cd47 ct47), sl47⟩) (c47 : PySem.W.codeIn K cd47 "Form.sort_of" = true) (k47 : PySem.W.keepIn K (.ref f47) = true)
    (a48 : PySem.W.findIn K (.ref C) "nought" = some (some (.ref f48))) (i48 : PySem.W.isFn K (.ref f48) = true) (l48 : K.lookup f48 = some ⟨oc48, od48, .func (PySem.W.fnOf "nought" "Form.nought" (defArgs s_Form_nought) (defBody s_Form_nought) (defScope s_Form_nought) (.ref T48) kV48 dc48 pm48 an48 cd48 ct48), sl48⟩) (c48 : PySem.W.codeIn K cd48 "Form.nought" = true) (k48 : PySem.W.keepIn K (.ref f48) = true)
    (t48 : K.lookup T48 = some ⟨oT48, dT48, .seq #[.int 0 vT48] nT48, sT48⟩)
    (a49 : PySem.W.findIn K (.ref C) "endless" = some (some (.ref f49))) (i49 : PySem.W.isFn K (.ref f49) = true) (l49 : K.lookup f49 = some ⟨oc49, od49, .func (PySem.W.fnOf "endless" "Form.endless" (defArgs s_Form_endless) (defBody s_Form_endless) (defScope s_Form_endless) (.ref T49) kV49 dc49 pm49 an49 cd49 ct49), sl49⟩) (c49 : PySem.W.codeIn K cd49 "Form.endless" = true) (k49 : PySem.W.keepIn K (.ref f49) = true)
    (t49 : K.lookup T49 = some ⟨oT49, dT49, .seq #[.int 0 vT49] nT49, sT49⟩)
    (a50 : PySem.W.findIn K (.ref C) "greatest" = some (some (.ref f50))) (i50 : PySem.W.isFn K (.ref f50) = true) (l50 : K.lookup f50 = some ⟨oc50, od50, .func (PySem.W.fnOf "greatest" "Form.greatest" (defArgs s_Form_greatest) (defBody s_Form_greatest) (defScope s_Form_greatest) (.ref T50) kV50 dc50 pm50 an50 cd50 ct50), sl50⟩) (c50 : PySem.W.codeIn K cd50 "Form.greatest" = true) (k50 : PySem.W.keepIn K (.ref f50) = true)
    (t50 : K.lookup T50 = some ⟨oT50, dT50, .seq #[.int 0 vT50] nT50, sT50⟩)
    (a51 : PySem.W.findIn K (.ref C) "none_word" = some (some (.ref f51))) (i51 : PySem.W.isFn K (.ref f51) = true) (l51 : K.lookup f51 = some ⟨oc51, od51, .func (PySem.W.fnOf "none_word" "Form.none_word" (defArgs s_Form_none_word) (defBody s_Form_none_word) (defScope s_Form_none_word) .none kV51 dc51 pm51 an51 cd51 ct51), sl51⟩) (c51 : PySem.W.codeIn K cd51 "Form.none_word" = true) (k51 : PySem.W.keepIn K (.ref f51) = true)
    (a52 : PySem.W.findIn K (.ref C) "turned" = some (some (.ref f52))) (i52 : PySem.W.isFn K (.ref f52) = true) (l52 : K.lookup f52 = some ⟨oc52, od52, .func (PySem.W.fnOf "turned" "Form.turned" (defArgs s_Form_turned) (defBody s_Form_turned) (defScope s_Form_turned) .none kV52 dc52 pm52 an52 cd52 ct52), sl52⟩) (c52 : PySem.W.codeIn K cd52 "Form.turned" = true) (k52 : PySem.W.keepIn K (.ref f52) = true)
    (a53 : PySem.W.findIn K (.ref C) "worth" = some (some (.ref f53))) (i53 : PySem.W.isFn K (.ref f53) = true) (l53 : K.lookup f53 = some ⟨oc53, od53, .func (PySem.W.fnOf "worth" "Form.worth" (defArgs s_Form_worth) (defBody s_Form_worth) (defScope s_Form_worth) .none kV53 dc53 pm53 an53 cd53 ct53), sl53⟩) (c53 : PySem.W.codeIn K cd53 "Form.worth" = true) (k53 : PySem.W.keepIn K (.ref f53) = true)
    (z1 : PySem.W.nsIn K mainGlobals "len" = some none)
    (z2 : PySem.W.nsIn K mainGlobals "abs" = some none)
    (z3 : PySem.W.nsIn K mainGlobals "int" = some none)
    (z4 : PySem.W.nsIn K mainGlobals "divmod" = some none)
    (z5 : PySem.W.nsIn K mainGlobals "list" = some none)
    (z6 : PySem.W.nsIn K mainGlobals "enumerate" = some none)
    (z7 : PySem.W.nsIn K mainGlobals "isinstance" = some none)
    (z8 : PySem.W.nsIn K mainGlobals "tuple" = some none)
    (z9 : PySem.W.nsIn K mainGlobals "str" = some none)
    (z10 : PySem.W.nsIn K mainGlobals "bool" = some none)
    (z11 : PySem.W.nsIn K mainGlobals "zip" = some none)
    (z12 : PySem.W.nsIn K mainGlobals "all" = some none)
    (z13 : PySem.W.nsIn K mainGlobals "range" = some none)
    (z14 : PySem.W.nsIn K mainGlobals "max" = some none)
    (z15 : PySem.W.nsIn K mainGlobals "any" = some none)
    (z16 : PySem.W.nsIn K mainGlobals "min" = some none)
    (z17 : PySem.W.nsIn K mainGlobals "sum" = some none)
    (gNEAR : PySem.W.nsIn K mainGlobals "NEAR" = some (some (.str "near" tgNEAR)))
    (gCUT : PySem.W.nsIn K mainGlobals "CUT" = some (some (.str "cut" tgCUT)))
    (gUP : PySem.W.nsIn K mainGlobals "UP" = some (some (.str "up" tgUP)))
    (gDOWN : PySem.W.nsIn K mainGlobals "DOWN" = some (some (.str "down" tgDOWN)))
    (aW : PySem.W.nsIn K mainGlobals "WAYS" = some (some (.ref fF)))
    (lW : K.lookup fF = some ⟨.type "tuple", odF, .seq #[.str "near" u1, .str "cut" u2, .str "up" u3, .str "down" u4] nF, slF⟩)
    : ∃ fd : FuncData, (∀ (s : Shared) (v : Value), BindsTo s fd ⟨[v], []⟩ [("_law_script", v)]) ∧ ∀ base : Heap, K.In base → base.Ns mainGlobals mg → FnOk l.prog w K mg base CX0 10 fa fd ["_law_script"] (spLaw K) := by
  have e := hfa.symm.trans (PySem.W.mg_of X G a41)
  cases e
  have F1 := fun_mk (st := s_cut_off) l1 c1 k1
  have b1 := F1.binds (ps := ["number", "by"]) fun _ _ _ _ _ _ us hl => match us, hl with | [_, _], _ => rfl
  have m1 := PySem.W.mg_of X G a1
  have F2 := fun_mk (st := s_last_power) l2 c2 k2
  have b2 := F2.binds (ps := ["form", "number", "power"]) fun _ _ _ _ _ _ us hl => match us, hl with | [_, _, _], _ => rfl
  have m2 := PySem.W.mg_of X G a2
  have F3 := fun_mk (st := s_least_power) l3 c3 k3
  have b3 := F3.binds (ps := ["form"]) fun _ _ _ _ _ _ us hl => match us, hl with | [_], _ => rfl
  have m3 := PySem.W.mg_of X G a3
  have F4 := fun_mk (st := s_rounded) l4 c4 k4
  have m4 := PySem.W.mg_of X G a4
  have F5 := fun_mk (st := s_parted) l5 c5 k5
  have b5 := F5.binds (ps := ["number", "by", "more"]) fun _ _ _ _ _ _ us hl => match us, hl with | [_, _, _], _ => rfl
  have m5 := PySem.W.mg_of X G a5
  have F6 := fun_mk (st := s_goes_up) l6 c6 k6
  have b6 := F6.binds (ps := ["way", "sign", "many", "rest"]) fun _ _ _ _ _ _ us hl => match us, hl with | [_, _, _, _], _ => rfl
  have m6 := PySem.W.mg_of X G a6
  have F7 := fun_mk (st := s_goes_away) l7 c7 k7
  have b7 := F7.binds (ps := ["way", "sign"]) fun _ _ _ _ _ _ us hl => match us, hl with | [_, _], _ => rfl
  have m7 := PySem.W.mg_of X G a7
  have F8 := fun_mk (st := s_word_beyond) l8 c8 k8
  have b8 := F8.binds (ps := ["form", "sign", "way"]) fun _ _ _ _ _ _ us hl => match us, hl with | [_, _, _], _ => rfl
  have m8 := PySem.W.mg_of X G a8
  have F9 := fun_mk (st := s_flags_of_rest) l9 c9 k9
  have b9 := F9.binds (ps := ["form", "number", "power", "rest"]) fun _ _ _ _ _ _ us hl => match us, hl with | [_, _, _, _], _ => rfl
  have m9 := PySem.W.mg_of X G a9
  have F10 := fun_mk (st := s_added) l10 c10 k10
  have m10 := PySem.W.mg_of X G a10
  have F11 := fun_mk (st := s_taken) l11 c11 k11
  have m11 := PySem.W.mg_of X G a11
  have F12 := fun_mk (st := s_multiplied) l12 c12 k12
  have m12 := PySem.W.mg_of X G a12
  have F13 := fun_mk (st := s_divided) l13 c13 k13
  have m13 := PySem.W.mg_of X G a13
  have F14 := fun_mk (st := s_joined) l14 c14 k14
  have m14 := PySem.W.mg_of X G a14
  have F15 := fun_mk (st := s_has_none) l15 c15 k15
  have b15 := F15.binds (ps := ["form", "words"]) fun _ _ _ _ _ _ us hl => match us, hl with | [_, _], _ => rfl
  have m15 := PySem.W.mg_of X G a15
  have F16 := fun_mk (st := s_bad) l16 c16 k16
  have b16 := F16.binds (ps := ["form"]) fun _ _ _ _ _ _ us hl => match us, hl with | [_], _ => rfl
  have m16 := PySem.W.mg_of X G a16
  have F17 := fun_mk (st := s_is_endless_by_nought) l17 c17 k17
  have b17 := F17.binds (ps := ["form", "a", "b"]) fun _ _ _ _ _ _ us hl => match us, hl with | [_, _, _], _ => rfl
  have m17 := PySem.W.mg_of X G a17
  have F18 := fun_mk (st := s_sign_of) l18 c18 k18
  have b18 := F18.binds (ps := ["form", "word"]) fun _ _ _ _ _ _ us hl => match us, hl with | [_, _], _ => rfl
  have m18 := PySem.W.mg_of X G a18
  have F19 := fun_mk (st := s_unlike_sign) l19 c19 k19
  have b19 := F19.binds (ps := ["form", "a", "b"]) fun _ _ _ _ _ _ us hl => match us, hl with | [_, _, _], _ => rfl
  have m19 := PySem.W.mg_of X G a19
  have F20 := fun_mk (st := s_term_of) l20 c20 k20
  have b20 := F20.binds (ps := ["form", "word"]) fun _ _ _ _ _ _ us hl => match us, hl with | [_, _], _ => rfl
  have m20 := PySem.W.mg_of X G a20
  have F21 := fun_mk (st := s_product_of) l21 c21 k21
  have b21 := F21.binds (ps := ["form", "a", "b"]) fun _ _ _ _ _ _ us hl => match us, hl with | [_, _, _], _ => rfl
  have m21 := PySem.W.mg_of X G a21
  have F22 := fun_mk (st := s_terms_added) l22 c22 k22
  have b22 := F22.binds (ps := ["form", "one", "other", "way"]) fun _ _ _ _ _ _ us hl => match us, hl with | [_, _, _, _], _ => rfl
  have m22 := PySem.W.mg_of X G a22
  have F23 := fun_mk (st := s_nought_sign) l23 c23 k23
  have b23 := F23.binds (ps := ["sign", "other_sign", "way"]) fun _ _ _ _ _ _ us hl => match us, hl with | [_, _, _], _ => rfl
  have m23 := PySem.W.mg_of X G a23
  have F24 := fun_mk (st := s_worths_added) l24 c24 k24
  have b24 := F24.binds (ps := ["one", "other"]) fun _ _ _ _ _ _ us hl => match us, hl with | [_, _], _ => rfl
  have m24 := PySem.W.mg_of X G a24
  have F25 := fun_mk (st := s_quotient_rounded) l25 c25 k25
  have b25 := F25.binds (ps := ["form", "sign", "one", "other", "way"]) fun _ _ _ _ _ _ us hl => match us, hl with | [_, _, _, _, _], _ => rfl
  have m25 := PySem.W.mg_of X G a25
  have F26 := fun_mk (st := s_is_number) l26 c26 k26
  have b26 := F26.binds (ps := ["thing"]) fun _ _ _ _ _ _ us hl => match us, hl with | [_], _ => rfl
  have m26 := PySem.W.mg_of X G a26
  have F27 := fun_mk (st := s_is_number_in) l27 c27 k27
  have b27 := F27.binds (ps := ["least", "greatest", "thing"]) fun _ _ _ _ _ _ us hl => match us, hl with | [_, _, _], _ => rfl
  have m27 := PySem.W.mg_of X G a27
  have F28 := fun_mk (st := sBox) l28 c28 k28
  have b28 := F28.binds (ps := ["_law_script", "_law_k"]) fun _ _ _ _ _ _ us hl => match us, hl with | [_, _], _ => rfl
  have m28 := PySem.W.mg_of X G a28
  have F29 := fun_mk (st := sTake) l29 c29 k29
  have b29 := F29.binds (ps := ["_law_box_here", "_law_size"]) fun _ _ _ _ _ _ us hl => match us, hl with | [_, _], _ => rfl
  have m29 := PySem.W.mg_of X G a29
  have F30 := fun_mk (st := sFolded) l30 c30 k30
  have b30 := F30.binds (ps := ["_law_script", "_law_size"]) fun _ _ _ _ _ _ us hl => match us, hl with | [_, _], _ => rfl
  have m30 := PySem.W.mg_of X G a30
  have F31 := fun_mk (st := sSame) l31 c31 k31
  have b31 := F31.binds (ps := ["_law_found", "_law_due"]) fun _ _ _ _ _ _ us hl => match us, hl with | [_, _], _ => rfl
  have m31 := PySem.W.mg_of X G a31
  have F32 := fun_mk (st := s__law_form) l32 c32 k32
  have b32 := F32.binds (ps := ["_law_box_here"]) fun _ _ _ _ _ _ us hl => match us, hl with | [_], _ => rfl
  have m32 := PySem.W.mg_of X G a32
  have F33 := fun_mk (st := s__law_none) l33 c33 k33
  have b33 := F33.binds (ps := ["_law_scale", "_law_tail"]) fun _ _ _ _ _ _ us hl => match us, hl with | [_, _], _ => rfl
  have m33 := PySem.W.mg_of X G a33
  have F34 := fun_mk (st := s__law_words) l34 c34 k34
  have b34 := F34.binds (ps := ["_law_box_here", "_law_scale", "_law_tail"]) fun _ _ _ _ _ _ us hl => match us, hl with | [_, _, _], _ => rfl
  have m34 := PySem.W.mg_of X G a34
  have F35 := fun_mk (st := s__law_sum_word) l35 c35 k35
  have b35 := F35.binds (ps := ["_law_sorts", "_law_signs"]) fun _ _ _ _ _ _ us hl => match us, hl with | [_, _], _ => rfl
  have m35 := PySem.W.mg_of X G a35
  have F36 := fun_mk (st := s__law_product_word) l36 c36 k36
  have b36 := F36.binds (ps := ["_law_sorts", "_law_sign"]) fun _ _ _ _ _ _ us hl => match us, hl with | [_, _], _ => rfl
  have m36 := PySem.W.mg_of X G a36
  have F37 := fun_mk (st := s__law_quotient_word) l37 c37 k37
  have b37 := F37.binds (ps := ["_law_sorts", "_law_sign"]) fun _ _ _ _ _ _ us hl => match us, hl with | [_, _], _ => rfl
  have m37 := PySem.W.mg_of X G a37
  have F38 := fun_mk (st := s__law_join_word) l38 c38 k38
  have b38 := F38.binds (ps := ["_law_sorts", "_law_signs"]) fun _ _ _ _ _ _ us hl => match us, hl with | [_, _], _ => rfl
  have m38 := PySem.W.mg_of X G a38
  have F39 := fun_mk (st := s__law_fits) l39 c39 k39
  have b39 := F39.binds (ps := ["_law_scale", "_law_tail", "_law_told", "_law_word"]) fun _ _ _ _ _ _ us hl => match us, hl with | [_, _, _, _], _ => rfl
  have m39 := PySem.W.mg_of X G a39
  have F40 := fun_mk (st := s__law_right) l40 c40 k40
  have b40 := F40.binds (ps := ["_law_box_here", "_law_scale", "_law_tail", "_law_how"]) fun _ _ _ _ _ _ us hl => match us, hl with | [_, _, _, _], _ => rfl
  have m40 := PySem.W.mg_of X G a40
  have F41 := fun_mk (st := s_law) l41 c41 k41
  have F42 := fun_mk (st := s_Form___init__) l42 c42 k42
  have b42 := F42.binds (ps := ["self", "scale", "tail"]) fun _ _ _ _ _ _ us hl => match us, hl with | [_, _, _], _ => rfl
  have M42 : Meth K C "__init__" f42 := ⟨a42, i42, k42⟩
  have F43 := fun_mk (st := s_Form_bias) l43 c43 k43
  have b43 := F43.binds (ps := ["self"]) fun _ _ _ _ _ _ us hl => match us, hl with | [_], _ => rfl
  have M43 : Meth K C "bias" f43 := ⟨a43, i43, k43⟩
  have F44 := fun_mk (st := s_Form_top) l44 c44 k44
  have b44 := F44.binds (ps := ["self"]) fun _ _ _ _ _ _ us hl => match us, hl with | [_], _ => rfl
  have M44 : Meth K C "top" f44 := ⟨a44, i44, k44⟩
  have F45 := fun_mk (st := s_Form_parts) l45 c45 k45
  have b45 := F45.binds (ps := ["self", "word"]) fun _ _ _ _ _ _ us hl => match us, hl with | [_, _], _ => rfl
  have M45 : Meth K C "parts" f45 := ⟨a45, i45, k45⟩
  have F46 := fun_mk (st := s_Form_word_of) l46 c46 k46
  have b46 := F46.binds (ps := ["self", "sign", "scale", "tail"]) fun _ _ _ _ _ _ us hl => match us, hl with | [_, _, _, _], _ => rfl
  have M46 : Meth K C "word_of" f46 := ⟨a46, i46, k46⟩
  have F47 := fun_mk (st := s_Form_sort_of) l47 c47 k47
  have b47 := F47.binds (ps := ["self", "word"]) fun _ _ _ _ _ _ us hl => match us, hl with | [_, _], _ => rfl
  have M47 : Meth K C "sort_of" f47 := ⟨a47, i47, k47⟩
  have F48 := funA_mk (st := s_Form_nought) l48 c48 k48
  have b48 := bindsA (st := s_Form_nought) (ps := ["self", "sign"]) l48 t48 fun _ _ _ _ _ _ us hl => match us, hl with | [_, _], _ => ⟨_, rfl, rfl⟩
  have d48 := bindsAD (st := s_Form_nought) (ps := ["self", "sign"]) l48 t48 fun _ _ _ _ _ _ us hl => match us, hl with | [_], _ => ⟨_, rfl, rfl⟩
  have kb48 := kbindsA (x1 := "sign") (st := s_Form_nought) (ps := ["self", "sign"]) l48 t48 fun _ _ _ _ _ _ _ _ => ⟨_, rfl, rfl⟩
  have M48 : Meth K C "nought" f48 := ⟨a48, i48, k48⟩
  have F49 := funA_mk (st := s_Form_endless) l49 c49 k49
  have b49 := bindsA (st := s_Form_endless) (ps := ["self", "sign"]) l49 t49 fun _ _ _ _ _ _ us hl => match us, hl with | [_, _], _ => ⟨_, rfl, rfl⟩
  have d49 := bindsAD (st := s_Form_endless) (ps := ["self", "sign"]) l49 t49 fun _ _ _ _ _ _ us hl => match us, hl with | [_], _ => ⟨_, rfl, rfl⟩
  have kb49 := kbindsA (x1 := "sign") (st := s_Form_endless) (ps := ["self", "sign"]) l49 t49 fun _ _ _ _ _ _ _ _ => ⟨_, rfl, rfl⟩
  have M49 : Meth K C "endless" f49 := ⟨a49, i49, k49⟩
  have F50 := funA_mk (st := s_Form_greatest) l50 c50 k50
  have b50 := bindsA (st := s_Form_greatest) (ps := ["self", "sign"]) l50 t50 fun _ _ _ _ _ _ us hl => match us, hl with | [_, _], _ => ⟨_, rfl, rfl⟩
  have d50 := bindsAD (st := s_Form_greatest) (ps := ["self", "sign"]) l50 t50 fun _ _ _ _ _ _ us hl => match us, hl with | [_], _ => ⟨_, rfl, rfl⟩
  have kb50 := kbindsA (x1 := "sign") (st := s_Form_greatest) (ps := ["self", "sign"]) l50 t50 fun _ _ _ _ _ _ _ _ => ⟨_, rfl, rfl⟩
  have M50 : Meth K C "greatest" f50 := ⟨a50, i50, k50⟩
  have F51 := fun_mk (st := s_Form_none_word) l51 c51 k51
  have b51 := F51.binds (ps := ["self"]) fun _ _ _ _ _ _ us hl => match us, hl with | [_], _ => rfl
  have M51 : Meth K C "none_word" f51 := ⟨a51, i51, k51⟩
  have F52 := fun_mk (st := s_Form_turned) l52 c52 k52
  have b52 := F52.binds (ps := ["self", "word"]) fun _ _ _ _ _ _ us hl => match us, hl with | [_, _], _ => rfl
  have M52 : Meth K C "turned" f52 := ⟨a52, i52, k52⟩
  have F53 := fun_mk (st := s_Form_worth) l53 c53 k53
  have b53 := F53.binds (ps := ["self", "word"]) fun _ _ _ _ _ _ us hl => match us, hl with | [_, _], _ => rfl
  have M53 : Meth K C "worth" f53 := ⟨a53, i53, k53⟩
  have clC : Cls K C := ⟨pgC, hdC, poC, saC⟩
  have mgC := PySem.W.mg_of X G aC
  have B : Bl mg := ⟨PySem.W.mg_none_of X G z1, PySem.W.mg_none_of X G z2, PySem.W.mg_none_of X G z3, PySem.W.mg_none_of X G z4, PySem.W.mg_none_of X G z5, PySem.W.mg_none_of X G z6, PySem.W.mg_none_of X G z7, PySem.W.mg_none_of X G z8, PySem.W.mg_none_of X G z9, PySem.W.mg_none_of X G z10, PySem.W.mg_none_of X G z11, PySem.W.mg_none_of X G z12, PySem.W.mg_none_of X G z13, PySem.W.mg_none_of X G z14, PySem.W.mg_none_of X G z15, PySem.W.mg_none_of X G z16, PySem.W.mg_none_of X G z17⟩
  refine ⟨PySem.W.fnOf "law" "law" (defArgs s_law) (defBody s_law) (defScope s_law) .none kV41 dc41 pm41 an41 cd41 ct41, fun s v => .of_eq rfl, fun base _ _ => ?_⟩
  have kb4_way : ∃ g, KBn K (PySem.W.fnOf "rounded" "rounded" (defArgs s_rounded) (defBody s_rounded) (defScope s_rounded) .none (.ref Dk4) dc4 pm4 an4 cd4 ct4) ["form", "sign", "number", "power", "way", "more"] 4 ["way"] g (fun vs zs => vs ++ (zs ++ [.bl false])) := ⟨fun vs zs => vs ++ (zs ++ [.bool false]), ⟨kbn_of (st := s_rounded) (ml := [("more", .bool false)]) (gV := fun vs zs => vs ++ (zs ++ [.bl false])) (fun q hq => by rcases List.mem_cons.mp hq with rfl | hq; exact w4_1; exact nomatch hq) (fun us ws l1 l2 => match us, ws, l1, l2 with | [_, _, _, _], [_], _, _ => ⟨_, _, _, _, _, _, rfl, rfl, (show _ = pure _ from rfl)⟩) (fun _ _ r1 r2 => r1.append (r2.append (.cons rfl .nil))), fun r1 r2 => r1.append (r2.append (.cons rfl .nil))⟩⟩
  have kb4_way_more : ∃ g, KBn K (PySem.W.fnOf "rounded" "rounded" (defArgs s_rounded) (defBody s_rounded) (defScope s_rounded) .none (.ref Dk4) dc4 pm4 an4 cd4 ct4) ["form", "sign", "number", "power", "way", "more"] 4 ["way", "more"] g (fun vs zs => vs ++ zs) := ⟨fun vs zs => vs ++ zs, ⟨kbn_of (st := s_rounded) (ml := []) (gV := fun vs zs => vs ++ zs) (fun q hq => nomatch hq) (fun us ws l1 l2 => match us, ws, l1, l2 with | [_, _, _, _], [_, _], _, _ => (show _ = pure _ from rfl)) (fun _ _ r1 r2 => r1.append r2), fun r1 r2 => r1.append r2⟩⟩
  have kb10_way : ∃ g, KBn K (PySem.W.fnOf "added" "added" (defArgs s_added) (defBody s_added) (defScope s_added) .none (.ref Dk10) dc10 pm10 an10 cd10 ct10) ["form", "a", "b", "way"] 3 ["way"] g (fun vs zs => vs ++ zs) := ⟨fun vs zs => vs ++ zs, ⟨kbn_of (st := s_added) (ml := []) (gV := fun vs zs => vs ++ zs) (fun q hq => nomatch hq) (fun us ws l1 l2 => match us, ws, l1, l2 with | [_, _, _], [_], _, _ => (show _ = pure _ from rfl)) (fun _ _ r1 r2 => r1.append r2), fun r1 r2 => r1.append r2⟩⟩
  have kb11_way : ∃ g, KBn K (PySem.W.fnOf "taken" "taken" (defArgs s_taken) (defBody s_taken) (defScope s_taken) .none (.ref Dk11) dc11 pm11 an11 cd11 ct11) ["form", "a", "b", "way"] 3 ["way"] g (fun vs zs => vs ++ zs) := ⟨fun vs zs => vs ++ zs, ⟨kbn_of (st := s_taken) (ml := []) (gV := fun vs zs => vs ++ zs) (fun q hq => nomatch hq) (fun us ws l1 l2 => match us, ws, l1, l2 with | [_, _, _], [_], _, _ => (show _ = pure _ from rfl)) (fun _ _ r1 r2 => r1.append r2), fun r1 r2 => r1.append r2⟩⟩
  have kb12_way : ∃ g, KBn K (PySem.W.fnOf "multiplied" "multiplied" (defArgs s_multiplied) (defBody s_multiplied) (defScope s_multiplied) .none (.ref Dk12) dc12 pm12 an12 cd12 ct12) ["form", "a", "b", "way"] 3 ["way"] g (fun vs zs => vs ++ zs) := ⟨fun vs zs => vs ++ zs, ⟨kbn_of (st := s_multiplied) (ml := []) (gV := fun vs zs => vs ++ zs) (fun q hq => nomatch hq) (fun us ws l1 l2 => match us, ws, l1, l2 with | [_, _, _], [_], _, _ => (show _ = pure _ from rfl)) (fun _ _ r1 r2 => r1.append r2), fun r1 r2 => r1.append r2⟩⟩
  have kb13_way : ∃ g, KBn K (PySem.W.fnOf "divided" "divided" (defArgs s_divided) (defBody s_divided) (defScope s_divided) .none (.ref Dk13) dc13 pm13 an13 cd13 ct13) ["form", "a", "b", "way"] 3 ["way"] g (fun vs zs => vs ++ zs) := ⟨fun vs zs => vs ++ zs, ⟨kbn_of (st := s_divided) (ml := []) (gV := fun vs zs => vs ++ zs) (fun q hq => nomatch hq) (fun us ws l1 l2 => match us, ws, l1, l2 with | [_, _, _], [_], _, _ => (show _ = pure _ from rfl)) (fun _ _ r1 r2 => r1.append r2), fun r1 r2 => r1.append r2⟩⟩
  have kb14_way : ∃ g, KBn K (PySem.W.fnOf "joined" "joined" (defArgs s_joined) (defBody s_joined) (defScope s_joined) .none (.ref Dk14) dc14 pm14 an14 cd14 ct14) ["form", "a", "b", "c", "way"] 4 ["way"] g (fun vs zs => vs ++ zs) := ⟨fun vs zs => vs ++ zs, ⟨kbn_of (st := s_joined) (ml := []) (gV := fun vs zs => vs ++ zs) (fun q hq => nomatch hq) (fun us ws l1 l2 => match us, ws, l1, l2 with | [_, _, _, _], [_], _, _ => (show _ = pure _ from rfl)) (fun _ _ r1 r2 => r1.append r2), fun r1 r2 => r1.append r2⟩⟩
  have L : LL K mg C f1 f2 f3 f4 f5 f6 f7 f8 f9 f10 f11 f12 f13 f14 f15 f16 f17 f18 f19 f20 f21 f22 f23 f24 f25 f26 f27 f28 f29 f30 f31 f32 f33 f34 f35 f36 f37 f38 f39 f40 f42 f43 f44 f45 f46 f47 f48 f49 f50 f51 f52 f53 _ _ _ _ _ _ _ _ _ _ _ _ _ _ _ _ _ _ _ _ _ _ _ _ _ _ _ _ _ _ _ _ _ _ _ _ _ _ _ _ _ _ _ _ _ _ _ _ _ _ _ _ vT48 vT49 vT50 tgNEAR tgCUT tgUP tgDOWN fF := ⟨F1, m1, b1, F2, m2, b2, F3, m3, b3, F4, m4, kb4_way, kb4_way_more, F5, m5, b5, F6, m6, b6, F7, m7, b7, F8, m8, b8, F9, m9, b9, F10, m10, kb10_way, F11, m11, kb11_way, F12, m12, kb12_way, F13, m13, kb13_way, F14, m14, kb14_way, F15, m15, b15, F16, m16, b16, F17, m17, b17, F18, m18, b18, F19, m19, b19, F20, m20, b20, F21, m21, b21, F22, m22, b22, F23, m23, b23, F24, m24, b24, F25, m25, b25, F26, m26, b26, F27, m27, b27, F28, m28, b28, F29, m29, b29, F30, m30, b30, F31, m31, b31, F32, m32, b32, F33, m33, b33, F34, m34, b34, F35, m35, b35, F36, m36, b36, F37, m37, b37, F38, m38, b38, F39, m39, b39, F40, m40, b40, ⟨clC, naC0, naC1, mgC⟩, ⟨mkC, a42, i42, kcC⟩, F42, b42, F43, b43, M43, F44, b44, M44, F45, b45, M45, F46, b46, M46, F47, b47, M47, F48, b48, M48, d48, F49, b49, M49, d49, F50, b50, M50, d50, F51, b51, M51, F52, b52, M52, F53, b53, M53, PySem.W.mg_of X G gNEAR, PySem.W.mg_of X G gCUT, PySem.W.mg_of X G gUP, PySem.W.mg_of X G gDOWN, ⟨PySem.W.mg_of X G aW, fun H => .inr ⟨_, _, _, lW, rfl, rfl, (by show 4 ≤ sizeLine; decide), .cons ⟨_, rfl⟩ (.cons ⟨_, rfl⟩ (.cons ⟨_, rfl⟩ (.cons ⟨_, rfl⟩ .nil)))⟩⟩⟩
  exact ok_law F41 B L
end GZ
open PySem PySem.W PyProof.Rows
set_option maxRecDepth 100000 in
set_option maxHeartbeats 0 in
theorem PySem.Challenge.cw_guessedzeros_k18_words_of_all_sorts_holds : PySem.Challenge.rw_guessedzeros_k18_words_of_all_sorts.Holds := by
  w_on; o_law; k_head; (case hw => w_witness2)
  k_fill
  refine L2.walk_of (l := PySem.Challenge.rw_guessedzeros_k18_words_of_all_sorts) (n := 63) (k := 10) (x := "_law_script") (CX := fun _ => L2.CX0) (sp := fun w => GZ.spLaw _) rfl (by decide) rfl ⟨rfl, by decide, by decide⟩ (fun w h Y => PySem.W.kIn_of Y) ?F (fun _ _ a ns hl _ hS => ⟨a, ns, rfl, hS, hl, fun _ => rfl⟩) (fun _ _ _ _ _ h => h)
  case F =>
    intro w mg fa h KX G hmg
    refine' GZ.all_mk KX G hmg ?a1 ?l1 ?c1 ?k1 ?a2 ?l2 ?c2 ?k2 ?a3 ?l3 ?c3 ?k3 ?a4 ?l4 ?c4 ?k4 ?w4_0 ?w4_1 ?a5 ?l5 ?c5 ?k5 ?a6 ?l6 ?c6 ?k6 ?a7 ?l7 ?c7 ?k7 ?a8 ?l8 ?c8 ?k8 ?a9 ?l9 ?c9 ?k9 ?a10 ?l10 ?c10 ?k10 ?w10_0 ?a11 ?l11 ?c11 ?k11 ?w11_0 ?a12 ?l12 ?c12 ?k12 ?w12_0 ?a13 ?l13 ?c13 ?k13 ?w13_0 ?a14 ?l14 ?c14 ?k14 ?w14_0 ?a15 ?l15 ?c15 ?k15 ?a16 ?l16 ?c16 ?k16 ?a17 ?l17 ?c17 ?k17 ?a18 ?l18 ?c18 ?k18 ?a19 ?l19 ?c19 ?k19 ?a20 ?l20 ?c20 ?k20 ?a21 ?l21 ?c21 ?k21 ?a22 ?l22 ?c22 ?k22 ?a23 ?l23 ?c23 ?k23 ?a24 ?l24 ?c24 ?k24 ?a25 ?l25 ?c25 ?k25 ?a26 ?l26 ?c26 ?k26 ?a27 ?l27 ?c27 ?k27 ?a28 ?l28 ?c28 ?k28 ?a29 ?l29 ?c29 ?k29 ?a30 ?l30 ?c30 ?k30 ?a31 ?l31 ?c31 ?k31 ?a32 ?l32 ?c32 ?k32 ?a33 ?l33 ?c33 ?k33 ?a34 ?l34 ?c34 ?k34 ?a35 ?l35 ?c35 ?k35 ?a36 ?l36 ?c36 ?k36 ?a37 ?l37 ?c37 ?k37 ?a38 ?l38 ?c38 ?k38 ?a39 ?l39 ?c39 ?k39 ?a40 ?l40 ?c40 ?k40 ?a41 ?l41 ?c41 ?k41 ?aC ?pgC ?hdC ?poC ?saC ?mkC ?kcC ?naC0 ?naC1 ?a42 ?i42 ?l42 ?c42 ?k42 ?a43 ?i43 ?l43 ?c43 ?k43 ?a44 ?i44 ?l44 ?c44 ?k44 ?a45 ?i45 ?l45 ?c45 ?k45 ?a46 ?i46 ?l46 ?c46 ?k46 ?a47 ?i47 ?l47 ?c47 ?k47 ?a48 ?i48 ?l48 ?c48 ?k48 ?t48 ?a49 ?i49 ?l49 ?c49 ?k49 ?t49 ?a50 ?i50 ?l50 ?c50 ?k50 ?t50 ?a51 ?i51 ?l51 ?c51 ?k51 ?a52 ?i52 ?l52 ?c52 ?k52 ?a53 ?i53 ?l53 ?c53 ?k53 ?z1 ?z2 ?z3 ?z4 ?z5 ?z6 ?z7 ?z8 ?z9 ?z10 ?z11 ?z12 ?z13 ?z14 ?z15 ?z16 ?z17 ?gNEAR ?gCUT ?gUP ?gDOWN ?aW ?lW
    (case a1 => k_is)
    (case l1 => k_is)
    (case c1 => k_is)
    (case k1 => k_is)
    (case a2 => k_is)
    (case l2 => k_is)
    (case c2 => k_is)
    (case k2 => k_is)
    (case a3 => k_is)
    (case l3 => k_is)
    (case c3 => k_is)
    (case k3 => k_is)
    (case a4 => k_is)
    (case l4 => k_is)
    (case c4 => k_is)
    (case k4 => k_is)
    (case w4_0 => k_is)
    (case w4_1 => k_is)
    (case a5 => k_is)
    (case l5 => k_is)
    (case c5 => k_is)
    (case k5 => k_is)
    (case a6 => k_is)
    (case l6 => k_is)
    (case c6 => k_is)
    (case k6 => k_is)
    (case a7 => k_is)
    (case l7 => k_is)
    (case c7 => k_is)
    (case k7 => k_is)
    (case a8 => k_is)
    (case l8 => k_is)
    (case c8 => k_is)
    (case k8 => k_is)
    (case a9 => k_is)
    (case l9 => k_is)
    (case c9 => k_is)
    (case k9 => k_is)
    (case a10 => k_is)
    (case l10 => k_is)
    (case c10 => k_is)
    (case k10 => k_is)
    (case w10_0 => k_is)
    (case a11 => k_is)
    (case l11 => k_is)
    (case c11 => k_is)
    (case k11 => k_is)
    (case w11_0 => k_is)
    (case a12 => k_is)
    (case l12 => k_is)
    (case c12 => k_is)
    (case k12 => k_is)
    (case w12_0 => k_is)
    (case a13 => k_is)
    (case l13 => k_is)
    (case c13 => k_is)
    (case k13 => k_is)
    (case w13_0 => k_is)
    (case a14 => k_is)
    (case l14 => k_is)
    (case c14 => k_is)
    (case k14 => k_is)
    (case w14_0 => k_is)
    (case a15 => k_is)
    (case l15 => k_is)
    (case c15 => k_is)
    (case k15 => k_is)
    (case a16 => k_is)
    (case l16 => k_is)
    (case c16 => k_is)
    (case k16 => k_is)
    (case a17 => k_is)
    (case l17 => k_is)
    (case c17 => k_is)
    (case k17 => k_is)
    (case a18 => k_is)
    (case l18 => k_is)
    (case c18 => k_is)
    (case k18 => k_is)
    (case a19 => k_is)
    (case l19 => k_is)
    (case c19 => k_is)
    (case k19 => k_is)
    (case a20 => k_is)
    (case l20 => k_is)
    (case c20 => k_is)
    (case k20 => k_is)
    (case a21 => k_is)
    (case l21 => k_is)
    (case c21 => k_is)
    (case k21 => k_is)
    (case a22 => k_is)
    (case l22 => k_is)
    (case c22 => k_is)
    (case k22 => k_is)
    (case a23 => k_is)
    (case l23 => k_is)
    (case c23 => k_is)
    (case k23 => k_is)
    (case a24 => k_is)
    (case l24 => k_is)
    (case c24 => k_is)
    (case k24 => k_is)
    (case a25 => k_is)
    (case l25 => k_is)
    (case c25 => k_is)
    (case k25 => k_is)
    (case a26 => k_is)
    (case l26 => k_is)
    (case c26 => k_is)
    (case k26 => k_is)
    (case a27 => k_is)
    (case l27 => k_is)
    (case c27 => k_is)
    (case k27 => k_is)
    (case a28 => k_is)
    (case l28 => k_is)
    (case c28 => k_is)
    (case k28 => k_is)
    (case a29 => k_is)
    (case l29 => k_is)
    (case c29 => k_is)
    (case k29 => k_is)
    (case a30 => k_is)
    (case l30 => k_is)
    (case c30 => k_is)
    (case k30 => k_is)
    (case a31 => k_is)
    (case l31 => k_is)
    (case c31 => k_is)
    (case k31 => k_is)
    (case a32 => k_is)
    (case l32 => k_is)
    (case c32 => k_is)
    (case k32 => k_is)
    (case a33 => k_is)
    (case l33 => k_is)
    (case c33 => k_is)
    (case k33 => k_is)
    (case a34 => k_is)
    (case l34 => k_is)
    (case c34 => k_is)
    (case k34 => k_is)
    (case a35 => k_is)
    (case l35 => k_is)
    (case c35 => k_is)
    (case k35 => k_is)
    (case a36 => k_is)
    (case l36 => k_is)
    (case c36 => k_is)
    (case k36 => k_is)
    (case a37 => k_is)
    (case l37 => k_is)
    (case c37 => k_is)
    (case k37 => k_is)
    (case a38 => k_is)
    (case l38 => k_is)
    (case c38 => k_is)
    (case k38 => k_is)
    (case a39 => k_is)
    (case l39 => k_is)
    (case c39 => k_is)
    (case k39 => k_is)
    (case a40 => k_is)
    (case l40 => k_is)
    (case c40 => k_is)
    (case k40 => k_is)
    (case a41 => k_is)
    (case l41 => k_is)
    (case c41 => k_is)
    (case k41 => k_is)
    (case aC => k_is)
    (case pgC => k_is)
    (case hdC => k_is)
    (case poC => k_is)
    (case saC => k_is)
    (case mkC => k_is)
    (case kcC => k_is)
    (case naC0 => k_is)
    (case naC1 => k_is)
    (case a42 => k_is)
    (case i42 => k_is)
    (case l42 => k_is)
    (case c42 => k_is)
    (case k42 => k_is)
    (case a43 => k_is)
    (case i43 => k_is)
    (case l43 => k_is)
    (case c43 => k_is)
    (case k43 => k_is)
    (case a44 => k_is)
    (case i44 => k_is)
    (case l44 => k_is)
    (case c44 => k_is)
    (case k44 => k_is)
    (case a45 => k_is)
    (case i45 => k_is)
    (case l45 => k_is)
    (case c45 => k_is)
    (case k45 => k_is)
    (case a46 => k_is)
    (case i46 => k_is)
    (case l46 => k_is)
    (case c46 => k_is)
    (case k46 => k_is)
    (case a47 => k_is)
    (case i47 => k_is)
    (case l47 => k_is)
    (case c47 => k_is)
    (case k47 => k_is)
    (case a48 => k_is)
    (case i48 => k_is)
    (case l48 => k_is)
    (case c48 => k_is)
    (case k48 => k_is)
    (case t48 => k_is)
    (case a49 => k_is)
    (case i49 => k_is)
    (case l49 => k_is)
    (case c49 => k_is)
    (case k49 => k_is)
    (case t49 => k_is)
    (case a50 => k_is)
    (case i50 => k_is)
    (case l50 => k_is)
    (case c50 => k_is)
    (case k50 => k_is)
    (case t50 => k_is)
    (case a51 => k_is)
    (case i51 => k_is)
    (case l51 => k_is)
    (case c51 => k_is)
    (case k51 => k_is)
    (case a52 => k_is)
    (case i52 => k_is)
    (case l52 => k_is)
    (case c52 => k_is)
    (case k52 => k_is)
    (case a53 => k_is)
    (case i53 => k_is)
    (case l53 => k_is)
    (case c53 => k_is)
    (case k53 => k_is)
    (case z1 => k_is)
    (case z2 => k_is)
    (case z3 => k_is)
    (case z4 => k_is)
    (case z5 => k_is)
    (case z6 => k_is)
    (case z7 => k_is)
    (case z8 => k_is)
    (case z9 => k_is)
    (case z10 => k_is)
    (case z11 => k_is)
    (case z12 => k_is)
    (case z13 => k_is)
    (case z14 => k_is)
    (case z15 => k_is)
    (case z16 => k_is)
    (case z17 => k_is)
    (case gNEAR => k_is)
    (case gCUT => k_is)
    (case gUP => k_is)
    (case gDOWN => k_is)
    (case aW => k_is)
    (case lW => k_is)

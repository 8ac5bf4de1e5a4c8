import PyProof.Rows.All
import Wide.All
import OpenK.AllK
import Wide.FinOn
import HandS.ForMost
import HandS.Walk
import HandS.Zip
import HandS.WideBits
import HandS.IsInst
import OpenK.KEqL
import HandS.More
import HandS.Flow
import HandS.NoneIn
import HandS.Defaults
import HandS.Wide
import HandS.Style
import HandS.Star
import KE.KStar
import PyProof.Rows.CallKw2
import PySem.Challenge.RW_guessedzeros_k33_products_step_by_step
set_option Elab.async false
set_option linter.all false
set_option maxRecDepth 100000
set_option maxHeartbeats 40000000
namespace GZ
open PySem PySem.Spec PyProof.Rows L2
/-! ### the text by places -/
def topS (i : Nat) : Stmt := PySem.Challenge.pw_guessedzeros_k33_products_step_by_step.main.body.getD i (.Pass ⟨0, 0, 0, 0⟩)
abbrev s_cut_off : Stmt := topS 9
theorem sc_cut_off : FnScope ["number", "by", "kept"] ["number", "by"] (defScope s_cut_off) := ⟨rfl, rfl, rfl, by decide +kernel, rfl, by decide +kernel, by decide +kernel⟩
abbrev s_last_power : Stmt := topS 10
theorem sc_last_power : FnScope ["form", "number", "power"] ["form", "number", "power"] (defScope s_last_power) := ⟨rfl, rfl, rfl, by decide +kernel, rfl, by decide +kernel, by decide +kernel⟩
abbrev s_least_power : Stmt := topS 11
theorem sc_least_power : FnScope ["form"] ["form"] (defScope s_least_power) := ⟨rfl, rfl, rfl, by decide +kernel, rfl, by decide +kernel, by decide +kernel⟩
abbrev s_rounded : Stmt := topS 12
theorem sc_rounded : FnScope ["form", "sign", "number", "power", "way", "more", "last", "many", "rest", "size"] ["form", "sign", "number", "power", "way", "more"] (defScope s_rounded) := ⟨rfl, rfl, rfl, by decide +kernel, rfl, by decide +kernel, by decide +kernel⟩
abbrev s_parted : Stmt := topS 13
theorem sc_parted : FnScope ["number", "by", "more", "halves", "below"] ["number", "by", "more"] (defScope s_parted) := ⟨rfl, rfl, rfl, by decide +kernel, rfl, by decide +kernel, by decide +kernel⟩
abbrev s_goes_up : Stmt := topS 14
theorem sc_goes_up : FnScope ["way", "sign", "many", "rest"] ["way", "sign", "many", "rest"] (defScope s_goes_up) := ⟨rfl, rfl, rfl, by decide +kernel, rfl, by decide +kernel, by decide +kernel⟩
abbrev s_goes_away : Stmt := topS 15
theorem sc_goes_away : FnScope ["way", "sign"] ["way", "sign"] (defScope s_goes_away) := ⟨rfl, rfl, rfl, by decide +kernel, rfl, by decide +kernel, by decide +kernel⟩
abbrev s_word_beyond : Stmt := topS 16
theorem sc_word_beyond : FnScope ["form", "sign", "way"] ["form", "sign", "way"] (defScope s_word_beyond) := ⟨rfl, rfl, rfl, by decide +kernel, rfl, by decide +kernel, by decide +kernel⟩
abbrev s_flags_of_rest : Stmt := topS 17
theorem sc_flags_of_rest : FnScope ["form", "number", "power", "rest"] ["form", "number", "power", "rest"] (defScope s_flags_of_rest) := ⟨rfl, rfl, rfl, by decide +kernel, rfl, by decide +kernel, by decide +kernel⟩
abbrev s_added : Stmt := topS 19
theorem sc_added : FnScope ["form", "a", "b", "way"] ["form", "a", "b", "way"] (defScope s_added) := ⟨rfl, rfl, rfl, by decide +kernel, rfl, by decide +kernel, by decide +kernel⟩
abbrev s_taken : Stmt := topS 20
theorem sc_taken : FnScope ["form", "a", "b", "way"] ["form", "a", "b", "way"] (defScope s_taken) := ⟨rfl, rfl, rfl, by decide +kernel, rfl, by decide +kernel, by decide +kernel⟩
abbrev s_multiplied : Stmt := topS 21
theorem sc_multiplied : FnScope ["form", "a", "b", "way", "sign", "worth", "number", "power"] ["form", "a", "b", "way"] (defScope s_multiplied) := ⟨rfl, rfl, rfl, by decide +kernel, rfl, by decide +kernel, by decide +kernel⟩
abbrev s_divided : Stmt := topS 22
theorem sc_divided : FnScope ["form", "a", "b", "way", "one", "other", "sign"] ["form", "a", "b", "way"] (defScope s_divided) := ⟨rfl, rfl, rfl, by decide +kernel, rfl, by decide +kernel, by decide +kernel⟩
abbrev s_joined : Stmt := topS 23
theorem sc_joined : FnScope ["form", "a", "b", "c", "way"] ["form", "a", "b", "c", "way"] (defScope s_joined) := ⟨rfl, rfl, rfl, by decide +kernel, rfl, by decide +kernel, by decide +kernel⟩
abbrev s_has_none : Stmt := topS 24
theorem sc_has_none : FnScope ["form", "words", "word"] ["form", "words"] (defScope s_has_none) := ⟨rfl, rfl, rfl, by decide +kernel, rfl, by decide +kernel, by decide +kernel⟩
abbrev s_bad : Stmt := topS 25
theorem sc_bad : FnScope ["form"] ["form"] (defScope s_bad) := ⟨rfl, rfl, rfl, by decide +kernel, rfl, by decide +kernel, by decide +kernel⟩
abbrev s_is_endless_by_nought : Stmt := topS 26
theorem sc_is_endless_by_nought : FnScope ["form", "a", "b", "sorts"] ["form", "a", "b"] (defScope s_is_endless_by_nought) := ⟨rfl, rfl, rfl, by decide +kernel, rfl, by decide +kernel, by decide +kernel⟩
abbrev s_sign_of : Stmt := topS 27
theorem sc_sign_of : FnScope ["form", "word"] ["form", "word"] (defScope s_sign_of) := ⟨rfl, rfl, rfl, by decide +kernel, rfl, by decide +kernel, by decide +kernel⟩
abbrev s_unlike_sign : Stmt := topS 28
theorem sc_unlike_sign : FnScope ["form", "a", "b"] ["form", "a", "b"] (defScope s_unlike_sign) := ⟨rfl, rfl, rfl, by decide +kernel, rfl, by decide +kernel, by decide +kernel⟩
abbrev s_term_of : Stmt := topS 29
theorem sc_term_of : FnScope ["form", "word"] ["form", "word"] (defScope s_term_of) := ⟨rfl, rfl, rfl, by decide +kernel, rfl, by decide +kernel, by decide +kernel⟩
abbrev s_product_of : Stmt := topS 30
theorem sc_product_of : FnScope ["form", "a", "b", "sign", "one", "other"] ["form", "a", "b"] (defScope s_product_of) := ⟨rfl, rfl, rfl, by decide +kernel, rfl, by decide +kernel, by decide +kernel⟩
abbrev s_terms_added : Stmt := topS 31
theorem sc_terms_added : FnScope ["form", "one", "other", "way", "sign", "worth", "other_sign", "other_worth", "total", "power"] ["form", "one", "other", "way"] (defScope s_terms_added) := ⟨rfl, rfl, rfl, by decide +kernel, rfl, by decide +kernel, by decide +kernel⟩
abbrev s_nought_sign : Stmt := topS 32
theorem sc_nought_sign : FnScope ["sign", "other_sign", "way"] ["sign", "other_sign", "way"] (defScope s_nought_sign) := ⟨rfl, rfl, rfl, by decide +kernel, rfl, by decide +kernel, by decide +kernel⟩
abbrev s_worths_added : Stmt := topS 33
theorem sc_worths_added : FnScope ["one", "other", "number", "power", "other_number", "other_power", "least"] ["one", "other"] (defScope s_worths_added) := ⟨rfl, rfl, rfl, by decide +kernel, rfl, by decide +kernel, by decide +kernel⟩
abbrev s_quotient_rounded : Stmt := topS 34
theorem sc_quotient_rounded : FnScope ["form", "sign", "one", "other", "way", "number", "power", "divisor", "divisor_power", "by", "quotient", "rest"] ["form", "sign", "one", "other", "way"] (defScope s_quotient_rounded) := ⟨rfl, rfl, rfl, by decide +kernel, rfl, by decide +kernel, by decide +kernel⟩
abbrev s_done : Stmt := topS 36
theorem sc_done : FnScope ["form", "op", "words", "way", "reckon"] ["form", "op", "words", "way"] (defScope s_done) := ⟨rfl, rfl, rfl, by decide +kernel, rfl, by decide +kernel, by decide +kernel⟩
abbrev s_have_heads : Stmt := topS 38
theorem sc_have_heads : FnScope ["form", "words", "word"] ["form", "words"] (defScope s_have_heads) := ⟨rfl, rfl, rfl, by decide +kernel, rfl, by decide +kernel, by decide +kernel⟩
abbrev s_head_of : Stmt := topS 39
theorem sc_head_of : FnScope ["form", "word", "number", "power"] ["form", "word"] (defScope s_head_of) := ⟨rfl, rfl, rfl, by decide +kernel, rfl, by decide +kernel, by decide +kernel⟩
abbrev s_plain_step : Stmt := topS 40
theorem sc_plain_step : FnScope ["name", "form", "op", "words", "way", "word", "flags"] ["name", "form", "op", "words", "way"] (defScope s_plain_step) := ⟨rfl, rfl, rfl, by decide +kernel, rfl, by decide +kernel, by decide +kernel⟩
abbrev s_round_step : Stmt := topS 41
theorem sc_round_step : FnScope ["form", "sign", "total", "power", "way", "more", "word", "flags"] ["form", "sign", "total", "power", "way", "more"] (defScope s_round_step) := ⟨rfl, rfl, rfl, by decide +kernel, rfl, by decide +kernel, by decide +kernel⟩
abbrev s_fours_of : Stmt := topS 43
theorem sc_fours_of : FnScope ["number", "doubled", "place"] ["number"] (defScope s_fours_of) := ⟨rfl, rfl, rfl, by decide +kernel, rfl, by decide +kernel, by decide +kernel⟩
abbrev s_four_of : Stmt := topS 44
theorem sc_four_of : FnScope ["bits"] ["bits"] (defScope s_four_of) := ⟨rfl, rfl, rfl, by decide +kernel, rfl, by decide +kernel, by decide +kernel⟩
abbrev s_rows_of : Stmt := topS 45
theorem sc_rows_of : FnScope ["one", "number", "fours", "last", "at", "four"] ["one", "number"] (defScope s_rows_of) := ⟨rfl, rfl, rfl, by decide +kernel, rfl, by decide +kernel, by decide +kernel⟩
abbrev s_saved : Stmt := topS 46
theorem sc_saved : FnScope ["x", "y", "z"] ["x", "y", "z"] (defScope s_saved) := ⟨rfl, rfl, rfl, by decide +kernel, rfl, by decide +kernel, by decide +kernel⟩
abbrev s_levels_of : Stmt := topS 47
theorem sc_levels_of : FnScope ["rows", "levels"] ["rows"] (defScope s_levels_of) := ⟨rfl, rfl, rfl, by decide +kernel, rfl, by decide +kernel, by decide +kernel⟩
abbrev s_level_behind : Stmt := topS 48
theorem sc_level_behind : FnScope ["rows", "by_threes", "level", "at"] ["rows"] (defScope s_level_behind) := ⟨rfl, rfl, rfl, by decide +kernel, rfl, by decide +kernel, by decide +kernel⟩
abbrev s_times_steps : Stmt := topS 49
theorem sc_times_steps : FnScope ["form", "a", "b", "way", "head", "power", "number", "other_power", "levels", "one", "other", "total"] ["form", "a", "b", "way"] (defScope s_times_steps) := ⟨rfl, rfl, rfl, by decide +kernel, rfl, by decide +kernel, by decide +kernel⟩
abbrev s_is_number : Stmt := topS 51
theorem sc_is_number : FnScope ["thing"] ["thing"] (defScope s_is_number) := ⟨rfl, rfl, rfl, by decide +kernel, rfl, by decide +kernel, by decide +kernel⟩
abbrev s_is_number_in : Stmt := topS 52
theorem sc_is_number_in : FnScope ["least", "greatest", "thing"] ["least", "greatest", "thing"] (defScope s_is_number_in) := ⟨rfl, rfl, rfl, by decide +kernel, rfl, by decide +kernel, by decide +kernel⟩
abbrev s_Form___init__ : Stmt := inClass (topS 54) 0
theorem sc_Form___init__ : FnScope ["self", "scale", "tail"] ["self", "scale", "tail"] (defScope s_Form___init__) := ⟨rfl, rfl, rfl, by decide +kernel, rfl, by decide +kernel, by decide +kernel⟩
abbrev s_Form_bias : Stmt := inClass (topS 54) 2
theorem sc_Form_bias : FnScope ["self"] ["self"] (defScope s_Form_bias) := ⟨rfl, rfl, rfl, by decide +kernel, rfl, by decide +kernel, by decide +kernel⟩
abbrev s_Form_top : Stmt := inClass (topS 54) 3
theorem sc_Form_top : FnScope ["self"] ["self"] (defScope s_Form_top) := ⟨rfl, rfl, rfl, by decide +kernel, rfl, by decide +kernel, by decide +kernel⟩
abbrev s_Form_parts : Stmt := inClass (topS 54) 4
theorem sc_Form_parts : FnScope ["self", "word", "sign", "scale", "tail"] ["self", "word"] (defScope s_Form_parts) := ⟨rfl, rfl, rfl, by decide +kernel, rfl, by decide +kernel, by decide +kernel⟩
abbrev s_Form_word_of : Stmt := inClass (topS 54) 5
theorem sc_Form_word_of : FnScope ["self", "sign", "scale", "tail"] ["self", "sign", "scale", "tail"] (defScope s_Form_word_of) := ⟨rfl, rfl, rfl, by decide +kernel, rfl, by decide +kernel, by decide +kernel⟩
abbrev s_Form_sort_of : Stmt := inClass (topS 54) 7
theorem sc_Form_sort_of : FnScope ["self", "word", "sign", "scale", "tail"] ["self", "word"] (defScope s_Form_sort_of) := ⟨rfl, rfl, rfl, by decide +kernel, rfl, by decide +kernel, by decide +kernel⟩
abbrev s_Form_nought : Stmt := inClass (topS 54) 8
theorem sc_Form_nought : FnScope ["self", "sign"] ["self", "sign"] (defScope s_Form_nought) := ⟨rfl, rfl, rfl, by decide +kernel, rfl, by decide +kernel, by decide +kernel⟩
abbrev s_Form_endless : Stmt := inClass (topS 54) 9
theorem sc_Form_endless : FnScope ["self", "sign"] ["self", "sign"] (defScope s_Form_endless) := ⟨rfl, rfl, rfl, by decide +kernel, rfl, by decide +kernel, by decide +kernel⟩
abbrev s_Form_greatest : Stmt := inClass (topS 54) 10
theorem sc_Form_greatest : FnScope ["self", "sign"] ["self", "sign"] (defScope s_Form_greatest) := ⟨rfl, rfl, rfl, by decide +kernel, rfl, by decide +kernel, by decide +kernel⟩
abbrev s_Form_none_word : Stmt := inClass (topS 54) 12
theorem sc_Form_none_word : FnScope ["self"] ["self"] (defScope s_Form_none_word) := ⟨rfl, rfl, rfl, by decide +kernel, rfl, by decide +kernel, by decide +kernel⟩
abbrev s_Form_turned : Stmt := inClass (topS 54) 13
theorem sc_Form_turned : FnScope ["self", "word", "sign", "scale", "tail"] ["self", "word"] (defScope s_Form_turned) := ⟨rfl, rfl, rfl, by decide +kernel, rfl, by decide +kernel, by decide +kernel⟩
abbrev s_Form_worth : Stmt := inClass (topS 54) 14
theorem sc_Form_worth : FnScope ["self", "word", "sign", "scale", "tail", "number", "power"] ["self", "word"] (defScope s_Form_worth) := ⟨rfl, rfl, rfl, by decide +kernel, rfl, by decide +kernel, by decide +kernel⟩
abbrev sBox : Stmt := topS 56
abbrev sTake : Stmt := topS 57
abbrev sFolded : Stmt := topS 58
abbrev sSame : Stmt := topS 59
abbrev s__law_form : Stmt := topS 60
theorem sc__law_form : FnScope ["_law_box_here", "_law_some"] ["_law_box_here"] (defScope s__law_form) := ⟨rfl, rfl, rfl, by decide +kernel, rfl, by decide +kernel, by decide +kernel⟩
abbrev s__law_word : Stmt := topS 61
theorem sc__law_word : FnScope ["_law_box_here", "_law_scale", "_law_tail", "_law_top", "_law_some", "_law_how", "_law_word_here"] ["_law_box_here", "_law_scale", "_law_tail"] (defScope s__law_word) := ⟨rfl, rfl, rfl, by decide +kernel, rfl, by decide +kernel, by decide +kernel⟩
abbrev s__law_sort : Stmt := topS 62
theorem sc__law_sort : FnScope ["_law_word_here", "_law_scale", "_law_tail", "_law_size", "_law_top"] ["_law_word_here", "_law_scale", "_law_tail"] (defScope s__law_sort) := ⟨rfl, rfl, rfl, by decide +kernel, rfl, by decide +kernel, by decide +kernel⟩
abbrev s__law_size_of : Stmt := topS 63
theorem sc__law_size_of : FnScope ["_law_size", "_law_scale", "_law_tail", "_law_high", "_law_low", "_law_bias"] ["_law_size", "_law_scale", "_law_tail"] (defScope s__law_size_of) := ⟨rfl, rfl, rfl, by decide +kernel, rfl, by decide +kernel, by decide +kernel⟩
abbrev s__law_less : Stmt := topS 64
theorem sc__law_less : FnScope ["_law_one", "_law_other", "_law_low", "_law_mine", "_law_its"] ["_law_one", "_law_other"] (defScope s__law_less) := ⟨rfl, rfl, rfl, by decide +kernel, rfl, by decide +kernel, by decide +kernel⟩
abbrev s__law_rounded : Stmt := topS 65
theorem sc__law_rounded : FnScope ["_law_scale", "_law_tail", "_law_sign", "_law_worth", "_law_how", "_law_low", "_law_high", "_law_mid", "_law_beyond", "_law_just", "_law_one", "_law_other", "_law_base", "_law_half", "_law_side", "_law_away", "_law_size", "_law_over", "_law_under"] ["_law_scale", "_law_tail", "_law_sign", "_law_worth", "_law_how"] (defScope s__law_rounded) := ⟨rfl, rfl, rfl, by decide +kernel, rfl, by decide +kernel, by decide +kernel⟩
abbrev s__law_head : Stmt := topS 66
theorem sc__law_head : FnScope ["_law_scale", "_law_tail", "_law_word_here", "_law_number", "_law_power"] ["_law_scale", "_law_tail", "_law_word_here"] (defScope s__law_head) := ⟨rfl, rfl, rfl, by decide +kernel, rfl, by decide +kernel, by decide +kernel⟩
abbrev s__law_fours : Stmt := topS 67
theorem sc__law_fours : FnScope ["_law_number", "_law_found", "_law_over", "_law_at", "_law_two"] ["_law_number"] (defScope s__law_fours) := ⟨rfl, rfl, rfl, by decide +kernel, rfl, by decide +kernel, by decide +kernel⟩
abbrev s__law_last_level : Stmt := topS 68
theorem sc__law_last_level : FnScope ["_law_rows", "_law_many", "_law_last", "_law_here", "_law_at", "_law_x", "_law_y", "_law_z"] ["_law_rows"] (defScope s__law_last_level) := ⟨rfl, rfl, rfl, by decide +kernel, rfl, by decide +kernel, by decide +kernel⟩
abbrev s__law_times_due : Stmt := topS 69
theorem sc__law_times_due : FnScope ["_law_scale", "_law_tail", "_law_a", "_law_b", "_law_how", "_law_sign", "_law_one", "_law_power", "_law_beside", "_law_other", "_law_below", "_law_digits", "_law_rows", "_law_many", "_law_last", "_law_told", "_law_steps", "_law_at", "_law_digit"] ["_law_scale", "_law_tail", "_law_a", "_law_b", "_law_how"] (defScope s__law_times_due) := ⟨rfl, rfl, rfl, by decide +kernel, rfl, by decide +kernel, by decide +kernel⟩
abbrev s__law_told_times : Stmt := topS 70
theorem sc__law_told_times : FnScope ["_law_scale", "_law_tail", "_law_a", "_law_b", "_law_sorts", "_law_none", "_law_sign", "_law_word_here"] ["_law_scale", "_law_tail", "_law_a", "_law_b"] (defScope s__law_told_times) := ⟨rfl, rfl, rfl, by decide +kernel, rfl, by decide +kernel, by decide +kernel⟩
abbrev s__law_right : Stmt := topS 71
theorem sc__law_right : FnScope ["_law_box_here", "_law_scale", "_law_tail", "_law_form_here", "_law_a", "_law_b", "_law_real", "_law_how", "_law_due", "_law_found", "_law_word_here"] ["_law_box_here"] (defScope s__law_right) := ⟨rfl, rfl, rfl, by decide +kernel, rfl, by decide +kernel, by decide +kernel⟩
abbrev s_law : Stmt := topS 72
theorem sc_law : FnScope ["_law_script", "_law_cells", "_law_k", "_law_box_here", "_law_turn"] ["_law_script"] (defScope s_law) := ⟨rfl, rfl, rfl, by decide +kernel, rfl, by decide +kernel, by decide +kernel⟩
/-! ### built-in names that the text leaves alone -/
structure Bl (mg : Str → Option Value) : Prop where
  len : mg "len" = none
  abs : mg "abs" = none
  int : mg "int" = none
  divmod : mg "divmod" = none
  list : mg "list" = none
  enumerate : mg "enumerate" = none
  isinstance : mg "isinstance" = none
  tuple : mg "tuple" = none
  str : mg "str" = none
  bool : mg "bool" = none
  zip : mg "zip" = none
  all : mg "all" = none
  range : mg "range" = none
  max : mg "max" = none
  any : mg "any" = none
  min : mg "min" = none
  sum : mg "sum" = none
/-! ### rules with the written part told (for the blocks of comprehensions) -/
section
variable {X : Cx} {K : PySem.W.Frag}
theorem call_len_seqK (h : X.K = K := by rfl) : CallR X (.builtin "len") (fun xs H Q => ∃ p ys, xs = [.ref p] ∧ (SqL K H p ys ∨ SqT K H p ys) ∧ Q (.int ys.length) H) := by subst h; exact call_len_seq
theorem call_list_ofK (h : X.K = K := by rfl) : CallR X (.type "list") (fun xs H Q => ∃ p ys, xs = [.ref p] ∧ (SqL K H p ys ∨ SqT K H p ys) ∧ ∀ l, H l = none → Q (.ref l) (upd H l (.lst ys))) := by subst h; exact call_list_of
theorem call_tuple_ofK (h : X.K = K := by rfl) : CallR X (.type "tuple") (fun xs H Q => ∃ p ys, xs = [.ref p] ∧ ((SqL K H p ys ∧ ∀ l, H l = none → Q (.ref l) (upd H l (.tup ys))) ∨ (SqT K H p ys ∧ Q (.ref p) H))) := by subst h; exact call_tuple_of
theorem ix_listK (h : X.K = K := by rfl) : IxR X (rIxL K) := by subst h; exact ix_list
theorem ix_tupK (h : X.K = K := by rfl) : IxR X (rIxT K) := by subst h; exact ix_tup
theorem ix_seqK (h : X.K = K := by rfl) : IxR X (rIx K) := by subst h; exact ix_seq
theorem op_in_seqK (h : X.K = K := by rfl) : OpR X (compareOp .In) (rIn K false) := by subst h; exact op_in_seq
theorem op_notIn_seqK (h : X.K = K := by rfl) : OpR X (compareOp .NotIn) (rIn K true) := by subst h; exact op_notIn_seq
theorem sl_listK (h : X.K = K := by rfl) : SlR X (rSlL K) := by subst h; exact sl_list
theorem cr_sumK (hc : X.calm = true) (h : X.K = K := by rfl) : CallR X (.builtin "sum") (rSum K) := by subst h; exact cr_sum hc
theorem cr_allK (hc : X.calm = true) (h : X.K = K := by rfl) : CallR X (.builtin "all") (rAll K) := by subst h; exact cr_all hc
theorem cr_anyK (hc : X.calm = true) (h : X.K = K := by rfl) : CallR X (.builtin "any") (rAny K) := by subst h; exact cr_any hc
theorem call_isiK' (h : X.K = K := by rfl) : CallR X (.builtin "isinstance") (rIsi K) := by subst h; exact call_isi
theorem pi_listK {tg l : Expr} {tl : TE} (hl : PE X l tl) (h : X.K = K := by rfl) : PI X tg l (iList K tl) := by subst h; exact pi_list hl
theorem pi_tupK {tg l : Expr} {tl : TE} (hl : PE X l tl) (h : X.K = K := by rfl) : PI X tg l (iTup K tl) := by subst h; exact pi_tup hl
theorem pe_fldK {e : Expr} {ta : TE} {f : Str} {pos : Pos} (he : PE X e ta) (hb : attributeBase e f X.env (eval e X.env) = eval e X.env) (h : X.K = K := by rfl) : PE X (.Attribute e f pos) (tFld K ta f) := by subst h; exact pe_fld he hb
end
/-! ### heaps -/
theorem same_upd {H : Hp} {p : Addr} {o : HO} (h : H p = none) : Same H (upd H p o) := fun b x e => by
  rw [upd_ne (ne_of_none e h)]
  exact e
/-- all but what stands at b is as it was -/
def Keep (b : Addr) (H H' : Hp) : Prop := ∀ p o, H p = some o → p ≠ b → H' p = some o
theorem Keep.refl (b : Addr) (H : Hp) : Keep b H H := fun _ _ h _ => h
theorem Keep.trans {b : Addr} {H H1 H2 : Hp} (x : Keep b H H1) (y : Keep b H1 H2) : Keep b H H2 := fun p o h n => y p o (x p o h n) n
theorem Keep.ofSame {b : Addr} {H H1 : Hp} (x : Same H H1) : Keep b H H1 := fun p o h _ => x p o h
theorem Keep.upd {b : Addr} {H : Hp} {o : HO} : Keep b H (upd H b o) := fun p x h n => by
  rw [upd_ne n]
  exact h
theorem Keep.new {b p : Addr} {H : Hp} {o : HO} (h : H p = none) : Keep b H (L2.upd H p o) := .ofSame (same_upd h)
theorem Keep.seq {K : PySem.W.Frag} {b a : Addr} {H H' : Hp} {xs : List V} (e : Keep b H H') (n : a ≠ b) (h : SqL K H a xs) : SqL K H' a xs := by
  rcases h with (h | ⟨o, h⟩) | h
  · exact .inl (.inl (e _ _ h n))
  · exact .inl (.inr ⟨o, e _ _ h n⟩)
  · exact .inr h
theorem Keep.seqT {K : PySem.W.Frag} {b a : Addr} {H H' : Hp} {xs : List V} (e : Keep b H H') (n : a ≠ b) (h : SqT K H a xs) : SqT K H' a xs := by
  rcases h with (h | ⟨o, h⟩) | h
  · exact .inl (.inl (e _ _ h n))
  · exact .inl (.inr ⟨o, e _ _ h n⟩)
  · exact .inr h
theorem Same.seqT {K : PySem.W.Frag} {a : Addr} {H H' : Hp} {xs : List V} (e : Same H H') (h : SqT K H a xs) : SqT K H' a xs := by
  rcases h with (h | ⟨o, h⟩) | h
  · exact .inl (.inl (e _ _ h))
  · exact .inl (.inr ⟨o, e _ _ h⟩)
  · exact .inr h
/-- a drawing box: three ints, the last at most c -/
def BoxAt (c : Int) (H : Hp) (b : Addr) : Prop := ∃ x0 x1 x2 : Int, H b = some (.lst [.int x0, .int x1, .int x2]) ∧ 0 ≤ x0 ∧ 0 ≤ x1 ∧ x1 < 2147483647 ∧ 0 ≤ x2 ∧ x2 ≤ c
theorem BoxAt.mono {c d : Int} {H : Hp} {b : Addr} (h : BoxAt c H b) (l : c ≤ d) : BoxAt d H b := by
  obtain ⟨x0, x1, x2, e, a1, a2, a3, a4, a5⟩ := h
  exact ⟨x0, x1, x2, e, a1, a2, a3, a4, by omega⟩
theorem BoxAt.same {c : Int} {H H' : Hp} {b : Addr} (h : BoxAt c H b) (s : Same H H') : BoxAt c H' b := by
  obtain ⟨x0, x1, x2, e, r⟩ := h
  exact ⟨x0, x1, x2, s _ _ e, r⟩
theorem BoxAt.at {c : Int} {H H' : Hp} {b : Addr} (h : BoxAt c H b) (s : H' b = H b) : BoxAt c H' b := by
  obtain ⟨x0, x1, x2, e, r⟩ := h
  exact ⟨x0, x1, x2, by rw [s]; exact e, r⟩
theorem BoxAt.ne {c : Int} {H : Hp} {b p : Addr} (h : BoxAt c H b) (n : H p = none) : b ≠ p := by
  obtain ⟨x0, x1, x2, e, r⟩ := h
  exact ne_of_none e n
theorem e7 : (10 : Int) ^ ((7 : Int).toNat) = 10000000 := by decide
theorem e18 : (10 : Int) ^ ((18 : Int).toNat) = 1000000000000000000 := by decide
theorem divp_small {i j : Int} (h0 : 0 < j) (h1 : j < 2 ^ 250) : CDivP i j := by
  refine ⟨h0, ?_⟩
  show (decide ((if j == 0 then 0 else j.natAbs.log2 / 30 + 1) > 300) && _) = false
  rw [if_neg (show ¬ (j == 0) = true by simpa using (show j ≠ 0 by omega))]
  have hl : j.natAbs.log2 < 250 := PySem.Flt.log2_lt_of (by decide) (by omega)
  rw [decide_eq_false (show ¬ (j.natAbs.log2 / 30 + 1 > 300) by omega), Bool.false_and]
section
variable {P : Program} {w : World} {K : PySem.W.Frag} {mg : Str → Option Value} {base : Heap}
/-! ### _law_take -/
theorem scTake : FnScope ["_law_box_here", "_law_size", "_law_found", "_law_step", "_law_once", "_law_twice"] ["_law_box_here", "_law_size"] (defScope sTake) := ⟨rfl, rfl, rfl, by decide +kernel, rfl, by decide +kernel, by decide +kernel⟩
def spTake (k : Nat) : Sp := fun vs H Q _ => ∃ (b : Addr) (n c : Int), vs = [.ref b, .int n] ∧ BoxAt c H b ∧ 1 ≤ n ∧ n ≤ 10000000 ^ k ∧ n < 2 ^ 250 ∧ c + 2 ^ k ≤ 1000000000 ∧ 0 < k ∧
  ∀ (r : Int) (H' : Hp), 0 ≤ r → r < n → BoxAt (c + 2 ^ (k - 1)) H' b → Keep b H H' → Q (.int r) H'
theorem take_none {f : Addr} {fd : FuncData} : FnOk P w K mg base CX0 0 f fd ["_law_box_here", "_law_size"] (spTake 0) := by
  have no : ∀ vs H Q E, ¬ spTake 0 vs H Q E := fun vs H Q E h => by
    obtain ⟨b, n, c, _, _, _, _, _, _, h0, _⟩ := h
    omega
  exact ⟨fun vs H Q E h => absurd h (no vs H Q E), fun A outer s H args us vs Q E _ _ _ _ h => absurd h (no vs H Q E)⟩
theorem ok_take1 {f : Addr} {fd : FuncData} {k : Nat} (F : Fun K "_law_take" "_law_take" sTake f fd) (G : FnOk P w K mg base CX0 k f fd ["_law_box_here", "_law_size"] (spTake k)) (bf : Binds K fd ["_law_box_here", "_law_size"] []) (mf : mg "_law_take" = some (.ref f)) (B : Bl mg) :
    FnOk P w K mg base CX0 (k + 1) f fd ["_law_box_here", "_law_size"] (spTake (k + 1)) := by
  refine F.ok scTake (fun vs H Q E h => ?_) (fun cdv A outer s H vs Q E hr h => ?_)
  · obtain ⟨b, n, c, rfl, _⟩ := h
    rfl
  obtain ⟨b, n, c, rfl, hB, hn1, hnk, hn60, hc, _, q⟩ := h
  obtain ⟨x0, x1, x2, hb, h0, h1, h1', h2, h2'⟩ := hB
  have hp : (0 : Int) < 2 ^ k := Int.pow_pos (by decide)
  have hk2 : (2 : Int) ^ (k + 1) = 2 ^ k * 2 := Int.pow_succ 2 k
  refine ⟨_, pss_cons (ps_if (pt_cmpR op_gt (pe_ix ix_list (pv 0) pe_int (fun _ _ => rfl)) pe_int (nomark _))
      (pss_cons (ps_asg (pe_callB call_divmodW (by rfl) B.divmod boot_divmod (pa_cons (pe_ix ix_list (pv 0) pe_int (fun _ _ => rfl)) (pa_cons (pv 1) pa_nil)))
          (pg_tup (by rfl) (pgs_cons (pg_sub (pv 0) pe_int set_list) (pgs_cons (pg_name (i := 2) scTake.nd rfl (.inl rfl)) pgs_nil))))
        (pss_one (ps_ret (pv 2)))) pss_nil)
    (pss_cons (ps_if (pt_cmpR op_gt (pv 1) (pe_op op_pow pe_int pe_int) (nomark _))
      (pss_one (ps_ret (pe_op op_mod (pe_op op_add (pe_call G hr (by rfl) mf F.kp bf .nil pass0 (pa_cons (pv 0) (pa_cons (pe_op op_pow pe_int pe_int) pa_nil)))
          (pe_op op_mul (pe_op op_pow pe_int pe_int) (pe_call G hr (by rfl) mf F.kp bf .nil pass0 (pa_cons (pv 0) (pa_cons (pe_op op_add (pe_op op_fdiv (pe_op op_sub (pv 1) pe_int) (pe_op op_pow pe_int pe_int)) pe_int) pa_nil))))) (pv 1)))) pss_nil)
    (pss_cons (ps_asg (pe_op op_add (pe_ix ix_list (pv 0) pe_int (fun _ _ => rfl)) pe_int) (pg_sub (pv 0) pe_int set_list))
    (pss_cons (ps_set (i := 3) scTake.nd rfl (.inl rfl) (pe_op op_add pe_int (pe_op op_mul (pe_ix ix_list (pv 0) pe_int (fun _ _ => rfl)) (pe_ix ix_list (pv 0) pe_int (fun _ _ => rfl)))))
    (pss_cons (ps_set (i := 4) scTake.nd rfl (.inl rfl) (pe_op op_mod (pe_op op_mul (pe_op op_add (pe_ix ix_list (pv 0) pe_int (fun _ _ => rfl)) (pe_op op_mul pe_int (pe_ix ix_list (pv 0) pe_int (fun _ _ => rfl)))) (pv 3)) pe_int))
    (pss_cons (ps_set (i := 5) scTake.nd rfl (.inl rfl) (pe_op op_mod (pe_op op_add (pe_op op_mul (pv 4) (pe_op op_add (pe_op op_mod (pv 4) pe_int) pe_int)) (pe_ix ix_list (pv 0) pe_int (fun _ _ => rfl))) pe_int))
    (pss_one (ps_ret (pe_op op_mod (pe_op op_fdiv (pe_op op_mod (pe_op op_mul (pv 5) (pe_op op_add (pe_op op_mod (pv 5) pe_int) pe_int)) pe_int) pe_int) (pv 1))))))))), ?_⟩
  refine ⟨_, rfl, b, _, _, _, rfl, rfl, SqL.of hb, rfl, _, _, rfl, rfl, _, rfl, ite2 (fun cc => ?_) (fun cc => ?_)⟩
  · -- the great number's own digits
    refine ⟨_, rfl, b, _, _, _, rfl, rfl, SqL.of hb, rfl, _, rfl, _, _, rfl, divp_small (by omega) (by omega), fun p np => ?_⟩
    have nbp : b ≠ p := ne_of_none hb np
    refine ⟨p, _, rfl, .inl (.inl upd_same), rfl, _, _, rfl, _, rfl, b, _, _, 0, rfl, rfl, (by rw [upd_ne nbp]; exact hb), rfl, _, _, rfl, rfl, _, rfl, ?_⟩
    refine q _ _ (Int.emod_nonneg _ (by omega)) (Int.emod_lt_of_pos _ (by omega)) ⟨x0 / n, x1, x2, upd_same, Int.ediv_nonneg h0 (by omega), h1, h1', h2, by show x2 ≤ c + 2 ^ k; omega⟩ ?_
    exact Keep.trans (Keep.new np) Keep.upd
  · refine ⟨_, rfl, _, _, rfl, rfl, ⟨by decide, by decide, by decide⟩, _, _, rfl, rfl, _, rfl, ite2 (fun c2 => ?_) (fun c2 => ?_)⟩
    · -- two lesser draws
      have c3 : (10 : Int) ^ ((7 : Int).toNat) < n := of_decide_eq_true c2
      rw [e7] at c3
      have hk : 0 < k := by
        rcases Nat.eq_zero_or_pos k with z | z
        · subst z
          rw [show (10000000 : Int) ^ (0 + 1) = 10000000 by decide] at hnk
          omega
        · exact z
      obtain ⟨j, rfl⟩ : ∃ j, k = j + 1 := ⟨k - 1, by omega⟩
      have hj2 : (2 : Int) ^ (j + 1) = 2 ^ j * 2 := Int.pow_succ 2 j
      have hjp : (0 : Int) < 2 ^ j := Int.pow_pos (by decide)
      have h10 : (10000000 : Int) ≤ 10000000 ^ (j + 1) := by
        rw [Int.pow_succ]
        have : (0 : Int) < 10000000 ^ j := Int.pow_pos (by decide)
        omega
      have hdiv : (n - 1) / 10000000 + 1 ≤ 10000000 ^ (j + 1) := by
        rw [Int.pow_succ] at hnk
        have : n - 1 < 10000000 ^ (j + 1) * 10000000 := by omega
        have := Int.ediv_lt_of_lt_mul (by decide) this
        omega
      refine ⟨_, rfl, _, _, rfl, rfl, ⟨by decide, by decide, by decide⟩, b, _, c, rfl, ⟨x0, x1, x2, hb, h0, h1, h1', h2, h2'⟩, (by rw [e7]; decide), (by rw [e7]; exact h10), (by rw [e7]; decide), by omega, by omega, fun r1 H1 a1 a2 B1 k1 => ?_⟩
      refine ⟨_, _, rfl, rfl, ⟨by decide, by decide, by decide⟩, _, rfl, _, rfl, _, _, rfl, rfl, _, _, rfl, rfl, ⟨by decide, by decide, by decide⟩, _, _, rfl, rfl, (by rw [e7]; exact ⟨by decide, by decide⟩), _, _, rfl, rfl, ?_⟩
      rw [e7]
      refine ⟨b, _, c + 2 ^ j, rfl, B1, by omega, hdiv, by omega, by omega, by omega, fun r2 H2 a3 a4 B2 k2 => ?_⟩
      refine ⟨_, _, rfl, rfl, .inl ⟨by decide, by decide⟩, _, _, rfl, rfl, _, rfl, _, _, rfl, rfl, (by show (0 : Int) < n; omega), ?_⟩
      refine q _ _ (Int.emod_nonneg _ (by omega)) (Int.emod_lt_of_pos _ (by omega)) (B2.mono ?_) (k1.trans k2)
      show c + 2 ^ j + 2 ^ j ≤ c + 2 ^ (j + 1)
      omega
    · -- a turn of the wheel
      refine ⟨_, rfl, b, _, _, _, rfl, rfl, SqL.of hb, rfl, _, _, rfl, rfl, _, rfl, b, _, _, 2, rfl, rfl, hb, rfl, ?_⟩
      have hb2 : (upd H b (.lst [.int x0, .int x1, .int (x2 + 1)])) b = some (.lst [.int x0, .int x1, .int (x2 + 1)]) := upd_same
      refine ⟨_, rfl, b, _, _, _, rfl, rfl, SqL.of hb2, rfl, _, rfl, b, _, _, _, rfl, rfl, SqL.of hb2, rfl, _, _, rfl, rfl, .inl ⟨by omega, by omega⟩, _, _, rfl, rfl, ?_⟩
      refine ⟨_, rfl, b, _, _, _, rfl, rfl, SqL.of hb2, rfl, _, rfl, b, _, _, _, rfl, rfl, SqL.of hb2, rfl, _, _, rfl, rfl, .inl ⟨by omega, by omega⟩, _, _, rfl, rfl, _, rfl, _, _, rfl, rfl, .inl ⟨by omega, by omega⟩, _, _, rfl, rfl, (by show (0 : Int) < 2147483587; decide), ?_⟩
      generalize (x1 + 39373 * (x2 + 1)) * (69621 + (x2 + 1) * (x2 + 1)) = y
      have y1 := Int.emod_nonneg y (show (2147483587 : Int) ≠ 0 by decide)
      have y2 := Int.emod_lt_of_pos y (show (0 : Int) < 2147483587 by decide)
      refine ⟨_, rfl, _, rfl, _, _, rfl, rfl, (by show (0 : Int) < 30011; decide), _, _, rfl, rfl, _, _, rfl, rfl, .inl ⟨by omega, by omega⟩, _, rfl, b, _, _, _, rfl, rfl, SqL.of hb2, rfl, _, _, rfl, rfl, _, _, rfl, rfl, (by show (0 : Int) < 2147483563; decide), ?_⟩
      generalize (y % 2147483587 * (y % 2147483587 % 30011 + 5) + (x2 + 1)) = z
      have z1 := Int.emod_nonneg z (show (2147483563 : Int) ≠ 0 by decide)
      have z2 := Int.emod_lt_of_pos z (show (0 : Int) < 2147483563 by decide)
      refine ⟨_, rfl, _, rfl, _, _, rfl, rfl, (by show (0 : Int) < 1013; decide), _, _, rfl, rfl, _, _, rfl, rfl, .inl ⟨by omega, by omega⟩, _, _, rfl, rfl, (by show (0 : Int) < 998244353; decide), _, _, rfl, rfl, ⟨by decide, by decide⟩, _, rfl, _, _, rfl, rfl, (by show (0 : Int) < n; omega), ?_⟩
      refine q _ _ (Int.emod_nonneg _ (by omega)) (Int.emod_lt_of_pos _ (by omega)) ⟨x0, x1, x2 + 1, hb2, h0, h1, h1', by omega, by show x2 + 1 ≤ c + 2 ^ k; omega⟩ Keep.upd
theorem ok_take {f : Addr} {fd : FuncData} (F : Fun K "_law_take" "_law_take" sTake f fd) (bf : Binds K fd ["_law_box_here", "_law_size"] []) (mf : mg "_law_take" = some (.ref f)) (B : Bl mg) : ∀ k : Nat, FnOk P w K mg base CX0 k f fd ["_law_box_here", "_law_size"] (spTake k)
  | 0 => take_none
  | k + 1 => ok_take1 F (ok_take F bf mf B k) bf mf B
/-! ### _law_box -/
theorem scBox : FnScope ["_law_script", "_law_k", "_law_cell"] ["_law_script", "_law_k"] (defScope sBox) := ⟨rfl, rfl, rfl, by decide +kernel, rfl, by decide +kernel, by decide +kernel⟩
def spBox (K : PySem.W.Frag) : Sp := fun vs H Q _ => ∃ (a : Addr) (zs : List Int) (k : Int), vs = [.ref a, .int k] ∧ SqL K H a (zs.map V.int) ∧ 0 ≤ k ∧ k ≤ 1000 ∧
  ∀ (p : Addr) (H' : Hp), H p = none → Same H H' → BoxAt 0 H' p → Q (.ref p) H'
theorem b01 (b : Bool) : (-(2 ^ 64) < (if b = true then (1 : Int) else 0)) ∧ (if b = true then (1 : Int) else 0) < 2 ^ 64 := by cases b <;> decide
theorem b01n (b : Bool) : 0 ≤ (if b = true then (1 : Int) else 0) := by cases b <;> decide
theorem abs_nn (i : Int) : 0 ≤ (if i < 0 then -i else i) := by
  split <;> omega
theorem at_int {zs : List Int} {k : Int} (h0 : 0 ≤ k) (h : k < (zs.length : Int)) : ∃ v : Int, atI (zs.map V.int) k = some (.int v) ∧ zs[k.toNat]? = some v := by
  have hk : k.toNat < zs.length := by omega
  have ek : k = ((k.toNat : Nat) : Int) := by omega
  have q : atI (zs.map V.int) ((k.toNat : Nat) : Int) = some (.int zs[k.toNat]) := atI_nat (by rw [List.getElem?_map, List.getElem?_eq_getElem hk] <;> rfl)
  rw [← ek] at q
  exact ⟨zs[k.toNat], q, List.getElem?_eq_getElem hk⟩
theorem ok_box {f : Addr} {fd : FuncData} {k : Nat} (F : Fun K "_law_box" "_law_box" sBox f fd) (B : Bl mg) : FnOk P w K mg base CX0 (k + 1) f fd ["_law_script", "_law_k"] (spBox K) := by
  refine F.ok scBox (fun vs H Q E h => ?_) (fun cdv A outer s H vs Q E hr h => ?_)
  · obtain ⟨a, zs, k, rfl, _⟩ := h
    rfl
  obtain ⟨a, zs, k, rfl, hS, h0, h1, q⟩ := h
  refine ⟨_, pss_cons (ps_set (i := 2) scBox.nd rfl (.inl rfl) (pe_ifExp (pt_cmpR op_lt (pv 1) (pe_callB call_len_seq (by rfl) B.len PySem.boot_len (pa_cons (pv 0) pa_nil)) (nomark _)) (pe_ix ix_list (pv 0) (pv 1) (fun _ _ => rfl)) pe_int))
    (pss_one (ps_ret (pe_lst (pa_cons (pe_op op_mul (pe_callB call_abs (by rfl) B.abs boot_abs (pa_cons (pv 2) pa_nil)) (pe_callTy call_int1 (by rfl) B.int PyProof.Rows.boot_int (pa_cons (pe_cmpR op_ge (pe_callB call_abs (by rfl) B.abs boot_abs (pa_cons (pv 2) pa_nil)) (pe_op op_pow pe_int pe_int) (nomark _)) pa_nil)))
      (pa_cons (pe_op op_mod (pe_op op_mul (pe_op op_add (pe_op op_add (pe_op op_mod (pv 2) pe_int) (pe_op op_mul pe_int (pv 1))) pe_int) pe_int) pe_int) (pa_cons pe_int pa_nil)))))), ?_⟩
  refine ⟨_, rfl, _, rfl, a, _, rfl, .inl hS, _, _, rfl, rfl, _, rfl, ite2 (fun cc => ?_) (fun cc => ?_)⟩
  · have c1 : k < (((zs.map V.int).length : Nat) : Int) := of_decide_eq_true cc
    rw [List.length_map] at c1
    obtain ⟨v, hv, _⟩ := at_int h0 c1
    refine ⟨_, rfl, _, rfl, a, _, _, _, rfl, rfl, hS, hv, ?_⟩
    refine ⟨_, rfl, _, rfl, _, rfl, _, rfl, _, _, rfl, rfl, ⟨by decide, by decide, by decide⟩, _, _, rfl, rfl, .inr ⟨_, rfl, ?_⟩⟩
    refine ⟨_, _, rfl, rfl, .inr (b01 _), _, rfl, _, _, rfl, rfl, (by show (0 : Int) < 2147483629; decide), _, rfl, _, _, rfl, rfl, .inl ⟨by decide, by decide⟩, _, _, rfl, rfl, _, _, rfl, rfl, _, _, rfl, rfl, .inr ⟨by decide, by decide⟩, _, _, rfl, rfl, (by show (0 : Int) < 2147483647; decide), (by show 3 ≤ sizeLine; decide), fun p np => ?_⟩
    refine q p _ np (same_upd np) ⟨_, _, _, upd_same, Int.mul_nonneg (abs_nn v) (b01n _), Int.emod_nonneg _ (by decide), Int.emod_lt_of_pos _ (by decide), by decide, by decide⟩
  · refine ⟨_, rfl, _, rfl, _, rfl, _, rfl, _, _, rfl, rfl, ⟨by decide, by decide, by decide⟩, _, _, rfl, rfl, .inr ⟨_, rfl, ?_⟩⟩
    refine ⟨_, _, rfl, rfl, .inr (b01 _), _, rfl, _, _, rfl, rfl, (by show (0 : Int) < 2147483629; decide), _, rfl, _, _, rfl, rfl, .inl ⟨by decide, by decide⟩, _, _, rfl, rfl, _, _, rfl, rfl, _, _, rfl, rfl, .inr ⟨by decide, by decide⟩, _, _, rfl, rfl, (by show (0 : Int) < 2147483647; decide), (by show 3 ≤ sizeLine; decide), fun p np => ?_⟩
    refine q p _ np (same_upd np) ⟨_, _, _, upd_same, Int.mul_nonneg (abs_nn 0) (b01n _), Int.emod_nonneg _ (by decide), Int.emod_lt_of_pos _ (by decide), by decide, by decide⟩
/-! ### _law_folded -/
theorem scFolded : FnScope ["_law_script", "_law_size", "_law_cells", "_law_k", "_law_cell"] ["_law_script", "_law_size"] (defScope sFolded) := ⟨rfl, rfl, rfl, by decide +kernel, rfl, by decide +kernel, by decide +kernel⟩
def spFolded (K : PySem.W.Frag) : Sp := fun vs H Q _ => ∃ (a : Addr) (ns : List Int) (m : Nat), vs = [.ref a, .int (m : Int)] ∧ SqL K H a (ns.map V.int) ∧ ns.length ≤ 63 ∧ 1 ≤ m ∧ m ≤ 63 ∧
  ∀ (p : Addr) (H' : Hp) (zs : List Int), H p = none → Same H H' → H' p = some (.lst (zs.map V.int)) → zs.length = min ns.length m → Q (.ref p) H'
theorem cut_lo (ns : List Int) (m : Nat) : cutV (ns.map V.int) none (some (m : Int)) = (ns.take m).map V.int := by
  unfold cutV
  rw [HT.sIx_none, HT.sIx_nat, List.drop_zero, Nat.sub_zero, List.length_map, ← List.map_take]
  congr 1
  rw [List.take_eq_take_iff]
  omega
theorem cut_mid (ns : List Int) (m j : Nat) : ∃ ws : List Int, cutV (ns.map V.int) (some (m : Int)) (some (j : Int)) = ws.map V.int ∧ ws.length ≤ ns.length - m := by
  unfold cutV
  rw [HT.sIx_nat, HT.sIx_nat, List.length_map, ← List.map_drop, ← List.map_take]
  refine ⟨_, rfl, ?_⟩
  rw [List.length_take, List.length_drop]
  omega
theorem int_at {ws : List Int} {i : Nat} {x : V} (h : (ws.map V.int)[i]? = some x) : ∃ z, ws[i]? = some z ∧ x = .int z := by
  rw [List.getElem?_map] at h
  cases e : ws[i]? with
  | none =>
    rw [e] at h
    cases h
  | some z =>
    rw [e] at h
    exact ⟨z, rfl, (Option.some.inj h).symm⟩
theorem map_set (zs : List Int) (j : Nat) (v : Int) : (zs.map V.int).set j (.int v) = (zs.set j v).map V.int := List.map_set.symm
theorem ixN_nat {n j : Nat} (h : j < n) : ixN n (j : Int) = some j := by
  unfold ixN
  rw [if_pos (Int.natCast_nonneg j), if_pos (by omega), Int.toNat_natCast]
theorem ok_folded {f : Addr} {fd : FuncData} {k : Nat} (F : Fun K "_law_folded" "_law_folded" sFolded f fd) (B : Bl mg) : FnOk P w K mg base CX0 (k + 1) f fd ["_law_script", "_law_size"] (spFolded K) := by
  refine F.ok scFolded (fun vs H Q E h => ?_) (fun cdv A outer s H vs Q E hr h => ?_)
  · obtain ⟨a, ns, m, rfl, _⟩ := h
    rfl
  obtain ⟨a, ns, m, rfl, hS, h63, hm1, hm2, q⟩ := h
  refine ⟨_, pss_cons (ps_set (i := 2) scFolded.nd rfl (.inl rfl) (pe_callTy call_list_of (by rfl) B.list PyProof.Rows.boot_list (pa_cons (pe_slice sl_list (pv 0) po_none (po_some (pv 1))) pa_nil)))
    (pss_cons (ps_for PassesOwn.never rfl (pi_enum (by rfl) B.enumerate (pa_cons (pe_slice sl_list (pv 0) (po_some (pv 1)) (po_some pe_int)) pa_nil))
        (pg_tup rfl (pgs_cons (pg_name (i := 3) scFolded.nd rfl (.inl rfl)) (pgs_cons (pg_name (i := 4) scFolded.nd rfl (.inl rfl)) pgs_nil)))
      (pss_one (ps_asg (pe_op op_add (pe_ix ix_list (pv 2) (pe_op op_mod (pv 3) (pv 1)) (fun _ _ => rfl)) (pe_op op_mul (pv 4) (pe_op op_add (pv 3) pe_int))) (pg_sub (pv 2) (pe_op op_mod (pv 3) (pv 1)) set_list))))
    (pss_one (ps_ret (pv 2)))), ?_⟩
  refine ⟨_, rfl, _, rfl, _, rfl, a, _, rfl, hS, fun c0 nc0 => ?_⟩
  rw [cut_lo]
  have s0 : Same H (upd H c0 (.lst ((ns.take m).map V.int))) := same_upd nc0
  refine ⟨c0, _, rfl, .inl (.inl (.inl upd_same)), fun p np => ?_⟩
  have npH : H p = none := s0.free np
  have ne0 : c0 ≠ p := fun e => by
    subst e
    rw [upd_same] at np
    cases np
  have s1 := s0.trans (same_upd (o := .lst ((ns.take m).map V.int)) np)
  refine ⟨_, rfl, _, rfl, _, rfl, _, rfl, a, _, rfl, s1.seq hS, fun c nc => ?_⟩
  obtain ⟨ws, ew, lw⟩ := cut_mid ns m 63
  rw [show ((63 : Nat) : Int) = (63 : Int) from rfl] at ew
  rw [ew]
  have s2 := s1.trans (same_upd (o := .lst (ws.map V.int)) nc)
  have nec : c ≠ p := fun e => by
    subst e
    rw [upd_same] at nc
    cases nc
  refine ⟨c, _, rfl, .inl (.inl upd_same), ?_⟩
  refine for_it (walk_enum (K := K) (a := c) (xs := ws.map V.int)) (fun i σ H3 => ∃ (y3 y4 : Option V) (zs : List Int), σ = [some (.ref a), some (.int (m : Int)), some (.ref p), y3, y4] ∧ Same H H3 ∧ H3 c = some (.lst (ws.map V.int)) ∧ H3 p = some (.lst (zs.map V.int)) ∧ zs.length = min ns.length m)
    ⟨none, none, ns.take m, rfl, s2, upd_same, ?_, ?_⟩ (fun i σ H3 _ ⟨_, _, _, _, _, e, _⟩ => .inl (.inl e)) ?_ ?_
  · rw [upd_ne nec.symm]
    exact upd_same
  · rw [List.length_take, Nat.min_comm]
  · rintro i v σ H3 H4 hi ⟨y3, y4, zs, rfl, s3, ec, ep, el⟩ ⟨T, x, y, rfl, nT, rfl, e1, e2⟩
    cases e1
    obtain ⟨z, _, rfl⟩ := int_at e2
    rw [List.length_map] at hi
    have npT : p ≠ T := ne_of_none ep nT
    have ncT : c ≠ T := ne_of_none ec nT
    have sT : Same H3 (upd H3 T (.tup [.int (i : Nat), .int z])) := same_upd nT
    refine ⟨T, _, rfl, .inl (.inl upd_same), rfl, _, _, rfl, _, _, rfl, rfl, ?_⟩
    have lm : (i : Int) % (m : Int) = ((i % m : Nat) : Int) := rfl
    have hl : i % m < zs.length := by
      have := Nat.mod_lt i (show 0 < m by omega)
      omega
    have ev : (zs.map V.int)[i % m]? = some (.int zs[i % m]) := by
      rw [List.getElem?_map, List.getElem?_eq_getElem hl]
      rfl
    refine ⟨_, rfl, _, rfl, _, rfl, _, _, rfl, rfl, (by show (0 : Int) < (m : Int); omega), p, _, _, _, rfl, rfl, SqL.of (sT _ _ ep), (by rw [lm]; exact atI_nat ev), _, rfl, _, rfl, _, _, rfl, rfl, _, _, rfl, rfl, .inr ⟨by omega, by omega⟩, _, _, rfl, rfl, ?_⟩
    refine ⟨_, rfl, _, rfl, _, rfl, _, _, rfl, rfl, (by show (0 : Int) < (m : Int); omega), p, _, _, i % m, rfl, rfl, sT _ _ ep, (by rw [lm, List.length_map]; exact ixN_nat hl), ?_⟩
    refine ⟨_, _, zs.set (i % m) (zs[i % m] + z * ((i : Int) + 2)), rfl, fun b o e => ?_, ?_, ?_, ?_⟩
    · rw [upd_ne (ne_of_none e npH)]
      exact sT _ _ (s3 _ _ e)
    · rw [upd_ne nec]
      exact sT _ _ ec
    · rw [upd_same, map_set]
    · rw [List.length_set]
      exact el
  · rintro σ H3 ⟨y3, y4, zs, rfl, s3, ec, ep, el⟩
    exact ⟨_, rfl, q p H3 zs npH s3 ep el⟩
/-! ### _law_same: of two things of one kind and worth -/
theorem scSame : FnScope ["_law_found", "_law_due", "_law_one", "_law_other"] ["_law_found", "_law_due"] (defScope sSame) := ⟨rfl, rfl, rfl, by decide +kernel, rfl, by decide +kernel, by decide +kernel⟩
def Lv : Nat → PyData → Prop
  | _, .none => True
  | _, .bool _ => True
  | _, .int _ => True
  | _, .str _ => True
  | n + 1, .list ds => ds.length ≤ 1000000 ∧ ∀ d ∈ ds, Lv n d
  | n + 1, .tuple ds => ds.length ≤ 1000000 ∧ ∀ d ∈ ds, Lv n d
  | _, _ => False
mutual
theorem Dp.same {H H' : Hp} (s : Same H H') : ∀ (d : PyData) (v : V), Dp K H v d → Dp K H' v d
  | .none, _, h => by
    cases h
    exact .non
  | .bool b, _, h => by
    cases h
    exact .bl b
  | .int i, _, h => by
    cases h
    exact .int i
  | .str x, _, h => by
    cases h
    exact .str x
  | .list ds, _, h => by
    cases h with
    | lst hs ha => exact .lst (s.seq hs) (Dp.sameAll s ds _ ha)
  | .tuple ds, _, h => by
    cases h with
    | tup hs ha => exact .tup (Same.seqT s hs) (Dp.sameAll s ds _ ha)
  | .dict _, _, h => by cases h
theorem Dp.sameAll {H H' : Hp} (s : Same H H') : ∀ (ds : List PyData) (vs : List V), DpAll K H vs ds → DpAll K H' vs ds
  | [], _, h => by
    cases h
    exact .nil
  | d :: ds, _, h => by
    cases h with
    | cons h1 h2 => exact .cons (Dp.same s d _ h1) (Dp.sameAll s ds _ h2)
end
theorem DpAll.len {H : Hp} : ∀ {ds : List PyData} {vs : List V}, DpAll K H vs ds → vs.length = ds.length
  | [], _, h => by
    cases h
    rfl
  | d :: ds, _, h => by
    cases h with
    | cons h1 h2 => rw [List.length_cons, List.length_cons, DpAll.len h2]
theorem DpAll.get {H : Hp} : ∀ {ds : List PyData} {vs : List V} {i : Nat} {x : V}, DpAll K H vs ds → vs[i]? = some x → ∃ d, ds[i]? = some d ∧ Dp K H x d
  | [], _, i, x, h, e => by
    cases h
    cases e
  | d :: ds, _, 0, x, h, e => by
    cases h with
    | cons h1 h2 =>
      cases e
      exact ⟨d, rfl, h1⟩
  | d :: ds, _, i + 1, x, h, e => by
    cases h with
    | @cons _ vs _ _ h1 h2 => exact DpAll.get (ds := ds) (vs := vs) h2 (show vs[i]? = some x from e)
theorem walk_zipT {a b : Addr} {xs ys : List V} {n : Nat} (hn : n = min xs.length ys.length) : Walk (RZ.ItzT K a b) n (fun H => SqT K H a xs ∧ SqT K H b ys) (YPair (fun i => xs[i]?) (fun i => ys[i]?)) := by
  subst hn
  refine ⟨fun i _ hi q => ?_, fun _ q => ⟨xs, ys, q.1, q.2, by omega⟩, fun i H v H' _ q y => ?_⟩
  · have h1 : i < xs.length := by omega
    have h2 : i < ys.length := by omega
    exact ⟨xs, ys, xs[i], ys[i], q.1, q.2, by simp [h1], by simp [h2]⟩
  · obtain ⟨T, x, z, h1, h2, h3, h4, h5⟩ := y
    exact ⟨T, x, z, h1, h2, h3, h4 xs q.1, h5 ys q.2⟩
theorem ty_lst {H : Hp} {a : Addr} {xs : List V} (h : SqL K H a xs) : TyX K H (.ref a) (.type "list") := by
  rcases h with (h | ⟨o, h⟩) | ⟨o, its, n, h1, h2, _⟩
  · exact .base (.lst h)
  · exact .base (.frz h)
  · exact .kList h1 h2
theorem ty_tup {H : Hp} {a : Addr} {xs : List V} (h : SqT K H a xs) : TyX K H (.ref a) (.type "tuple") := by
  rcases h with (h | ⟨o, h⟩) | ⟨o, its, n, h1, h2, _⟩
  · exact .base (.tup h)
  · exact .fTuple h
  · exact .kTuple h1 h2
def spSame (K : PySem.W.Frag) (k : Nat) : Sp := fun vs H Q _ => ∃ (x y : V) (d : PyData) (j : Nat), vs = [x, y] ∧ k = j + 1 ∧ Lv j d ∧ Dp K H x d ∧ Dp K H y d ∧ ∀ H', Same H H' → Q (.bl true) H'
theorem same_none {f : Addr} {fd : FuncData} : FnOk P w K mg base CX0 0 f fd ["_law_found", "_law_due"] (spSame K 0) := by
  have no : ∀ vs H Q E, ¬ spSame K 0 vs H Q E := fun vs H Q E h => by
    obtain ⟨x, y, d, j, _, h0, _⟩ := h
    omega
  exact ⟨fun vs H Q E h => absurd h (no vs H Q E), fun A outer s H args us vs Q E _ _ _ _ h => absurd h (no vs H Q E)⟩
theorem yesT {σ : L2.St} {H : Hp} {R S : Hp → Prop} (h : R H) : tYes σ H fun b H3 => if b = true then R H3 else S H3 := h
theorem repl_snoc {α : Type} (i : Nat) (x : α) : List.replicate i x ++ [x] = List.replicate (i + 1) x := List.replicate_succ'.symm
theorem all_repl (n : Nat) : (List.replicate n true).all id = true := by
  rw [List.all_eq_true]
  intro x hx
  rw [List.eq_of_mem_replicate hx]
  rfl
theorem kitLT {t : String} {r1 r2 : Bool} (h1 : kitB t "list" = some r1) (h2 : kitB t "tuple" = some r2) : PySem.W.kitAny K (.type t) [.type "list", .type "tuple"] = some (r1 || r2) := by
  refine kitAny_cons (kit_ty h1) (fun e => ?_) (fun e => by rw [e]; rfl)
  rw [e, Bool.false_or]
  refine kitAny_cons (kit_ty h2) (fun e => ?_) (fun e => e)
  rw [e]
  rfl
theorem ok_same1 {f : Addr} {fd : FuncData} {k : Nat} (F : Fun K "_law_same" "_law_same" sSame f fd) (G : FnOk P w K mg base CX0 k f fd ["_law_found", "_law_due"] (spSame K k)) (bf : Binds K fd ["_law_found", "_law_due"] []) (mf : mg "_law_same" = some (.ref f)) (B : Bl mg) :
    FnOk P w K mg base CX0 (k + 1) f fd ["_law_found", "_law_due"] (spSame K (k + 1)) := by
  refine F.ok scSame (fun vs H Q E h => ?_) (fun cdv A outer s H vs Q E hr h => ?_)
  · obtain ⟨x, y, d, j, rfl, _⟩ := h
    rfl
  obtain ⟨x, y, d, j, rfl, ej, lv, dx, dy, q⟩ := h
  obtain rfl : k = j := by omega
  refine ⟨_, pss_cons (ps_if (pt_val (pe_callB call_isiT (by rfl) B.isinstance boot_isinstance (pa_cons (pv 1) (pa_cons (pe_tup (pa_cons (pe_bltn (v := .ty "list") (by rfl) B.list PyProof.Rows.boot_list rfl) (pa_cons (pe_bltn (v := .ty "tuple") (by rfl) B.tuple PyProof.Rows.boot_tuple rfl) pa_nil))) pa_nil))))
      (pss_cons (ps_if (PW.pt (pw_or (pt_cmpR op_ne (pe_callB call_isi (by rfl) B.isinstance boot_isinstance (pa_cons (pv 0) (pa_cons (pe_bltn (v := .ty "list") (by rfl) B.list PyProof.Rows.boot_list rfl) pa_nil))) (pe_callB call_isi (by rfl) B.isinstance boot_isinstance (pa_cons (pv 1) (pa_cons (pe_bltn (v := .ty "list") (by rfl) B.list PyProof.Rows.boot_list rfl) pa_nil))) (nomark _))
          (pw_or1 (pt_cmpR op_ne (pe_callB call_isi (by rfl) B.isinstance boot_isinstance (pa_cons (pv 0) (pa_cons (pe_bltn (v := .ty "tuple") (by rfl) B.tuple PyProof.Rows.boot_tuple rfl) pa_nil))) (pe_callB call_isi (by rfl) B.isinstance boot_isinstance (pa_cons (pv 1) (pa_cons (pe_bltn (v := .ty "tuple") (by rfl) B.tuple PyProof.Rows.boot_tuple rfl) pa_nil))) (nomark _)))))
          (pss_one (ps_ret pe_bl)) pss_nil)
        (pss_one (ps_ret (pe_and (pe_cmpR op_eq (pe_callB call_len_seq (by rfl) B.len PySem.boot_len (pa_cons (pv 0) pa_nil)) (pe_callB call_len_seq (by rfl) B.len PySem.boot_len (pa_cons (pv 1) pa_nil)) (nomark _))
          (pe_one (pe_callB (cr_all rfl) (by rfl) B.all boot_all (pa_cons (pe_lc (own := [("_law_one", 2), ("_law_other", 3)]) (g := gTup K 2 (gCons (gName 2) (gCons (gName 3) gNil))) (by rfl) scSame.nd (RZ.pi_zipA (by rfl) B.zip (pa_cons (pv 0) (pa_cons (pv 1) pa_nil)))
            (blkOk_by (own := [("_law_one", 2), ("_law_other", 3)]) (N := ["_law_found", "_law_due", "_law_one", "_law_other"]) (sc := defScope sSame) (by decide +kernel))
            (fun _ _ _ _ _ => pg_tup rfl (pgs_cons (pg_name (i := 2) scSame.nd rfl (Or.inl rfl) (.inr rfl)) (pgs_cons (pg_name (i := 3) scSame.nd rfl (Or.inl rfl) (.inr rfl)) pgs_nil))) (fun _ _ _ _ _ => pts_nil)
            (fun _ _ _ _ _ => pe_call G hr (by rfl) mf F.kp bf .nil pass0 (pa_cons (pv 2) (pa_cons (pv 3) pa_nil)))) pa_nil))))))) pss_nil)
    (pss_cons (ps_if (PW.pt (pw_or (pt_cmpR op_isN (pv 1) pe_non (nomark _)) (pw_or1 (pt_val (pe_callB call_isi (by rfl) B.isinstance boot_isinstance (pa_cons (pv 1) (pa_cons (pe_bltn (v := .ty "str") (by rfl) B.str PyProof.Rows.boot_str rfl) pa_nil)))))))
      (pss_one (ps_ret (pe_and (pe_cmpR op_eq (pv 0) (pv 1) (nomark _)) (pe_one (pe_cmpR op_eq (pe_callB call_isi (by rfl) B.isinstance boot_isinstance (pa_cons (pv 0) (pa_cons (pe_bltn (v := .ty "str") (by rfl) B.str PyProof.Rows.boot_str rfl) pa_nil))) (pe_callB call_isi (by rfl) B.isinstance boot_isinstance (pa_cons (pv 1) (pa_cons (pe_bltn (v := .ty "str") (by rfl) B.str PyProof.Rows.boot_str rfl) pa_nil))) (nomark _)))))) pss_nil)
    (pss_one (ps_ret (pe_and (pe_callB call_isi (by rfl) B.isinstance boot_isinstance (pa_cons (pv 0) (pa_cons (pe_bltn (v := .ty "int") (by rfl) B.int PyProof.Rows.boot_int rfl) pa_nil))) (pe_and (pe_cmpR op_eq (pe_callB call_isi (by rfl) B.isinstance boot_isinstance (pa_cons (pv 0) (pa_cons (pe_bltn (v := .ty "bool") (by rfl) B.bool PyProof.Rows.boot_bool rfl) pa_nil))) (pe_callB call_isi (by rfl) B.isinstance boot_isinstance (pa_cons (pv 1) (pa_cons (pe_bltn (v := .ty "bool") (by rfl) B.bool PyProof.Rows.boot_bool rfl) pa_nil))) (nomark _))
      (pe_one (pe_cmpR op_eq (pv 0) (pv 1) (nomark _)))))))), ?_⟩
  have pr : Paired ClsV [.ty "list", .ty "tuple"] [.type "list", .type "tuple"] := .cons (.ty _) (.cons (.ty _) .nil)
  refine ⟨_, rfl, (by show 2 ≤ sizeLine; decide), fun tp ntp => ?_⟩
  have s0 : Same H (upd H tp (.tup [.ty "list", .ty "tuple"])) := same_upd ntp
  cases d with
  | none =>
    cases dx
    cases dy
    refine ⟨_, tp, _, _, _, _, rfl, upd_same, pr, .base .non, kitLT (t := "NoneType") (r1 := false) (r2 := false) (by decide +kernel) (by decide +kernel), _, rfl, iteF ?_⟩
    refine ⟨_, rfl, rfl, _, rfl, iteT (iteT ?_)⟩
    refine ⟨_, rfl, _, rfl, rfl, _, rfl, iteT ?_⟩
    refine ⟨_, rfl, _, _, _, _, _, rfl, .ty _, .base .non, kit_ty (by decide +kernel : kitB "NoneType" "str" = some false), _, rfl, _, _, _, _, _, rfl, .ty _, .base .non, kit_ty (by decide +kernel : kitB "NoneType" "str" = some false), rfl, q _ s0⟩
  | bool b =>
    cases dx
    cases dy
    refine ⟨_, tp, _, _, _, _, rfl, upd_same, pr, .base (.bl _), kitLT (t := "bool") (r1 := false) (r2 := false) (by decide +kernel) (by decide +kernel), _, rfl, iteF ?_⟩
    refine ⟨_, rfl, rfl, _, rfl, iteF ?_⟩
    refine ⟨_, rfl, _, _, _, _, _, rfl, .ty _, .base (.bl _), kit_ty (by decide +kernel : kitB "bool" "str" = some false), _, rfl, iteF ?_⟩
    refine ⟨_, rfl, _, _, _, _, _, rfl, .ty _, .base (.bl _), kit_ty (by decide +kernel : kitB "bool" "int" = some true), _, rfl, iteT ?_⟩
    refine ⟨_, rfl, _, _, _, _, _, rfl, .ty _, .base (.bl _), kit_ty (by decide +kernel : kitB "bool" "bool" = some true), _, rfl, _, _, _, _, _, rfl, .ty _, .base (.bl _), kit_ty (by decide +kernel : kitB "bool" "bool" = some true), rfl, _, rfl, iteT ?_⟩
    refine ⟨_, rfl, _, rfl, rfl, ?_⟩
    rw [decide_eq_true rfl]
    exact q _ s0
  | int i =>
    cases dx
    cases dy
    refine ⟨_, tp, _, _, _, _, rfl, upd_same, pr, .base (.int _), kitLT (t := "int") (r1 := false) (r2 := false) (by decide +kernel) (by decide +kernel), _, rfl, iteF ?_⟩
    refine ⟨_, rfl, rfl, _, rfl, iteF ?_⟩
    refine ⟨_, rfl, _, _, _, _, _, rfl, .ty _, .base (.int _), kit_ty (by decide +kernel : kitB "int" "str" = some false), _, rfl, iteF ?_⟩
    refine ⟨_, rfl, _, _, _, _, _, rfl, .ty _, .base (.int _), kit_ty (by decide +kernel : kitB "int" "int" = some true), _, rfl, iteT ?_⟩
    refine ⟨_, rfl, _, _, _, _, _, rfl, .ty _, .base (.int _), kit_ty (by decide +kernel : kitB "int" "bool" = some false), _, rfl, _, _, _, _, _, rfl, .ty _, .base (.int _), kit_ty (by decide +kernel : kitB "int" "bool" = some false), rfl, _, rfl, iteT ?_⟩
    refine ⟨_, rfl, _, rfl, rfl, ?_⟩
    rw [decide_eq_true rfl]
    exact q _ s0
  | str z =>
    cases dx
    cases dy
    refine ⟨_, tp, _, _, _, _, rfl, upd_same, pr, .base (.str _), kitLT (t := "str") (r1 := false) (r2 := false) (by decide +kernel) (by decide +kernel), _, rfl, iteF ?_⟩
    refine ⟨_, rfl, rfl, _, rfl, iteF ?_⟩
    refine ⟨_, rfl, _, _, _, _, _, rfl, .ty _, .base (.str _), kit_ty (by decide +kernel : kitB "str" "str" = some true), _, rfl, iteT ?_⟩
    refine ⟨_, rfl, _, rfl, rfl, ?_⟩
    rw [decide_eq_true rfl]
    refine ⟨_, rfl, iteT ?_⟩
    exact ⟨_, rfl, _, _, _, _, _, rfl, .ty _, .base (.str _), kit_ty (by decide +kernel : kitB "str" "str" = some true), _, rfl, _, _, _, _, _, rfl, .ty _, .base (.str _), kit_ty (by decide +kernel : kitB "str" "str" = some true), rfl, q _ s0⟩
  | list ds =>
    cases dx with
    | @lst a xs _ hx ax =>
    cases dy with
    | @lst b ys _ hy ay =>
    obtain ⟨i, rfl⟩ : ∃ i, k = i + 1 := by
      cases k with
      | zero => exact absurd lv id
      | succ i => exact ⟨i, rfl⟩
    have lx := DpAll.len ax
    have ly := DpAll.len ay
    have hx1 := s0.seq hx
    have hy1 := s0.seq hy
    refine ⟨_, tp, _, _, _, _, rfl, upd_same, pr, ty_lst hy1, kitLT (t := "list") (r1 := true) (r2 := false) (by decide +kernel) (by decide +kernel), _, rfl, iteT ?_⟩
    refine ⟨_, rfl, _, _, _, _, _, rfl, .ty _, ty_lst hx1, kit_ty (by decide +kernel : kitB "list" "list" = some true), _, rfl, _, _, _, _, _, rfl, .ty _, ty_lst hy1, kit_ty (by decide +kernel : kitB "list" "list" = some true), rfl, _, rfl, iteF ?_⟩
    refine ⟨_, rfl, _, _, _, _, _, rfl, .ty _, ty_lst hx1, kit_ty (by decide +kernel : kitB "list" "tuple" = some false), _, rfl, _, _, _, _, _, rfl, .ty _, ty_lst hy1, kit_ty (by decide +kernel : kitB "list" "tuple" = some false), rfl, _, rfl, iteF ?_⟩
    refine ⟨_, rfl, a, _, rfl, .inl hx1, _, rfl, b, _, rfl, .inl hy1, rfl, ?_⟩
    rw [decide_eq_true (by rw [lx, ly])]
    refine ⟨_, rfl, iteT ?_⟩
    refine ⟨_, rfl, _, rfl, a, b, xs, ys, rfl, .inl ⟨hx1, hy1, fun D nD => ?_⟩⟩
    have sD := s0.trans (same_upd (o := .lst []) nD)
    refine lc_it (walk_zip (K := K) (a := a) (b := b) (xs := xs) (ys := ys) rfl) (fun i H3 => Same H H3 ∧ H3 D = some (.lst (List.replicate i (.bl true)))) ⟨sD, upd_same⟩ (fun i H3 _ ⟨s3, _⟩ => ⟨s3.seq hx, s3.seq hy⟩) ?_ ?_
    · rintro i v H3 H4 hi ⟨s3, eD⟩ ⟨T, x, y, rfl, nT, rfl, e1, e2⟩
      obtain ⟨d1, g1, p1⟩ := DpAll.get ax e1
      obtain ⟨d2, g2, p2⟩ := DpAll.get ay e2
      obtain rfl : d1 = d2 := Option.some.inj (g1.symm.trans g2)
      have s4 := s3.trans (same_upd (o := .tup [x, y]) nT)
      refine ⟨T, _, rfl, .inl (.inl upd_same), rfl, _, _, rfl, _, _, rfl, rfl, rfl, ?_⟩
      refine yesT ?_
      refine ⟨_, rfl, _, rfl, x, y, d1, _, rfl, rfl, lv.2 d1 (List.mem_of_getElem? g1), Dp.same s4 _ _ p1, Dp.same s4 _ _ p2, fun H5 s5 => ?_⟩
      refine ⟨_, s5 _ _ (by rw [upd_ne (ne_of_none eD nT)]; exact eD), ?_, fun p o e => ?_, ?_⟩
      · rw [List.length_replicate]
        have := lv.1
        refine Nat.lt_of_lt_of_le (show i < 1000000 by omega) (by decide)
      · rw [upd_ne (ne_of_none e (s0.free nD))]
        exact s5 _ _ (s4 _ _ e)
      · rw [upd_same, repl_snoc]
    · rintro H3 ⟨s3, eD⟩
      refine ⟨D, List.replicate (min xs.length ys.length) true, rfl, .inl (.inl (by rw [List.map_replicate]; exact eD)), ?_⟩
      rw [all_repl]
      exact q _ s3
  | tuple ds =>
    cases dx with
    | @tup a xs _ hx ax =>
    cases dy with
    | @tup b ys _ hy ay =>
    obtain ⟨i, rfl⟩ : ∃ i, k = i + 1 := by
      cases k with
      | zero => exact absurd lv id
      | succ i => exact ⟨i, rfl⟩
    have lx := DpAll.len ax
    have ly := DpAll.len ay
    have hx1 := Same.seqT s0 hx
    have hy1 := Same.seqT s0 hy
    refine ⟨_, tp, _, _, _, _, rfl, upd_same, pr, ty_tup hy1, kitLT (t := "tuple") (r1 := false) (r2 := true) (by decide +kernel) (by decide +kernel), _, rfl, iteT ?_⟩
    refine ⟨_, rfl, _, _, _, _, _, rfl, .ty _, ty_tup hx1, kit_ty (by decide +kernel : kitB "tuple" "list" = some false), _, rfl, _, _, _, _, _, rfl, .ty _, ty_tup hy1, kit_ty (by decide +kernel : kitB "tuple" "list" = some false), rfl, _, rfl, iteF ?_⟩
    refine ⟨_, rfl, _, _, _, _, _, rfl, .ty _, ty_tup hx1, kit_ty (by decide +kernel : kitB "tuple" "tuple" = some true), _, rfl, _, _, _, _, _, rfl, .ty _, ty_tup hy1, kit_ty (by decide +kernel : kitB "tuple" "tuple" = some true), rfl, _, rfl, iteF ?_⟩
    refine ⟨_, rfl, a, _, rfl, .inr hx1, _, rfl, b, _, rfl, .inr hy1, rfl, ?_⟩
    rw [decide_eq_true (by rw [lx, ly])]
    refine ⟨_, rfl, iteT ?_⟩
    refine ⟨_, rfl, _, rfl, a, b, xs, ys, rfl, .inr ⟨hx1, hy1, fun D nD => ?_⟩⟩
    have sD := s0.trans (same_upd (o := .lst []) nD)
    refine lc_it (walk_zipT (K := K) (a := a) (b := b) (xs := xs) (ys := ys) rfl) (fun i H3 => Same H H3 ∧ H3 D = some (.lst (List.replicate i (.bl true)))) ⟨sD, upd_same⟩ (fun i H3 _ ⟨s3, _⟩ => ⟨Same.seqT s3 hx, Same.seqT s3 hy⟩) ?_ ?_
    · rintro i v H3 H4 hi ⟨s3, eD⟩ ⟨T, x, y, rfl, nT, rfl, e1, e2⟩
      obtain ⟨d1, g1, p1⟩ := DpAll.get ax e1
      obtain ⟨d2, g2, p2⟩ := DpAll.get ay e2
      obtain rfl : d1 = d2 := Option.some.inj (g1.symm.trans g2)
      have s4 := s3.trans (same_upd (o := .tup [x, y]) nT)
      refine ⟨T, _, rfl, .inl (.inl upd_same), rfl, _, _, rfl, _, _, rfl, rfl, rfl, ?_⟩
      refine yesT ?_
      refine ⟨_, rfl, _, rfl, x, y, d1, _, rfl, rfl, lv.2 d1 (List.mem_of_getElem? g1), Dp.same s4 _ _ p1, Dp.same s4 _ _ p2, fun H5 s5 => ?_⟩
      refine ⟨_, s5 _ _ (by rw [upd_ne (ne_of_none eD nT)]; exact eD), ?_, fun p o e => ?_, ?_⟩
      · rw [List.length_replicate]
        have := lv.1
        refine Nat.lt_of_lt_of_le (show i < 1000000 by omega) (by decide)
      · rw [upd_ne (ne_of_none e (s0.free nD))]
        exact s5 _ _ (s4 _ _ e)
      · rw [upd_same, repl_snoc]
    · rintro H3 ⟨s3, eD⟩
      refine ⟨D, List.replicate (min xs.length ys.length) true, rfl, .inl (.inl (by rw [List.map_replicate]; exact eD)), ?_⟩
      rw [all_repl]
      exact q _ s3
  | dict _ => cases dx
theorem ok_same {f : Addr} {fd : FuncData} (F : Fun K "_law_same" "_law_same" sSame f fd) (bf : Binds K fd ["_law_found", "_law_due"] []) (mf : mg "_law_same" = some (.ref f)) (B : Bl mg) : ∀ k : Nat, FnOk P w K mg base CX0 k f fd ["_law_found", "_law_due"] (spSame K k)
  | 0 => same_none
  | k + 1 => ok_same1 F (ok_same F bf mf B k) bf mf B
end
end GZ
namespace GM
theorem pow_pos' (n : Nat) : (0 : Int) < 2 ^ n := Int.pow_pos (by decide)
theorem pow_s (n : Nat) : (2 : Int) ^ (n + 1) = 2 ^ n * 2 := Int.pow_succ 2 n
theorem pow_le' {m n : Nat} (h : m ≤ n) : (2 : Int) ^ m ≤ 2 ^ n := by
  induction n with
  | zero =>
    have : m = 0 := by omega
    rw [this]
    exact Int.le_refl _
  | succ n ih =>
    by_cases e : m = n + 1
    · rw [e]
      exact Int.le_refl _
    · have := ih (by omega)
      have := pow_s n
      have := pow_pos' n
      omega
theorem pow_add' (m n : Nat) : (2 : Int) ^ (m + n) = 2 ^ m * 2 ^ n := Int.pow_add 2 m n
theorem bits_pow {x : Nat} {e : Nat} (h : x < 2 ^ e) : PySem.Builtin.Int.intBits (x : Int) ≤ e := PyProof.Rows.intBits_le (by rw [Int.natAbs_natCast]; exact h)
theorem bits_le_pow {x : Nat} {e : Nat} (h : 2 ^ e ≤ x) : e + 1 ≤ PySem.Builtin.Int.intBits (x : Int) := by
  have hx : x ≠ 0 := by
    have := Nat.two_pow_pos e
    omega
  unfold PySem.Builtin.Int.intBits
  rw [if_neg (by simpa using hx), Int.natAbs_natCast]
  have := (Nat.le_log2 hx).mpr h
  omega
theorem bits_unique {x e : Nat} (h1 : 2 ^ e ≤ x) (h2 : x < 2 ^ (e + 1)) : PySem.Builtin.Int.intBits (x : Int) = e + 1 := by
  have := bits_pow h2
  have := bits_le_pow h1
  omega
theorem bits_ex {x : Nat} (h : 0 < x) : ∃ e, 2 ^ e ≤ x ∧ x < 2 ^ (e + 1) := ⟨x.log2, Nat.log2_self_le (by omega), Nat.lt_log2_self⟩
theorem bits_half {x : Nat} (h : 0 < x) : PySem.Builtin.Int.intBits (x : Int) = PySem.Builtin.Int.intBits ((x / 2 : Nat) : Int) + 1 := by
  obtain ⟨e, h1, h2⟩ := bits_ex h
  rw [bits_unique h1 h2]
  cases e with
  | zero =>
    have : x = 1 := by
      simp at h1 h2
      omega
    rw [this]
    rfl
  | succ e =>
    rw [bits_unique (x := x / 2) (e := e)]
    · rw [Nat.pow_succ] at h1
      omega
    · rw [Nat.pow_succ] at h2
      omega
theorem bits_double {x m : Nat} (h : 0 < x) (hm : m ≤ 1) : PySem.Builtin.Int.intBits ((2 * x + m : Nat) : Int) = PySem.Builtin.Int.intBits (x : Int) + 1 := by
  rw [bits_half (x := 2 * x + m) (by omega), show (2 * x + m) / 2 = x by omega]
theorem shr_lt {x : Int} {a b : Nat} (h0 : 0 ≤ x) (h : x < 2 ^ (a + b)) : 0 ≤ x / 2 ^ b ∧ x / 2 ^ b < 2 ^ a := by
  have hb := pow_pos' b
  refine ⟨Int.ediv_nonneg h0 (by omega), ?_⟩
  rw [pow_add'] at h
  exact Int.ediv_lt_of_lt_mul hb h
end GM
namespace GM
/-! ### words: a sign, a scale of m bits, a tail of t bits -/
def bit (a : Int) (n : Nat) : Int := a / 2 ^ n % 2
def blr (a : Int) : Nat → List Int
  | 0 => []
  | n + 1 => bit a n :: blr a n
def wv : List Int → Int
  | [] => 0
  | d :: r => d * 2 ^ r.length + wv r
theorem blr_len (a : Int) : ∀ n, (blr a n).length = n
  | 0 => rfl
  | n + 1 => by
    show (blr a n).length + 1 = n + 1
    rw [blr_len a n]
theorem div_div (w : Int) (t m : Nat) : w / 2 ^ t / 2 ^ m = w / 2 ^ (t + m) := by
  rw [pow_add', Int.ediv_ediv_of_nonneg (Int.le_of_lt (pow_pos' t))]
theorem bit_div (w : Int) (t m : Nat) : bit (w / 2 ^ t) m = bit w (m + t) := by
  unfold bit
  rw [div_div, Nat.add_comm t m]
theorem blr_take (w : Int) (t : Nat) : ∀ m, (blr w (m + t)).take m = blr (w / 2 ^ t) m
  | 0 => rfl
  | m + 1 => by
    show (blr w ((m + 1) + t)).take (m + 1) = bit (w / 2 ^ t) m :: blr (w / 2 ^ t) m
    rw [show m + 1 + t = (m + t) + 1 by omega]
    show bit w (m + t) :: (blr w (m + t)).take m = _
    rw [blr_take w t m, bit_div]
theorem blr_drop (w : Int) (t : Nat) : ∀ m, (blr w (m + t)).drop m = blr w t
  | 0 => by rw [Nat.zero_add]; rfl
  | m + 1 => by
    rw [show m + 1 + t = (m + t) + 1 by omega]
    show (blr w (m + t)).drop m = _
    exact blr_drop w t m
theorem mod_step (a : Int) (n : Nat) : bit a n * 2 ^ n + a % 2 ^ n = a % 2 ^ (n + 1) := by
  unfold bit
  have hp := pow_pos' n
  have e1 := Int.emod_add_mul_ediv a (2 ^ n)
  have e2 := Int.emod_add_mul_ediv (a / 2 ^ n) 2
  have h1 := Int.emod_nonneg a (show (2 : Int) ^ n ≠ 0 by omega)
  have h2 := Int.emod_lt_of_pos a hp
  have e3 : 2 ^ n * (a / 2 ^ n) = a / 2 ^ n % 2 * 2 ^ n + a / 2 ^ n / 2 * (2 ^ n * 2) := by
    conv => lhs; rw [← e2]
    rw [Int.mul_add, Int.mul_comm (2 ^ n) (a / 2 ^ n % 2), ← Int.mul_assoc, Int.mul_comm (2 ^ n * 2) _]
  have key : (a / 2 ^ n % 2 * 2 ^ n + a % 2 ^ n) + a / 2 ^ n / 2 * 2 ^ (n + 1) = a := by
    rw [pow_s]
    omega
  have hb : 0 ≤ a / 2 ^ n % 2 * 2 ^ n + a % 2 ^ n ∧ a / 2 ^ n % 2 * 2 ^ n + a % 2 ^ n < 2 ^ (n + 1) := by
    rw [pow_s]
    have : a / 2 ^ n % 2 = 0 ∨ a / 2 ^ n % 2 = 1 := by omega
    rcases this with z | z <;> rw [z] <;> omega
  have em := Int.add_mul_emod_self_right (a / 2 ^ n % 2 * 2 ^ n + a % 2 ^ n) (a / 2 ^ n / 2) (2 ^ (n + 1))
  rw [key, Int.emod_eq_of_lt hb.1 hb.2] at em
  exact em.symm
theorem wv_blr (a : Int) : ∀ n, wv (blr a n) = a % 2 ^ n
  | 0 => by
    show (0 : Int) = a % 1
    omega
  | n + 1 => by
    show bit a n * 2 ^ (blr a n).length + wv (blr a n) = _
    rw [blr_len, wv_blr a n, ← mod_step a n]
theorem fold2 : ∀ (ds : List Int) (w : Int), ds.foldl (fun a b => a * 2 + b) w = w * 2 ^ ds.length + wv ds
  | [], w => by
    show w = w * 2 ^ 0 + 0
    rw [Int.pow_zero]
    omega
  | d :: r, w => by
    show r.foldl (fun a b => a * 2 + b) (w * 2 + d) = w * 2 ^ (r.length + 1) + (d * 2 ^ r.length + wv r)
    rw [fold2 r, pow_s, Int.add_mul, Int.mul_assoc, Int.mul_comm 2 (2 ^ r.length)]
    omega
theorem wv_ones : ∀ k, wv (List.replicate k 1) = 2 ^ k - 1
  | 0 => rfl
  | k + 1 => by
    rw [List.replicate_succ]
    show 1 * 2 ^ (List.replicate k (1 : Int)).length + wv (List.replicate k 1) = _
    rw [List.length_replicate, wv_ones k, pow_s]
    omega
/-- sign, scale, tail of a word -/
def sgn (m t : Nat) (w : Int) : Int := w / 2 ^ (m + t) % 2
def scl (m t : Nat) (w : Int) : Int := w / 2 ^ t % 2 ^ m
def tlp (t : Nat) (w : Int) : Int := w % 2 ^ t
theorem scl_tlp (m t : Nat) (w : Int) : scl m t w * 2 ^ t + tlp t w = w % 2 ^ (m + t) := by
  induction m with
  | zero =>
    unfold scl tlp
    rw [Int.pow_zero, Int.emod_one, Int.zero_mul, Int.zero_add, Nat.zero_add]
  | succ m ih =>
    have e := mod_step (w / 2 ^ t) m
    have e2 := mod_step w (m + t)
    rw [bit_div] at e
    unfold scl at ih ⊢
    rw [← e, Int.add_mul, show m + 1 + t = (m + t) + 1 by omega, ← e2, ← ih, Int.mul_assoc, ← pow_add']
    omega
theorem sgn_01 {m t : Nat} {w : Int} : sgn m t w = 0 ∨ sgn m t w = 1 := by
  unfold sgn
  omega
theorem word_eq {m t : Nat} {w : Int} (h0 : 0 ≤ w) (h1 : w < 2 ^ (1 + m + t)) : sgn m t w * 2 ^ (m + t) + w % 2 ^ (m + t) = w := by
  have e := mod_step w (m + t)
  rw [show m + t + 1 = 1 + m + t by omega, Int.emod_eq_of_lt h0 h1] at e
  exact e
theorem scl_nn (m t : Nat) (w : Int) : 0 ≤ scl m t w ∧ scl m t w < 2 ^ m := ⟨Int.emod_nonneg _ (by have := pow_pos' m; omega), Int.emod_lt_of_pos _ (pow_pos' m)⟩
theorem tlp_nn (t : Nat) (w : Int) : 0 ≤ tlp t w ∧ tlp t w < 2 ^ t := ⟨Int.emod_nonneg _ (by have := pow_pos' t; omega), Int.emod_lt_of_pos _ (pow_pos' t)⟩
/-- with the other sign -/
def trn (m t : Nat) (w : Int) : Int := (1 - sgn m t w) * 2 ^ (m + t) + w % 2 ^ (m + t)
theorem mk_parts {m t : Nat} {s r : Int} (hs : s = 0 ∨ s = 1) (h0 : 0 ≤ r) (h1 : r < 2 ^ (m + t)) : 0 ≤ s * 2 ^ (m + t) + r ∧ s * 2 ^ (m + t) + r < 2 ^ (1 + m + t) ∧ sgn m t (s * 2 ^ (m + t) + r) = s ∧ (s * 2 ^ (m + t) + r) % 2 ^ (m + t) = r := by
  have hp := pow_pos' (m + t)
  have e : (2 : Int) ^ (1 + m + t) = 2 ^ (m + t) * 2 := by rw [← pow_s]; congr 1; omega
  have em : (s * 2 ^ (m + t) + r) % 2 ^ (m + t) = r := by
    rw [Int.add_comm, Int.add_mul_emod_self_right, Int.emod_eq_of_lt h0 h1]
  have ed : (s * 2 ^ (m + t) + r) / 2 ^ (m + t) = s := by
    rw [Int.add_comm, Int.add_mul_ediv_right _ _ (by omega), Int.ediv_eq_zero_of_lt h0 h1, Int.zero_add]
  refine ⟨?_, ?_, ?_, em⟩
  · rcases hs with z | z <;> subst z <;> omega
  · rw [e]
    rcases hs with z | z <;> subst z <;> omega
  · unfold sgn
    rw [ed]
    omega
theorem trn_trn {m t : Nat} {w : Int} (h0 : 0 ≤ w) (h1 : w < 2 ^ (1 + m + t)) : trn m t (trn m t w) = w ∧ 0 ≤ trn m t w ∧ trn m t w < 2 ^ (1 + m + t) := by
  have hp := pow_pos' (m + t)
  have hs : 1 - sgn m t w = 0 ∨ 1 - sgn m t w = 1 := by
    have := sgn_01 (m := m) (t := t) (w := w)
    omega
  obtain ⟨a, b, c, d⟩ := mk_parts (m := m) (t := t) hs (Int.emod_nonneg w (show (2 : Int) ^ (m + t) ≠ 0 by omega)) (Int.emod_lt_of_pos w hp)
  refine ⟨?_, a, b⟩
  show (1 - sgn m t (trn m t w)) * 2 ^ (m + t) + trn m t w % 2 ^ (m + t) = w
  rw [show sgn m t (trn m t w) = 1 - sgn m t w from c, show trn m t w % 2 ^ (m + t) = w % 2 ^ (m + t) from d, show 1 - (1 - sgn m t w) = sgn m t w by omega]
  exact word_eq h0 h1
end GM
namespace GR
open PySem
/-! ### the rounding, as a function -/
def bl (n : Int) : Int := (Builtin.Int.intBits n : Nat)
def cutQ (n b : Int) : Int := if b < 0 then n * 2 ^ (-b).toNat else n / 2 ^ b.toNat
def cutR (n b : Int) : Bool := if b < 0 then false else !decide (n / 2 ^ b.toNat * 2 ^ b.toNat = n)
def lea (sc tl : Nat) : Int := 1 - (2 ^ (sc - 1) - 1) - (tl : Int)
def lap (sc tl : Nat) (n p : Int) : Int := if lea sc tl > bl n + p - 1 - (tl : Int) then lea sc tl else bl n + p - 1 - (tl : Int)
def prQ (n b : Int) : Int := cutQ n (b - 1) / 2 ^ 1
def prR (n b : Int) (more : Bool) : Int := 2 * (cutQ n (b - 1) % 2 ^ 1) + (if cutR n (b - 1) || more then 1 else 0)
def away (way : Str) (s : Int) : Bool := if way = "cut" then false else decide (s = if way = "up" then 0 else 1)
def gup (way : Str) (s many rest : Int) : Bool := if way = "near" then decide (rest = 3) || (decide (rest = 2) && decide (many % 2 = 1)) else !decide (rest = 0) && away way s
def wrd (sc tl : Nat) (s m t : Int) : Int := s * 2 ^ (sc + tl) + (m * 2 ^ tl + t)
def bey (sc tl : Nat) (s : Int) (way : Str) : Int := if (decide (way = "near") || away way s) = true then wrd sc tl s (2 ^ sc - 1) 0 else wrd sc tl s (2 ^ sc - 1 - 1) (2 ^ tl - 1)
def flg (sc : Nat) (n p rest : Int) : List Str := if rest = 0 then [] else if bl n + p ≤ 1 - (2 ^ (sc - 1) - 1) then ["under", "rounded"] else ["rounded"]
def mny (sc tl : Nat) (s n p : Int) (way : Str) (more : Bool) : Int := if gup way s (prQ n (lap sc tl n p - p)) (prR n (lap sc tl n p - p) more) = true then prQ n (lap sc tl n p - p) + 1 else prQ n (lap sc tl n p - p)
def siz (sc tl : Nat) (s n p : Int) (way : Str) (more : Bool) : Int := (lap sc tl n p - lea sc tl) * 2 ^ tl + mny sc tl s n p way more
def rnd (sc tl : Nat) (s n p : Int) (way : Str) (more : Bool) : Int × List Str :=
  if n = 0 then (wrd sc tl s 0 0, [])
  else if siz sc tl s n p way more > wrd sc tl 0 (2 ^ sc - 1 - 1) (2 ^ tl - 1) then (bey sc tl s way, ["over", "rounded"])
  else (wrd sc tl s 0 0 + siz sc tl s n p way more, flg sc n p (prR n (lap sc tl n p - p) more))
theorem lap_ge (sc tl : Nat) (n p : Int) : lea sc tl ≤ lap sc tl n p := by
  unfold lap
  split <;> omega
end GR
namespace GM
/-! ### sizes and their worths -/
def topS (m t : Nat) : Int := (2 ^ m - 1) * 2 ^ t
def num (t : Nat) (s : Int) : Int := if s / 2 ^ t = 0 then s % 2 ^ t else 2 ^ t + s % 2 ^ t
def ex (t : Nat) (s : Int) : Nat := (s / 2 ^ t).toNat - 1
def numE (m t : Nat) (s : Int) : Int := if s = topS m t then 1 else num t s
def exE (m t : Nat) (s : Int) : Nat := if s = topS m t then 1998 + 2 ^ (m - 1) + t else ex t s
def Vv (m t : Nat) (s : Int) : Int := numE m t s * 2 ^ exE m t s
theorem sz_parts (t : Nat) (s : Int) : s / 2 ^ t * 2 ^ t + s % 2 ^ t = s := by
  have := Int.emod_add_mul_ediv s (2 ^ t)
  rw [Int.mul_comm] at this
  omega
theorem num_nn {t : Nat} {s : Int} (h : 0 ≤ s) : 0 ≤ num t s := by
  have hp := pow_pos' t
  have := Int.emod_nonneg s (show (2 : Int) ^ t ≠ 0 by omega)
  unfold num
  split <;> omega
/-- below 2 ^ t times 2 ^ h -/
theorem num_lt {t : Nat} {s : Int} (h0 : 0 ≤ s) : num t s * 2 ^ ex t s < 2 ^ t * 2 ^ (s / 2 ^ t).toNat := by
  have hp := pow_pos' t
  have hl := Int.emod_lt_of_pos s hp
  have hd := Int.ediv_nonneg h0 (Int.le_of_lt hp)
  unfold num ex
  split
  · rename_i e
    rw [e]
    show s % 2 ^ t * 2 ^ 0 < 2 ^ t * 2 ^ 0
    rw [Int.pow_zero]
    omega
  · rename_i e
    obtain ⟨k, hk⟩ : ∃ k : Nat, (s / 2 ^ t).toNat = k + 1 := ⟨(s / 2 ^ t).toNat - 1, by omega⟩
    rw [hk, Nat.add_sub_cancel, pow_s, ← Int.mul_assoc]
    have hk2 := pow_pos' k
    have : (2 ^ t + s % 2 ^ t) * 2 ^ k < (2 ^ t * 2) * 2 ^ k := Int.mul_lt_mul_of_pos_right (by omega) hk2
    rw [show (2 : Int) ^ t * 2 ^ k * 2 = 2 ^ t * 2 * 2 ^ k by rw [Int.mul_assoc, Int.mul_assoc, Int.mul_comm (2 ^ k) 2]]
    exact this
theorem num_ge {t : Nat} {s : Int} {k : Nat} (h : (s / 2 ^ t).toNat = k + 1) : 2 ^ t * 2 ^ k ≤ num t s * 2 ^ ex t s := by
  have hp := pow_pos' t
  have := Int.emod_nonneg s (show (2 : Int) ^ t ≠ 0 by omega)
  have hk2 := pow_pos' k
  unfold num ex
  rw [if_neg (by omega), h, Nat.add_sub_cancel]
  exact Int.mul_le_mul_of_nonneg_right (by omega) (by omega)
theorem num_mono {t : Nat} {a b : Int} (h0 : 0 ≤ a) (h : a < b) : num t a * 2 ^ ex t a < num t b * 2 ^ ex t b := by
  have hp := pow_pos' t
  have ea := sz_parts t a
  have eb := sz_parts t b
  have la := Int.emod_lt_of_pos a hp
  have na := Int.emod_nonneg a (show (2 : Int) ^ t ≠ 0 by omega)
  have nb := Int.emod_nonneg b (show (2 : Int) ^ t ≠ 0 by omega)
  have lb := Int.emod_lt_of_pos b hp
  have hle : a / 2 ^ t ≤ b / 2 ^ t := Int.ediv_le_ediv hp (by omega)
  have hd := Int.ediv_nonneg h0 (Int.le_of_lt hp)
  by_cases e : a / 2 ^ t = b / 2 ^ t
  · have hl : a % 2 ^ t < b % 2 ^ t := by
      rw [e] at ea
      omega
    have hx : ex t a = ex t b := by unfold ex; rw [e]
    rw [hx]
    refine Int.mul_lt_mul_of_pos_right ?_ (pow_pos' _)
    unfold num
    rw [e]
    split <;> omega
  · obtain ⟨k, hk⟩ : ∃ k : Nat, (b / 2 ^ t).toNat = k + 1 := ⟨(b / 2 ^ t).toNat - 1, by omega⟩
    have h1 := num_lt (t := t) h0
    have h2 := num_ge hk
    have h3 : (2 : Int) ^ t * 2 ^ (a / 2 ^ t).toNat ≤ 2 ^ t * 2 ^ k := Int.mul_le_mul_of_nonneg_left (pow_le' (by omega)) (by omega)
    omega
theorem Vv_mono {m t : Nat} (hm : m ≤ 8) {a b : Int} (h0 : 0 ≤ a) (h : a < b) (hb : b ≤ topS m t) : Vv m t a < Vv m t b := by
  unfold Vv numE exE
  rw [if_neg (by omega), if_neg (by omega)]
  by_cases e : b = topS m t
  · rw [if_pos e, if_pos e, Int.one_mul]
    have h1 := num_lt (t := t) h0
    have hp := pow_pos' t
    have hq : a / 2 ^ t < 2 ^ m := by
      refine Int.ediv_lt_of_lt_mul hp ?_
      have : topS m t ≤ 2 ^ m * 2 ^ t := Int.mul_le_mul_of_nonneg_right (by omega) (by omega)
      omega
    have h8 : (2 : Int) ^ m ≤ 2 ^ 8 := pow_le' hm
    rw [← pow_add'] at h1
    have h3 : (a / 2 ^ t).toNat ≤ 256 := by omega
    have h2 : (2 : Int) ^ (t + (a / 2 ^ t).toNat) ≤ 2 ^ (1998 + 2 ^ (m - 1) + t) := pow_le' (by
      generalize 2 ^ (m - 1) = zz
      omega)
    omega
  · rw [if_neg e, if_neg e]
    exact num_mono h0 h
theorem Vv_zero (m t : Nat) (h : 0 < topS m t) : Vv m t 0 = 0 := by
  unfold Vv numE num
  rw [if_neg (by omega), Int.zero_ediv, if_pos rfl, Int.zero_emod, Int.zero_mul]
/-- how two words stand to each other, by worths and by sizes -/
theorem cmp_eq {m t : Nat} (hm : m ≤ 8) {a b : Int} (a0 : 0 ≤ a) (a1 : a ≤ topS m t) (b0 : 0 ≤ b) (b1 : b ≤ topS m t) (hT : 0 < topS m t) (g h : Bool) :
    ((if g then 0 - numE m t a else numE m t a) * 2 ^ (exE m t a - min (exE m t a) (exE m t b)) = (if h then 0 - numE m t b else numE m t b) * 2 ^ (exE m t b - min (exE m t a) (exE m t b)) ↔ (if g then -a else a) = (if h then -b else b)) ∧
    ((if g then 0 - numE m t a else numE m t a) * 2 ^ (exE m t a - min (exE m t a) (exE m t b)) < (if h then 0 - numE m t b else numE m t b) * 2 ^ (exE m t b - min (exE m t a) (exE m t b)) ↔ (if g then -a else a) < (if h then -b else b)) := by
  have pm := pow_pos' (min (exE m t a) (exE m t b))
  have ea : (if g then 0 - numE m t a else numE m t a) * 2 ^ (exE m t a - min (exE m t a) (exE m t b)) * 2 ^ min (exE m t a) (exE m t b) = (if g then -Vv m t a else Vv m t a) := by
    rw [Int.mul_assoc, ← pow_add', show exE m t a - min (exE m t a) (exE m t b) + min (exE m t a) (exE m t b) = exE m t a by omega]
    unfold Vv
    cases g
    · rfl
    · show (0 - numE m t a) * 2 ^ exE m t a = -(numE m t a * 2 ^ exE m t a)
      rw [Int.zero_sub, Int.neg_mul]
  have eb : (if h then 0 - numE m t b else numE m t b) * 2 ^ (exE m t b - min (exE m t a) (exE m t b)) * 2 ^ min (exE m t a) (exE m t b) = (if h then -Vv m t b else Vv m t b) := by
    rw [Int.mul_assoc, ← pow_add', show exE m t b - min (exE m t a) (exE m t b) + min (exE m t a) (exE m t b) = exE m t b by omega]
    unfold Vv
    cases h
    · rfl
    · show (0 - numE m t b) * 2 ^ exE m t b = -(numE m t b * 2 ^ exE m t b)
      rw [Int.zero_sub, Int.neg_mul]
  generalize (if g then 0 - numE m t a else numE m t a) * 2 ^ (exE m t a - min (exE m t a) (exE m t b)) = x at *
  generalize (if h then 0 - numE m t b else numE m t b) * 2 ^ (exE m t b - min (exE m t a) (exE m t b)) = y at *
  have exy : (x = y ↔ (if g then -Vv m t a else Vv m t a) = (if h then -Vv m t b else Vv m t b)) ∧ (x < y ↔ (if g then -Vv m t a else Vv m t a) < (if h then -Vv m t b else Vv m t b)) := by
    rw [← ea, ← eb]
    generalize (2 : Int) ^ min (exE m t a) (exE m t b) = d at *
    refine ⟨⟨fun z => by rw [z], fun z => Int.eq_of_mul_eq_mul_right (by omega) z⟩, ⟨fun z => Int.mul_lt_mul_of_pos_right z pm, fun z => Int.lt_of_mul_lt_mul_right z (by omega)⟩⟩
  rw [exy.1, exy.2]
  have z := Vv_zero m t hT
  have pa : a = 0 ∨ 0 < Vv m t a := by
    rcases Int.lt_or_eq_of_le a0 with q | q
    · have := Vv_mono hm (Int.le_refl 0) q a1
      omega
    · exact .inl q.symm
  have pb : b = 0 ∨ 0 < Vv m t b := by
    rcases Int.lt_or_eq_of_le b0 with q | q
    · have := Vv_mono hm (Int.le_refl 0) q b1
      omega
    · exact .inl q.symm
  have za : a = 0 → Vv m t a = 0 := fun q => by rw [q]; exact z
  have zb : b = 0 → Vv m t b = 0 := fun q => by rw [q]; exact z
  have lt1 : a < b → Vv m t a < Vv m t b := fun q => Vv_mono hm a0 q b1
  have lt2 : b < a → Vv m t b < Vv m t a := fun q => Vv_mono hm b0 q a1
  have eqq : a = b → Vv m t a = Vv m t b := fun q => by rw [q]
  generalize Vv m t a = u at *
  generalize Vv m t b = v at *
  have tri : a < b ∨ a = b ∨ b < a := by omega
  cases g <;> cases h <;> simp only [if_true, if_false, Bool.false_eq_true] <;>
    (rcases tri with q | q | q
     · have := lt1 q; rcases pa with w | w <;> rcases pb with w2 | w2 <;> (try have := za w) <;> (try have := zb w2) <;> constructor <;> omega
     · have := eqq q; rcases pa with w | w <;> rcases pb with w2 | w2 <;> (try have := za w) <;> (try have := zb w2) <;> constructor <;> omega
     · have := lt2 q; rcases pa with w | w <;> rcases pb with w2 | w2 <;> (try have := za w) <;> (try have := zb w2) <;> constructor <;> omega)
end GM
namespace GM
theorem div_s (x : Int) (k : Nat) : x / 2 ^ (k + 1) = x / 2 ^ k / 2 := by
  rw [pow_s, Int.ediv_ediv_of_nonneg (Int.le_of_lt (pow_pos' k))]
end GM
namespace GR
open PySem GM
/-! ### where a worth stands between two words -/
def cmpM (N Mo V : Int) (more : Bool) : Int := if N = V then (if more then 1 else 0) else if N > V then 1 else if N + (if more then 1 else 0) * Mo ≤ V then -1 else 1
theorem cmp_scale {c N Mo V : Int} {more : Bool} (h : 0 < c) : cmpM (N * c) (Mo * c) (V * c) more = cmpM N Mo V more := by
  unfold cmpM
  have e1 : N * c = V * c ↔ N = V := ⟨fun z => Int.eq_of_mul_eq_mul_right (by omega) z, fun z => by rw [z]⟩
  have e2 : N * c > V * c ↔ N > V := ⟨fun z => Int.lt_of_mul_lt_mul_right z (by omega), fun z => Int.mul_lt_mul_of_pos_right z h⟩
  have e3 : N * c + (if more then 1 else 0) * (Mo * c) ≤ V * c ↔ N + (if more then 1 else 0) * Mo ≤ V := by
    rw [← Int.mul_assoc, ← Int.add_mul]
    exact ⟨fun z => Int.le_of_mul_le_mul_right z h, fun z => Int.mul_le_mul_of_nonneg_right z (by omega)⟩
  by_cases c1 : N = V
  · rw [if_pos c1, if_pos (e1.mpr c1)]
  · rw [if_neg c1, if_neg (fun z => c1 (e1.mp z))]
    by_cases c2 : N > V
    · rw [if_pos c2, if_pos (e2.mpr c2)]
    · rw [if_neg c2, if_neg (fun z => c2 (e2.mp z))]
      by_cases c3 : N + (if more then 1 else 0) * Mo ≤ V
      · rw [if_pos c3, if_pos (e3.mpr c3)]
      · rw [if_neg c3, if_neg (fun z => c3 (e3.mp z))]
theorem cmp_ge {N Mo V : Int} {more : Bool} (h : V ≤ N) : 0 ≤ cmpM N Mo V more := by
  unfold cmpM
  split
  · split <;> decide
  · rw [if_pos (by omega)]
    decide
theorem cmp_lt {N Mo V : Int} {more : Bool} (h : N < V) (hm : more = true → N + Mo ≤ V) : cmpM N Mo V more = -1 := by
  unfold cmpM
  rw [if_neg (by omega), if_neg (by omega), if_pos ?_]
  cases more with
  | true =>
    have := hm rfl
    rw [if_pos rfl]
    omega
  | false =>
    rw [if_neg (by decide)]
    omega
/-! ### cutting off, on one scale -/
theorem cut_scale {n : Int} {a D : Nat} {b : Int} (hb : (D : Int) = a + b) : cutQ n b = n * 2 ^ a / 2 ^ D ∧ cutR n b = !decide (n * 2 ^ a % 2 ^ D = 0) := by
  have hD := pow_pos' D
  have ha := pow_pos' a
  unfold cutQ cutR
  by_cases c : b < 0
  · rw [if_pos c, if_pos c]
    have e : (2 : Int) ^ a = 2 ^ (-b).toNat * 2 ^ D := by rw [← pow_add']; congr 1; omega
    rw [e, ← Int.mul_assoc]
    refine ⟨(Int.mul_ediv_cancel _ (by omega)).symm, ?_⟩
    rw [Int.mul_emod_left, decide_eq_true rfl]
    rfl
  · rw [if_neg c, if_neg c]
    have e : (2 : Int) ^ D = 2 ^ b.toNat * 2 ^ a := by rw [← pow_add']; congr 1; omega
    have hp := pow_pos' b.toNat
    rw [e, Int.mul_ediv_mul_of_pos_left _ _ ha]
    refine ⟨rfl, ?_⟩
    rw [show n * 2 ^ a % (2 ^ b.toNat * 2 ^ a) = n % 2 ^ b.toNat * 2 ^ a by rw [Int.mul_comm n, Int.mul_comm (2 ^ b.toNat), Int.mul_emod_mul_of_pos _ _ ha, Int.mul_comm]]
    have e2 := Int.emod_add_mul_ediv n (2 ^ b.toNat)
    rw [Int.mul_comm] at e2
    by_cases d : n % 2 ^ b.toNat = 0
    · rw [d, Int.zero_mul, decide_eq_true rfl, decide_eq_true (by omega)]
    · have d2 : ¬ n % 2 ^ b.toNat * 2 ^ a = 0 := fun z => by
        rcases Int.mul_eq_zero.mp z with y | y
        · exact d y
        · omega
      rw [decide_eq_false d2, decide_eq_false (by omega)]
/-! ### the worth of a size -/
def W (t : Nat) (u : Int) : Int := num t u * 2 ^ ex t u
theorem W_at {t : Nat} {d : Nat} {m : Int} (h0 : 0 ≤ m) (h1 : m ≤ 2 ^ t * 2) (h2 : d = 0 ∨ 2 ^ t ≤ m) : W t (d * 2 ^ t + m) = m * 2 ^ d := by
  have hp := pow_pos' t
  unfold W
  by_cases c : m < 2 ^ t
  · have hd : d = 0 := by omega
    subst hd
    have e : ((0 : Nat) : Int) * 2 ^ t + m = m := by omega
    rw [e]
    unfold num ex
    rw [Int.ediv_eq_zero_of_lt h0 c, if_pos rfl, Int.emod_eq_of_lt h0 c]
    rfl
  · by_cases c2 : m < 2 ^ t * 2
    · have ed : ((d : Int) * 2 ^ t + m) / 2 ^ t = (d : Int) + 1 := by
        rw [show (d : Int) * 2 ^ t + m = (m - 2 ^ t) + ((d : Int) + 1) * 2 ^ t by rw [Int.add_mul]; omega, Int.add_mul_ediv_right _ _ (by omega), Int.ediv_eq_zero_of_lt (by omega) (by omega)]
        omega
      have em : ((d : Int) * 2 ^ t + m) % 2 ^ t = m - 2 ^ t := by
        rw [show (d : Int) * 2 ^ t + m = (m - 2 ^ t) + ((d : Int) + 1) * 2 ^ t by rw [Int.add_mul]; omega, Int.add_mul_emod_self_right, Int.emod_eq_of_lt (by omega) (by omega)]
      unfold num ex
      rw [ed, em, if_neg (by omega), show ((d : Int) + 1).toNat - 1 = d by omega, show 2 ^ t + (m - 2 ^ t) = m by omega]
    · have hm : m = 2 ^ t * 2 := by omega
      have ed : ((d : Int) * 2 ^ t + m) / 2 ^ t = (d : Int) + 2 := by
        rw [show (d : Int) * 2 ^ t + m = 0 + ((d : Int) + 2) * 2 ^ t by rw [Int.add_mul]; omega, Int.add_mul_ediv_right _ _ (by omega), Int.zero_ediv]
        omega
      have em : ((d : Int) * 2 ^ t + m) % 2 ^ t = 0 := by
        rw [show (d : Int) * 2 ^ t + m = 0 + ((d : Int) + 2) * 2 ^ t by rw [Int.add_mul]; omega, Int.add_mul_emod_self_right, Int.zero_emod]
      unfold num ex
      rw [ed, em, if_neg (by omega), show ((d : Int) + 2).toNat - 1 = d + 1 by omega, hm, pow_s, Int.add_zero, Int.mul_assoc, Int.mul_comm 2 (2 ^ d)]
theorem W_mono {t : Nat} {a b : Int} (h0 : 0 ≤ a) (h : a < b) : W t a < W t b := num_mono h0 h
theorem W_le {t : Nat} {a b : Int} (h0 : 0 ≤ a) (h : a ≤ b) : W t a ≤ W t b := by
  rcases Int.lt_or_eq_of_le h with c | c
  · exact Int.le_of_lt (W_mono h0 c)
  · rw [c]
    exact Int.le_refl _
theorem bl_in {n : Int} (h : 0 < n) : ∃ k : Nat, bl n = (k : Int) + 1 ∧ 2 ^ k ≤ n ∧ n < 2 ^ (k + 1) := by
  obtain ⟨e, h1, h2⟩ := bits_ex (x := n.toNat) (by omega)
  have hb := bits_unique h1 h2
  have c1 : ((2 ^ e : Nat) : Int) = (2 : Int) ^ e := PySem.W.kbt_cast _
  have c2 : ((2 ^ (e + 1) : Nat) : Int) = (2 : Int) ^ (e + 1) := PySem.W.kbt_cast _
  rw [show ((n.toNat : Nat) : Int) = n by omega] at hb
  refine ⟨e, ?_, by omega, by omega⟩
  unfold bl
  rw [hb]
  omega
/-- what the search meets, and what the rounding reckons -/
structure Fl (sc tl : Nat) (n p : Int) (more : Bool) (N Mo bq low0 : Int) : Prop where
  lo0 : 0 ≤ low0
  le : ∀ u, 0 ≤ u → u ≤ low0 → 0 ≤ cmpM N Mo (W tl u * bq) more
  gt : ∀ u, low0 < u → cmpM N Mo (W tl u * bq) more = -1
  just : cmpM N Mo (W tl low0 * bq) more = 0 ↔ prR n (lap sc tl n p - p) more = 0
  half : cmpM (N * 2) (Mo * 2) (W tl low0 * bq + W tl (low0 + 1) * bq) more = (if prR n (lap sc tl n p - p) more = 3 then 1 else if prR n (lap sc tl n p - p) more = 2 then 0 else -1)
  rest : 0 ≤ prR n (lap sc tl n p - p) more ∧ prR n (lap sc tl n p - p) more ≤ 3
  odd : low0 % 2 = prQ n (lap sc tl n p - p) % 2
  und : cmpM N Mo (W tl (2 ^ tl) * bq) more < 0 ↔ bl n + p ≤ 1 - (2 ^ (sc - 1) - 1)
theorem floor_facts {sc tl : Nat} {n p : Int} {more : Bool} (htl : 1 ≤ tl) (hn : 0 < n) (hm : more = true → p < lap sc tl n p) {a b : Nat} {B : Int} (ha : p - B = a) (hb : lea sc tl - B = (b : Int) + 1) :
    Fl sc tl n p more (n * 2 ^ a) (2 ^ a) (2 ^ (b + 1)) ((lap sc tl n p - lea sc tl) * 2 ^ tl + prQ n (lap sc tl n p - p)) := by
  obtain ⟨k, hk, hk1, hk2⟩ := bl_in hn
  have hge := lap_ge sc tl n p
  obtain ⟨d, hd⟩ : ∃ d : Nat, lap sc tl n p - lea sc tl = (d : Int) := ⟨(lap sc tl n p - lea sc tl).toNat, by omega⟩
  have hcase : (d = 0 ∧ bl n + p - 1 - tl ≤ lap sc tl n p) ∨ lap sc tl n p = bl n + p - 1 - tl := by
    unfold lap at hd ⊢
    split
    · rename_i c
      rw [if_pos c] at hd
      exact .inl ⟨by omega, by omega⟩
    · exact .inr rfl
  have hle : bl n + p - 1 - tl ≤ lap sc tl n p := by omega
  -- the scale
  obtain ⟨hQ, hR⟩ := cut_scale (n := n) (a := a) (D := d + b) (b := lap sc tl n p - p - 1) (by omega)
  have pD := pow_pos' (d + b)
  have pa := pow_pos' a
  have pt := pow_pos' tl
  have pD1 : (2 : Int) ^ (d + b + 1) = 2 ^ (d + b) * 2 := pow_s _
  have eq : prQ n (lap sc tl n p - p) = n * 2 ^ a / 2 ^ (d + b + 1) := by
    show cutQ n (lap sc tl n p - p - 1) / 2 ^ 1 = _
    rw [hQ, GM.div_div]
  have er : prR n (lap sc tl n p - p) more = 2 * (n * 2 ^ a / 2 ^ (d + b) % 2) + (if (!decide (n * 2 ^ a % 2 ^ (d + b) = 0)) || more then 1 else 0) := by
    show 2 * (cutQ n (lap sc tl n p - p - 1) % 2 ^ 1) + (if cutR n (lap sc tl n p - p - 1) || more then 1 else 0) = _
    rw [hQ, hR]
    rfl
  have hN0 : 0 < n * 2 ^ a := Int.mul_pos hn pa
  have moreD : more = true → ∃ f : Nat, (2 : Int) ^ (d + b) = 2 ^ f * 2 ^ a := fun z => by
    have := hm z
    refine ⟨d + b - a, ?_⟩
    rw [← pow_add']
    congr 1
    omega
  -- sizes of the number
  have hNlt : n * 2 ^ a < 2 ^ (k + 1 + a) := by
    rw [pow_add']
    exact Int.mul_lt_mul_of_pos_right hk2 pa
  have hNge : 2 ^ (k + a) ≤ n * 2 ^ a := by
    rw [pow_add']
    exact Int.mul_le_mul_of_nonneg_right hk1 (by omega)
  have hkd : k + 1 + a ≤ tl + 1 + (d + b + 1) := by omega
  have hm1 : n * 2 ^ a / 2 ^ (d + b + 1) < 2 ^ tl * 2 := by
    refine Int.ediv_lt_of_lt_mul (by omega) ?_
    rw [← pow_s, ← pow_add']
    exact Int.lt_of_lt_of_le hNlt (pow_le' hkd)
  have hm0 : 0 ≤ n * 2 ^ a / 2 ^ (d + b + 1) := Int.ediv_nonneg (by omega) (by omega)
  have hm2 : d = 0 ∨ 2 ^ tl ≤ n * 2 ^ a / 2 ^ (d + b + 1) := by
    rcases hcase with h | h
    · exact .inl h.1
    · right
      refine (Int.le_ediv_iff_mul_le (by omega)).mpr ?_
      rw [← pow_add']
      exact Int.le_trans (pow_le' (by omega)) hNge
  rw [eq, hd]
  have eN := Int.emod_add_mul_ediv (n * 2 ^ a) (2 ^ (d + b + 1))
  have r0 := Int.emod_nonneg (n * 2 ^ a) (show (2 : Int) ^ (d + b + 1) ≠ 0 by omega)
  have r1 := Int.emod_lt_of_pos (n * 2 ^ a) (show (0 : Int) < 2 ^ (d + b + 1) by omega)
  have fN := Int.emod_add_mul_ediv (n * 2 ^ a) (2 ^ (d + b))
  have s0 := Int.emod_nonneg (n * 2 ^ a) (show (2 : Int) ^ (d + b) ≠ 0 by omega)
  have s1 := Int.emod_lt_of_pos (n * 2 ^ a) pD
  have hh : n * 2 ^ a / 2 ^ (d + b + 1) = n * 2 ^ a / 2 ^ (d + b) / 2 := GM.div_s _ _
  have pt2 : (2 : Int) ^ tl = 2 ^ (tl - 1) * 2 := by rw [← pow_s]; congr 1; omega
  have bb : (2 : Int) ^ d * 2 ^ (b + 1) = 2 ^ (d + b) * 2 := by rw [← pow_add', show d + (b + 1) = d + b + 1 by omega, pow_s]
  have v0 : W tl ((d : Int) * 2 ^ tl + n * 2 ^ a / 2 ^ (d + b + 1)) * 2 ^ (b + 1) = n * 2 ^ a / 2 ^ (d + b + 1) * (2 ^ (d + b) * 2) := by
    rw [W_at hm0 (by omega) hm2, Int.mul_assoc, bb]
  have v1 : W tl ((d : Int) * 2 ^ tl + n * 2 ^ a / 2 ^ (d + b + 1) + 1) * 2 ^ (b + 1) = (n * 2 ^ a / 2 ^ (d + b + 1) + 1) * (2 ^ (d + b) * 2) := by
    rw [show (d : Int) * 2 ^ tl + n * 2 ^ a / 2 ^ (d + b + 1) + 1 = (d : Int) * 2 ^ tl + (n * 2 ^ a / 2 ^ (d + b + 1) + 1) by omega, W_at (by omega) (by omega) (by omega), Int.mul_assoc, bb]
  have lo0 : 0 ≤ (d : Int) * 2 ^ tl + n * 2 ^ a / 2 ^ (d + b + 1) := by
    have := Int.mul_nonneg (show (0 : Int) ≤ (d : Int) by omega) (Int.le_of_lt pt)
    omega
  have pb := pow_pos' (b + 1)
  rw [pD1] at eN r0 r1
  have vt : W tl (2 ^ tl) * 2 ^ (b + 1) = 2 ^ (tl + (b + 1)) := by
    have := W_at (t := tl) (d := 0) (m := 2 ^ tl) (by omega) (by omega) (.inl rfl)
    rw [show ((0 : Nat) : Int) * 2 ^ tl + 2 ^ tl = 2 ^ tl by omega, Int.pow_zero, Int.mul_one] at this
    rw [this, ← pow_add']
  have ho : ((d : Int) * 2 ^ tl + n * 2 ^ a / 2 ^ (d + b + 1)) % 2 = n * 2 ^ a / 2 ^ (d + b + 1) % 2 := by
    rw [pt2, ← Int.mul_assoc]
    generalize (d : Int) * 2 ^ (tl - 1) = z
    omega
  have lea1 : 1 - ((2 : Int) ^ (sc - 1) - 1) = lea sc tl + tl := by
    unfold lea
    omega
  -- multiples of what more stands for
  have stepM : more = true → ∀ X : Int, n * 2 ^ a < X * 2 ^ (d + b) → n * 2 ^ a + 2 ^ a ≤ X * 2 ^ (d + b) := fun z X hX => by
    obtain ⟨f, hf⟩ := moreD z
    rw [hf, ← Int.mul_assoc] at hX ⊢
    have h1 : n < X * 2 ^ f := Int.lt_of_mul_lt_mul_right hX (by omega)
    have h2 : (n + 1) * 2 ^ a ≤ X * 2 ^ f * 2 ^ a := Int.mul_le_mul_of_nonneg_right (by omega) (by omega)
    rw [Int.add_mul, Int.one_mul] at h2
    exact h2
  have X1 : more = true → n * 2 ^ a < 2 * (2 ^ (d + b) * (n * 2 ^ a / 2 ^ (d + b + 1))) + 2 ^ (d + b) → n * 2 ^ a + 2 ^ a ≤ 2 * (2 ^ (d + b) * (n * 2 ^ a / 2 ^ (d + b + 1))) + 2 ^ (d + b) := fun z => by
    have := stepM z (2 * (n * 2 ^ a / 2 ^ (d + b + 1)) + 1)
    rw [show (2 * (n * 2 ^ a / 2 ^ (d + b + 1)) + 1) * 2 ^ (d + b) = 2 * (2 ^ (d + b) * (n * 2 ^ a / 2 ^ (d + b + 1))) + 2 ^ (d + b) by rw [Int.add_mul, Int.one_mul, Int.mul_assoc, Int.mul_comm (2 ^ (d + b))]] at this
    exact this
  have X2 : more = true → n * 2 ^ a < 2 * (2 ^ (d + b) * (n * 2 ^ a / 2 ^ (d + b + 1))) + 2 * 2 ^ (d + b) → n * 2 ^ a + 2 ^ a ≤ 2 * (2 ^ (d + b) * (n * 2 ^ a / 2 ^ (d + b + 1))) + 2 * 2 ^ (d + b) := fun z => by
    have := stepM z (2 * (n * 2 ^ a / 2 ^ (d + b + 1)) + 2)
    rw [show (2 * (n * 2 ^ a / 2 ^ (d + b + 1)) + 2) * 2 ^ (d + b) = 2 * (2 ^ (d + b) * (n * 2 ^ a / 2 ^ (d + b + 1))) + 2 * 2 ^ (d + b) by rw [Int.add_mul, Int.mul_assoc, Int.mul_comm (2 ^ (d + b))]] at this
    exact this
  rw [show n * 2 ^ a / 2 ^ (d + b + 1) * (2 ^ (d + b) * 2) = 2 * (2 ^ (d + b) * (n * 2 ^ a / 2 ^ (d + b + 1))) by rw [← Int.mul_assoc, Int.mul_comm _ (2 ^ (d + b)), Int.mul_comm]] at v0
  rw [show (n * 2 ^ a / 2 ^ (d + b + 1) + 1) * (2 ^ (d + b) * 2) = 2 * (2 ^ (d + b) * (n * 2 ^ a / 2 ^ (d + b + 1))) + 2 * 2 ^ (d + b) by rw [Int.add_mul, ← Int.mul_assoc, Int.mul_comm _ (2 ^ (d + b)), Int.mul_comm _ 2]; omega] at v1
  have hb2 : n * 2 ^ a / 2 ^ (d + b) % 2 = 0 ∨ n * 2 ^ a / 2 ^ (d + b) % 2 = 1 := by omega
  have hNN : n * 2 ^ a = n * 2 ^ a % 2 ^ (d + b) + 2 * (2 ^ (d + b) * (n * 2 ^ a / 2 ^ (d + b + 1))) + n * 2 ^ a / 2 ^ (d + b) % 2 * 2 ^ (d + b) := by
    have e1 : n * 2 ^ a / 2 ^ (d + b) = 2 * (n * 2 ^ a / 2 ^ (d + b + 1)) + n * 2 ^ a / 2 ^ (d + b) % 2 := by omega
    have e2 : 2 ^ (d + b) * (n * 2 ^ a / 2 ^ (d + b)) = 2 * (2 ^ (d + b) * (n * 2 ^ a / 2 ^ (d + b + 1))) + n * 2 ^ a / 2 ^ (d + b) % 2 * 2 ^ (d + b) := by
      conv => lhs; rw [e1]
      rw [Int.mul_add, ← Int.mul_assoc, Int.mul_comm _ 2, Int.mul_assoc, Int.mul_comm (2 ^ (d + b)) (n * 2 ^ a / 2 ^ (d + b) % 2)]
    omega
  have hund : (n * 2 ^ a < 2 ^ (tl + (b + 1))) ↔ bl n + p ≤ 1 - (2 ^ (sc - 1) - 1) := by
    constructor
    · intro h
      have : (2 : Int) ^ (k + a) < 2 ^ (tl + (b + 1)) := by omega
      have : k + a < tl + (b + 1) := by
        rcases Nat.lt_or_ge (k + a) (tl + (b + 1)) with c | c
        · exact c
        · have := pow_le' c
          omega
      omega
    · intro h
      have : (2 : Int) ^ (k + 1 + a) ≤ 2 ^ (tl + (b + 1)) := pow_le' (by omega)
      omega
  clear eN r0 r1 fN hh stepM moreD hNlt hNge hkd hm1 hm2 hQ hR hk hk1 hk2 pt2 bb hcase
  have wle : ∀ u v : Int, 0 ≤ u → u ≤ v → W tl u * 2 ^ (b + 1) ≤ W tl v * 2 ^ (b + 1) := fun u v h1 h2 => Int.mul_le_mul_of_nonneg_right (W_le h1 h2) (by omega)
  generalize 2 ^ (d + b) * (n * 2 ^ a / 2 ^ (d + b + 1)) = z at *
  generalize n * 2 ^ a / 2 ^ (d + b) % 2 = hb' at *
  generalize n * 2 ^ a % 2 ^ (d + b) = rem at *
  generalize (d : Int) * 2 ^ tl + n * 2 ^ a / 2 ^ (d + b + 1) = lo at *
  generalize (2 : Int) ^ (d + b) = q at *
  generalize (2 : Int) ^ (b + 1) = bq at *
  generalize n * 2 ^ a = N at *
  generalize (2 : Int) ^ a = Mo at *
  have hgt : ∀ u, lo < u → cmpM N Mo (W tl u * bq) more = -1 := fun u hu => by
    have h1 := wle (lo + 1) u (by omega) (by omega)
    rw [v1] at h1
    have h2 : N < 2 * z + 2 * q := by rcases hb2 with c | c <;> rw [c] at hNN <;> omega
    exact cmp_lt (by omega) fun c => by
      have := X2 c h2
      omega
  refine ⟨lo0, fun u u0 u1 => cmp_ge ?_, hgt, ?_, ?_, ?_, by rw [eq]; exact ho, ?_⟩
  · have h1 := wle u lo u0 u1
    rw [v0] at h1
    rcases hb2 with c | c <;> rw [c] at hNN <;> omega
  · rw [v0, er]
    unfold cmpM
    rcases hb2 with c | c <;> rw [c] at hNN ⊢
    · by_cases c2 : rem = 0
      · rw [if_pos (by omega), c2]
        cases more <;> decide
      · rw [if_neg (by omega), if_pos (by omega), decide_eq_false c2]
        constructor
        · intro h; omega
        · intro h
          revert h
          cases more <;> decide
    · rw [if_neg (by omega), if_pos (by omega)]
      constructor
      · intro h; omega
      · intro h
        split at h <;> omega
  · rw [v0, v1, er]
    rcases hb2 with c | c <;> rw [c] at hNN ⊢
    · have h1 : cmpM (N * 2) (Mo * 2) (2 * z + (2 * z + 2 * q)) more = -1 := cmp_lt (by omega) fun c => by
        have := X1 c (by omega)
        omega
      rw [h1]
      split <;> rfl
    · unfold cmpM
      by_cases c2 : rem = 0
      · rw [if_pos (by omega), c2]
        cases more <;> decide
      · rw [if_neg (by omega), if_pos (by omega), decide_eq_false c2]
        rfl
  · rw [er]
    rcases hb2 with c | c <;> rw [c]
    · split <;> omega
    · split <;> omega
  · rw [vt, ← hund]
    constructor
    · intro h
      rcases Int.lt_or_le N (2 ^ (tl + (b + 1))) with c | c
      · exact c
      · have := cmp_ge (N := N) (Mo := Mo) (more := more) c
        omega
    · intro h
      have h1 : lo < 2 ^ tl := by
        rcases Int.lt_or_le lo (2 ^ tl) with c | c
        · exact c
        · have := wle (2 ^ tl) lo (by omega) c
          rw [vt, v0] at this
          rcases hb2 with c | c <;> rw [c] at hNN <;> omega
      have := hgt _ h1
      rw [vt] at this
      rw [this]
      decide
end GR
namespace GR
open PySem GM
/-! ### what is cut off, and kept as a bit more -/
theorem bl_div {n : Int} {j : Nat} (h : 0 < n / 2 ^ j) : bl (n / 2 ^ j) + j = bl n := by
  have pj := pow_pos' j
  have hm0 := Int.emod_nonneg n (show (2 : Int) ^ j ≠ 0 by omega)
  have hm1 := Int.emod_lt_of_pos n pj
  have dm := Int.emod_add_mul_ediv n (2 ^ j)
  have hpos : 0 < n := by
    have := Int.mul_pos pj h
    omega
  obtain ⟨k, hk, hk1, hk2⟩ := bl_in hpos
  obtain ⟨m, hm, g1, g2⟩ := bl_in h
  have l1 : (2 : Int) ^ (m + j) ≤ n := by
    rw [pow_add' m j]
    have := Int.mul_le_mul_of_nonneg_right g1 (Int.le_of_lt pj)
    rw [Int.mul_comm (n / 2 ^ j)] at this
    omega
  have l2 : n < (2 : Int) ^ (m + 1 + j) := by
    rw [pow_add' (m + 1) j]
    have := Int.mul_le_mul_of_nonneg_right (show n / 2 ^ j + 1 ≤ 2 ^ (m + 1) by omega) (Int.le_of_lt pj)
    rw [Int.add_mul, Int.one_mul, Int.mul_comm (n / 2 ^ j)] at this
    omega
  have e : k = m + j := by
    rcases Nat.lt_trichotomy k (m + j) with c | c | c
    · have := pow_le' (show k + 1 ≤ m + j by omega)
      omega
    · exact c
    · have := pow_le' (show m + 1 + j ≤ k by omega)
      omega
  omega
theorem mod_two {n : Int} {j c : Nat} : n % 2 ^ (c + j) = 0 ↔ (n % 2 ^ j = 0 ∧ n / 2 ^ j % 2 ^ c = 0) := by
  have pj := pow_pos' j
  have pc := pow_pos' c
  have r0 := Int.emod_nonneg n (show (2 : Int) ^ j ≠ 0 by omega)
  have r1 := Int.emod_lt_of_pos n pj
  have R0 := Int.emod_nonneg (n / 2 ^ j) (show (2 : Int) ^ c ≠ 0 by omega)
  have R1 := Int.emod_lt_of_pos (n / 2 ^ j) pc
  have d1 := Int.emod_add_mul_ediv n (2 ^ j)
  have d2 := Int.emod_add_mul_ediv (n / 2 ^ j) (2 ^ c)
  have pcj : (2 : Int) ^ (c + j) = 2 ^ c * 2 ^ j := pow_add' c j
  generalize n % 2 ^ j = r at *
  generalize n / 2 ^ j % 2 ^ c = R at *
  generalize n / 2 ^ j / 2 ^ c = Q at *
  generalize n / 2 ^ j = q at *
  have hlt : 2 ^ j * R + r < 2 ^ (c + j) := by
    have := Int.mul_le_mul_of_nonneg_right (show R + 1 ≤ 2 ^ c by omega) (Int.le_of_lt pj)
    rw [Int.add_mul, Int.one_mul, ← pcj, Int.mul_comm R] at this
    omega
  have hnn : 0 ≤ 2 ^ j * R := Int.mul_nonneg (Int.le_of_lt pj) R0
  have en : n = (2 ^ j * R + r) + Q * 2 ^ (c + j) := by
    rw [← d1, ← d2, pcj, Int.mul_add, ← Int.mul_assoc, Int.mul_comm (2 ^ j) (2 ^ c), Int.mul_comm (2 ^ c * 2 ^ j) Q]
    omega
  rw [en, Int.add_mul_emod_self_right, Int.emod_eq_of_lt (by omega) hlt]
  constructor
  · intro h
    have hz : 2 ^ j * R = 0 := by omega
    exact ⟨by omega, (Int.mul_eq_zero.mp hz).resolve_left (by omega)⟩
  · intro h
    rw [h.2, h.1]
    omega
theorem rnd_cut {sc tl : Nat} {s n p : Int} {w : Str} {more : Bool} (j : Nat) (h0 : 0 < n / 2 ^ j) (hp : p + j < lap sc tl (n / 2 ^ j) (p + j)) :
    rnd sc tl s n p w more = rnd sc tl s (n / 2 ^ j) (p + j) w (!decide (n % 2 ^ j = 0) || more) := by
  have pj := pow_pos' j
  have hb := bl_div h0
  have hb' : bl (n / 2 ^ j) + (p + j) = bl n + p := by omega
  have hl : lap sc tl (n / 2 ^ j) (p + j) = lap sc tl n p := by
    unfold lap
    rw [hb']
  rw [hl] at hp
  have hn : n ≠ 0 := fun z => by
    rw [z, Int.zero_ediv] at h0
    omega
  obtain ⟨c, hc⟩ : ∃ c : Nat, lap sc tl n p - (p + j) - 1 = (c : Int) := ⟨(lap sc tl n p - (p + j) - 1).toNat, by omega⟩
  obtain ⟨q1, r1⟩ := cut_scale (n := n / 2 ^ j) (a := 0) (D := c) (b := lap sc tl n p - (p + j) - 1) (by omega)
  obtain ⟨q2, r2⟩ := cut_scale (n := n) (a := 0) (D := c + j) (b := lap sc tl n p - p - 1) (by omega)
  rw [show (2 : Int) ^ 0 = 1 from rfl, Int.mul_one] at q1 r1 q2 r2
  have eQ : cutQ n (lap sc tl n p - p - 1) = cutQ (n / 2 ^ j) (lap sc tl n p - (p + j) - 1) := by
    rw [q1, q2, pow_add' c j, Int.mul_comm, Int.ediv_ediv_of_nonneg (Int.le_of_lt pj)]
  have eR : (cutR n (lap sc tl n p - p - 1) || more) = (cutR (n / 2 ^ j) (lap sc tl n p - (p + j) - 1) || (!decide (n % 2 ^ j = 0) || more)) := by
    rw [r1, r2, ← Bool.or_assoc]
    congr 1
    rw [Bool.eq_iff_iff, Bool.or_eq_true, Bool.not_eq_true', Bool.not_eq_true', Bool.not_eq_true', decide_eq_false_iff_not, decide_eq_false_iff_not, decide_eq_false_iff_not, mod_two]
    constructor
    · intro h
      by_cases z : n % 2 ^ j = 0
      · exact .inl (fun y => h ⟨z, y⟩)
      · exact .inr z
    · intro h y
      exact h.elim (fun z => z y.2) (fun z => z y.1)
  have ePQ : prQ n (lap sc tl n p - p) = prQ (n / 2 ^ j) (lap sc tl n p - (p + j)) := by
    unfold prQ
    rw [eQ]
  have ePR : prR n (lap sc tl n p - p) more = prR (n / 2 ^ j) (lap sc tl n p - (p + j)) (!decide (n % 2 ^ j = 0) || more) := by
    unfold prR
    rw [eQ, eR]
  unfold rnd siz mny flg
  rw [if_neg hn, if_neg (show ¬ n / 2 ^ j = 0 by omega), hl, hb', ePQ, ePR]
end GR
namespace GR
open PySem GM
/-! ### the same worth told by a lesser power; a word's own worth -/
theorem bl_mul {n : Int} {k : Nat} (h : 0 < n) : bl (n * 2 ^ k) = bl n + k := by
  have pk := pow_pos' k
  have e : n * 2 ^ k / 2 ^ k = n := Int.mul_ediv_cancel _ (by omega)
  have := bl_div (n := n * 2 ^ k) (j := k) (by rw [e]; exact h)
  rw [e] at this
  omega
theorem rnd_scale {sc tl : Nat} {s n p : Int} {w : Str} {m : Bool} (k : Nat) (hn : 0 < n) : rnd sc tl s (n * 2 ^ k) (p - k) w m = rnd sc tl s n p w m := by
  have pk := pow_pos' k
  have hb : bl (n * 2 ^ k) + (p - k) = bl n + p := by
    rw [bl_mul hn]
    omega
  have hl : lap sc tl (n * 2 ^ k) (p - k) = lap sc tl n p := by
    unfold lap
    rw [hb]
  have hz : 0 < n * 2 ^ k := Int.mul_pos hn pk
  obtain ⟨D, hD⟩ : ∃ D : Nat, (D : Int) = (k : Int) + ((p - lap sc tl n p + 1).toNat : Nat) + (lap sc tl n p - p - 1) := ⟨((k : Int) + ((p - lap sc tl n p + 1).toNat : Nat) + (lap sc tl n p - p - 1)).toNat, by omega⟩
  obtain ⟨q1, r1⟩ := cut_scale (n := n) (a := k + (p - lap sc tl n p + 1).toNat) (D := D) (b := lap sc tl n p - p - 1) (by omega)
  obtain ⟨q2, r2⟩ := cut_scale (n := n * 2 ^ k) (a := (p - lap sc tl n p + 1).toNat) (D := D) (b := lap sc tl n p - (p - k) - 1) (by omega)
  have e : n * 2 ^ k * 2 ^ (p - lap sc tl n p + 1).toNat = n * 2 ^ (k + (p - lap sc tl n p + 1).toNat) := by rw [pow_add', Int.mul_assoc]
  rw [e] at q2 r2
  have eQ : cutQ (n * 2 ^ k) (lap sc tl n p - (p - k) - 1) = cutQ n (lap sc tl n p - p - 1) := by rw [q1, q2]
  have eR : cutR (n * 2 ^ k) (lap sc tl n p - (p - k) - 1) = cutR n (lap sc tl n p - p - 1) := by rw [r1, r2]
  have ePQ : prQ (n * 2 ^ k) (lap sc tl n p - (p - k)) = prQ n (lap sc tl n p - p) := by
    unfold prQ
    rw [eQ]
  have ePR : prR (n * 2 ^ k) (lap sc tl n p - (p - k)) m = prR n (lap sc tl n p - p) m := by
    unfold prR
    rw [eQ, eR]
  unfold rnd siz mny flg
  rw [if_neg (show ¬ n * 2 ^ k = 0 by omega), if_neg (show ¬ n = 0 by omega), hl, hb, ePQ, ePR]
theorem rnd_word {sc tl : Nat} {s u : Int} {w : Str} (htl : 1 ≤ tl) (h0 : 0 < u) (h1 : u < (2 ^ sc - 1) * 2 ^ tl) : rnd sc tl s (num tl u) (lea sc tl + (ex tl u : Nat)) w false = (s * 2 ^ (sc + tl) + u, []) := by
  have pt := pow_pos' tl
  have hn : 0 < num tl u := by
    have n := Int.emod_nonneg u (show (2 : Int) ^ tl ≠ 0 by omega)
    have d := Int.emod_add_mul_ediv u (2 ^ tl)
    unfold num
    by_cases c : u / 2 ^ tl = 0
    · rw [if_pos c]
      rw [c, Int.mul_zero, Int.add_zero] at d
      omega
    · rw [if_neg c]
      omega
  have F := floor_facts (sc := sc) (tl := tl) (n := num tl u) (p := lea sc tl + (ex tl u : Nat)) (more := false) htl hn (fun z => nomatch z) (a := ex tl u + 1) (b := 0) (B := lea sc tl - 1) (by omega) (by omega)
  have eN : num tl u * 2 ^ (ex tl u + 1) = W tl u * 2 ^ (0 + 1) := by
    unfold W
    rw [pow_s, ← Int.mul_assoc]
    rfl
  have c0 : cmpM (num tl u * 2 ^ (ex tl u + 1)) (2 ^ (ex tl u + 1)) (W tl u * 2 ^ (0 + 1)) false = 0 := by
    unfold cmpM
    rw [if_pos eN]
    rfl
  have key : (lap sc tl (num tl u) (lea sc tl + (ex tl u : Nat)) - lea sc tl) * 2 ^ tl + prQ (num tl u) (lap sc tl (num tl u) (lea sc tl + (ex tl u : Nat)) - (lea sc tl + (ex tl u : Nat))) = u := by
    have L0 := F.lo0
    rcases Int.lt_trichotomy ((lap sc tl (num tl u) (lea sc tl + (ex tl u : Nat)) - lea sc tl) * 2 ^ tl + prQ (num tl u) (lap sc tl (num tl u) (lea sc tl + (ex tl u : Nat)) - (lea sc tl + (ex tl u : Nat)))) u with c | c | c
    · have := F.gt u c
      rw [c0] at this
      cases this
    · exact c
    · have g := F.le _ L0 (Int.le_refl _)
      have hm := W_mono (t := tl) (Int.le_of_lt h0) c
      have := cmp_lt (N := num tl u * 2 ^ (ex tl u + 1)) (Mo := 2 ^ (ex tl u + 1)) (V := W tl ((lap sc tl (num tl u) (lea sc tl + (ex tl u : Nat)) - lea sc tl) * 2 ^ tl + prQ (num tl u) (lap sc tl (num tl u) (lea sc tl + (ex tl u : Nat)) - (lea sc tl + (ex tl u : Nat)))) * 2 ^ (0 + 1)) (more := false) (by rw [eN]; exact Int.mul_lt_mul_of_pos_right hm (pow_pos' _)) (fun z => nomatch z)
      rw [this] at g
      omega
  have rest := F.just.mp (by rw [key]; exact c0)
  have hg : ∀ x, gup w s x 0 = false := fun x => by
    unfold gup
    split
    · rfl
    · rfl
  have hs : siz sc tl s (num tl u) (lea sc tl + (ex tl u : Nat)) w false = u := by
    unfold siz mny
    rw [rest, hg, if_neg Bool.false_ne_true]
    exact key
  have e1 : wrd sc tl 0 (2 ^ sc - 1 - 1) (2 ^ tl - 1) = (2 ^ sc - 1) * 2 ^ tl - 1 := by
    unfold wrd
    rw [Int.sub_mul (2 ^ sc - 1) 1, Int.one_mul]
    omega
  unfold rnd
  rw [if_neg (show ¬ num tl u = 0 by omega), hs, if_neg (by rw [e1]; omega), rest]
  unfold flg wrd
  rw [if_pos rfl, Int.zero_mul, Int.add_zero, Int.add_zero]
end GR
namespace GM
/-! ### digits of base four -/
theorem bit01 (a : Int) (n : Nat) : bit a n = 0 ∨ bit a n = 1 := by
  unfold bit
  omega
theorem bit_two (n : Int) (i : Nat) : bit (2 * n) (i + 1) = bit n i := by
  unfold bit
  rw [pow_s, Int.mul_comm 2 n, Int.mul_ediv_mul_of_pos_left _ _ (by decide)]
def fo (n : Int) (p : Nat) : Int := bit (2 * n) (2 * p + 1) + bit (2 * n) (2 * p) - 2 * bit (2 * n) (2 * p + 2)
def fol (n : Int) : Nat → List Int
  | 0 => []
  | k + 1 => fo n k :: fol n k
def rol (o n : Int) : Nat → List Int
  | 0 => []
  | k + 1 => fo n k * o * 2 ^ (2 * k) :: rol o n k
def s4 (n : Int) : Nat → Int
  | 0 => 0
  | k + 1 => fo n k * 2 ^ (2 * k) + s4 n k
theorem fo_in (n : Int) (p : Nat) : -2 ≤ fo n p ∧ fo n p ≤ 2 := by
  unfold fo
  have h1 := bit01 (2 * n) (2 * p + 1)
  have h2 := bit01 (2 * n) (2 * p)
  have h3 := bit01 (2 * n) (2 * p + 2)
  omega
theorem fol_len (n : Int) : ∀ k, (fol n k).length = k
  | 0 => rfl
  | k + 1 => by
    show (fol n k).length + 1 = k + 1
    rw [fol_len n k]
theorem rol_len (o n : Int) : ∀ k, (rol o n k).length = k
  | 0 => rfl
  | k + 1 => by
    show (rol o n k).length + 1 = k + 1
    rw [rol_len o n k]
theorem fol_get (n : Int) : ∀ (k i : Nat), i < k → (fol n k)[i]? = some (fo n (k - 1 - i))
  | 0, i, h => absurd h (Nat.not_lt_zero i)
  | k + 1, 0, _ => rfl
  | k + 1, i + 1, h => by
    show (fol n k)[i]? = _
    rw [fol_get n k i (by omega), show k + 1 - 1 - (i + 1) = k - 1 - i by omega]
theorem rol_get (o n : Int) : ∀ (k i : Nat), i < k → (rol o n k)[i]? = some (fo n (k - 1 - i) * o * 2 ^ (2 * (k - 1 - i)))
  | 0, i, h => absurd h (Nat.not_lt_zero i)
  | k + 1, 0, _ => rfl
  | k + 1, i + 1, h => by
    show (rol o n k)[i]? = _
    rw [rol_get o n k i (by omega), show k + 1 - 1 - (i + 1) = k - 1 - i by omega]
theorem fol_mem {n : Int} : ∀ {k : Nat} {d : Int}, d ∈ fol n k → -2 ≤ d ∧ d ≤ 2
  | 0, _, h => nomatch h
  | k + 1, d, h => by
    rcases List.mem_cons.mp h with e | e
    · rw [e]
      exact fo_in n k
    · exact fol_mem e
theorem take_fol {n : Int} {k i : Nat} (h : i < k) : (fol n k).take (i + 1) = (fol n k).take i ++ [fo n (k - 1 - i)] := by
  rw [List.take_add_one, fol_get n k i h]
  rfl
theorem take_rol {o n : Int} {k i : Nat} (h : i < k) : (rol o n k).take (i + 1) = (rol o n k).take i ++ [fo n (k - 1 - i) * o * 2 ^ (2 * (k - 1 - i))] := by
  rw [List.take_add_one, rol_get o n k i h]
  rfl
theorem rol_sum (o n : Int) : ∀ k, (rol o n k).sum = o * s4 n k
  | 0 => by
    show (0 : Int) = o * 0
    omega
  | k + 1 => by
    show (fo n k * o * 2 ^ (2 * k) :: rol o n k).sum = o * (fo n k * 2 ^ (2 * k) + s4 n k)
    rw [List.sum_cons, rol_sum o n k, Int.mul_add, Int.mul_comm (fo n k) o, Int.mul_assoc]
theorem s4_eq (n : Int) : ∀ k, s4 n k = n % 2 ^ (2 * k) - 2 ^ (2 * k) * bit (2 * n) (2 * k)
  | 0 => by
    show (0 : Int) = n % 1 - 1 * (2 * n / 1 % 2)
    omega
  | k + 1 => by
    show fo n k * 2 ^ (2 * k) + s4 n k = _
    rw [s4_eq n k]
    have e1 := mod_step n (2 * k)
    have e2 := mod_step n (2 * k + 1)
    have b1 := bit_two n (2 * k)
    have b2 := bit_two n (2 * k + 1)
    have p1 : (2 : Int) ^ (2 * k + 1) = 2 ^ (2 * k) * 2 := pow_s _
    have p2 : (2 : Int) ^ (2 * (k + 1)) = 2 ^ (2 * k) * 4 := by
      rw [show 2 * (k + 1) = 2 * k + 1 + 1 by omega, pow_s, pow_s]
      omega
    rw [show 2 * k + 1 + 1 = 2 * (k + 1) by omega] at e2 b2
    unfold fo
    rw [show 2 * k + 2 = 2 * (k + 1) by omega, b1, b2, p2]
    rw [p2] at e2
    rw [p1] at e1 e2
    generalize (2 : Int) ^ (2 * k) = q at *
    rcases bit01 n (2 * k) with h | h <;> rcases bit01 n (2 * k + 1) with h' | h' <;> rcases bit01 (2 * n) (2 * k) with h'' | h'' <;> rw [h, h', h''] <;> rw [h] at e1 <;> rw [h'] at e2 <;> omega
theorem fold4 (n : Int) : ∀ (k : Nat) (t : Int), (fol n k).foldl (fun t d => 4 * t + d) t = t * 2 ^ (2 * k) + s4 n k
  | 0, t => by
    show t = t * 1 + 0
    omega
  | k + 1, t => by
    show (fol n k).foldl (fun t d => 4 * t + d) (4 * t + fo n k) = t * 2 ^ (2 * (k + 1)) + (fo n k * 2 ^ (2 * k) + s4 n k)
    rw [fold4 n k, Int.add_mul, show 2 * (k + 1) = 2 * k + 1 + 1 by omega, pow_s, pow_s]
    rw [show t * (2 ^ (2 * k) * 2 * 2) = 4 * t * 2 ^ (2 * k) by rw [Int.mul_assoc (2 ^ (2 * k)), Int.mul_comm (2 ^ (2 * k)), ← Int.mul_assoc, Int.mul_comm 4 t]; rfl]
    omega
theorem s4_all {n : Int} {k : Nat} (h0 : 0 ≤ n) (h : n < 2 ^ (2 * k + 1)) : s4 n (k + 1) = n := by
  rw [s4_eq, show 2 * (k + 1) = 2 * k + 1 + 1 by omega, bit_two]
  have hp := pow_s (2 * k + 1)
  have hb : bit n (2 * k + 1) = 0 := by
    unfold bit
    rw [Int.ediv_eq_zero_of_lt h0 h]
    rfl
  rw [hb, Int.mul_zero, Int.emod_eq_of_lt h0 (by omega)]
  omega
end GM
namespace GM
def pwl : Nat → List Int
  | 0 => []
  | k + 1 => 2 ^ (2 * k) :: pwl k
theorem pwl_len : ∀ k, (pwl k).length = k
  | 0 => rfl
  | k + 1 => by
    show (pwl k).length + 1 = k + 1
    rw [pwl_len k]
theorem pwl_get : ∀ (k i : Nat), i < k → (pwl k)[i]? = some (2 ^ (2 * (k - 1 - i)))
  | 0, i, h => absurd h (Nat.not_lt_zero i)
  | k + 1, 0, _ => rfl
  | k + 1, i + 1, h => by
    show (pwl k)[i]? = _
    rw [pwl_get k i (by omega), show k + 1 - 1 - (i + 1) = k - 1 - i by omega]
theorem pwl_rev : ∀ k, ((List.range k).map fun j => (2 : Int) ^ (2 * j)).reverse = pwl k
  | 0 => rfl
  | k + 1 => by
    rw [List.range_succ, List.map_append, List.reverse_append, pwl_rev k]
    rfl
theorem fol_rev (n : Int) : ∀ k, ((List.range k).map (fo n)).reverse = fol n k
  | 0 => rfl
  | k + 1 => by
    rw [List.range_succ, List.map_append, List.reverse_append, fol_rev n k]
    rfl
theorem bit_hi {n : Int} {k j : Nat} (h0 : 0 ≤ n) (h1 : n < 2 ^ k) (h : k ≤ j) : bit n j = 0 := by
  unfold bit
  rw [Int.ediv_eq_zero_of_lt h0 (Int.lt_of_lt_of_le h1 (pow_le' h))]
  rfl
theorem blr_two (n : Int) : ∀ k, blr (2 * n) (k + 1) = blr n k ++ [0]
  | 0 => by
    show [2 * n / 1 % 2] = [0]
    congr 1
    omega
  | k + 1 => by
    show bit (2 * n) (k + 1) :: blr (2 * n) (k + 1) = bit n k :: blr n k ++ [0]
    rw [bit_two, blr_two n k]
    rfl
theorem blr_hi {n : Int} {k : Nat} (h0 : 0 ≤ n) (h1 : n < 2 ^ k) : blr (2 * n) (k + 5) = 0 :: 0 :: 0 :: 0 :: (blr n k ++ [0]) := by
  show bit (2 * n) (k + 3 + 1) :: bit (2 * n) (k + 2 + 1) :: bit (2 * n) (k + 1 + 1) :: bit (2 * n) (k + 1) :: blr (2 * n) (k + 1) = _
  rw [bit_two, bit_two, bit_two, bit_two, blr_two, bit_hi h0 h1 (by omega), bit_hi h0 h1 (by omega), bit_hi h0 h1 (by omega), bit_hi h0 h1 (by omega)]
end GM
namespace GM
open PySem PyProof.Rows
/-! ### bits of and, or, unlike, of whole numbers -/
abbrev An (x y : Int) : Int := Builtin.bitAnd x y
abbrev Or (x y : Int) : Int := Builtin.bitOr x y
abbrev Xo (x y : Int) : Int := Builtin.bitXor x y
theorem an_step (x y : Int) : An x y / 2 = An (x / 2) (y / 2) ∧ An x y % 2 = (x % 2) * (y % 2) := by
  have h := PySem.W.kbt_halves x y
  have hx : x % 2 = 0 ∨ x % 2 = 1 := by omega
  have hy : y % 2 = 0 ∨ y % 2 = 1 := by omega
  unfold An
  rcases hx with a | a <;> rcases hy with b | b <;> rw [a, b] at h ⊢
  · rw [if_neg (by decide)] at h
    omega
  · rw [if_neg (by decide)] at h
    omega
  · rw [if_neg (by decide)] at h
    omega
  · rw [if_pos (by decide)] at h
    omega
theorem or_step (x y : Int) : Or x y / 2 = Or (x / 2) (y / 2) ∧ Or x y % 2 = x % 2 + y % 2 - (x % 2) * (y % 2) := by
  obtain ⟨h1, h2⟩ := an_step x y
  have hx : x % 2 = 0 ∨ x % 2 = 1 := by omega
  have hy : y % 2 = 0 ∨ y % 2 = 1 := by omega
  unfold Or
  rw [bitOr_and, bitOr_and]
  unfold An at h1 h2
  rcases hx with a | a <;> rcases hy with b | b <;> rw [a, b] at h2 ⊢ <;> omega
theorem xo_step (x y : Int) : Xo x y / 2 = Xo (x / 2) (y / 2) ∧ Xo x y % 2 = (x % 2 + y % 2) % 2 := by
  obtain ⟨h1, h2⟩ := an_step x y
  have hx : x % 2 = 0 ∨ x % 2 = 1 := by omega
  have hy : y % 2 = 0 ∨ y % 2 = 1 := by omega
  unfold Xo
  rw [bitXor_and, bitXor_and]
  unfold An at h1 h2
  rcases hx with a | a <;> rcases hy with b | b <;> rw [a, b] at h2 ⊢ <;> omega
def x3 (x y z : Int) : Int := Xo (Xo x y) z
def mj (x y z : Int) : Int := Or (Or (An x y) (An x z)) (An y z)
theorem x3_step (x y z : Int) : x3 x y z / 2 = x3 (x / 2) (y / 2) (z / 2) ∧ x3 x y z % 2 = (x % 2 + y % 2 + z % 2) % 2 := by
  unfold x3
  obtain ⟨a1, a2⟩ := xo_step (Xo x y) z
  obtain ⟨b1, b2⟩ := xo_step x y
  rw [a1, a2, b1, b2]
  exact ⟨rfl, by omega⟩
theorem mj_step (x y z : Int) : mj x y z / 2 = mj (x / 2) (y / 2) (z / 2) ∧ mj x y z % 2 = (x % 2 + y % 2 + z % 2) / 2 := by
  unfold mj
  obtain ⟨a1, a2⟩ := or_step (Or (An x y) (An x z)) (An y z)
  obtain ⟨b1, b2⟩ := or_step (An x y) (An x z)
  obtain ⟨c1, c2⟩ := an_step x y
  obtain ⟨d1, d2⟩ := an_step x z
  obtain ⟨e1, e2⟩ := an_step y z
  refine ⟨by rw [a1, b1, c1, d1, e1], ?_⟩
  rw [a2, b2, c2, d2, e2]
  have hx : x % 2 = 0 ∨ x % 2 = 1 := by omega
  have hy : y % 2 = 0 ∨ y % 2 = 1 := by omega
  have hz : z % 2 = 0 ∨ z % 2 = 1 := by omega
  rcases hx with a | a <;> rcases hy with b | b <;> rcases hz with c | c <;> rw [a, b, c] <;> decide
theorem x3_div (x y z : Int) : ∀ k, x3 x y z / 2 ^ k = x3 (x / 2 ^ k) (y / 2 ^ k) (z / 2 ^ k)
  | 0 => by simp
  | k + 1 => by rw [div_s, div_s, div_s, div_s, x3_div x y z k, (x3_step _ _ _).1]
theorem mj_div (x y z : Int) : ∀ k, mj x y z / 2 ^ k = mj (x / 2 ^ k) (y / 2 ^ k) (z / 2 ^ k)
  | 0 => by simp
  | k + 1 => by rw [div_s, div_s, div_s, div_s, mj_div x y z k, (mj_step _ _ _).1]
theorem x3_bit (x y z : Int) (k : Nat) : bit (x3 x y z) k = (bit x k + bit y k + bit z k) % 2 := by
  unfold bit
  rw [x3_div, (x3_step _ _ _).2]
theorem mj_bit (x y z : Int) (k : Nat) : bit (mj x y z) k = (bit x k + bit y k + bit z k) / 2 := by
  unfold bit
  rw [mj_div, (mj_step _ _ _).2]
/-- so many bits and the sign -/
def Sg (k : Nat) (x : Int) : Prop := x / 2 ^ k = 0 ∨ x / 2 ^ k = -1
theorem sg_iff {k : Nat} {x : Int} : Sg k x ↔ -(2 ^ k) ≤ x ∧ x < 2 ^ k := by
  have hp := pow_pos' k
  unfold Sg
  constructor
  · intro h
    have e := Int.emod_add_mul_ediv x (2 ^ k)
    have h1 := Int.emod_nonneg x (show (2 : Int) ^ k ≠ 0 by omega)
    have h2 := Int.emod_lt_of_pos x hp
    rcases h with z | z <;> rw [z] at e <;> omega
  · intro ⟨h1, h2⟩
    by_cases c : 0 ≤ x
    · exact .inl (Int.ediv_eq_zero_of_lt c h2)
    · right
      have : (x + 2 ^ k) / 2 ^ k = x / 2 ^ k + 1 := by
        have := Int.add_mul_ediv_right x 1 (show (2 : Int) ^ k ≠ 0 by omega)
        rw [Int.one_mul] at this
        exact this
      have h3 : (x + 2 ^ k) / 2 ^ k = 0 := Int.ediv_eq_zero_of_lt (by omega) (by omega)
      omega
theorem sg_x3 {k : Nat} {x y z : Int} (hx : Sg k x) (hy : Sg k y) (hz : Sg k z) : Sg k (x3 x y z) := by
  unfold Sg
  rw [x3_div]
  unfold Sg at hx hy hz
  rcases hx with a | a <;> rcases hy with b | b <;> rcases hz with c | c <;> rw [a, b, c] <;> decide
theorem sg_mj {k : Nat} {x y z : Int} (hx : Sg k x) (hy : Sg k y) (hz : Sg k z) : Sg k (mj x y z) := by
  unfold Sg
  rw [mj_div]
  unfold Sg at hx hy hz
  rcases hx with a | a <;> rcases hy with b | b <;> rcases hz with c | c <;> rw [a, b, c] <;> decide
theorem sum_sg : ∀ (k : Nat) (x y z : Int), Sg k x → Sg k y → Sg k z → x3 x y z + 2 * mj x y z = x + y + z
  | 0, x, y, z, hx, hy, hz => by
    unfold Sg at hx hy hz
    simp only [Int.pow_zero, Int.ediv_one] at hx hy hz
    rcases hx with a | a <;> rcases hy with b | b <;> rcases hz with c | c <;> subst a <;> subst b <;> subst c <;> decide
  | k + 1, x, y, z, hx, hy, hz => by
    have sh : ∀ {x : Int}, Sg (k + 1) x → Sg k (x / 2) := fun {x} h => by
      unfold Sg at h ⊢
      rw [Int.ediv_ediv_of_nonneg (by decide), show (2 : Int) * 2 ^ k = 2 ^ (k + 1) by rw [pow_s]; omega]
      exact h
    have ih := sum_sg k (x / 2) (y / 2) (z / 2) (sh hx) (sh hy) (sh hz)
    obtain ⟨a1, a2⟩ := x3_step x y z
    obtain ⟨b1, b2⟩ := mj_step x y z
    omega
theorem sg_ex (x : Int) : Sg x.natAbs x := by
  rw [sg_iff]
  have h : x.natAbs < 2 ^ x.natAbs := Nat.lt_two_pow_self
  have c : ((2 ^ x.natAbs : Nat) : Int) = (2 : Int) ^ x.natAbs := PySem.W.kbt_cast _
  omega
theorem sg_mono {j k : Nat} {x : Int} (h : Sg j x) (l : j ≤ k) : Sg k x := by
  rw [sg_iff] at h ⊢
  have := pow_le' l
  omega
theorem sum3 (x y z : Int) : 2 * mj x y z = x + y + z - x3 x y z := by
  have := sum_sg (x.natAbs + y.natAbs + z.natAbs) x y z (sg_mono (sg_ex x) (by omega)) (sg_mono (sg_ex y) (by omega)) (sg_mono (sg_ex z) (by omega))
  omega
/-- a number by its two hundred and sixty bits -/
theorem back {w x : Int} (h1 : -(2 ^ 259) ≤ x) (h2 : x < 2 ^ 259) (hw : w = x % 2 ^ 260) : (if w / 2 ^ 259 = 1 then w - 2 ^ 260 else w) = x := by
  have h : (2 : Int) ^ 260 = 2 ^ 259 * 2 := pow_s 259
  rw [h] at hw ⊢
  generalize (2 : Int) ^ 259 = q at *
  have hq : 0 < q := by omega
  by_cases c : 0 ≤ x
  · rw [Int.emod_eq_of_lt c (by omega)] at hw
    subst hw
    rw [Int.ediv_eq_zero_of_lt c h2, if_neg (by decide)]
  · have e : x % (q * 2) = x + q * 2 := by
      rw [← Int.add_emod_right, Int.emod_eq_of_lt (by omega) (by omega)]
    rw [e] at hw
    have d : w / q = 1 := by
      rw [show w = (x + q) + 1 * q by omega, Int.add_mul_ediv_right _ _ (by omega), Int.ediv_eq_zero_of_lt (by omega) (by omega)]
      rfl
    rw [d, if_pos rfl]
    omega
/-! ### levels -/
def at3 (r : List Int) (j : Nat) : Int := r.getD j 0
def trip (r : List Int) (j : Nat) : List Int := [x3 (at3 r (3 * j)) (at3 r (3 * j + 1)) (at3 r (3 * j + 2)), at3 r (3 * j) + at3 r (3 * j + 1) + at3 r (3 * j + 2) - x3 (at3 r (3 * j)) (at3 r (3 * j + 1)) (at3 r (3 * j + 2))]
def acc (r : List Int) : Nat → List Int
  | 0 => []
  | j + 1 => acc r j ++ trip r j
def lv (r : List Int) : List Int := acc r (r.length / 3) ++ r.drop (r.length / 3 * 3)
theorem acc_len (r : List Int) : ∀ j, (acc r j).length = 2 * j
  | 0 => rfl
  | j + 1 => by
    show (acc r j ++ trip r j).length = _
    rw [List.length_append, acc_len r j]
    show 2 * j + 2 = _
    omega
theorem lv_len (r : List Int) : (lv r).length = 2 * (r.length / 3) + (r.length - r.length / 3 * 3) := by
  unfold lv
  rw [List.length_append, acc_len, List.length_drop]
theorem at3_get {r : List Int} {j : Nat} (h : j < r.length) : r[j]? = some (at3 r j) := by
  unfold at3
  rw [show r.getD j 0 = r[j] by simp [List.getD, List.getElem?_eq_getElem h]]
  exact List.getElem?_eq_getElem h
theorem take_s {r : List Int} {j : Nat} (h : j < r.length) : (r.take (j + 1)).sum = (r.take j).sum + at3 r j := by
  rw [List.take_add_one, at3_get h, List.sum_append]
  show _ + ([at3 r j] : List Int).sum = _
  rw [List.sum_cons, List.sum_nil]
  omega
theorem acc_sum (r : List Int) : ∀ j, 3 * j ≤ r.length → (acc r j).sum = (r.take (3 * j)).sum
  | 0, _ => rfl
  | j + 1, h => by
    show (acc r j ++ trip r j).sum = _
    rw [List.sum_append, acc_sum r j (by omega), show 3 * (j + 1) = 3 * j + 1 + 1 + 1 by omega, take_s (by omega), take_s (by omega), take_s (by omega)]
    unfold trip
    rw [List.sum_cons, List.sum_cons, List.sum_nil]
    omega
theorem lv_sum (r : List Int) : (lv r).sum = r.sum := by
  unfold lv
  rw [List.sum_append, acc_sum r _ (by omega), show r.length / 3 * 3 = 3 * (r.length / 3) by omega]
  rw [← List.sum_append, List.take_append_drop]
def lvn (r : List Int) : Nat → List Int
  | 0 => r
  | i + 1 => lv (lvn r i)
theorem lvn_sum (r : List Int) : ∀ i, (lvn r i).sum = r.sum
  | 0 => rfl
  | i + 1 => by
    show (lv (lvn r i)).sum = _
    rw [lv_sum, lvn_sum r i]
/-- n is where the levels end -/
def Ends (r : List Int) (n : Nat) : Prop := (∀ i, i < n → 2 < (lvn r i).length) ∧ (lvn r n).length ≤ 2
theorem ends_one {r : List Int} {n m : Nat} (h1 : Ends r n) (h2 : Ends r m) : n = m := by
  rcases Nat.lt_trichotomy n m with h | h | h
  · have := h2.1 n h
    have := h1.2
    omega
  · exact h
  · have := h1.1 m h
    have := h2.2
    omega
theorem lvn_len (r : List Int) : ∀ n, (∀ i, i < n → 2 < (lvn r i).length) → (lvn r n).length + n ≤ r.length
  | 0, _ => Nat.le_refl _
  | n + 1, h => by
    have ih := lvn_len r n fun i hi => h i (by omega)
    have h1 := h n (by omega)
    have h2 := lv_len (lvn r n)
    show (lv (lvn r n)).length + (n + 1) ≤ _
    omega
end GM
namespace GZ
open PySem PySem.Spec PyProof.Rows L2
theorem val0 (t : Tok) : Vals [V.int 0] [Value.int 0 t] := .cons ⟨_, rfl⟩ .nil
/-! ### keyword-only parameters -/
theorem kbn_of {K : PySem.W.Frag} {x qual : Str} {st : Stmt} {D : Addr} {an : Option Addr} {doc pm cdv ct : Value} {ps ks : List Str} {n : Nat} {ml : List (Str × Value)} {g : List Value → List Value → List Value} {gV : List V → List V → List V} (hml : ∀ q ∈ ml, PySem.W.nsIn K D q.1 = some (some q.2))
    (h : ∀ us ws : List Value, us.length = n → ws.length = ks.length → KwChain D ml (bindArgs (PySem.W.fnOf x qual (defArgs st) (defBody st) (defScope st) .none (.ref D) doc pm an cdv ct) ⟨us, ks.zip ws⟩) (ps.zip (g us ws)))
    (rel : ∀ {vs : List V} {us : List Value} {zs : List V} {ws : List Value}, vs.length = n → zs.length = ks.length → Vals vs us → Vals zs ws → Vals (gV vs zs) (g us ws)) :
    ∀ (s : Shared) (us ws : List Value), K.In s.heap → us.length = n → ws.length = ks.length → BindsTo s (PySem.W.fnOf x qual (defArgs st) (defBody st) (defScope st) .none (.ref D) doc pm an cdv ct) ⟨us, ks.zip ws⟩ (ps.zip (g us ws)) :=
  fun s us ws X l1 l2 => BindsTo.of_looks fun M => KwChain.looks X hml (h us ws l1 l2)
theorem bnd_of {K : PySem.W.Frag} {x qual : Str} {st : Stmt} {D : Addr} {an : Option Addr} {doc pm cdv ct : Value} {ps : List Str} {ml : List (Str × Value)} {ds : List Value} (hml : ∀ q ∈ ml, PySem.W.nsIn K D q.1 = some (some q.2))
    (h : ∀ us : List Value, us.length + ds.length = ps.length → KwChain D ml (bindArgs (PySem.W.fnOf x qual (defArgs st) (defBody st) (defScope st) .none (.ref D) doc pm an cdv ct) ⟨us, []⟩) (ps.zip (us ++ ds))) :
    Binds K (PySem.W.fnOf x qual (defArgs st) (defBody st) (defScope st) .none (.ref D) doc pm an cdv ct) ps ds := fun s us X hl => by
  rw [List.length_append] at hl
  exact BindsTo.of_looks fun M => KwChain.looks X hml (h us hl)
/-! ### a def whose defaults aren't asked for -/
structure FunA (K : PySem.W.Frag) (x qual : Str) (st : Stmt) (f : Addr) (fd : FuncData) : Prop where
  ex : ∃ (oc : Value) (od : Option Addr) (dV kV doc pm : Value) (an : Option Addr) (cdv ct : Value) (osl : Array (Option Value)),
    fd = PySem.W.fnOf x qual (defArgs st) (defBody st) (defScope st) dV kV doc pm an cdv ct ∧ K.lookup f = some ⟨oc, od, .func fd, osl⟩ ∧ PySem.W.codeIn K cdv qual = true
  kp : PySem.W.keepIn K (.ref f) = true
theorem FunA.ok {P : Program} {w : World} {K : PySem.W.Frag} {mg : Str → Option Value} {base : Heap} {x qual : Str} {st : Stmt} {f : Addr} {fd : FuncData} {N ps : List Str} {k : Nat} {sp : Sp} (F : FunA K x qual st f fd) (S : FnScope N ps (defScope st)) (len : ∀ vs H Q E, sp vs H Q E → vs.length = ps.length)
    (hbody : ∀ (cdv : Value) (A : Around) (outer : List Env) (s : Shared) (H : Hp) (vs : List V) (Q : VK) (E : XK), Room k (A.deeper (envOfC qual (defScope st) s.heap.objs.size f cdv)) → sp vs H Q E →
      ∃ t, PSs (cxOf CX0 P w K mg base N qual (defScope st) f cdv A outer s H E).nox (defBody st) t ∧ t { nx := fun _ H' => Q .non H', rt := Q } (start N vs) H) : FnOk P w K mg base CX0 (k + 1) f fd ps sp := by
  obtain ⟨oc, od, dV, kV, doc, pm, an, cdv, ct, osl, rfl, lk, hcd⟩ := F.ex
  refine fn_of lk hcd S len fun A outer s H vs Q E hr hsp => ?_
  obtain ⟨t, h, q⟩ := hbody cdv A outer s H vs Q E hr hsp
  exact ⟨t, h.nox, q⟩
theorem bindsA {K : PySem.W.Frag} {x qual : Str} {st : Stmt} {f T : Addr} {oc oT vT : Value} {od an dT : Option Addr} {osl sT : Array (Option Value)} {kV doc pm cdv ct : Value} {nT : Nat} {ps : List Str} (l : K.lookup f = some ⟨oc, od, .func (PySem.W.fnOf x qual (defArgs st) (defBody st) (defScope st) (.ref T) kV doc pm an cdv ct), osl⟩)
    (lT : K.lookup T = some ⟨oT, dT, .seq #[vT] nT, sT⟩)
    (h : ∀ (kV doc pm : Value) (an : Option Addr) (cdv ct : Value) (us : List Value), us.length = ps.length → ∃ k, bindArgs (PySem.W.fnOf x qual (defArgs st) (defBody st) (defScope st) (.ref T) kV doc pm an cdv ct) ⟨us, []⟩ = seqItems? (.ref T) >>= k ∧ k (some #[vT]) = pure (ps.zip us)) : Binds K (PySem.W.fnOf x qual (defArgs st) (defBody st) (defScope st) (.ref T) kV doc pm an cdv ct) ps [] := by
  intro s us X hl
  rw [List.append_nil] at hl ⊢
  obtain ⟨k, e1, e2⟩ := h kV doc pm an cdv ct us hl
  refine BindsTo.of_looks fun M => ?_
  rw [e1]
  exact looks_items X lT rfl (.of_pure e2)
theorem bindsAD {K : PySem.W.Frag} {x qual : Str} {st : Stmt} {f T : Addr} {oc oT vT : Value} {od an dT : Option Addr} {osl sT : Array (Option Value)} {kV doc pm cdv ct : Value} {nT : Nat} {ps : List Str} (l : K.lookup f = some ⟨oc, od, .func (PySem.W.fnOf x qual (defArgs st) (defBody st) (defScope st) (.ref T) kV doc pm an cdv ct), osl⟩)
    (lT : K.lookup T = some ⟨oT, dT, .seq #[vT] nT, sT⟩)
    (h : ∀ (kV doc pm : Value) (an : Option Addr) (cdv ct : Value) (us : List Value), us.length + 1 = ps.length → ∃ k, bindArgs (PySem.W.fnOf x qual (defArgs st) (defBody st) (defScope st) (.ref T) kV doc pm an cdv ct) ⟨us, []⟩ = seqItems? (.ref T) >>= k ∧ k (some #[vT]) = pure (ps.zip (us ++ [vT]))) : Binds K (PySem.W.fnOf x qual (defArgs st) (defBody st) (defScope st) (.ref T) kV doc pm an cdv ct) ps [vT] := by
  intro s us X hl
  rw [List.length_append] at hl
  obtain ⟨k, e1, e2⟩ := h kV doc pm an cdv ct us hl
  refine BindsTo.of_looks fun M => ?_
  rw [e1]
  exact looks_items X lT rfl (.of_pure e2)
theorem kbindsA {x1 : Str} {K : PySem.W.Frag} {x qual : Str} {st : Stmt} {f T : Addr} {oc oT vT : Value} {od an dT : Option Addr} {osl sT : Array (Option Value)} {kV doc pm cdv ct : Value} {nT : Nat} {ps : List Str} (l : K.lookup f = some ⟨oc, od, .func (PySem.W.fnOf x qual (defArgs st) (defBody st) (defScope st) (.ref T) kV doc pm an cdv ct), osl⟩)
    (lT : K.lookup T = some ⟨oT, dT, .seq #[vT] nT, sT⟩)
    (h : ∀ (kV doc pm : Value) (an : Option Addr) (cdv ct u w : Value), ∃ k, bindArgs (PySem.W.fnOf x qual (defArgs st) (defBody st) (defScope st) (.ref T) kV doc pm an cdv ct) ⟨[u], [(x1, w)]⟩ = seqItems? (.ref T) >>= k ∧ k (some #[vT]) = pure (ps.zip [u, w])) : KBn K (PySem.W.fnOf x qual (defArgs st) (defBody st) (defScope st) (.ref T) kV doc pm an cdv ct) ps 1 [x1] (fun us ws => us ++ ws) (fun us ws => us ++ ws) := by
  refine ⟨fun s us ws X l1 l2 => ?_, fun r1 r2 => r1.append r2⟩
  match us, ws, l1, l2 with
  | [u], [w], _, _ =>
    obtain ⟨k, e1, e2⟩ := h kV doc pm an cdv ct u w
    refine BindsTo.of_looks fun M => ?_
    show PySem.W.Looks M s.heap (bindArgs (PySem.W.fnOf x qual (defArgs st) (defBody st) (defScope st) (.ref T) kV doc pm an cdv ct) ⟨[u], [(x1, w)]⟩) (ps.zip [u, w])
    rw [e1]
    exact looks_items X lT rfl (.of_pure e2)
theorem funA_mk {K : PySem.W.Frag} {x qual : Str} {st : Stmt} {f : Addr} {oc : Value} {od an : Option Addr} {osl : Array (Option Value)} {dV kV doc pm cdv ct : Value} (l : K.lookup f = some ⟨oc, od, .func (PySem.W.fnOf x qual (defArgs st) (defBody st) (defScope st) dV kV doc pm an cdv ct), osl⟩)
    (c : PySem.W.codeIn K cdv qual = true) (k : PySem.W.keepIn K (.ref f) = true) : FunA K x qual st f (PySem.W.fnOf x qual (defArgs st) (defBody st) (defScope st) dV kV doc pm an cdv ct) := ⟨⟨oc, od, dV, kV, doc, pm, an, cdv, ct, osl, rfl, l, c⟩, k⟩
section
variable {P : Program} {w : World} {K : PySem.W.Frag} {mg : Str → Option Value} {base : Heap}
theorem cutG {Cd A : Int → Int → Hp → Prop} {B : Prop} (h1 : ∀ n p H, Cd n p H → A n p H) (h2 : (∀ n p H, Cd n p H → A n p H) → B) : B := h2 h1
theorem cutA {Cd A : Addr → Hp → Prop} {B : Prop} (h1 : ∀ a H, Cd a H → A a H) (h2 : (∀ a H, Cd a H → A a H) → B) : B := h2 h1
theorem cutH {H : Hp} {A : Hp → Prop} {B : Prop} (h1 : ∀ H', Same H H' → A H') (h2 : (∀ H', Same H H' → A H') → B) : B := h2 h1
theorem cutP {A B : Prop} (h1 : A) (h2 : A → B) : B := h2 h1
theorem gB {i : Nat} {v u : Bool} {σ : L2.St} {H : Hp} {D : L2.St → Hp → Prop} (e : v = u) (h : gName i (V.bl u) σ H D) : gName i (V.bl v) σ H D := e ▸ h
theorem gI {i : Nat} {v u : Int} {σ : L2.St} {H : Hp} {D : L2.St → Hp → Prop} (e : v = u) (h : gName i (V.int u) σ H D) : gName i (V.int v) σ H D := e ▸ h
theorem dvi (a b : Int) : decide (V.int a = V.int b) = decide (a = b) := by
  by_cases c : a = b
  · rw [decide_eq_true c, decide_eq_true (congrArg V.int c)]
  · rw [decide_eq_false c, decide_eq_false (fun z => c (V.int.inj z))]
theorem dvs (a b : Str) : decide (V.str a = V.str b) = decide (a = b) := by
  by_cases c : a = b
  · rw [decide_eq_true c, decide_eq_true (congrArg V.str c)]
  · rw [decide_eq_false c, decide_eq_false (fun z => c (V.str.inj z))]
theorem bx1 {c : Int} {H : Hp} {b : Addr} (h : BoxAt (c + 2 ^ (1 - 1)) H b) : BoxAt (c + 1) H b := h
theorem Keep.none {b p : Addr} {H H' : Hp} (k : Keep b H H') (n : p ≠ b) (h : H' p = none) : H p = none := by
  cases q : H p with
  | none => rfl
  | some o =>
    rw [k p o q n] at h
    cases h
theorem dp_ints {H : Hp} : ∀ ds : List Int, DpAll K H (ds.map V.int) (ds.map PyData.int)
  | [] => .nil
  | d :: ds => .cons (.int d) (dp_ints ds)
theorem lv_ints {n : Nat} (ds : List Int) (h : ds.length ≤ 1000) : Lv (n + 1) (.list (ds.map PyData.int)) := by
  refine ⟨by rw [List.length_map]; omega, fun d hd => ?_⟩
  obtain ⟨x, _, rfl⟩ := List.mem_map.mp hd
  cases n <;> trivial
theorem eqv_ints (ds : List Int) : PyData.eqv (.list (ds.map PyData.int)) (.list (ds.map PyData.int)) = true := PySem.SeqAt.eqv_refl _ (PySem.SeqAt.canLay_of_shaped (PySem.W.shaped_ints ds))
/-! ### a form -/
/-- at x stands a Form of these two -/
def FAt (C : Addr) (H : Hp) (x : Addr) (sc tl : Nat) : Prop := ∃ dx, H x = some (.ins C dx [("scale", .int (sc : Int)), ("tail", .int (tl : Int))]) ∧ 2 ≤ sc ∧ sc ≤ 8 ∧ 1 ≤ tl ∧ tl ≤ 24
theorem FAt.keep {C : Addr} {b : Addr} {H H' : Hp} {x : Addr} {sc tl : Nat} (h : FAt C H x sc tl) (k : Keep b H H') (n : x ≠ b) : FAt C H' x sc tl := by
  obtain ⟨dx, e, r⟩ := h
  exact ⟨dx, k _ _ e n, r⟩
theorem FAt.same {C : Addr} {H H' : Hp} {x : Addr} {sc tl : Nat} (h : FAt C H x sc tl) (s : Same H H') : FAt C H' x sc tl := by
  obtain ⟨dx, e, r⟩ := h
  exact ⟨dx, s _ _ e, r⟩
structure FT (K : PySem.W.Frag) (mg : Str → Option Value) (C : Addr) : Prop where
  cl : Cls K C
  ns : NoAttr K C "scale"
  nt : NoAttr K C "tail"
  mgC : mg "Form" = some (.ref C)
theorem fl_s (a b : V) : List.lookup ("scale" : Str) ([("scale", a), ("tail", b)] : List (Str × V)) = some a := rfl
theorem fl_t (a b : V) : List.lookup ("tail" : Str) ([("scale", a), ("tail", b)] : List (Str × V)) = some b := rfl
/-- Form(scale, tail) makes one -/
theorem made {C : Addr} {H : Hp} {x dx : Addr} (nx : H x = none) (nd : H dx = none) (ne : dx ≠ x) {H' : Hp} (k : ∀ p o, (upd (upd H dx (.own x)) x (.ins C dx [])) p = some o → p ≠ x → H' p = some o) : Same H H' := fun p o e =>
  k p o (by rw [upd_ne (ne_of_none e nx), upd_ne (ne_of_none e nd)]; exact e) (ne_of_none e nx)
structure LL (K : PySem.W.Frag) (mg : Str → Option Value) (C : Addr) (a1 a2 a3 a4 a5 a6 a7 a8 a9 a10 a11 a12 a13 a14 a15 a16 a17 a18 a19 a20 a21 a22 a23 a24 a25 a26 a27 a28 a29 a30 a31 a32 a33 a34 a35 a36 a37 a38 a39 a40 a41 a42 a43 a44 a45 a46 a47 a48 a49 a50 a51 a52 a53 a54 a55 a56 a57 a58 a59 a60 a61 a62 a63 a64 a65 a66 a67 : Addr) (l1 l2 l3 l4 l5 l6 l7 l8 l9 l10 l11 l12 l13 l14 l15 l16 l17 l18 l19 l20 l21 l22 l23 l24 l25 l26 l27 l28 l29 l30 l31 l32 l33 l34 l35 l36 l37 l38 l39 l40 l41 l42 l43 l44 l45 l46 l47 l48 l49 l50 l51 l52 l53 l54 l55 l56 l57 l58 l59 l60 l61 l62 l63 l64 l65 l66 l67 : FuncData) (t62 t63 t64 tg_NEAR tg_CUT tg_UP tg_DOWN : Tok) (w : World) (dO : Addr) (esO : Array DictEntry) (nO : Nat) : Prop where
  F_cut_off : Fun K "cut_off" "cut_off" s_cut_off a1 l1
  m_cut_off : mg "cut_off" = some (.ref a1)
  b_cut_off : Binds K l1 ["number", "by"] []
  F_last_power : Fun K "last_power" "last_power" s_last_power a2 l2
  m_last_power : mg "last_power" = some (.ref a2)
  b_last_power : Binds K l2 ["form", "number", "power"] []
  F_least_power : Fun K "least_power" "least_power" s_least_power a3 l3
  m_least_power : mg "least_power" = some (.ref a3)
  b_least_power : Binds K l3 ["form"] []
  F_rounded : Fun K "rounded" "rounded" s_rounded a4 l4
  m_rounded : mg "rounded" = some (.ref a4)
  kb_rounded_way : ∃ g, KBn K l4 ["form", "sign", "number", "power", "way", "more"] 4 ["way"] g (fun vs zs => vs ++ (zs ++ [.bl false]))
  kb_rounded_way_more : ∃ g, KBn K l4 ["form", "sign", "number", "power", "way", "more"] 4 ["way", "more"] g (fun vs zs => vs ++ zs)
  F_parted : Fun K "parted" "parted" s_parted a5 l5
  m_parted : mg "parted" = some (.ref a5)
  b_parted : Binds K l5 ["number", "by", "more"] []
  F_goes_up : Fun K "goes_up" "goes_up" s_goes_up a6 l6
  m_goes_up : mg "goes_up" = some (.ref a6)
  b_goes_up : Binds K l6 ["way", "sign", "many", "rest"] []
  F_goes_away : Fun K "goes_away" "goes_away" s_goes_away a7 l7
  m_goes_away : mg "goes_away" = some (.ref a7)
  b_goes_away : Binds K l7 ["way", "sign"] []
  F_word_beyond : Fun K "word_beyond" "word_beyond" s_word_beyond a8 l8
  m_word_beyond : mg "word_beyond" = some (.ref a8)
  b_word_beyond : Binds K l8 ["form", "sign", "way"] []
  F_flags_of_rest : Fun K "flags_of_rest" "flags_of_rest" s_flags_of_rest a9 l9
  m_flags_of_rest : mg "flags_of_rest" = some (.ref a9)
  b_flags_of_rest : Binds K l9 ["form", "number", "power", "rest"] []
  F_added : Fun K "added" "added" s_added a10 l10
  m_added : mg "added" = some (.ref a10)
  kb_added_way : ∃ g, KBn K l10 ["form", "a", "b", "way"] 3 ["way"] g (fun vs zs => vs ++ zs)
  F_taken : Fun K "taken" "taken" s_taken a11 l11
  m_taken : mg "taken" = some (.ref a11)
  kb_taken_way : ∃ g, KBn K l11 ["form", "a", "b", "way"] 3 ["way"] g (fun vs zs => vs ++ zs)
  F_multiplied : Fun K "multiplied" "multiplied" s_multiplied a12 l12
  m_multiplied : mg "multiplied" = some (.ref a12)
  kb_multiplied_way : ∃ g, KBn K l12 ["form", "a", "b", "way"] 3 ["way"] g (fun vs zs => vs ++ zs)
  F_divided : Fun K "divided" "divided" s_divided a13 l13
  m_divided : mg "divided" = some (.ref a13)
  kb_divided_way : ∃ g, KBn K l13 ["form", "a", "b", "way"] 3 ["way"] g (fun vs zs => vs ++ zs)
  F_joined : Fun K "joined" "joined" s_joined a14 l14
  m_joined : mg "joined" = some (.ref a14)
  kb_joined_way : ∃ g, KBn K l14 ["form", "a", "b", "c", "way"] 4 ["way"] g (fun vs zs => vs ++ zs)
  F_has_none : Fun K "has_none" "has_none" s_has_none a15 l15
  m_has_none : mg "has_none" = some (.ref a15)
  b_has_none : Binds K l15 ["form", "words"] []
  F_bad : Fun K "bad" "bad" s_bad a16 l16
  m_bad : mg "bad" = some (.ref a16)
  b_bad : Binds K l16 ["form"] []
  F_is_endless_by_nought : Fun K "is_endless_by_nought" "is_endless_by_nought" s_is_endless_by_nought a17 l17
  m_is_endless_by_nought : mg "is_endless_by_nought" = some (.ref a17)
  b_is_endless_by_nought : Binds K l17 ["form", "a", "b"] []
  F_sign_of : Fun K "sign_of" "sign_of" s_sign_of a18 l18
  m_sign_of : mg "sign_of" = some (.ref a18)
  b_sign_of : Binds K l18 ["form", "word"] []
  F_unlike_sign : Fun K "unlike_sign" "unlike_sign" s_unlike_sign a19 l19
  m_unlike_sign : mg "unlike_sign" = some (.ref a19)
  b_unlike_sign : Binds K l19 ["form", "a", "b"] []
  F_term_of : Fun K "term_of" "term_of" s_term_of a20 l20
  m_term_of : mg "term_of" = some (.ref a20)
  b_term_of : Binds K l20 ["form", "word"] []
  F_product_of : Fun K "product_of" "product_of" s_product_of a21 l21
  m_product_of : mg "product_of" = some (.ref a21)
  b_product_of : Binds K l21 ["form", "a", "b"] []
  F_terms_added : Fun K "terms_added" "terms_added" s_terms_added a22 l22
  m_terms_added : mg "terms_added" = some (.ref a22)
  b_terms_added : Binds K l22 ["form", "one", "other", "way"] []
  F_nought_sign : Fun K "nought_sign" "nought_sign" s_nought_sign a23 l23
  m_nought_sign : mg "nought_sign" = some (.ref a23)
  b_nought_sign : Binds K l23 ["sign", "other_sign", "way"] []
  F_worths_added : Fun K "worths_added" "worths_added" s_worths_added a24 l24
  m_worths_added : mg "worths_added" = some (.ref a24)
  b_worths_added : Binds K l24 ["one", "other"] []
  F_quotient_rounded : Fun K "quotient_rounded" "quotient_rounded" s_quotient_rounded a25 l25
  m_quotient_rounded : mg "quotient_rounded" = some (.ref a25)
  b_quotient_rounded : Binds K l25 ["form", "sign", "one", "other", "way"] []
  F_done : Fun K "done" "done" s_done a26 l26
  m_done : mg "done" = some (.ref a26)
  kb_done_way : ∃ g, KBn K l26 ["form", "op", "words", "way"] 3 ["way"] g (fun vs zs => vs ++ zs)
  F_have_heads : Fun K "have_heads" "have_heads" s_have_heads a27 l27
  m_have_heads : mg "have_heads" = some (.ref a27)
  b_have_heads : Binds K l27 ["form", "words"] []
  F_head_of : Fun K "head_of" "head_of" s_head_of a28 l28
  m_head_of : mg "head_of" = some (.ref a28)
  b_head_of : Binds K l28 ["form", "word"] []
  F_plain_step : Fun K "plain_step" "plain_step" s_plain_step a29 l29
  m_plain_step : mg "plain_step" = some (.ref a29)
  b_plain_step : Binds K l29 ["name", "form", "op", "words", "way"] []
  F_round_step : Fun K "round_step" "round_step" s_round_step a30 l30
  m_round_step : mg "round_step" = some (.ref a30)
  b_round_step : Binds K l30 ["form", "sign", "total", "power", "way", "more"] []
  F_fours_of : Fun K "fours_of" "fours_of" s_fours_of a31 l31
  m_fours_of : mg "fours_of" = some (.ref a31)
  b_fours_of : Binds K l31 ["number"] []
  F_four_of : Fun K "four_of" "four_of" s_four_of a32 l32
  m_four_of : mg "four_of" = some (.ref a32)
  b_four_of : Binds K l32 ["bits"] []
  F_rows_of : Fun K "rows_of" "rows_of" s_rows_of a33 l33
  m_rows_of : mg "rows_of" = some (.ref a33)
  b_rows_of : Binds K l33 ["one", "number"] []
  F_saved : Fun K "saved" "saved" s_saved a34 l34
  m_saved : mg "saved" = some (.ref a34)
  b_saved : Binds K l34 ["x", "y", "z"] []
  F_levels_of : Fun K "levels_of" "levels_of" s_levels_of a35 l35
  m_levels_of : mg "levels_of" = some (.ref a35)
  b_levels_of : Binds K l35 ["rows"] []
  F_level_behind : Fun K "level_behind" "level_behind" s_level_behind a36 l36
  m_level_behind : mg "level_behind" = some (.ref a36)
  b_level_behind : Binds K l36 ["rows"] []
  F_times_steps : Fun K "times_steps" "times_steps" s_times_steps a37 l37
  m_times_steps : mg "times_steps" = some (.ref a37)
  kb_times_steps_way : ∃ g, KBn K l37 ["form", "a", "b", "way"] 3 ["way"] g (fun vs zs => vs ++ zs)
  kb_times_steps : ∃ ds, Vals [.str "near"] ds ∧ Binds K l37 ["form", "a", "b", "way"] ds
  F_is_number : Fun K "is_number" "is_number" s_is_number a38 l38
  m_is_number : mg "is_number" = some (.ref a38)
  b_is_number : Binds K l38 ["thing"] []
  F_is_number_in : Fun K "is_number_in" "is_number_in" s_is_number_in a39 l39
  m_is_number_in : mg "is_number_in" = some (.ref a39)
  b_is_number_in : Binds K l39 ["least", "greatest", "thing"] []
  F__law_box : Fun K "_law_box" "_law_box" sBox a40 l40
  m__law_box : mg "_law_box" = some (.ref a40)
  b__law_box : Binds K l40 ["_law_script", "_law_k"] []
  F__law_take : Fun K "_law_take" "_law_take" sTake a41 l41
  m__law_take : mg "_law_take" = some (.ref a41)
  b__law_take : Binds K l41 ["_law_box_here", "_law_size"] []
  F__law_folded : Fun K "_law_folded" "_law_folded" sFolded a42 l42
  m__law_folded : mg "_law_folded" = some (.ref a42)
  b__law_folded : Binds K l42 ["_law_script", "_law_size"] []
  F__law_same : Fun K "_law_same" "_law_same" sSame a43 l43
  m__law_same : mg "_law_same" = some (.ref a43)
  b__law_same : Binds K l43 ["_law_found", "_law_due"] []
  F__law_form : Fun K "_law_form" "_law_form" s__law_form a44 l44
  m__law_form : mg "_law_form" = some (.ref a44)
  b__law_form : Binds K l44 ["_law_box_here"] []
  F__law_word : Fun K "_law_word" "_law_word" s__law_word a45 l45
  m__law_word : mg "_law_word" = some (.ref a45)
  b__law_word : Binds K l45 ["_law_box_here", "_law_scale", "_law_tail"] []
  F__law_sort : Fun K "_law_sort" "_law_sort" s__law_sort a46 l46
  m__law_sort : mg "_law_sort" = some (.ref a46)
  b__law_sort : Binds K l46 ["_law_word_here", "_law_scale", "_law_tail"] []
  F__law_size_of : Fun K "_law_size_of" "_law_size_of" s__law_size_of a47 l47
  m__law_size_of : mg "_law_size_of" = some (.ref a47)
  b__law_size_of : Binds K l47 ["_law_size", "_law_scale", "_law_tail"] []
  F__law_less : Fun K "_law_less" "_law_less" s__law_less a48 l48
  m__law_less : mg "_law_less" = some (.ref a48)
  b__law_less : Binds K l48 ["_law_one", "_law_other"] []
  F__law_rounded : Fun K "_law_rounded" "_law_rounded" s__law_rounded a49 l49
  m__law_rounded : mg "_law_rounded" = some (.ref a49)
  b__law_rounded : Binds K l49 ["_law_scale", "_law_tail", "_law_sign", "_law_worth", "_law_how"] []
  F__law_head : Fun K "_law_head" "_law_head" s__law_head a50 l50
  m__law_head : mg "_law_head" = some (.ref a50)
  b__law_head : Binds K l50 ["_law_scale", "_law_tail", "_law_word_here"] []
  F__law_fours : Fun K "_law_fours" "_law_fours" s__law_fours a51 l51
  m__law_fours : mg "_law_fours" = some (.ref a51)
  b__law_fours : Binds K l51 ["_law_number"] []
  F__law_last_level : Fun K "_law_last_level" "_law_last_level" s__law_last_level a52 l52
  m__law_last_level : mg "_law_last_level" = some (.ref a52)
  b__law_last_level : Binds K l52 ["_law_rows"] []
  F__law_times_due : Fun K "_law_times_due" "_law_times_due" s__law_times_due a53 l53
  m__law_times_due : mg "_law_times_due" = some (.ref a53)
  b__law_times_due : Binds K l53 ["_law_scale", "_law_tail", "_law_a", "_law_b", "_law_how"] []
  F__law_told_times : Fun K "_law_told_times" "_law_told_times" s__law_told_times a54 l54
  m__law_told_times : mg "_law_told_times" = some (.ref a54)
  b__law_told_times : Binds K l54 ["_law_scale", "_law_tail", "_law_a", "_law_b"] []
  F__law_right : Fun K "_law_right" "_law_right" s__law_right a55 l55
  m__law_right : mg "_law_right" = some (.ref a55)
  b__law_right : Binds K l55 ["_law_box_here"] []
  T : FT K mg C
  M : Mk K C a56
  F_Form___init__ : Fun K "__init__" "Form.__init__" s_Form___init__ a56 l56
  b_Form___init__ : Binds K l56 ["self", "scale", "tail"] []
  F_Form_bias : Fun K "bias" "Form.bias" s_Form_bias a57 l57
  b_Form_bias : Binds K l57 ["self"] []
  M_Form_bias : Meth K C "bias" a57
  F_Form_top : Fun K "top" "Form.top" s_Form_top a58 l58
  b_Form_top : Binds K l58 ["self"] []
  M_Form_top : Meth K C "top" a58
  F_Form_parts : Fun K "parts" "Form.parts" s_Form_parts a59 l59
  b_Form_parts : Binds K l59 ["self", "word"] []
  M_Form_parts : Meth K C "parts" a59
  F_Form_word_of : Fun K "word_of" "Form.word_of" s_Form_word_of a60 l60
  b_Form_word_of : Binds K l60 ["self", "sign", "scale", "tail"] []
  M_Form_word_of : Meth K C "word_of" a60
  F_Form_sort_of : Fun K "sort_of" "Form.sort_of" s_Form_sort_of a61 l61
  b_Form_sort_of : Binds K l61 ["self", "word"] []
  M_Form_sort_of : Meth K C "sort_of" a61
  F_Form_nought : FunA K "nought" "Form.nought" s_Form_nought a62 l62
  b_Form_nought : Binds K l62 ["self", "sign"] []
  M_Form_nought : Meth K C "nought" a62
  d_Form_nought : Binds K l62 ["self", "sign"] [.int 0 t62]
  F_Form_endless : FunA K "endless" "Form.endless" s_Form_endless a63 l63
  b_Form_endless : Binds K l63 ["self", "sign"] []
  M_Form_endless : Meth K C "endless" a63
  d_Form_endless : Binds K l63 ["self", "sign"] [.int 0 t63]
  F_Form_greatest : FunA K "greatest" "Form.greatest" s_Form_greatest a64 l64
  b_Form_greatest : Binds K l64 ["self", "sign"] []
  M_Form_greatest : Meth K C "greatest" a64
  d_Form_greatest : Binds K l64 ["self", "sign"] [.int 0 t64]
  F_Form_none_word : Fun K "none_word" "Form.none_word" s_Form_none_word a65 l65
  b_Form_none_word : Binds K l65 ["self"] []
  M_Form_none_word : Meth K C "none_word" a65
  F_Form_turned : Fun K "turned" "Form.turned" s_Form_turned a66 l66
  b_Form_turned : Binds K l66 ["self", "word"] []
  M_Form_turned : Meth K C "turned" a66
  F_Form_worth : Fun K "worth" "Form.worth" s_Form_worth a67 l67
  b_Form_worth : Binds K l67 ["self", "word"] []
  M_Form_worth : Meth K C "worth" a67
  g_NEAR : mg "NEAR" = some (.str "near" tg_NEAR)
  g_CUT : mg "CUT" = some (.str "cut" tg_CUT)
  g_UP : mg "UP" = some (.str "up" tg_UP)
  g_DOWN : mg "DOWN" = some (.str "down" tg_DOWN)
  m_OPS : mg "OPS" = some (.ref dO)
  OPS_D : KDict K w dO esO nO
  o_add : PySem.W.nsIn K dO "add" = some (some (.ref a10))
  o_take : PySem.W.nsIn K dO "take" = some (some (.ref a11))
  o_times : PySem.W.nsIn K dO "times" = some (some (.ref a12))
  o_over : PySem.W.nsIn K dO "over" = some (some (.ref a13))
  o_join : PySem.W.nsIn K dO "join" = some (some (.ref a14))
variable {C : Addr} {a1 a2 a3 a4 a5 a6 a7 a8 a9 a10 a11 a12 a13 a14 a15 a16 a17 a18 a19 a20 a21 a22 a23 a24 a25 a26 a27 a28 a29 a30 a31 a32 a33 a34 a35 a36 a37 a38 a39 a40 a41 a42 a43 a44 a45 a46 a47 a48 a49 a50 a51 a52 a53 a54 a55 a56 a57 a58 a59 a60 a61 a62 a63 a64 a65 a66 a67 : Addr} {l1 l2 l3 l4 l5 l6 l7 l8 l9 l10 l11 l12 l13 l14 l15 l16 l17 l18 l19 l20 l21 l22 l23 l24 l25 l26 l27 l28 l29 l30 l31 l32 l33 l34 l35 l36 l37 l38 l39 l40 l41 l42 l43 l44 l45 l46 l47 l48 l49 l50 l51 l52 l53 l54 l55 l56 l57 l58 l59 l60 l61 l62 l63 l64 l65 l66 l67 : FuncData} {t62 t63 t64 tg_NEAR tg_CUT tg_UP tg_DOWN : Tok} {dO : Addr} {esO : Array DictEntry} {nO : Nat}

/-! ### is_number, is_number_in -/
inductive Th (K : PySem.W.Frag) (H : Hp) : V → Prop
  | non : Th K H .non
  | bl (b : Bool) : Th K H (.bl b)
  | int (i : Int) : Th K H (.int i)
  | str (x : Str) : Th K H (.str x)
def isI : V → Bool
  | .int _ => true
  | _ => false
def numIn (a b : Int) : V → Bool
  | .int z => decide (a ≤ z) && decide (z ≤ b)
  | _ => false
def spNum (K : PySem.W.Frag) : Sp := fun vs H Q _ => ∃ x : V, vs = [x] ∧ Th K H x ∧ Q (.bl (isI x)) H
theorem ok_is_number (B : Bl mg) (L : LL K mg C a1 a2 a3 a4 a5 a6 a7 a8 a9 a10 a11 a12 a13 a14 a15 a16 a17 a18 a19 a20 a21 a22 a23 a24 a25 a26 a27 a28 a29 a30 a31 a32 a33 a34 a35 a36 a37 a38 a39 a40 a41 a42 a43 a44 a45 a46 a47 a48 a49 a50 a51 a52 a53 a54 a55 a56 a57 a58 a59 a60 a61 a62 a63 a64 a65 a66 a67 l1 l2 l3 l4 l5 l6 l7 l8 l9 l10 l11 l12 l13 l14 l15 l16 l17 l18 l19 l20 l21 l22 l23 l24 l25 l26 l27 l28 l29 l30 l31 l32 l33 l34 l35 l36 l37 l38 l39 l40 l41 l42 l43 l44 l45 l46 l47 l48 l49 l50 l51 l52 l53 l54 l55 l56 l57 l58 l59 l60 l61 l62 l63 l64 l65 l66 l67 t62 t63 t64 tg_NEAR tg_CUT tg_UP tg_DOWN w dO esO nO) : FnOk P w K mg base CX0 1 a38 l38 ["thing"] (spNum K) := by
  refine L.F_is_number.ok sc_is_number (fun vs H Q E h => ?_) (fun cdv A outer s H vs Q E hr h => ?_)
  · obtain ⟨x, rfl, _⟩ := h
    rfl
  obtain ⟨x, rfl, hx, q⟩ := h
  refine ⟨_, (pss_one (ps_ret (pe_and (pe_callB call_isi (by rfl) B.isinstance boot_isinstance (pa_cons (pv 0) (pa_cons (pe_bltn (v := .ty "int") (by rfl) B.int PyProof.Rows.boot_int rfl) pa_nil))) (pe_one (pe_not (pe_callB call_isi (by rfl) B.isinstance boot_isinstance (pa_cons (pv 0) (pa_cons (pe_bltn (v := .ty "bool") (by rfl) B.bool PyProof.Rows.boot_bool rfl) pa_nil)))))))), ?_⟩
  cases hx with
  | non => exact ⟨_, rfl, _, _, _, _, _, rfl, .ty _, .base .non, kit_ty (by decide +kernel : kitB "NoneType" "int" = some false), _, rfl, iteF q⟩
  | bl b =>
    refine ⟨_, rfl, _, _, _, _, _, rfl, .ty _, .base (.bl _), kit_ty (by decide +kernel : kitB "bool" "int" = some true), _, rfl, iteT ?_⟩
    exact ⟨_, rfl, _, _, _, _, _, rfl, .ty _, .base (.bl _), kit_ty (by decide +kernel : kitB "bool" "bool" = some true), _, rfl, q⟩
  | int i =>
    refine ⟨_, rfl, _, _, _, _, _, rfl, .ty _, .base (.int _), kit_ty (by decide +kernel : kitB "int" "int" = some true), _, rfl, iteT ?_⟩
    exact ⟨_, rfl, _, _, _, _, _, rfl, .ty _, .base (.int _), kit_ty (by decide +kernel : kitB "int" "bool" = some false), _, rfl, q⟩
  | str z => exact ⟨_, rfl, _, _, _, _, _, rfl, .ty _, .base (.str _), kit_ty (by decide +kernel : kitB "str" "int" = some false), _, rfl, iteF q⟩
def spNumIn (K : PySem.W.Frag) : Sp := fun vs H Q _ => ∃ (a b : Int) (x : V), vs = [.int a, .int b, x] ∧ Th K H x ∧ Q (.bl (numIn a b x)) H
theorem ok_is_number_in (B : Bl mg) (L : LL K mg C a1 a2 a3 a4 a5 a6 a7 a8 a9 a10 a11 a12 a13 a14 a15 a16 a17 a18 a19 a20 a21 a22 a23 a24 a25 a26 a27 a28 a29 a30 a31 a32 a33 a34 a35 a36 a37 a38 a39 a40 a41 a42 a43 a44 a45 a46 a47 a48 a49 a50 a51 a52 a53 a54 a55 a56 a57 a58 a59 a60 a61 a62 a63 a64 a65 a66 a67 l1 l2 l3 l4 l5 l6 l7 l8 l9 l10 l11 l12 l13 l14 l15 l16 l17 l18 l19 l20 l21 l22 l23 l24 l25 l26 l27 l28 l29 l30 l31 l32 l33 l34 l35 l36 l37 l38 l39 l40 l41 l42 l43 l44 l45 l46 l47 l48 l49 l50 l51 l52 l53 l54 l55 l56 l57 l58 l59 l60 l61 l62 l63 l64 l65 l66 l67 t62 t63 t64 tg_NEAR tg_CUT tg_UP tg_DOWN w dO esO nO) : FnOk P w K mg base CX0 2 a39 l39 ["least", "greatest", "thing"] (spNumIn K) := by
  have G_is_number : FnOk P w K mg base CX0 1 a38 l38 ["thing"] (spNum K) := (ok_is_number B L).mono (by decide)
  refine L.F_is_number_in.ok sc_is_number_in (fun vs H Q E h => ?_) (fun cdv A outer s H vs Q E hr h => ?_)
  · obtain ⟨a, b, x, rfl, _⟩ := h
    rfl
  obtain ⟨a, b, x, rfl, hx, q⟩ := h
  refine ⟨_, (pss_one (ps_ret (pe_and (pe_call G_is_number hr (by rfl) L.m_is_number L.F_is_number.kp L.b_is_number .nil pass0 (pa_cons (pv 2) pa_nil)) (pe_one (pe_chain op_le op_le (pv 0) (pv 2) (pv 1)))))), ?_⟩
  refine ⟨_, rfl, _, rfl, hx, _, rfl, ?_⟩
  cases hx with
  | non => exact iteF q
  | bl b => exact iteF q
  | str z => exact iteF q
  | int z =>
    refine iteT ?_
    refine ⟨_, rfl, _, rfl, _, _, rfl, rfl, _, rfl, ite2 (fun c => ?_) (fun c => ?_)⟩
    · refine ⟨_, rfl, _, _, rfl, rfl, ?_⟩
      rw [show numIn a b (.int z) = decide (z ≤ b) by show (decide (a ≤ z) && decide (z ≤ b)) = _; rw [c]; rfl] at q
      exact q
    · rw [show numIn a b (.int z) = false by show (decide (a ≤ z) && decide (z ≤ b)) = _; rw [Bool.eq_false_iff.mpr c]; rfl] at q
      exact q
/-! ### Form(scale, tail) and its words -/
def spInit (C : Addr) : Sp := fun vs H Q _ => ∃ (x dx : Addr) (sc tl : Nat), vs = [.ref x, .int (sc : Int), .int (tl : Int)] ∧ H x = some (.ins C dx []) ∧ 2 ≤ sc ∧ sc ≤ 8 ∧ 1 ≤ tl ∧ tl ≤ 24 ∧
  ∀ H', FAt C H' x sc tl → (∀ p o, H p = some o → p ≠ x → H' p = some o) → Q .non H'
theorem numIn_t {a b z : Int} (h1 : a ≤ z) (h2 : z ≤ b) : numIn a b (.int z) = true := by
  show (decide (a ≤ z) && decide (z ≤ b)) = true
  rw [decide_eq_true h1, decide_eq_true h2]
  rfl
theorem ok_Form___init__ (B : Bl mg) (L : LL K mg C a1 a2 a3 a4 a5 a6 a7 a8 a9 a10 a11 a12 a13 a14 a15 a16 a17 a18 a19 a20 a21 a22 a23 a24 a25 a26 a27 a28 a29 a30 a31 a32 a33 a34 a35 a36 a37 a38 a39 a40 a41 a42 a43 a44 a45 a46 a47 a48 a49 a50 a51 a52 a53 a54 a55 a56 a57 a58 a59 a60 a61 a62 a63 a64 a65 a66 a67 l1 l2 l3 l4 l5 l6 l7 l8 l9 l10 l11 l12 l13 l14 l15 l16 l17 l18 l19 l20 l21 l22 l23 l24 l25 l26 l27 l28 l29 l30 l31 l32 l33 l34 l35 l36 l37 l38 l39 l40 l41 l42 l43 l44 l45 l46 l47 l48 l49 l50 l51 l52 l53 l54 l55 l56 l57 l58 l59 l60 l61 l62 l63 l64 l65 l66 l67 t62 t63 t64 tg_NEAR tg_CUT tg_UP tg_DOWN w dO esO nO) : FnOk P w K mg base CX0 3 a56 l56 ["self", "scale", "tail"] (spInit C) := by
  have G_is_number_in : FnOk P w K mg base CX0 2 a39 l39 ["least", "greatest", "thing"] (spNumIn K) := (ok_is_number_in B L).mono (by decide)
  refine L.F_Form___init__.ok sc_Form___init__ (fun vs H Q E h => ?_) (fun cdv A outer s H vs Q E hr h => ?_)
  · obtain ⟨x, dx, sc, tl, rfl, _⟩ := h
    rfl
  obtain ⟨x, dx, sc, tl, rfl, hx, h1, h2, h3, h4, q⟩ := h
  refine ⟨_, (pss_cons (ps_if (pt_not (pt_val (pe_call G_is_number_in hr (by rfl) L.m_is_number_in L.F_is_number_in.kp L.b_is_number_in .nil pass0 (pa_cons pe_int (pa_cons pe_int (pa_cons (pv 1) pa_nil)))))) (pss_one ps_never) pss_nil)
    (pss_cons (ps_if (pt_not (pt_val (pe_call G_is_number_in hr (by rfl) L.m_is_number_in L.F_is_number_in.kp L.b_is_number_in .nil pass0 (pa_cons pe_int (pa_cons pe_int (pa_cons (pv 2) pa_nil)))))) (pss_one ps_never) pss_nil)
    (pss_cons (ps_fld (pv 0) (pv 1) rfl)
    (pss_one (ps_fld (pv 0) (pv 2) rfl))))), ?_⟩
  refine ⟨_, rfl, _, _, _, rfl, .int _, ?_⟩
  rw [numIn_t (by omega) (by omega)]
  refine ⟨_, rfl, iteF ?_⟩
  refine ⟨_, rfl, _, _, _, rfl, .int _, ?_⟩
  rw [numIn_t (by omega) (by omega)]
  refine ⟨_, rfl, iteF ?_⟩
  refine ⟨_, rfl, _, rfl, x, C, dx, _, rfl, hx, L.T.cl, L.T.ns, (by decide), ?_⟩
  refine ⟨_, rfl, _, rfl, x, C, dx, _, rfl, upd_same, L.T.cl, L.T.nt, (by show 1 < 1000; decide), ?_⟩
  refine q _ ⟨dx, upd_same, h1, h2, h3, h4⟩ fun p o e n => ?_
  rw [upd_ne n, upd_ne n]
  exact e
def spBias (C : Addr) : Sp := fun vs H Q _ => ∃ (x : Addr) (sc tl : Nat), vs = [.ref x] ∧ FAt C H x sc tl ∧ Q (.int (2 ^ (sc - 1) - 1)) H
theorem ok_Form_bias (B : Bl mg) (L : LL K mg C a1 a2 a3 a4 a5 a6 a7 a8 a9 a10 a11 a12 a13 a14 a15 a16 a17 a18 a19 a20 a21 a22 a23 a24 a25 a26 a27 a28 a29 a30 a31 a32 a33 a34 a35 a36 a37 a38 a39 a40 a41 a42 a43 a44 a45 a46 a47 a48 a49 a50 a51 a52 a53 a54 a55 a56 a57 a58 a59 a60 a61 a62 a63 a64 a65 a66 a67 l1 l2 l3 l4 l5 l6 l7 l8 l9 l10 l11 l12 l13 l14 l15 l16 l17 l18 l19 l20 l21 l22 l23 l24 l25 l26 l27 l28 l29 l30 l31 l32 l33 l34 l35 l36 l37 l38 l39 l40 l41 l42 l43 l44 l45 l46 l47 l48 l49 l50 l51 l52 l53 l54 l55 l56 l57 l58 l59 l60 l61 l62 l63 l64 l65 l66 l67 t62 t63 t64 tg_NEAR tg_CUT tg_UP tg_DOWN w dO esO nO) : FnOk P w K mg base CX0 1 a57 l57 ["self"] (spBias C) := by
  refine L.F_Form_bias.ok sc_Form_bias (fun vs H Q E h => ?_) (fun cdv A outer s H vs Q E hr h => ?_)
  · obtain ⟨x, sc, tl, rfl, _⟩ := h
    rfl
  obtain ⟨x, sc, tl, rfl, ⟨dx, hx, h1, h2, h3, h4⟩, q⟩ := h
  refine ⟨_, (pss_one (ps_ret (pe_op op_sub (pe_op op_oneShl pe_int (pe_op op_sub (pe_fld (pv 0) rfl) pe_int)) pe_int))), ?_⟩
  exact ⟨_, rfl, x, C, dx, _, _, rfl, hx, L.T.cl, L.T.ns, fl_s _ _, _, _, rfl, rfl, sc - 1, rfl, congrArg V.int (by omega), by omega, _, _, rfl, rfl, q⟩
def spTop (C : Addr) : Sp := fun vs H Q _ => ∃ (x : Addr) (sc tl : Nat), vs = [.ref x] ∧ FAt C H x sc tl ∧ Q (.int (2 ^ sc - 1)) H
theorem ok_Form_top (B : Bl mg) (L : LL K mg C a1 a2 a3 a4 a5 a6 a7 a8 a9 a10 a11 a12 a13 a14 a15 a16 a17 a18 a19 a20 a21 a22 a23 a24 a25 a26 a27 a28 a29 a30 a31 a32 a33 a34 a35 a36 a37 a38 a39 a40 a41 a42 a43 a44 a45 a46 a47 a48 a49 a50 a51 a52 a53 a54 a55 a56 a57 a58 a59 a60 a61 a62 a63 a64 a65 a66 a67 l1 l2 l3 l4 l5 l6 l7 l8 l9 l10 l11 l12 l13 l14 l15 l16 l17 l18 l19 l20 l21 l22 l23 l24 l25 l26 l27 l28 l29 l30 l31 l32 l33 l34 l35 l36 l37 l38 l39 l40 l41 l42 l43 l44 l45 l46 l47 l48 l49 l50 l51 l52 l53 l54 l55 l56 l57 l58 l59 l60 l61 l62 l63 l64 l65 l66 l67 t62 t63 t64 tg_NEAR tg_CUT tg_UP tg_DOWN w dO esO nO) : FnOk P w K mg base CX0 1 a58 l58 ["self"] (spTop C) := by
  refine L.F_Form_top.ok sc_Form_top (fun vs H Q E h => ?_) (fun cdv A outer s H vs Q E hr h => ?_)
  · obtain ⟨x, sc, tl, rfl, _⟩ := h
    rfl
  obtain ⟨x, sc, tl, rfl, ⟨dx, hx, h1, h2, h3, h4⟩, q⟩ := h
  refine ⟨_, (pss_one (ps_ret (pe_op op_sub (pe_op op_oneShl pe_int (pe_fld (pv 0) rfl)) pe_int))), ?_⟩
  exact ⟨_, rfl, x, C, dx, _, _, rfl, hx, L.T.cl, L.T.ns, fl_s _ _, sc, rfl, rfl, by omega, _, _, rfl, rfl, q⟩
def spWordOf (C : Addr) : Sp := fun vs H Q _ => ∃ (x : Addr) (sc tl : Nat) (s m t : Int), vs = [.ref x, .int s, .int m, .int t] ∧ FAt C H x sc tl ∧ (s = 0 ∨ s = 1) ∧ 0 ≤ m ∧ m < 2 ^ sc ∧ 0 ≤ t ∧ t < 2 ^ tl ∧ Q (.int (s * 2 ^ (sc + tl) + (m * 2 ^ tl + t))) H
theorem ok_Form_word_of (B : Bl mg) (L : LL K mg C a1 a2 a3 a4 a5 a6 a7 a8 a9 a10 a11 a12 a13 a14 a15 a16 a17 a18 a19 a20 a21 a22 a23 a24 a25 a26 a27 a28 a29 a30 a31 a32 a33 a34 a35 a36 a37 a38 a39 a40 a41 a42 a43 a44 a45 a46 a47 a48 a49 a50 a51 a52 a53 a54 a55 a56 a57 a58 a59 a60 a61 a62 a63 a64 a65 a66 a67 l1 l2 l3 l4 l5 l6 l7 l8 l9 l10 l11 l12 l13 l14 l15 l16 l17 l18 l19 l20 l21 l22 l23 l24 l25 l26 l27 l28 l29 l30 l31 l32 l33 l34 l35 l36 l37 l38 l39 l40 l41 l42 l43 l44 l45 l46 l47 l48 l49 l50 l51 l52 l53 l54 l55 l56 l57 l58 l59 l60 l61 l62 l63 l64 l65 l66 l67 t62 t63 t64 tg_NEAR tg_CUT tg_UP tg_DOWN w dO esO nO) : FnOk P w K mg base CX0 1 a60 l60 ["self", "sign", "scale", "tail"] (spWordOf C) := by
  refine L.F_Form_word_of.ok sc_Form_word_of (fun vs H Q E h => ?_) (fun cdv A outer s H vs Q E hr h => ?_)
  · obtain ⟨x, sc, tl, s, m, t, rfl, _⟩ := h
    rfl
  obtain ⟨x, sc, tl, s, m, t, rfl, ⟨dx, hx, h1, h2, h3, h4⟩, hs, m0, m1, t0, t1, q⟩ := h
  refine ⟨_, (pss_one (ps_ret (pe_op op_orL (pe_op op_orL (pe_op op_shlN (pv 1) (pe_op op_add (pe_fld (pv 0) rfl) (pe_fld (pv 0) rfl))) (pe_op op_shlN (pv 2) (pe_fld (pv 0) rfl))) (pv 3)))), ?_⟩
  have p8 : (2 : Int) ^ sc ≤ 2 ^ 8 := GM.pow_le' h2
  have hp := GM.pow_pos' tl
  have hms : m * 2 ^ tl < 2 ^ (sc + tl) := by
    rw [GM.pow_add']
    exact Int.mul_lt_mul_of_pos_right m1 hp
  refine ⟨_, rfl, _, rfl, x, C, dx, _, _, rfl, hx, L.T.cl, L.T.ns, fl_s _ _, _, rfl, x, C, dx, _, _, rfl, hx, L.T.cl, L.T.nt, fl_t _ _, _, _, rfl, rfl, _, sc + tl, rfl, rfl, shl_ok (n := 1) (by omega) (by omega), ?_⟩
  refine ⟨_, rfl, _, rfl, x, C, dx, _, _, rfl, hx, L.T.cl, L.T.nt, fl_t _ _, _, tl, rfl, rfl, shl_ok (n := 9) (by omega) (by omega), ?_⟩
  refine ⟨s, _, sc + tl, rfl, rfl, ⟨by omega, Int.mul_nonneg m0 (by omega), hms⟩, ?_⟩
  have e : s * 2 ^ (sc + tl) + m * 2 ^ tl = (s * 2 ^ sc + m) * 2 ^ tl := by
    rw [GM.pow_add', Int.add_mul, Int.mul_assoc]
  refine ⟨_, rfl, s * 2 ^ sc + m, t, tl, congrArg V.int e, rfl, ⟨?_, t0, t1⟩, ?_⟩
  · have := GM.pow_pos' sc
    rcases hs with z | z <;> subst z <;> omega
  rw [← e, Int.add_assoc]
  exact q
/-- a named word: its sign, scale and tail -/
def spNm (C : Addr) (m t : Nat → Nat → Int) : Sp := fun vs H Q _ => ∃ (x : Addr) (sc tl : Nat) (g : Int), vs = [.ref x, .int g] ∧ FAt C H x sc tl ∧ (g = 0 ∨ g = 1) ∧ Q (.int (g * 2 ^ (sc + tl) + (m sc tl * 2 ^ tl + t sc tl))) H
def mNo : Nat → Nat → Int := fun _ _ => 0
def mEn : Nat → Nat → Int := fun sc _ => 2 ^ sc - 1
def mGr : Nat → Nat → Int := fun sc _ => 2 ^ sc - 1 - 1
def tGr : Nat → Nat → Int := fun _ tl => 2 ^ tl - 1
theorem ok_Form_nought (B : Bl mg) (L : LL K mg C a1 a2 a3 a4 a5 a6 a7 a8 a9 a10 a11 a12 a13 a14 a15 a16 a17 a18 a19 a20 a21 a22 a23 a24 a25 a26 a27 a28 a29 a30 a31 a32 a33 a34 a35 a36 a37 a38 a39 a40 a41 a42 a43 a44 a45 a46 a47 a48 a49 a50 a51 a52 a53 a54 a55 a56 a57 a58 a59 a60 a61 a62 a63 a64 a65 a66 a67 l1 l2 l3 l4 l5 l6 l7 l8 l9 l10 l11 l12 l13 l14 l15 l16 l17 l18 l19 l20 l21 l22 l23 l24 l25 l26 l27 l28 l29 l30 l31 l32 l33 l34 l35 l36 l37 l38 l39 l40 l41 l42 l43 l44 l45 l46 l47 l48 l49 l50 l51 l52 l53 l54 l55 l56 l57 l58 l59 l60 l61 l62 l63 l64 l65 l66 l67 t62 t63 t64 tg_NEAR tg_CUT tg_UP tg_DOWN w dO esO nO) : FnOk P w K mg base CX0 2 a62 l62 ["self", "sign"] (spNm C mNo mNo) := by
  have G_Form_word_of : FnOk P w K mg base CX0 1 a60 l60 ["self", "sign", "scale", "tail"] (spWordOf C) := (ok_Form_word_of B L).mono (by decide)
  refine L.F_Form_nought.ok sc_Form_nought (fun vs H Q E h => ?_) (fun cdv A outer s H vs Q E hr h => ?_)
  · obtain ⟨x, sc, tl, v, rfl, _⟩ := h
    rfl
  obtain ⟨x, sc, tl, g, rfl, hF, hg, q⟩ := h
  obtain ⟨dx, hx, h1, h2, h3, h4⟩ := id hF
  have pS := GM.pow_pos' sc
  have pT := GM.pow_pos' tl
  refine ⟨_, (pss_one (ps_ret (pe_meth (pv 0) L.T.cl L.M_Form_word_of G_Form_word_of hr L.b_Form_word_of .nil pass0 (pa_cons (pv 1) (pa_cons pe_int (pa_cons pe_int pa_nil)))))), ?_⟩
  exact ⟨_, rfl, x, dx, _, rfl, hx, rfl, _, rfl, x, sc, tl, _, _, _, rfl, hF, hg, by decide, pS, by decide, pT, q⟩
theorem ok_Form_endless (B : Bl mg) (L : LL K mg C a1 a2 a3 a4 a5 a6 a7 a8 a9 a10 a11 a12 a13 a14 a15 a16 a17 a18 a19 a20 a21 a22 a23 a24 a25 a26 a27 a28 a29 a30 a31 a32 a33 a34 a35 a36 a37 a38 a39 a40 a41 a42 a43 a44 a45 a46 a47 a48 a49 a50 a51 a52 a53 a54 a55 a56 a57 a58 a59 a60 a61 a62 a63 a64 a65 a66 a67 l1 l2 l3 l4 l5 l6 l7 l8 l9 l10 l11 l12 l13 l14 l15 l16 l17 l18 l19 l20 l21 l22 l23 l24 l25 l26 l27 l28 l29 l30 l31 l32 l33 l34 l35 l36 l37 l38 l39 l40 l41 l42 l43 l44 l45 l46 l47 l48 l49 l50 l51 l52 l53 l54 l55 l56 l57 l58 l59 l60 l61 l62 l63 l64 l65 l66 l67 t62 t63 t64 tg_NEAR tg_CUT tg_UP tg_DOWN w dO esO nO) : FnOk P w K mg base CX0 2 a63 l63 ["self", "sign"] (spNm C mEn mNo) := by
  have G_Form_word_of : FnOk P w K mg base CX0 1 a60 l60 ["self", "sign", "scale", "tail"] (spWordOf C) := (ok_Form_word_of B L).mono (by decide)
  have G_Form_top : FnOk P w K mg base CX0 1 a58 l58 ["self"] (spTop C) := (ok_Form_top B L).mono (by decide)
  refine L.F_Form_endless.ok sc_Form_endless (fun vs H Q E h => ?_) (fun cdv A outer s H vs Q E hr h => ?_)
  · obtain ⟨x, sc, tl, v, rfl, _⟩ := h
    rfl
  obtain ⟨x, sc, tl, g, rfl, hF, hg, q⟩ := h
  obtain ⟨dx, hx, h1, h2, h3, h4⟩ := id hF
  have pS := GM.pow_pos' sc
  have pT := GM.pow_pos' tl
  refine ⟨_, (pss_one (ps_ret (pe_meth (pv 0) L.T.cl L.M_Form_word_of G_Form_word_of hr L.b_Form_word_of .nil pass0 (pa_cons (pv 1) (pa_cons (pe_meth0 (pv 0) L.T.cl L.M_Form_top G_Form_top hr L.b_Form_top .nil pass0) (pa_cons pe_int pa_nil)))))), ?_⟩
  exact ⟨_, rfl, x, dx, _, rfl, hx, rfl, _, rfl, _, rfl, x, dx, _, rfl, hx, rfl, x, sc, tl, rfl, hF, x, sc, tl, _, _, _, rfl, hF, hg, by omega, by omega, by decide, pT, q⟩
theorem ok_Form_greatest (B : Bl mg) (L : LL K mg C a1 a2 a3 a4 a5 a6 a7 a8 a9 a10 a11 a12 a13 a14 a15 a16 a17 a18 a19 a20 a21 a22 a23 a24 a25 a26 a27 a28 a29 a30 a31 a32 a33 a34 a35 a36 a37 a38 a39 a40 a41 a42 a43 a44 a45 a46 a47 a48 a49 a50 a51 a52 a53 a54 a55 a56 a57 a58 a59 a60 a61 a62 a63 a64 a65 a66 a67 l1 l2 l3 l4 l5 l6 l7 l8 l9 l10 l11 l12 l13 l14 l15 l16 l17 l18 l19 l20 l21 l22 l23 l24 l25 l26 l27 l28 l29 l30 l31 l32 l33 l34 l35 l36 l37 l38 l39 l40 l41 l42 l43 l44 l45 l46 l47 l48 l49 l50 l51 l52 l53 l54 l55 l56 l57 l58 l59 l60 l61 l62 l63 l64 l65 l66 l67 t62 t63 t64 tg_NEAR tg_CUT tg_UP tg_DOWN w dO esO nO) : FnOk P w K mg base CX0 2 a64 l64 ["self", "sign"] (spNm C mGr tGr) := by
  have G_Form_word_of : FnOk P w K mg base CX0 1 a60 l60 ["self", "sign", "scale", "tail"] (spWordOf C) := (ok_Form_word_of B L).mono (by decide)
  have G_Form_top : FnOk P w K mg base CX0 1 a58 l58 ["self"] (spTop C) := (ok_Form_top B L).mono (by decide)
  refine L.F_Form_greatest.ok sc_Form_greatest (fun vs H Q E h => ?_) (fun cdv A outer s H vs Q E hr h => ?_)
  · obtain ⟨x, sc, tl, v, rfl, _⟩ := h
    rfl
  obtain ⟨x, sc, tl, g, rfl, hF, hg, q⟩ := h
  obtain ⟨dx, hx, h1, h2, h3, h4⟩ := id hF
  have pS : (2 : Int) ^ 2 ≤ 2 ^ sc := GM.pow_le' h1
  have pT := GM.pow_pos' tl
  refine ⟨_, (pss_one (ps_ret (pe_meth (pv 0) L.T.cl L.M_Form_word_of G_Form_word_of hr L.b_Form_word_of .nil pass0 (pa_cons (pv 1) (pa_cons (pe_op op_sub (pe_meth0 (pv 0) L.T.cl L.M_Form_top G_Form_top hr L.b_Form_top .nil pass0) pe_int) (pa_cons (pe_op op_sub (pe_op op_oneShl pe_int (pe_fld (pv 0) rfl)) pe_int) pa_nil)))))), ?_⟩
  refine ⟨_, rfl, x, dx, _, rfl, hx, rfl, _, rfl, _, rfl, x, dx, _, rfl, hx, rfl, x, sc, tl, rfl, hF, _, _, rfl, rfl, ?_⟩
  exact ⟨_, rfl, x, C, dx, _, _, rfl, hx, L.T.cl, L.T.nt, fl_t _ _, tl, rfl, rfl, by omega, _, _, rfl, rfl, x, sc, tl, _, _, _, rfl, hF, hg, by omega, by omega, by omega, by omega, q⟩
end
section
variable {P : Program} {w : World} {K : PySem.W.Frag} {mg : Str → Option Value} {base : Heap}
variable {C : Addr} {a1 a2 a3 a4 a5 a6 a7 a8 a9 a10 a11 a12 a13 a14 a15 a16 a17 a18 a19 a20 a21 a22 a23 a24 a25 a26 a27 a28 a29 a30 a31 a32 a33 a34 a35 a36 a37 a38 a39 a40 a41 a42 a43 a44 a45 a46 a47 a48 a49 a50 a51 a52 a53 a54 a55 a56 a57 a58 a59 a60 a61 a62 a63 a64 a65 a66 a67 : Addr} {l1 l2 l3 l4 l5 l6 l7 l8 l9 l10 l11 l12 l13 l14 l15 l16 l17 l18 l19 l20 l21 l22 l23 l24 l25 l26 l27 l28 l29 l30 l31 l32 l33 l34 l35 l36 l37 l38 l39 l40 l41 l42 l43 l44 l45 l46 l47 l48 l49 l50 l51 l52 l53 l54 l55 l56 l57 l58 l59 l60 l61 l62 l63 l64 l65 l66 l67 : FuncData} {t62 t63 t64 tg_NEAR tg_CUT tg_UP tg_DOWN : Tok} {dO : Addr} {esO : Array DictEntry} {nO : Nat}
/-! ### numbers of no more than 4000 bits -/
def Fit (n : Int) : Prop := 0 ≤ n ∧ Builtin.Int.intBits n ≤ 4000
theorem fit_shl {n : Int} {j : Nat} (h : Fit n) (hj : j ≤ 100000) : CShl n (j : Int) := by
  refine shl_ok (n := 4000) ?_ (by omega)
  exact Nat.lt_of_lt_of_le (PyProof.Rows.natAbs_lt_pow_bits n) (Nat.pow_le_pow_right (by decide) h.2)
theorem fit_div {n : Int} {j : Nat} (h : Fit n) : Fit (n / 2 ^ j) := by
  have hp := GM.pow_pos' j
  have h0 : 0 ≤ n / 2 ^ j := Int.ediv_nonneg h.1 (by omega)
  have h1 : n / 2 ^ j ≤ n := Int.ediv_le_self _ h.1
  refine ⟨h0, ?_⟩
  refine Nat.le_trans (PyProof.Rows.intBits_le (k := Builtin.Int.intBits n) ?_) h.2
  have := PyProof.Rows.natAbs_lt_pow_bits n
  exact Nat.lt_of_le_of_lt (by omega) this
/-! ### cut_off -/
def spCut : Sp := fun vs H Q _ => ∃ n b : Int, vs = [.int n, .int b] ∧ Fit n ∧ -10000 ≤ b ∧ b ≤ 10000 ∧
  ∀ p, H p = none → Q (.ref p) (upd H p (.tup [.int (GR.cutQ n b), .bl (GR.cutR n b)]))
theorem ok_cut_off (B : Bl mg) (L : LL K mg C a1 a2 a3 a4 a5 a6 a7 a8 a9 a10 a11 a12 a13 a14 a15 a16 a17 a18 a19 a20 a21 a22 a23 a24 a25 a26 a27 a28 a29 a30 a31 a32 a33 a34 a35 a36 a37 a38 a39 a40 a41 a42 a43 a44 a45 a46 a47 a48 a49 a50 a51 a52 a53 a54 a55 a56 a57 a58 a59 a60 a61 a62 a63 a64 a65 a66 a67 l1 l2 l3 l4 l5 l6 l7 l8 l9 l10 l11 l12 l13 l14 l15 l16 l17 l18 l19 l20 l21 l22 l23 l24 l25 l26 l27 l28 l29 l30 l31 l32 l33 l34 l35 l36 l37 l38 l39 l40 l41 l42 l43 l44 l45 l46 l47 l48 l49 l50 l51 l52 l53 l54 l55 l56 l57 l58 l59 l60 l61 l62 l63 l64 l65 l66 l67 t62 t63 t64 tg_NEAR tg_CUT tg_UP tg_DOWN w dO esO nO) : FnOk P w K mg base CX0 1 a1 l1 ["number", "by"] spCut := by
  refine L.F_cut_off.ok sc_cut_off (fun vs H Q E h => ?_) (fun cdv A outer s H vs Q E hr h => ?_)
  · obtain ⟨n, b, rfl, _⟩ := h
    rfl
  obtain ⟨n, b, rfl, hf, h1, h2, q⟩ := h
  refine ⟨_, (pss_cons (ps_if (pt_cmpR op_lt (pv 1) pe_int (nomark _)) (pss_one (ps_ret (pe_tup (pa_cons (pe_op op_shlN (pv 0) (pe_un un_neg (pv 1))) (pa_cons pe_bl pa_nil))))) pss_nil)
    (pss_cons (ps_set (i := 2) sc_cut_off.nd rfl (.inl rfl) (pe_op op_shrN (pv 0) (pv 1)))
    (pss_one (ps_ret (pe_tup (pa_cons (pv 2) (pa_cons (pe_cmpR op_ne (pe_op op_shlN (pv 2) (pv 1)) (pv 0) (nomark _)) pa_nil))))))), ?_⟩
  refine ⟨_, rfl, _, _, rfl, rfl, _, rfl, ite2 (fun c => ?_) (fun c => ?_)⟩
  · have c1 : b < 0 := of_decide_eq_true c
    unfold GR.cutQ GR.cutR at q
    rw [if_pos c1, if_pos c1] at q
    refine ⟨_, rfl, _, rfl, _, rfl, _, (-b).toNat, rfl, congrArg V.int (by omega), fit_shl hf (by omega), (by show 2 ≤ sizeLine; decide), fun p np => ?_⟩
    exact q p np
  · have c1 : ¬ b < 0 := of_decide_eq_false (Bool.eq_false_iff.mpr c)
    unfold GR.cutQ GR.cutR at q
    rw [if_neg c1, if_neg c1] at q
    refine ⟨_, rfl, _, rfl, _, b.toNat, rfl, congrArg V.int (by omega), ?_⟩
    refine ⟨_, rfl, _, rfl, _, rfl, _, b.toNat, rfl, congrArg V.int (by omega), fit_shl (fit_div hf) (by omega), _, rfl, rfl, (by show 2 ≤ sizeLine; decide), fun p np => ?_⟩
    rw [dvi]
    exact q p np
/-! ### least_power, last_power -/
def spLea (C : Addr) : Sp := fun vs H Q _ => ∃ (x : Addr) (sc tl : Nat), vs = [.ref x] ∧ FAt C H x sc tl ∧ Q (.int (GR.lea sc tl)) H
theorem ok_least_power (B : Bl mg) (L : LL K mg C a1 a2 a3 a4 a5 a6 a7 a8 a9 a10 a11 a12 a13 a14 a15 a16 a17 a18 a19 a20 a21 a22 a23 a24 a25 a26 a27 a28 a29 a30 a31 a32 a33 a34 a35 a36 a37 a38 a39 a40 a41 a42 a43 a44 a45 a46 a47 a48 a49 a50 a51 a52 a53 a54 a55 a56 a57 a58 a59 a60 a61 a62 a63 a64 a65 a66 a67 l1 l2 l3 l4 l5 l6 l7 l8 l9 l10 l11 l12 l13 l14 l15 l16 l17 l18 l19 l20 l21 l22 l23 l24 l25 l26 l27 l28 l29 l30 l31 l32 l33 l34 l35 l36 l37 l38 l39 l40 l41 l42 l43 l44 l45 l46 l47 l48 l49 l50 l51 l52 l53 l54 l55 l56 l57 l58 l59 l60 l61 l62 l63 l64 l65 l66 l67 t62 t63 t64 tg_NEAR tg_CUT tg_UP tg_DOWN w dO esO nO) : FnOk P w K mg base CX0 2 a3 l3 ["form"] (spLea C) := by
  have G_Form_bias : FnOk P w K mg base CX0 1 a57 l57 ["self"] (spBias C) := (ok_Form_bias B L).mono (by decide)
  refine L.F_least_power.ok sc_least_power (fun vs H Q E h => ?_) (fun cdv A outer s H vs Q E hr h => ?_)
  · obtain ⟨x, sc, tl, rfl, _⟩ := h
    rfl
  obtain ⟨x, sc, tl, rfl, hF, q⟩ := h
  obtain ⟨dx, hx, h1, h2, h3, h4⟩ := id hF
  refine ⟨_, (pss_one (ps_ret (pe_op op_sub (pe_op op_sub pe_int (pe_meth0 (pv 0) L.T.cl L.M_Form_bias G_Form_bias hr L.b_Form_bias .nil pass0)) (pe_fld (pv 0) rfl)))), ?_⟩
  exact ⟨_, rfl, x, dx, _, rfl, hx, rfl, x, sc, tl, rfl, hF, _, _, rfl, rfl, _, rfl, x, C, dx, _, _, rfl, hx, L.T.cl, L.T.nt, fl_t _ _, _, _, rfl, rfl, q⟩
def spLap (C : Addr) : Sp := fun vs H Q _ => ∃ (x : Addr) (sc tl : Nat) (n p : Int), vs = [.ref x, .int n, .int p] ∧ FAt C H x sc tl ∧ Q (.int (GR.lap sc tl n p)) H
theorem ok_last_power (B : Bl mg) (L : LL K mg C a1 a2 a3 a4 a5 a6 a7 a8 a9 a10 a11 a12 a13 a14 a15 a16 a17 a18 a19 a20 a21 a22 a23 a24 a25 a26 a27 a28 a29 a30 a31 a32 a33 a34 a35 a36 a37 a38 a39 a40 a41 a42 a43 a44 a45 a46 a47 a48 a49 a50 a51 a52 a53 a54 a55 a56 a57 a58 a59 a60 a61 a62 a63 a64 a65 a66 a67 l1 l2 l3 l4 l5 l6 l7 l8 l9 l10 l11 l12 l13 l14 l15 l16 l17 l18 l19 l20 l21 l22 l23 l24 l25 l26 l27 l28 l29 l30 l31 l32 l33 l34 l35 l36 l37 l38 l39 l40 l41 l42 l43 l44 l45 l46 l47 l48 l49 l50 l51 l52 l53 l54 l55 l56 l57 l58 l59 l60 l61 l62 l63 l64 l65 l66 l67 t62 t63 t64 tg_NEAR tg_CUT tg_UP tg_DOWN w dO esO nO) : FnOk P w K mg base CX0 3 a2 l2 ["form", "number", "power"] (spLap C) := by
  have G_least_power : FnOk P w K mg base CX0 2 a3 l3 ["form"] (spLea C) := (ok_least_power B L).mono (by decide)
  refine L.F_last_power.ok sc_last_power (fun vs H Q E h => ?_) (fun cdv A outer s H vs Q E hr h => ?_)
  · obtain ⟨x, sc, tl, n, p, rfl, _⟩ := h
    rfl
  obtain ⟨x, sc, tl, n, p, rfl, hF, q⟩ := h
  obtain ⟨dx, hx, h1, h2, h3, h4⟩ := id hF
  refine ⟨_, (pss_one (ps_ret (pe_callB (call_max2 rfl) (by rfl) B.max boot_max (pa_cons (pe_op op_sub (pe_op op_sub (pe_op op_add (pe_bits (pv 1)) (pv 2)) pe_int) (pe_fld (pv 0) rfl)) (pa_cons (pe_call G_least_power hr (by rfl) L.m_least_power L.F_least_power.kp L.b_least_power .nil pass0 (pa_cons (pv 0) pa_nil)) pa_nil))))), ?_⟩
  exact ⟨_, rfl, _, rfl, _, rfl, _, _, rfl, rfl, _, _, rfl, rfl, _, rfl, x, C, dx, _, _, rfl, hx, L.T.cl, L.T.nt, fl_t _ _, _, _, rfl, rfl, _, rfl, x, sc, tl, rfl, hF, _, _, rfl, q⟩
/-! ### parted -/
def spPart : Sp := fun vs H Q _ => ∃ (n b : Int) (m : Bool), vs = [.int n, .int b, .bl m] ∧ Fit n ∧ -9999 ≤ b ∧ b ≤ 9999 ∧
  ∀ p H', H p = none → Same H H' → H' p = some (.tup [.int (GR.prQ n b), .int (GR.prR n b m)]) → Q (.ref p) H'
theorem ok_parted (B : Bl mg) (L : LL K mg C a1 a2 a3 a4 a5 a6 a7 a8 a9 a10 a11 a12 a13 a14 a15 a16 a17 a18 a19 a20 a21 a22 a23 a24 a25 a26 a27 a28 a29 a30 a31 a32 a33 a34 a35 a36 a37 a38 a39 a40 a41 a42 a43 a44 a45 a46 a47 a48 a49 a50 a51 a52 a53 a54 a55 a56 a57 a58 a59 a60 a61 a62 a63 a64 a65 a66 a67 l1 l2 l3 l4 l5 l6 l7 l8 l9 l10 l11 l12 l13 l14 l15 l16 l17 l18 l19 l20 l21 l22 l23 l24 l25 l26 l27 l28 l29 l30 l31 l32 l33 l34 l35 l36 l37 l38 l39 l40 l41 l42 l43 l44 l45 l46 l47 l48 l49 l50 l51 l52 l53 l54 l55 l56 l57 l58 l59 l60 l61 l62 l63 l64 l65 l66 l67 t62 t63 t64 tg_NEAR tg_CUT tg_UP tg_DOWN w dO esO nO) : FnOk P w K mg base CX0 2 a5 l5 ["number", "by", "more"] spPart := by
  have G_cut_off : FnOk P w K mg base CX0 1 a1 l1 ["number", "by"] spCut := (ok_cut_off B L).mono (by decide)
  refine L.F_parted.ok sc_parted (fun vs H Q E h => ?_) (fun cdv A outer s H vs Q E hr h => ?_)
  · obtain ⟨n, b, m, rfl, _⟩ := h
    rfl
  obtain ⟨n, b, m, rfl, hf, h1, h2, q⟩ := h
  refine ⟨_, (pss_cons (ps_asg (pe_call G_cut_off hr (by rfl) L.m_cut_off L.F_cut_off.kp L.b_cut_off .nil pass0 (pa_cons (pv 0) (pa_cons (pe_op op_sub (pv 1) pe_int) pa_nil))) (pg_tup (by rfl) (pgs_cons (pg_name (i := 3) sc_parted.nd rfl (.inl rfl)) (pgs_cons (pg_name (i := 4) sc_parted.nd rfl (.inl rfl)) pgs_nil))))
    (pss_one (ps_ret (pe_tup (pa_cons (pe_op op_shrN (pv 3) pe_int) (pa_cons (pe_op op_add (pe_op op_mul pe_int (pe_op op_andM (pv 3) pe_int)) (pe_ifExp (PW.pt (pw_or (pt_val (pv 4)) (pw_or1 (pt_val (pv 2))))) pe_int pe_int)) pa_nil)))))), ?_⟩
  refine ⟨_, rfl, _, rfl, _, _, rfl, rfl, n, b - 1, rfl, hf, by omega, by omega, fun t nt => ?_⟩
  have st := same_upd (o := .tup [.int (GR.cutQ n (b - 1)), .bl (GR.cutR n (b - 1))]) nt
  refine ⟨t, _, rfl, .inl (.inl upd_same), rfl, _, _, rfl, _, _, rfl, rfl, ?_⟩
  refine ⟨_, rfl, _, 1, rfl, rfl, _, rfl, _, 1, rfl, rfl, _, _, rfl, rfl, .inl ⟨by decide, by decide⟩, ?_⟩
  have fin : ∀ v : Int, (if (GR.cutR n (b - 1) || m) = true then (1 : Int) else 0) = v → ∀ p, (upd H t (.tup [.int (GR.cutQ n (b - 1)), .bl (GR.cutR n (b - 1))])) p = none →
      Q (.ref p) (upd (upd H t (.tup [.int (GR.cutQ n (b - 1)), .bl (GR.cutR n (b - 1))])) p (.tup [.int (GR.cutQ n (b - 1) / 2 ^ 1), .int (2 * (GR.cutQ n (b - 1) % 2 ^ 1) + v)])) := fun v hv p np => by
    refine q p _ (st.free np) (st.trans (same_upd np)) ?_
    rw [upd_same, ← hv]
    rfl
  refine ⟨_, rfl, _, rfl, ite2 (fun c => ?_) (fun c => ?_)⟩
  · refine ⟨_, _, rfl, rfl, (by show 2 ≤ sizeLine; decide), fun p np => fin 1 ?_ p np⟩
    rw [c]
    rfl
  · have c1 : GR.cutR n (b - 1) = false := Bool.eq_false_iff.mpr c
    refine ⟨_, rfl, _, rfl, ite2 (fun d => ?_) (fun d => ?_)⟩
    · refine ⟨_, _, rfl, rfl, (by show 2 ≤ sizeLine; decide), fun p np => fin 1 ?_ p np⟩
      rw [c1, d]
      rfl
    · refine ⟨_, _, rfl, rfl, (by show 2 ≤ sizeLine; decide), fun p np => fin 0 ?_ p np⟩
      rw [c1, Bool.eq_false_iff.mpr d]
      rfl
/-! ### goes_away, goes_up -/
def spAway : Sp := fun vs H Q _ => ∃ (w : Str) (s : Int), vs = [.str w, .int s] ∧ Q (.bl (GR.away w s)) H
theorem ok_goes_away (B : Bl mg) (L : LL K mg C a1 a2 a3 a4 a5 a6 a7 a8 a9 a10 a11 a12 a13 a14 a15 a16 a17 a18 a19 a20 a21 a22 a23 a24 a25 a26 a27 a28 a29 a30 a31 a32 a33 a34 a35 a36 a37 a38 a39 a40 a41 a42 a43 a44 a45 a46 a47 a48 a49 a50 a51 a52 a53 a54 a55 a56 a57 a58 a59 a60 a61 a62 a63 a64 a65 a66 a67 l1 l2 l3 l4 l5 l6 l7 l8 l9 l10 l11 l12 l13 l14 l15 l16 l17 l18 l19 l20 l21 l22 l23 l24 l25 l26 l27 l28 l29 l30 l31 l32 l33 l34 l35 l36 l37 l38 l39 l40 l41 l42 l43 l44 l45 l46 l47 l48 l49 l50 l51 l52 l53 l54 l55 l56 l57 l58 l59 l60 l61 l62 l63 l64 l65 l66 l67 t62 t63 t64 tg_NEAR tg_CUT tg_UP tg_DOWN w dO esO nO) : FnOk P w K mg base CX0 1 a7 l7 ["way", "sign"] spAway := by
  refine L.F_goes_away.ok sc_goes_away (fun vs H Q E h => ?_) (fun cdv A outer s H vs Q E hr h => ?_)
  · obtain ⟨w, s, rfl, _⟩ := h
    rfl
  obtain ⟨w, s, rfl, q⟩ := h
  refine ⟨_, (pss_cons (ps_if (pt_cmpR op_eq (pv 0) (pe_glob (v := .str "cut") rfl L.g_CUT ⟨_, rfl⟩) (nomark _)) (pss_one (ps_ret pe_bl)) pss_nil)
    (pss_one (ps_ret (pe_cmpR op_eq (pv 1) (pe_ifExp (pt_cmpR op_eq (pv 0) (pe_glob (v := .str "up") rfl L.g_UP ⟨_, rfl⟩) (nomark _)) pe_int pe_int) (nomark _))))), ?_⟩
  unfold GR.away at q
  refine ⟨_, rfl, rfl, _, rfl, ite2 (fun c => ?_) (fun c => ?_)⟩
  · have c1 : w = "cut" := V.str.inj (of_decide_eq_true c)
    rw [if_pos c1] at q
    exact q
  · have c1 : ¬ w = "cut" := fun z => c (decide_eq_true (by rw [z]))
    rw [if_neg c1] at q
    refine ⟨_, rfl, _, rfl, rfl, _, rfl, ite2 (fun d => ?_) (fun d => ?_)⟩
    · have d1 : w = "up" := V.str.inj (of_decide_eq_true d)
      rw [if_pos d1, ← dvi] at q
      exact ⟨rfl, q⟩
    · have d1 : ¬ w = "up" := fun z => d (decide_eq_true (by rw [z]))
      rw [if_neg d1, ← dvi] at q
      exact ⟨rfl, q⟩
def spUp : Sp := fun vs H Q _ => ∃ (w : Str) (s m r : Int), vs = [.str w, .int s, .int m, .int r] ∧ Q (.bl (GR.gup w s m r)) H
theorem ok_goes_up (B : Bl mg) (L : LL K mg C a1 a2 a3 a4 a5 a6 a7 a8 a9 a10 a11 a12 a13 a14 a15 a16 a17 a18 a19 a20 a21 a22 a23 a24 a25 a26 a27 a28 a29 a30 a31 a32 a33 a34 a35 a36 a37 a38 a39 a40 a41 a42 a43 a44 a45 a46 a47 a48 a49 a50 a51 a52 a53 a54 a55 a56 a57 a58 a59 a60 a61 a62 a63 a64 a65 a66 a67 l1 l2 l3 l4 l5 l6 l7 l8 l9 l10 l11 l12 l13 l14 l15 l16 l17 l18 l19 l20 l21 l22 l23 l24 l25 l26 l27 l28 l29 l30 l31 l32 l33 l34 l35 l36 l37 l38 l39 l40 l41 l42 l43 l44 l45 l46 l47 l48 l49 l50 l51 l52 l53 l54 l55 l56 l57 l58 l59 l60 l61 l62 l63 l64 l65 l66 l67 t62 t63 t64 tg_NEAR tg_CUT tg_UP tg_DOWN w dO esO nO) : FnOk P w K mg base CX0 2 a6 l6 ["way", "sign", "many", "rest"] spUp := by
  have G_goes_away : FnOk P w K mg base CX0 1 a7 l7 ["way", "sign"] spAway := (ok_goes_away B L).mono (by decide)
  refine L.F_goes_up.ok sc_goes_up (fun vs H Q E h => ?_) (fun cdv A outer s H vs Q E hr h => ?_)
  · obtain ⟨w, s, m, r, rfl, _⟩ := h
    rfl
  obtain ⟨w, s, m, r, rfl, q⟩ := h
  refine ⟨_, (pss_cons (ps_if (pt_cmpR op_eq (pv 0) (pe_glob (v := .str "near") rfl L.g_NEAR ⟨_, rfl⟩) (nomark _)) (pss_one (ps_ret (pe_or (pe_cmpR op_eq (pv 3) pe_int (nomark _)) (pe_one (pe_and (pe_cmpR op_eq (pv 3) pe_int (nomark _)) (pe_one (pe_cmpR op_eq (pe_op op_mod (pv 2) pe_int) pe_int (nomark _)))))))) pss_nil)
    (pss_one (ps_ret (pe_and (pe_cmpR op_ne (pv 3) pe_int (nomark _)) (pe_one (pe_call G_goes_away hr (by rfl) L.m_goes_away L.F_goes_away.kp L.b_goes_away .nil pass0 (pa_cons (pv 0) (pa_cons (pv 1) pa_nil)))))))), ?_⟩
  unfold GR.gup at q
  refine ⟨_, rfl, rfl, _, rfl, ite2 (fun c => ?_) (fun c => ?_)⟩
  · have c1 : w = "near" := V.str.inj (of_decide_eq_true c)
    rw [if_pos c1] at q
    refine ⟨_, rfl, rfl, _, rfl, ?_⟩
    by_cases d : r = 3
    · rw [decide_eq_true d, Bool.true_or] at q
      rw [dvi, decide_eq_true d]
      exact iteT q
    · rw [decide_eq_false d, Bool.false_or] at q
      rw [dvi, decide_eq_false d]
      refine iteF ?_
      refine ⟨_, rfl, rfl, _, rfl, ?_⟩
      by_cases e : r = 2
      · rw [decide_eq_true e, Bool.true_and, ← dvi] at q
        rw [dvi, decide_eq_true e]
        exact iteT ⟨_, rfl, _, _, rfl, rfl, (by show (0 : Int) < 2; decide), rfl, q⟩
      · rw [decide_eq_false e, Bool.false_and] at q
        rw [dvi, decide_eq_false e]
        exact iteF q
  · have c1 : ¬ w = "near" := fun z => c (decide_eq_true (by rw [z]))
    rw [if_neg c1] at q
    refine ⟨_, rfl, rfl, _, rfl, ?_⟩
    by_cases d : r = 0
    · rw [decide_eq_true d] at q
      rw [dvi, decide_eq_true d]
      exact iteF q
    · rw [decide_eq_false d] at q
      rw [dvi, decide_eq_false d]
      exact iteT ⟨_, rfl, _, rfl, _, _, rfl, q⟩
/-! ### word_beyond, flags_of_rest -/
def spBey (C : Addr) : Sp := fun vs H Q _ => ∃ (x : Addr) (sc tl : Nat) (s : Int) (w : Str), vs = [.ref x, .int s, .str w] ∧ FAt C H x sc tl ∧ (s = 0 ∨ s = 1) ∧ Q (.int (GR.bey sc tl s w)) H
theorem ok_word_beyond (B : Bl mg) (L : LL K mg C a1 a2 a3 a4 a5 a6 a7 a8 a9 a10 a11 a12 a13 a14 a15 a16 a17 a18 a19 a20 a21 a22 a23 a24 a25 a26 a27 a28 a29 a30 a31 a32 a33 a34 a35 a36 a37 a38 a39 a40 a41 a42 a43 a44 a45 a46 a47 a48 a49 a50 a51 a52 a53 a54 a55 a56 a57 a58 a59 a60 a61 a62 a63 a64 a65 a66 a67 l1 l2 l3 l4 l5 l6 l7 l8 l9 l10 l11 l12 l13 l14 l15 l16 l17 l18 l19 l20 l21 l22 l23 l24 l25 l26 l27 l28 l29 l30 l31 l32 l33 l34 l35 l36 l37 l38 l39 l40 l41 l42 l43 l44 l45 l46 l47 l48 l49 l50 l51 l52 l53 l54 l55 l56 l57 l58 l59 l60 l61 l62 l63 l64 l65 l66 l67 t62 t63 t64 tg_NEAR tg_CUT tg_UP tg_DOWN w dO esO nO) : FnOk P w K mg base CX0 3 a8 l8 ["form", "sign", "way"] (spBey C) := by
  have G_goes_away : FnOk P w K mg base CX0 2 a7 l7 ["way", "sign"] spAway := (ok_goes_away B L).mono (by decide)
  have G_Form_endless : FnOk P w K mg base CX0 2 a63 l63 ["self", "sign"] (spNm C mEn mNo) := (ok_Form_endless B L).mono (by decide)
  have G_Form_greatest : FnOk P w K mg base CX0 2 a64 l64 ["self", "sign"] (spNm C mGr tGr) := (ok_Form_greatest B L).mono (by decide)
  refine L.F_word_beyond.ok sc_word_beyond (fun vs H Q E h => ?_) (fun cdv A outer s H vs Q E hr h => ?_)
  · obtain ⟨x, sc, tl, s, w, rfl, _⟩ := h
    rfl
  obtain ⟨x, sc, tl, s, w, rfl, hF, hs, q⟩ := h
  obtain ⟨dx, hx, h1, h2, h3, h4⟩ := id hF
  refine ⟨_, (pss_cons (ps_if (PW.pt (pw_or (pt_cmpR op_eq (pv 2) (pe_glob (v := .str "near") rfl L.g_NEAR ⟨_, rfl⟩) (nomark _)) (pw_or1 (pt_val (pe_call G_goes_away hr (by rfl) L.m_goes_away L.F_goes_away.kp L.b_goes_away .nil pass0 (pa_cons (pv 2) (pa_cons (pv 1) pa_nil))))))) (pss_one (ps_ret (pe_meth (pv 0) L.T.cl L.M_Form_endless G_Form_endless hr L.b_Form_endless .nil pass0 (pa_cons (pv 1) pa_nil)))) pss_nil)
    (pss_one (ps_ret (pe_meth (pv 0) L.T.cl L.M_Form_greatest G_Form_greatest hr L.b_Form_greatest .nil pass0 (pa_cons (pv 1) pa_nil))))), ?_⟩
  unfold GR.bey at q
  have e1 : (decide (w = "near") || GR.away w s) = true → Q (.int (GR.wrd sc tl s (2 ^ sc - 1) 0)) H := fun z => by
    rw [if_pos z] at q
    exact q
  have e2 : ¬ (decide (w = "near") || GR.away w s) = true → Q (.int (GR.wrd sc tl s (2 ^ sc - 1 - 1) (2 ^ tl - 1))) H := fun z => by
    rw [if_neg z] at q
    exact q
  refine ⟨_, rfl, rfl, _, rfl, ite2 (fun c => ?_) (fun c => ?_)⟩
  · rw [dvs] at c
    exact ⟨_, rfl, x, dx, _, rfl, hx, rfl, _, rfl, x, sc, tl, s, rfl, hF, hs, e1 (by rw [c]; rfl)⟩
  · rw [dvs] at c
    refine ⟨_, rfl, _, rfl, _, _, rfl, _, rfl, ite2 (fun d => ?_) (fun d => ?_)⟩
    · exact ⟨_, rfl, x, dx, _, rfl, hx, rfl, _, rfl, x, sc, tl, s, rfl, hF, hs, e1 (by rw [d, Bool.or_true])⟩
    · exact ⟨_, rfl, x, dx, _, rfl, hx, rfl, _, rfl, x, sc, tl, s, rfl, hF, hs, e2 (by rw [Bool.eq_false_iff.mpr c, Bool.eq_false_iff.mpr d]; decide)⟩
def spFlg (C : Addr) : Sp := fun vs H Q _ => ∃ (x : Addr) (sc tl : Nat) (n p r : Int), vs = [.ref x, .int n, .int p, .int r] ∧ FAt C H x sc tl ∧
  ∀ t H', H t = none → Same H H' → H' t = some (.tup ((GR.flg sc n p r).map V.str)) → Q (.ref t) H'
theorem ok_flags_of_rest (B : Bl mg) (L : LL K mg C a1 a2 a3 a4 a5 a6 a7 a8 a9 a10 a11 a12 a13 a14 a15 a16 a17 a18 a19 a20 a21 a22 a23 a24 a25 a26 a27 a28 a29 a30 a31 a32 a33 a34 a35 a36 a37 a38 a39 a40 a41 a42 a43 a44 a45 a46 a47 a48 a49 a50 a51 a52 a53 a54 a55 a56 a57 a58 a59 a60 a61 a62 a63 a64 a65 a66 a67 l1 l2 l3 l4 l5 l6 l7 l8 l9 l10 l11 l12 l13 l14 l15 l16 l17 l18 l19 l20 l21 l22 l23 l24 l25 l26 l27 l28 l29 l30 l31 l32 l33 l34 l35 l36 l37 l38 l39 l40 l41 l42 l43 l44 l45 l46 l47 l48 l49 l50 l51 l52 l53 l54 l55 l56 l57 l58 l59 l60 l61 l62 l63 l64 l65 l66 l67 t62 t63 t64 tg_NEAR tg_CUT tg_UP tg_DOWN w dO esO nO) : FnOk P w K mg base CX0 2 a9 l9 ["form", "number", "power", "rest"] (spFlg C) := by
  have G_Form_bias : FnOk P w K mg base CX0 1 a57 l57 ["self"] (spBias C) := (ok_Form_bias B L).mono (by decide)
  refine L.F_flags_of_rest.ok sc_flags_of_rest (fun vs H Q E h => ?_) (fun cdv A outer s H vs Q E hr h => ?_)
  · obtain ⟨x, sc, tl, n, p, r, rfl, _⟩ := h
    rfl
  obtain ⟨x, sc, tl, n, p, r, rfl, hF, q⟩ := h
  obtain ⟨dx, hx, h1, h2, h3, h4⟩ := id hF
  refine ⟨_, (pss_cons (ps_if (pt_cmpR op_eq (pv 3) pe_int (nomark _)) (pss_one (ps_ret (pe_tup pa_nil))) pss_nil)
    (pss_cons (ps_if (pt_cmpR op_le (pe_op op_add (pe_bits (pv 1)) (pv 2)) (pe_op op_sub pe_int (pe_meth0 (pv 0) L.T.cl L.M_Form_bias G_Form_bias hr L.b_Form_bias .nil pass0)) (nomark _)) (pss_one (ps_ret (pe_tup (pa_cons pe_str (pa_cons pe_str pa_nil))))) pss_nil)
    (pss_one (ps_ret (pe_tup (pa_cons pe_str pa_nil)))))), ?_⟩
  unfold GR.flg at q
  refine ⟨_, rfl, rfl, _, rfl, ite2 (fun c => ?_) (fun c => ?_)⟩
  · rw [dvi] at c
    rw [if_pos (of_decide_eq_true c)] at q
    exact ⟨Nat.zero_le _, fun t nt => q t _ nt (same_upd nt) upd_same⟩
  · rw [dvi] at c
    rw [if_neg (of_decide_eq_false (Bool.eq_false_iff.mpr c))] at q
    refine ⟨_, rfl, _, rfl, _, rfl, _, _, rfl, rfl, _, rfl, x, dx, _, rfl, hx, rfl, x, sc, tl, rfl, hF, _, _, rfl, rfl, _, _, rfl, rfl, _, rfl, ite2 (fun d => ?_) (fun d => ?_)⟩
    · have d1 := of_decide_eq_true d
      unfold GR.bl at q
      rw [if_pos d1] at q
      exact ⟨(by show 2 ≤ sizeLine; decide), fun t nt => q t _ nt (same_upd nt) upd_same⟩
    · have d1 := of_decide_eq_false (Bool.eq_false_iff.mpr d)
      unfold GR.bl at q
      rw [if_neg d1] at q
      exact ⟨(by show 1 ≤ sizeLine; decide), fun t nt => q t _ nt (same_upd nt) upd_same⟩
/-! ### rounded -/
/-- at p stands a pair of a word and its flags -/
def PairAt (H : Hp) (p : Addr) (r : Int × List Str) : Prop := ∃ f, H p = some (.tup [.int r.1, .ref f]) ∧ H f = some (.tup (r.2.map V.str))
def spRnd (C : Addr) : Sp := fun vs H Q _ => ∃ (x : Addr) (sc tl : Nat) (s n p : Int) (w : Str) (m : Bool), vs = [.ref x, .int s, .int n, .int p, .str w, .bl m] ∧ FAt C H x sc tl ∧ (s = 0 ∨ s = 1) ∧ Fit n ∧ -4000 ≤ p ∧ p ≤ 4000 ∧ (m = true → n ≠ 0 ∧ p < GR.lap sc tl n p) ∧
  ∀ t H', H t = none → Same H H' → PairAt H' t (GR.rnd sc tl s n p w m) → Q (.ref t) H'
theorem lap_in {sc tl : Nat} {n p : Int} (hf : Fit n) (h1 : -4000 ≤ p) (h2 : p ≤ 4000) (hs : sc ≤ 8) (ht : tl ≤ 24) : -300 ≤ GR.lap sc tl n p ∧ GR.lap sc tl n p ≤ 8000 ∧ GR.lap sc tl n p - p ≤ 5000 ∧ -300 ≤ GR.lea sc tl ∧ GR.lea sc tl ≤ 2 ∧ GR.lea sc tl ≤ GR.lap sc tl n p := by
  have p8 : (2 : Int) ^ (sc - 1) ≤ 2 ^ 7 := GM.pow_le' (by omega)
  have p0 := GM.pow_pos' (sc - 1)
  have hb : GR.bl n ≤ 4000 := by
    have := hf.2
    unfold GR.bl
    omega
  have hb0 : 0 ≤ GR.bl n := by
    unfold GR.bl
    omega
  unfold GR.lap GR.lea
  split <;> omega
theorem cutQ_nn {n b : Int} (h : 0 ≤ n) : 0 ≤ GR.cutQ n b := by
  unfold GR.cutQ
  split
  · exact Int.mul_nonneg h (by have := GM.pow_pos' (-b).toNat; omega)
  · exact Int.ediv_nonneg h (by have := GM.pow_pos' b.toNat; omega)
theorem ok_rounded (B : Bl mg) (L : LL K mg C a1 a2 a3 a4 a5 a6 a7 a8 a9 a10 a11 a12 a13 a14 a15 a16 a17 a18 a19 a20 a21 a22 a23 a24 a25 a26 a27 a28 a29 a30 a31 a32 a33 a34 a35 a36 a37 a38 a39 a40 a41 a42 a43 a44 a45 a46 a47 a48 a49 a50 a51 a52 a53 a54 a55 a56 a57 a58 a59 a60 a61 a62 a63 a64 a65 a66 a67 l1 l2 l3 l4 l5 l6 l7 l8 l9 l10 l11 l12 l13 l14 l15 l16 l17 l18 l19 l20 l21 l22 l23 l24 l25 l26 l27 l28 l29 l30 l31 l32 l33 l34 l35 l36 l37 l38 l39 l40 l41 l42 l43 l44 l45 l46 l47 l48 l49 l50 l51 l52 l53 l54 l55 l56 l57 l58 l59 l60 l61 l62 l63 l64 l65 l66 l67 t62 t63 t64 tg_NEAR tg_CUT tg_UP tg_DOWN w dO esO nO) : FnOk P w K mg base CX0 4 a4 l4 ["form", "sign", "number", "power", "way", "more"] (spRnd C) := by
  have G_last_power : FnOk P w K mg base CX0 3 a2 l2 ["form", "number", "power"] (spLap C) := (ok_last_power B L).mono (by decide)
  have G_Form_nought : FnOk P w K mg base CX0 3 a62 l62 ["self", "sign"] (spNm C mNo mNo) := (ok_Form_nought B L).mono (by decide)
  have G_parted : FnOk P w K mg base CX0 3 a5 l5 ["number", "by", "more"] spPart := (ok_parted B L).mono (by decide)
  have G_goes_up : FnOk P w K mg base CX0 3 a6 l6 ["way", "sign", "many", "rest"] spUp := (ok_goes_up B L).mono (by decide)
  have G_least_power : FnOk P w K mg base CX0 3 a3 l3 ["form"] (spLea C) := (ok_least_power B L).mono (by decide)
  have G_Form_greatest : FnOk P w K mg base CX0 3 a64 l64 ["self", "sign"] (spNm C mGr tGr) := (ok_Form_greatest B L).mono (by decide)
  have G_word_beyond : FnOk P w K mg base CX0 3 a8 l8 ["form", "sign", "way"] (spBey C) := (ok_word_beyond B L).mono (by decide)
  have G_flags_of_rest : FnOk P w K mg base CX0 3 a9 l9 ["form", "number", "power", "rest"] (spFlg C) := (ok_flags_of_rest B L).mono (by decide)
  refine L.F_rounded.ok sc_rounded (fun vs H Q E h => ?_) (fun cdv A outer s H vs Q E hr h => ?_)
  · obtain ⟨x, sc, tl, s, n, p, w, m, rfl, _⟩ := h
    rfl
  obtain ⟨x, sc, tl, s, n, p, w, m, rfl, hF, hs, hf, hp1, hp2, hm, q⟩ := h
  obtain ⟨dx, hx, h1, h2, h3, h4⟩ := id hF
  refine ⟨_, (pss_cons (ps_if (PW.pt (pw_and (pt_val (pv 5)) (pw_and1 (PW.pt (pw_or (pt_cmpR op_eq (pv 2) pe_int (nomark _)) (pw_or1 (pt_cmpR op_ge (pv 3) (pe_call G_last_power hr (by rfl) L.m_last_power L.F_last_power.kp L.b_last_power .nil pass0 (pa_cons (pv 0) (pa_cons (pv 2) (pa_cons (pv 3) pa_nil)))) (nomark _)))))))) (pss_one ps_never) pss_nil)
    (pss_cons (ps_if (pt_cmpR op_eq (pv 2) pe_int (nomark _)) (pss_one (ps_ret (pe_tup (pa_cons (pe_meth (pv 0) L.T.cl L.M_Form_nought G_Form_nought hr L.b_Form_nought .nil pass0 (pa_cons (pv 1) pa_nil)) (pa_cons (pe_tup pa_nil) pa_nil))))) pss_nil)
    (pss_cons (ps_set (i := 6) sc_rounded.nd rfl (.inl rfl) (pe_call G_last_power hr (by rfl) L.m_last_power L.F_last_power.kp L.b_last_power .nil pass0 (pa_cons (pv 0) (pa_cons (pv 2) (pa_cons (pv 3) pa_nil)))))
    (pss_cons (ps_asg (pe_call G_parted hr (by rfl) L.m_parted L.F_parted.kp L.b_parted .nil pass0 (pa_cons (pv 2) (pa_cons (pe_op op_sub (pv 6) (pv 3)) (pa_cons (pv 5) pa_nil)))) (pg_tup (by rfl) (pgs_cons (pg_name (i := 7) sc_rounded.nd rfl (.inl rfl)) (pgs_cons (pg_name (i := 8) sc_rounded.nd rfl (.inl rfl)) pgs_nil))))
    (pss_cons (ps_if (pt_val (pe_call G_goes_up hr (by rfl) L.m_goes_up L.F_goes_up.kp L.b_goes_up .nil pass0 (pa_cons (pv 4) (pa_cons (pv 1) (pa_cons (pv 7) (pa_cons (pv 8) pa_nil)))))) (pss_one (ps_aug (i := 7) sc_rounded.nd rfl (.inl rfl) pe_int iop_add)) pss_nil)
    (pss_cons (ps_set (i := 9) sc_rounded.nd rfl (.inl rfl) (pe_op op_add (pe_op op_shlN (pe_op op_sub (pv 6) (pe_call G_least_power hr (by rfl) L.m_least_power L.F_least_power.kp L.b_least_power .nil pass0 (pa_cons (pv 0) pa_nil))) (pe_fld (pv 0) rfl)) (pv 7)))
    (pss_cons (ps_if (pt_cmpR op_gt (pv 9) (pe_meth0 (pv 0) L.T.cl L.M_Form_greatest G_Form_greatest hr L.d_Form_greatest (val0 _) pass0) (nomark _)) (pss_one (ps_ret (pe_tup (pa_cons (pe_call G_word_beyond hr (by rfl) L.m_word_beyond L.F_word_beyond.kp L.b_word_beyond .nil pass0 (pa_cons (pv 0) (pa_cons (pv 1) (pa_cons (pv 4) pa_nil)))) (pa_cons (pe_tup (pa_cons pe_str (pa_cons pe_str pa_nil))) pa_nil))))) pss_nil)
    (pss_one (ps_ret (pe_tup (pa_cons (pe_op op_add (pe_meth (pv 0) L.T.cl L.M_Form_nought G_Form_nought hr L.b_Form_nought .nil pass0 (pa_cons (pv 1) pa_nil)) (pv 9)) (pa_cons (pe_call G_flags_of_rest hr (by rfl) L.m_flags_of_rest L.F_flags_of_rest.kp L.b_flags_of_rest .nil pass0 (pa_cons (pv 0) (pa_cons (pv 2) (pa_cons (pv 3) (pa_cons (pv 8) pa_nil))))) pa_nil)))))))))))), ?_⟩
  obtain ⟨i1, i2, i3, i4, i5, i6⟩ := lap_in (sc := sc) (tl := tl) hf hp1 hp2 h2 h4
  -- no refusal
  apply cutP
  case h2 =>
    intro rest
    refine ⟨_, rfl, _, rfl, ite2 (fun c => ?_) (fun c => rest)⟩
    obtain ⟨m1, m2⟩ := hm c
    refine ⟨_, rfl, rfl, _, rfl, ?_⟩
    rw [dvi, decide_eq_false m1]
    refine iteF ?_
    refine ⟨_, rfl, _, rfl, _, rfl, _, rfl, x, sc, tl, n, p, rfl, hF, _, _, rfl, rfl, _, rfl, ?_⟩
    rw [decide_eq_false (by omega)]
    exact iteF rest
  unfold GR.rnd at q
  refine ⟨_, rfl, rfl, _, rfl, ite2 (fun c => ?_) (fun c => ?_)⟩
  · rw [dvi] at c
    rw [if_pos (of_decide_eq_true c)] at q
    refine ⟨_, rfl, x, dx, _, rfl, hx, rfl, _, rfl, x, sc, tl, s, rfl, hF, hs, Nat.zero_le _, fun e ne => ?_⟩
    refine ⟨(by show 2 ≤ sizeLine; decide), fun t nt => ?_⟩
    have se := same_upd (o := .tup []) ne
    have st := same_upd (o := .tup [.int (GR.wrd sc tl s 0 0), .ref e]) nt
    exact q t _ (se.free nt) (se.trans st) ⟨e, upd_same, st _ _ upd_same⟩
  rw [dvi] at c
  rw [if_neg (of_decide_eq_false (Bool.eq_false_iff.mpr c))] at q
  refine ⟨_, rfl, _, rfl, _, rfl, x, sc, tl, n, p, rfl, hF, ?_⟩
  refine ⟨_, rfl, _, rfl, _, rfl, _, _, rfl, rfl, _, rfl, n, _, m, rfl, hf, by omega, by omega, fun pr H1 npr s1 epr => ?_⟩
  refine ⟨pr, _, rfl, .inl (.inl epr), rfl, _, _, rfl, _, _, rfl, rfl, ?_⟩
  have hF1 := hF.same s1
  have hx1 := s1 _ _ hx
  -- behind the step up
  apply cutP
  case h2 =>
    intro rest
    refine ⟨_, rfl, _, rfl, _, rfl, _, rfl, w, s, _, _, rfl, _, rfl, ite2 (fun c2 => ?_) (fun c2 => ?_)⟩
    · refine ⟨_, rfl, _, _, rfl, rfl, ?_⟩
      have e : GR.prQ n (GR.lap sc tl n p - p) + 1 = GR.mny sc tl s n p w m := by
        unfold GR.mny
        rw [if_pos c2]
      dsimp only
      rw [e]
      exact rest
    · have e : GR.prQ n (GR.lap sc tl n p - p) = GR.mny sc tl s n p w m := by
        unfold GR.mny
        rw [if_neg c2]
      dsimp only
      rw [e]
      exact rest
  refine ⟨_, rfl, _, rfl, x, sc, tl, rfl, hF1, _, _, rfl, rfl, _, rfl, x, C, dx, _, _, rfl, hx1, L.T.cl, L.T.nt, fl_t _ _, _, tl, rfl, rfl, shl_ok (n := 14) (by omega) (by omega), _, rfl, _, _, rfl, rfl, ?_⟩
  refine ⟨_, rfl, _, rfl, x, dx, _, rfl, hx1, rfl, x, sc, tl, 0, rfl, hF1, .inl rfl, _, _, rfl, rfl, _, rfl, ite2 (fun c3 => ?_) (fun c3 => ?_)⟩
  · have c4 : GR.siz sc tl s n p w m > GR.wrd sc tl 0 (2 ^ sc - 1 - 1) (2 ^ tl - 1) := of_decide_eq_true c3
    rw [if_pos c4] at q
    refine ⟨_, rfl, _, rfl, _, rfl, x, sc, tl, s, w, rfl, hF1, hs, (by show 2 ≤ sizeLine; decide), fun e ne => ?_⟩
    refine ⟨(by show 2 ≤ sizeLine; decide), fun t nt => ?_⟩
    have se := same_upd (o := .tup [.str "over", .str "rounded"]) ne
    have st := same_upd (o := .tup [.int (GR.bey sc tl s w), .ref e]) nt
    exact q t _ (s1.free (se.free nt)) (s1.trans (se.trans st)) ⟨e, upd_same, st _ _ upd_same⟩
  · have c4 : ¬ GR.siz sc tl s n p w m > GR.wrd sc tl 0 (2 ^ sc - 1 - 1) (2 ^ tl - 1) := of_decide_eq_false (Bool.eq_false_iff.mpr c3)
    rw [if_neg c4] at q
    refine ⟨_, rfl, x, dx, _, rfl, hx1, rfl, _, rfl, x, sc, tl, s, rfl, hF1, hs, _, rfl, _, _, rfl, rfl, ?_⟩
    refine ⟨_, rfl, _, rfl, _, rfl, _, rfl, x, sc, tl, n, p, _, rfl, hF1, fun e H2 ne s2 ee => ?_⟩
    refine ⟨(by show 2 ≤ sizeLine; decide), fun t nt => ?_⟩
    have st := same_upd (o := .tup [.int (GR.wrd sc tl s 0 0 + GR.siz sc tl s n p w m), .ref e]) nt
    exact q t _ (s1.free (s2.free nt)) (s1.trans (s2.trans st)) ⟨e, upd_same, st _ _ ee⟩
end
section
variable {P : Program} {w : World} {K : PySem.W.Frag} {mg : Str → Option Value} {base : Heap}
variable {C : Addr} {a1 a2 a3 a4 a5 a6 a7 a8 a9 a10 a11 a12 a13 a14 a15 a16 a17 a18 a19 a20 a21 a22 a23 a24 a25 a26 a27 a28 a29 a30 a31 a32 a33 a34 a35 a36 a37 a38 a39 a40 a41 a42 a43 a44 a45 a46 a47 a48 a49 a50 a51 a52 a53 a54 a55 a56 a57 a58 a59 a60 a61 a62 a63 a64 a65 a66 a67 : Addr} {l1 l2 l3 l4 l5 l6 l7 l8 l9 l10 l11 l12 l13 l14 l15 l16 l17 l18 l19 l20 l21 l22 l23 l24 l25 l26 l27 l28 l29 l30 l31 l32 l33 l34 l35 l36 l37 l38 l39 l40 l41 l42 l43 l44 l45 l46 l47 l48 l49 l50 l51 l52 l53 l54 l55 l56 l57 l58 l59 l60 l61 l62 l63 l64 l65 l66 l67 : FuncData} {t62 t63 t64 tg_NEAR tg_CUT tg_UP tg_DOWN : Tok} {dO : Addr} {esO : Array DictEntry} {nO : Nat}
/-! ### parts, sorts and worths of words -/
def spParts (C : Addr) : Sp := fun vs H Q _ => ∃ (x : Addr) (sc tl : Nat) (v : Int), vs = [.ref x, .int v] ∧ FAt C H x sc tl ∧
  ∀ p, H p = none → Q (.ref p) (upd H p (.tup [.int (GM.sgn sc tl v), .int (GM.scl sc tl v), .int (GM.tlp tl v)]))
theorem ok_Form_parts (B : Bl mg) (L : LL K mg C a1 a2 a3 a4 a5 a6 a7 a8 a9 a10 a11 a12 a13 a14 a15 a16 a17 a18 a19 a20 a21 a22 a23 a24 a25 a26 a27 a28 a29 a30 a31 a32 a33 a34 a35 a36 a37 a38 a39 a40 a41 a42 a43 a44 a45 a46 a47 a48 a49 a50 a51 a52 a53 a54 a55 a56 a57 a58 a59 a60 a61 a62 a63 a64 a65 a66 a67 l1 l2 l3 l4 l5 l6 l7 l8 l9 l10 l11 l12 l13 l14 l15 l16 l17 l18 l19 l20 l21 l22 l23 l24 l25 l26 l27 l28 l29 l30 l31 l32 l33 l34 l35 l36 l37 l38 l39 l40 l41 l42 l43 l44 l45 l46 l47 l48 l49 l50 l51 l52 l53 l54 l55 l56 l57 l58 l59 l60 l61 l62 l63 l64 l65 l66 l67 t62 t63 t64 tg_NEAR tg_CUT tg_UP tg_DOWN w dO esO nO) : FnOk P w K mg base CX0 2 a59 l59 ["self", "word"] (spParts C) := by
  have G_Form_top : FnOk P w K mg base CX0 1 a58 l58 ["self"] (spTop C) := (ok_Form_top B L).mono (by decide)
  refine L.F_Form_parts.ok sc_Form_parts (fun vs H Q E h => ?_) (fun cdv A outer s H vs Q E hr h => ?_)
  · obtain ⟨x, sc, tl, v, rfl, _⟩ := h
    rfl
  obtain ⟨x, sc, tl, v, rfl, hF, q⟩ := h
  obtain ⟨dx, hx, h1, h2, h3, h4⟩ := id hF
  refine ⟨_, (pss_cons (ps_set (i := 2) sc_Form_parts.nd rfl (.inl rfl) (pe_op op_andM (pe_op op_shrN (pv 1) (pe_op op_add (pe_fld (pv 0) rfl) (pe_fld (pv 0) rfl))) pe_int))
    (pss_cons (ps_set (i := 3) sc_Form_parts.nd rfl (.inl rfl) (pe_op op_andM (pe_op op_shrN (pv 1) (pe_fld (pv 0) rfl)) (pe_meth0 (pv 0) L.T.cl L.M_Form_top G_Form_top hr L.b_Form_top .nil pass0)))
    (pss_cons (ps_set (i := 4) sc_Form_parts.nd rfl (.inl rfl) (pe_op op_andM (pv 1) (pe_op op_sub (pe_op op_oneShl pe_int (pe_fld (pv 0) rfl)) pe_int)))
    (pss_one (ps_ret (pe_tup (pa_cons (pv 2) (pa_cons (pv 3) (pa_cons (pv 4) pa_nil))))))))), ?_⟩
  refine ⟨_, rfl, _, rfl, x, C, dx, _, _, rfl, hx, L.T.cl, L.T.ns, fl_s _ _, _, rfl, x, C, dx, _, _, rfl, hx, L.T.cl, L.T.nt, fl_t _ _, _, _, rfl, rfl, _, sc + tl, rfl, rfl, _, 1, rfl, rfl, ?_⟩
  refine ⟨_, rfl, _, rfl, x, C, dx, _, _, rfl, hx, L.T.cl, L.T.nt, fl_t _ _, _, tl, rfl, rfl, _, rfl, x, dx, _, rfl, hx, rfl, x, sc, tl, rfl, hF, _, sc, rfl, rfl, ?_⟩
  refine ⟨_, rfl, _, rfl, x, C, dx, _, _, rfl, hx, L.T.cl, L.T.nt, fl_t _ _, tl, rfl, rfl, by omega, _, _, rfl, rfl, _, tl, rfl, rfl, ?_⟩
  refine ⟨_, rfl, _, rfl, _, rfl, (by show 3 ≤ sizeLine; decide), fun p np => ?_⟩
  exact q p np
def srt (m t : Nat) (s : Int) : Str := if GM.topS m t ≤ s then (if s = GM.topS m t then "endless" else "none") else if s = 0 then "nought" else if s / 2 ^ t = 0 then "small" else "plain"
theorem str_ne {a b : Str} (h : decide (a = b) = false) : a ≠ b := of_decide_eq_false h
theorem srt_none (m t : Nat) (s : Int) : srt m t s = "none" ↔ GM.topS m t < s := by
  unfold srt
  constructor
  · intro h
    by_cases c : GM.topS m t ≤ s
    · rw [if_pos c] at h
      by_cases e : s = GM.topS m t
      · rw [if_pos e] at h
        exact absurd h (by decide +kernel)
      · omega
    · rw [if_neg c] at h
      by_cases e : s = 0
      · rw [if_pos e] at h
        exact absurd h (by decide +kernel)
      · rw [if_neg e] at h
        by_cases e2 : s / 2 ^ t = 0
        · rw [if_pos e2] at h
          exact absurd h (by decide +kernel)
        · rw [if_neg e2] at h
          exact absurd h (by decide +kernel)
  · intro h
    rw [if_pos (by omega), if_neg (by omega)]
theorem srt_endless {m t : Nat} {s : Int} (h : ¬ GM.topS m t < s) : srt m t s = "endless" ↔ s = GM.topS m t := by
  unfold srt
  constructor
  · intro q
    by_cases c : GM.topS m t ≤ s
    · omega
    · rw [if_neg c] at q
      by_cases e : s = 0
      · rw [if_pos e] at q
        exact absurd q (by decide +kernel)
      · rw [if_neg e] at q
        by_cases e2 : s / 2 ^ t = 0
        · rw [if_pos e2] at q
          exact absurd q (by decide +kernel)
        · rw [if_neg e2] at q
          exact absurd q (by decide +kernel)
  · intro q
    rw [if_pos (by omega), if_pos q]
theorem srt_parts {m t : Nat} (hm : 1 ≤ m) {q r : Int} (q0 : 0 ≤ q) (q1 : q < 2 ^ m) (r0 : 0 ≤ r) (r1 : r < 2 ^ t) :
    srt m t (q * 2 ^ t + r) = if q = 0 then (if r = 0 then ("nought" : Str) else ("small" : Str)) else if q = 2 ^ m - 1 then (if r = 0 then ("endless" : Str) else ("none" : Str)) else ("plain" : Str) := by
  have hp := GM.pow_pos' t
  have hm2 : (2 : Int) ^ 1 ≤ 2 ^ m := GM.pow_le' hm
  have hd : (q * 2 ^ t + r) / 2 ^ t = q := by
    rw [Int.add_comm, Int.add_mul_ediv_right _ _ (by omega), Int.ediv_eq_zero_of_lt r0 r1, Int.zero_add]
  have hT : GM.topS m t = 2 ^ m * 2 ^ t - 2 ^ t := by
    unfold GM.topS
    rw [Int.sub_mul, Int.one_mul]
  have hqt : q = 2 ^ m - 1 ∨ (q + 1) * 2 ^ t ≤ (2 ^ m - 1) * 2 ^ t := by
    by_cases e : q = 2 ^ m - 1
    · exact .inl e
    · exact .inr (Int.mul_le_mul_of_nonneg_right (by omega) (by omega))
  unfold srt
  rw [hd]
  by_cases e : q = 2 ^ m - 1
  · have et : q * 2 ^ t = GM.topS m t := by rw [e]; rfl
    rw [if_pos (show GM.topS m t ≤ q * 2 ^ t + r by omega), if_neg (show ¬ q = 0 by omega), if_pos e]
    by_cases z : r = 0
    · rw [if_pos z, if_pos (by omega)]
    · rw [if_neg z, if_neg (by omega)]
  · have hlt : (q + 1) * 2 ^ t ≤ GM.topS m t := by
      rcases hqt with z | z
      · exact absurd z e
      · exact z
    rw [Int.add_mul, Int.one_mul] at hlt
    rw [if_neg (show ¬ GM.topS m t ≤ q * 2 ^ t + r by omega)]
    by_cases z : q = 0
    · rw [if_pos z, if_pos z]
      subst z
      rw [Int.zero_mul, Int.zero_add]
    · have : 1 * 2 ^ t ≤ q * 2 ^ t := Int.mul_le_mul_of_nonneg_right (by omega) (by omega)
      rw [if_neg (show ¬ q * 2 ^ t + r = 0 by omega), if_neg z, if_neg z, if_neg e]
def sz (m t : Nat) (v : Int) : Int := v % 2 ^ (m + t)
def spSort (C : Addr) : Sp := fun vs H Q _ => ∃ (x : Addr) (sc tl : Nat) (v : Int), vs = [.ref x, .int v] ∧ FAt C H x sc tl ∧ ∀ H', Same H H' → Q (.str (srt sc tl (sz sc tl v))) H'
theorem ok_Form_sort_of (B : Bl mg) (L : LL K mg C a1 a2 a3 a4 a5 a6 a7 a8 a9 a10 a11 a12 a13 a14 a15 a16 a17 a18 a19 a20 a21 a22 a23 a24 a25 a26 a27 a28 a29 a30 a31 a32 a33 a34 a35 a36 a37 a38 a39 a40 a41 a42 a43 a44 a45 a46 a47 a48 a49 a50 a51 a52 a53 a54 a55 a56 a57 a58 a59 a60 a61 a62 a63 a64 a65 a66 a67 l1 l2 l3 l4 l5 l6 l7 l8 l9 l10 l11 l12 l13 l14 l15 l16 l17 l18 l19 l20 l21 l22 l23 l24 l25 l26 l27 l28 l29 l30 l31 l32 l33 l34 l35 l36 l37 l38 l39 l40 l41 l42 l43 l44 l45 l46 l47 l48 l49 l50 l51 l52 l53 l54 l55 l56 l57 l58 l59 l60 l61 l62 l63 l64 l65 l66 l67 t62 t63 t64 tg_NEAR tg_CUT tg_UP tg_DOWN w dO esO nO) : FnOk P w K mg base CX0 3 a61 l61 ["self", "word"] (spSort C) := by
  have G_Form_parts : FnOk P w K mg base CX0 2 a59 l59 ["self", "word"] (spParts C) := (ok_Form_parts B L).mono (by decide)
  have G_Form_top : FnOk P w K mg base CX0 2 a58 l58 ["self"] (spTop C) := (ok_Form_top B L).mono (by decide)
  refine L.F_Form_sort_of.ok sc_Form_sort_of (fun vs H Q E h => ?_) (fun cdv A outer s H vs Q E hr h => ?_)
  · obtain ⟨x, sc, tl, v, rfl, _⟩ := h
    rfl
  obtain ⟨x, sc, tl, v, rfl, hF, q⟩ := h
  obtain ⟨dx, hx, h1, h2, h3, h4⟩ := id hF
  refine ⟨_, (pss_cons (ps_asg (pe_meth (pv 0) L.T.cl L.M_Form_parts G_Form_parts hr L.b_Form_parts .nil pass0 (pa_cons (pv 1) pa_nil)) (pg_tup (by rfl) (pgs_cons (pg_name (i := 2) sc_Form_sort_of.nd rfl (.inl rfl)) (pgs_cons (pg_name (i := 3) sc_Form_sort_of.nd rfl (.inl rfl)) (pgs_cons (pg_name (i := 4) sc_Form_sort_of.nd rfl (.inl rfl)) pgs_nil)))))
    (pss_cons (ps_if (pt_cmpR op_eq (pv 3) pe_int (nomark _)) (pss_one (ps_ret (pe_ifExp (pt_cmpR op_eq (pv 4) pe_int (nomark _)) pe_str pe_str))) pss_nil)
    (pss_cons (ps_if (pt_cmpR op_eq (pv 3) (pe_meth0 (pv 0) L.T.cl L.M_Form_top G_Form_top hr L.b_Form_top .nil pass0) (nomark _)) (pss_one (ps_ret (pe_ifExp (pt_cmpR op_eq (pv 4) pe_int (nomark _)) pe_str pe_str))) pss_nil)
    (pss_one (ps_ret pe_str))))), ?_⟩
  refine ⟨_, rfl, x, dx, _, rfl, hx, rfl, _, rfl, x, sc, tl, v, rfl, hF, fun p np => ?_⟩
  have sp := same_upd (o := .tup [.int (GM.sgn sc tl v), .int (GM.scl sc tl v), .int (GM.tlp tl v)]) np
  refine ⟨p, _, rfl, .inl (.inl upd_same), rfl, _, _, rfl, _, _, rfl, _, _, rfl, rfl, ?_⟩
  have hs := GM.scl_nn sc tl v
  have ht := GM.tlp_nn tl v
  have q' := q _ sp
  rw [show sz sc tl v = GM.scl sc tl v * 2 ^ tl + GM.tlp tl v from (GM.scl_tlp sc tl v).symm, srt_parts (by omega) hs.1 hs.2 ht.1 ht.2] at q'
  refine ⟨_, rfl, rfl, _, rfl, ite2 (fun c => ?_) (fun c => ?_)⟩
  · have c1 : GM.scl sc tl v = 0 := V.int.inj (of_decide_eq_true c)
    rw [if_pos c1] at q'
    refine ⟨_, rfl, rfl, _, rfl, ite2 (fun d => ?_) (fun d => ?_)⟩
    · have d1 : GM.tlp tl v = 0 := V.int.inj (of_decide_eq_true d)
      rw [if_pos d1] at q'
      exact q'
    · have d1 : ¬ GM.tlp tl v = 0 := fun z => d (decide_eq_true (by rw [z]))
      rw [if_neg d1] at q'
      exact q'
  have c1 : ¬ GM.scl sc tl v = 0 := fun z => c (decide_eq_true (by rw [z]))
  rw [if_neg c1] at q'
  refine ⟨_, rfl, _, rfl, x, dx, _, rfl, sp _ _ hx, rfl, x, sc, tl, rfl, hF.same sp, rfl, _, rfl, ite2 (fun c2 => ?_) (fun c2 => ?_)⟩
  · have c3 : GM.scl sc tl v = 2 ^ sc - 1 := V.int.inj (of_decide_eq_true c2)
    rw [if_pos c3] at q'
    refine ⟨_, rfl, rfl, _, rfl, ite2 (fun d => ?_) (fun d => ?_)⟩
    · have d1 : GM.tlp tl v = 0 := V.int.inj (of_decide_eq_true d)
      rw [if_pos d1] at q'
      exact q'
    · have d1 : ¬ GM.tlp tl v = 0 := fun z => d (decide_eq_true (by rw [z]))
      rw [if_neg d1] at q'
      exact q'
  · have c3 : ¬ GM.scl sc tl v = 2 ^ sc - 1 := fun z => c2 (decide_eq_true (by rw [z]))
    rw [if_neg c3] at q'
    exact q'
theorem in_two (x a b : Str) : inV (.str x) [.str a, .str b] = decide (a = x ∨ b = x) := by
  show ((a == x) || ((b == x) || false)) = _
  rw [Bool.or_false, Bool.eq_iff_iff, Bool.or_eq_true, beq_iff_eq, beq_iff_eq, decide_eq_true_iff]
/-! ### sizes by their parts -/
theorem sz_div (m t : Nat) (v : Int) : sz m t v / 2 ^ t = GM.scl m t v := by
  have ht := GM.tlp_nn t v
  have hp := GM.pow_pos' t
  unfold sz
  rw [← GM.scl_tlp, Int.add_comm, Int.add_mul_ediv_right _ _ (by omega), Int.ediv_eq_zero_of_lt ht.1 ht.2, Int.zero_add]
theorem sz_mod (m t : Nat) (v : Int) : sz m t v % 2 ^ t = GM.tlp t v := by
  have ht := GM.tlp_nn t v
  unfold sz
  rw [← GM.scl_tlp, Int.add_comm, Int.add_mul_emod_self_right, Int.emod_eq_of_lt ht.1 ht.2]
theorem top_iff (m t : Nat) (v : Int) : GM.topS m t ≤ sz m t v ↔ GM.scl m t v = 2 ^ m - 1 := by
  have hs := GM.scl_nn m t v
  have ht := GM.tlp_nn t v
  have hp := GM.pow_pos' t
  have e : sz m t v = GM.scl m t v * 2 ^ t + GM.tlp t v := (GM.scl_tlp m t v).symm
  rw [e]
  unfold GM.topS
  constructor
  · intro h
    by_cases c : GM.scl m t v = 2 ^ m - 1
    · exact c
    · have : (GM.scl m t v + 1) * 2 ^ t ≤ (2 ^ m - 1) * 2 ^ t := Int.mul_le_mul_of_nonneg_right (by omega) (by omega)
      rw [Int.add_mul, Int.one_mul] at this
      omega
  · intro h
    rw [h]
    omega
theorem srt_top (m t : Nat) (s : Int) : (srt m t s = "endless" ∨ srt m t s = "none") ↔ GM.topS m t ≤ s := by
  constructor
  · intro h
    by_cases c : GM.topS m t < s
    · omega
    · rcases h with h | h
      · have := (srt_endless c).mp h
        omega
      · have := (srt_none m t s).mp h
        omega
  · intro h
    by_cases c : GM.topS m t < s
    · exact .inr ((srt_none m t s).mpr c)
    · exact .inl ((srt_endless c).mpr (by omega))
def P0 (sc tl : Nat) : Int := 1 - (2 ^ (sc - 1) - 1) - tl
def wn (sc tl : Nat) (v : Int) : Int := if GM.sgn sc tl v = 1 then -(GM.num tl (sz sc tl v)) else GM.num tl (sz sc tl v)
def wp (sc tl : Nat) (v : Int) : Int := P0 sc tl + (GM.ex tl (sz sc tl v) : Nat)
def spNamed0 (C : Addr) : Sp := fun vs H Q _ => ∃ (x : Addr) (sc tl : Nat), vs = [.ref x] ∧ FAt C H x sc tl ∧ Q (.int (0 * 2 ^ (sc + tl) + ((2 ^ sc - 1) * 2 ^ tl + 2 ^ (tl - 1)))) H
theorem ok_Form_none_word (B : Bl mg) (L : LL K mg C a1 a2 a3 a4 a5 a6 a7 a8 a9 a10 a11 a12 a13 a14 a15 a16 a17 a18 a19 a20 a21 a22 a23 a24 a25 a26 a27 a28 a29 a30 a31 a32 a33 a34 a35 a36 a37 a38 a39 a40 a41 a42 a43 a44 a45 a46 a47 a48 a49 a50 a51 a52 a53 a54 a55 a56 a57 a58 a59 a60 a61 a62 a63 a64 a65 a66 a67 l1 l2 l3 l4 l5 l6 l7 l8 l9 l10 l11 l12 l13 l14 l15 l16 l17 l18 l19 l20 l21 l22 l23 l24 l25 l26 l27 l28 l29 l30 l31 l32 l33 l34 l35 l36 l37 l38 l39 l40 l41 l42 l43 l44 l45 l46 l47 l48 l49 l50 l51 l52 l53 l54 l55 l56 l57 l58 l59 l60 l61 l62 l63 l64 l65 l66 l67 t62 t63 t64 tg_NEAR tg_CUT tg_UP tg_DOWN w dO esO nO) : FnOk P w K mg base CX0 2 a65 l65 ["self"] (spNamed0 C) := by
  have G_Form_word_of : FnOk P w K mg base CX0 1 a60 l60 ["self", "sign", "scale", "tail"] (spWordOf C) := (ok_Form_word_of B L).mono (by decide)
  have G_Form_top : FnOk P w K mg base CX0 1 a58 l58 ["self"] (spTop C) := (ok_Form_top B L).mono (by decide)
  refine L.F_Form_none_word.ok sc_Form_none_word (fun vs H Q E h => ?_) (fun cdv A outer s H vs Q E hr h => ?_)
  · obtain ⟨x, sc, tl, rfl, _⟩ := h
    rfl
  obtain ⟨x, sc, tl, rfl, hF, q⟩ := h
  obtain ⟨dx, hx, h1, h2, h3, h4⟩ := id hF
  have pS := GM.pow_pos' sc
  have pT := GM.pow_pos' tl
  have pT1 := GM.pow_pos' (tl - 1)
  have pTT : (2 : Int) ^ tl = 2 ^ (tl - 1) * 2 := by rw [← GM.pow_s]; congr 1; omega
  refine ⟨_, (pss_one (ps_ret (pe_meth (pv 0) L.T.cl L.M_Form_word_of G_Form_word_of hr L.b_Form_word_of .nil pass0 (pa_cons pe_int (pa_cons (pe_meth0 (pv 0) L.T.cl L.M_Form_top G_Form_top hr L.b_Form_top .nil pass0) (pa_cons (pe_op op_oneShl pe_int (pe_op op_sub (pe_fld (pv 0) rfl) pe_int)) pa_nil)))))), ?_⟩
  exact ⟨_, rfl, x, dx, _, rfl, hx, rfl, _, rfl, x, dx, _, rfl, hx, rfl, x, sc, tl, rfl, hF, _, rfl, x, C, dx, _, _, rfl, hx, L.T.cl, L.T.nt, fl_t _ _, _, _, rfl, rfl, tl - 1, rfl, congrArg V.int (by omega), by omega, x, sc, tl, _, _, _, rfl, hF, .inl rfl, by omega, by omega, by omega, by omega, q⟩

/-! ### worth -/
theorem if_ev {t : TT} {ta tb : TE} {σ : L2.St} {H : Hp} {Q : VK} (R : V → Hp → Prop) (h : ∀ Q : VK, (∀ z H', R z H' → Q z H') → tIf t ta tb σ H Q) (q : ∀ z H', R z H' → Q z H') : tIf t ta tb σ H Q := h Q q
def WorthQ (H : Hp) (Q : VK) (sc tl : Nat) (v : Int) : Prop := (∀ H', Same H H' → GM.topS sc tl ≤ sz sc tl v → Q .non H') ∧ ∀ H' p, Same H H' → ¬ GM.topS sc tl ≤ sz sc tl v → H' p = some (.tup [.int (wn sc tl v), .int (wp sc tl v)]) → Q (.ref p) H'
def spWorth (C : Addr) : Sp := fun vs H Q _ => ∃ (x : Addr) (sc tl : Nat) (v : Int), vs = [.ref x, .int v] ∧ FAt C H x sc tl ∧ WorthQ H Q sc tl v
theorem ok_Form_worth (B : Bl mg) (L : LL K mg C a1 a2 a3 a4 a5 a6 a7 a8 a9 a10 a11 a12 a13 a14 a15 a16 a17 a18 a19 a20 a21 a22 a23 a24 a25 a26 a27 a28 a29 a30 a31 a32 a33 a34 a35 a36 a37 a38 a39 a40 a41 a42 a43 a44 a45 a46 a47 a48 a49 a50 a51 a52 a53 a54 a55 a56 a57 a58 a59 a60 a61 a62 a63 a64 a65 a66 a67 l1 l2 l3 l4 l5 l6 l7 l8 l9 l10 l11 l12 l13 l14 l15 l16 l17 l18 l19 l20 l21 l22 l23 l24 l25 l26 l27 l28 l29 l30 l31 l32 l33 l34 l35 l36 l37 l38 l39 l40 l41 l42 l43 l44 l45 l46 l47 l48 l49 l50 l51 l52 l53 l54 l55 l56 l57 l58 l59 l60 l61 l62 l63 l64 l65 l66 l67 t62 t63 t64 tg_NEAR tg_CUT tg_UP tg_DOWN w dO esO nO) : FnOk P w K mg base CX0 3 a67 l67 ["self", "word"] (spWorth C) := by
  have G_Form_parts : FnOk P w K mg base CX0 2 a59 l59 ["self", "word"] (spParts C) := (ok_Form_parts B L).mono (by decide)
  have G_Form_top : FnOk P w K mg base CX0 2 a58 l58 ["self"] (spTop C) := (ok_Form_top B L).mono (by decide)
  have G_Form_bias : FnOk P w K mg base CX0 2 a57 l57 ["self"] (spBias C) := (ok_Form_bias B L).mono (by decide)
  refine L.F_Form_worth.ok sc_Form_worth (fun vs H Q E h => ?_) (fun cdv A outer s H vs Q E hr h => ?_)
  · obtain ⟨x, sc, tl, v, rfl, _⟩ := h
    rfl
  obtain ⟨x, sc, tl, v, rfl, hF, qn, qt⟩ := h
  obtain ⟨dx, hx, h1, h2, h3, h4⟩ := id hF
  refine ⟨_, (pss_cons (ps_asg (pe_meth (pv 0) L.T.cl L.M_Form_parts G_Form_parts hr L.b_Form_parts .nil pass0 (pa_cons (pv 1) pa_nil)) (pg_tup (by rfl) (pgs_cons (pg_name (i := 2) sc_Form_worth.nd rfl (.inl rfl)) (pgs_cons (pg_name (i := 3) sc_Form_worth.nd rfl (.inl rfl)) (pgs_cons (pg_name (i := 4) sc_Form_worth.nd rfl (.inl rfl)) pgs_nil)))))
    (pss_cons (ps_if (pt_cmpR op_eq (pv 3) (pe_meth0 (pv 0) L.T.cl L.M_Form_top G_Form_top hr L.b_Form_top .nil pass0) (nomark _)) (pss_one (ps_ret pe_non)) pss_nil)
    (pss_cons (ps_set (i := 5) sc_Form_worth.nd rfl (.inl rfl) (pe_ifExp (pt_cmpR op_eq (pv 3) pe_int (nomark _)) (pv 4) (pe_op op_add (pe_op op_oneShl pe_int (pe_fld (pv 0) rfl)) (pv 4))))
    (pss_cons (ps_set (i := 6) sc_Form_worth.nd rfl (.inl rfl) (pe_op op_sub (pe_op op_sub (pe_callB (call_max2 rfl) (by rfl) B.max boot_max (pa_cons (pv 3) (pa_cons pe_int pa_nil))) (pe_meth0 (pv 0) L.T.cl L.M_Form_bias G_Form_bias hr L.b_Form_bias .nil pass0)) (pe_fld (pv 0) rfl)))
    (pss_one (ps_ret (pe_tup (pa_cons (pe_ifExp (pt_cmpR op_eq (pv 2) pe_int (nomark _)) (pe_un un_neg (pv 5)) (pv 5)) (pa_cons (pv 6) pa_nil))))))))), ?_⟩
  refine ⟨_, rfl, x, dx, _, rfl, hx, rfl, _, rfl, x, sc, tl, v, rfl, hF, fun p np => ?_⟩
  have sp := same_upd (o := .tup [.int (GM.sgn sc tl v), .int (GM.scl sc tl v), .int (GM.tlp tl v)]) np
  refine ⟨p, _, rfl, .inl (.inl upd_same), rfl, _, _, rfl, _, _, rfl, _, _, rfl, rfl, ?_⟩
  have hs := GM.scl_nn sc tl v
  refine ⟨_, rfl, _, rfl, x, dx, _, rfl, sp _ _ hx, rfl, x, sc, tl, rfl, hF.same sp, rfl, _, rfl, ite2 (fun c => ?_) (fun c => ?_)⟩
  · have c1 : GM.scl sc tl v = 2 ^ sc - 1 := V.int.inj (of_decide_eq_true c)
    exact qn _ sp ((top_iff sc tl v).mpr c1)
  have c1 : ¬ GM.scl sc tl v = 2 ^ sc - 1 := fun z => c (decide_eq_true (by rw [z]))
  have c2 : ¬ GM.topS sc tl ≤ sz sc tl v := fun z => c1 ((top_iff sc tl v).mp z)
  try dsimp only [tNext, tSeq, tAsg]
  refine if_ev (fun z H' => z = .int (GM.num tl (sz sc tl v)) ∧ H' = upd H p (.tup [.int (GM.sgn sc tl v), .int (GM.scl sc tl v), .int (GM.tlp tl v)])) (fun Q' q' => ?_) ?_
  · refine ⟨_, rfl, rfl, _, rfl, ite2 (fun d => ?_) (fun d => ?_)⟩
    · have d1 : GM.scl sc tl v = 0 := V.int.inj (of_decide_eq_true d)
      refine ⟨_, rfl, q' _ _ ⟨congrArg V.int ?_, rfl⟩⟩
      unfold GM.num
      rw [sz_div, sz_mod, if_pos d1]
    · have d1 : ¬ GM.scl sc tl v = 0 := fun z => d (decide_eq_true (by rw [z]))
      refine ⟨_, rfl, x, C, dx, _, _, rfl, sp _ _ hx, L.T.cl, L.T.nt, fl_t _ _, tl, rfl, rfl, by omega, _, rfl, _, _, rfl, rfl, q' _ _ ⟨congrArg V.int ?_, rfl⟩⟩
      unfold GM.num
      rw [sz_div, sz_mod, if_neg d1]
  rintro z H' ⟨rfl, rfl⟩
  refine ⟨_, rfl, _, _, rfl, _, rfl, x, dx, _, rfl, sp _ _ hx, rfl, x, sc, tl, rfl, hF.same sp, _, _, rfl, rfl, _, rfl, x, C, dx, _, _, rfl, sp _ _ hx, L.T.cl, L.T.nt, fl_t _ _, _, _, rfl, rfl, ?_⟩
  have ep : (if (1 : Int) > GM.scl sc tl v then 1 else GM.scl sc tl v) - (2 ^ (sc - 1) - 1) - (tl : Int) = wp sc tl v := by
    unfold wp P0 GM.ex
    rw [sz_div]
    split <;> omega
  dsimp only
  rw [ep]
  try dsimp only [gName, tRet, tTup, tCons]
  refine if_ev (fun z H' => z = .int (wn sc tl v) ∧ H' = upd H p (.tup [.int (GM.sgn sc tl v), .int (GM.scl sc tl v), .int (GM.tlp tl v)])) (fun Q' q' => ?_) ?_
  · refine ⟨_, rfl, rfl, _, rfl, ite2 (fun d => ?_) (fun d => ?_)⟩
    · have d1 : GM.sgn sc tl v = 1 := V.int.inj (of_decide_eq_true d)
      refine ⟨_, rfl, _, rfl, q' _ _ ⟨congrArg V.int ?_, rfl⟩⟩
      unfold wn
      rw [if_pos d1]
    · have d1 : ¬ GM.sgn sc tl v = 1 := fun z => d (decide_eq_true (by rw [z]))
      refine ⟨_, rfl, q' _ _ ⟨congrArg V.int ?_, rfl⟩⟩
      unfold wn
      rw [if_neg d1]
  rintro z H' ⟨rfl, rfl⟩
  refine ⟨_, rfl, (by show 2 ≤ sizeLine; decide), fun t nt => ?_⟩
  exact qt _ t (sp.trans (same_upd nt)) c2 upd_same
end
section
variable {P : Program} {w : World} {K : PySem.W.Frag} {mg : Str → Option Value} {base : Heap}
variable {C : Addr} {a1 a2 a3 a4 a5 a6 a7 a8 a9 a10 a11 a12 a13 a14 a15 a16 a17 a18 a19 a20 a21 a22 a23 a24 a25 a26 a27 a28 a29 a30 a31 a32 a33 a34 a35 a36 a37 a38 a39 a40 a41 a42 a43 a44 a45 a46 a47 a48 a49 a50 a51 a52 a53 a54 a55 a56 a57 a58 a59 a60 a61 a62 a63 a64 a65 a66 a67 : Addr} {l1 l2 l3 l4 l5 l6 l7 l8 l9 l10 l11 l12 l13 l14 l15 l16 l17 l18 l19 l20 l21 l22 l23 l24 l25 l26 l27 l28 l29 l30 l31 l32 l33 l34 l35 l36 l37 l38 l39 l40 l41 l42 l43 l44 l45 l46 l47 l48 l49 l50 l51 l52 l53 l54 l55 l56 l57 l58 l59 l60 l61 l62 l63 l64 l65 l66 l67 : FuncData} {t62 t63 t64 tg_NEAR tg_CUT tg_UP tg_DOWN : Tok} {dO : Addr} {esO : Array DictEntry} {nO : Nat}
/-! ### signs and products -/
def sx (sc tl : Nat) (a b : Int) : Int := if GM.sgn sc tl a = GM.sgn sc tl b then 0 else 1
def spSgn (C : Addr) : Sp := fun vs H Q _ => ∃ (x : Addr) (sc tl : Nat) (v : Int), vs = [.ref x, .int v] ∧ FAt C H x sc tl ∧ ∀ H', Same H H' → Q (.int (GM.sgn sc tl v)) H'
theorem ok_sign_of (B : Bl mg) (L : LL K mg C a1 a2 a3 a4 a5 a6 a7 a8 a9 a10 a11 a12 a13 a14 a15 a16 a17 a18 a19 a20 a21 a22 a23 a24 a25 a26 a27 a28 a29 a30 a31 a32 a33 a34 a35 a36 a37 a38 a39 a40 a41 a42 a43 a44 a45 a46 a47 a48 a49 a50 a51 a52 a53 a54 a55 a56 a57 a58 a59 a60 a61 a62 a63 a64 a65 a66 a67 l1 l2 l3 l4 l5 l6 l7 l8 l9 l10 l11 l12 l13 l14 l15 l16 l17 l18 l19 l20 l21 l22 l23 l24 l25 l26 l27 l28 l29 l30 l31 l32 l33 l34 l35 l36 l37 l38 l39 l40 l41 l42 l43 l44 l45 l46 l47 l48 l49 l50 l51 l52 l53 l54 l55 l56 l57 l58 l59 l60 l61 l62 l63 l64 l65 l66 l67 t62 t63 t64 tg_NEAR tg_CUT tg_UP tg_DOWN w dO esO nO) : FnOk P w K mg base CX0 3 a18 l18 ["form", "word"] (spSgn C) := by
  have G_Form_parts : FnOk P w K mg base CX0 2 a59 l59 ["self", "word"] (spParts C) := (ok_Form_parts B L).mono (by decide)
  refine L.F_sign_of.ok sc_sign_of (fun vs H Q E h => ?_) (fun cdv A outer s H vs Q E hr h => ?_)
  · obtain ⟨x, sc, tl, v, rfl, _⟩ := h
    rfl
  obtain ⟨x, sc, tl, v, rfl, hF, q⟩ := h
  obtain ⟨dx, hx, h1, h2, h3, h4⟩ := id hF
  refine ⟨_, (pss_one (ps_ret (pe_ix ix_tup (pe_meth (pv 0) L.T.cl L.M_Form_parts G_Form_parts hr L.b_Form_parts .nil pass0 (pa_cons (pv 1) pa_nil)) pe_int (fun _ _ => rfl)))), ?_⟩
  refine ⟨_, rfl, x, dx, _, rfl, hx, rfl, _, rfl, x, sc, tl, v, rfl, hF, fun p np => ?_⟩
  refine ⟨p, _, _, _, rfl, rfl, .inl (.inl upd_same), rfl, ?_⟩
  exact q _ (same_upd np)
def spUnl (C : Addr) : Sp := fun vs H Q _ => ∃ (x : Addr) (sc tl : Nat) (a b : Int), vs = [.ref x, .int a, .int b] ∧ FAt C H x sc tl ∧ ∀ H', Same H H' → Q (.int (sx sc tl a b)) H'
theorem sx_xor (sc tl : Nat) (a b : Int) : Builtin.bitXor (GM.sgn sc tl a) (GM.sgn sc tl b) = sx sc tl a b := by
  have ha := GM.sgn_01 (m := sc) (t := tl) (w := a)
  have hb := GM.sgn_01 (m := sc) (t := tl) (w := b)
  unfold sx
  rcases ha with ha | ha <;> rcases hb with hb | hb <;> rw [ha, hb] <;> decide
theorem ok_unlike_sign (B : Bl mg) (L : LL K mg C a1 a2 a3 a4 a5 a6 a7 a8 a9 a10 a11 a12 a13 a14 a15 a16 a17 a18 a19 a20 a21 a22 a23 a24 a25 a26 a27 a28 a29 a30 a31 a32 a33 a34 a35 a36 a37 a38 a39 a40 a41 a42 a43 a44 a45 a46 a47 a48 a49 a50 a51 a52 a53 a54 a55 a56 a57 a58 a59 a60 a61 a62 a63 a64 a65 a66 a67 l1 l2 l3 l4 l5 l6 l7 l8 l9 l10 l11 l12 l13 l14 l15 l16 l17 l18 l19 l20 l21 l22 l23 l24 l25 l26 l27 l28 l29 l30 l31 l32 l33 l34 l35 l36 l37 l38 l39 l40 l41 l42 l43 l44 l45 l46 l47 l48 l49 l50 l51 l52 l53 l54 l55 l56 l57 l58 l59 l60 l61 l62 l63 l64 l65 l66 l67 t62 t63 t64 tg_NEAR tg_CUT tg_UP tg_DOWN w dO esO nO) : FnOk P w K mg base CX0 4 a19 l19 ["form", "a", "b"] (spUnl C) := by
  have G_sign_of : FnOk P w K mg base CX0 3 a18 l18 ["form", "word"] (spSgn C) := (ok_sign_of B L).mono (by decide)
  refine L.F_unlike_sign.ok sc_unlike_sign (fun vs H Q E h => ?_) (fun cdv A outer s H vs Q E hr h => ?_)
  · obtain ⟨x, sc, tl, a, b, rfl, _⟩ := h
    rfl
  obtain ⟨x, sc, tl, a, b, rfl, hF, q⟩ := h
  refine ⟨_, (pss_one (ps_ret (pe_op op_xor (pe_call G_sign_of hr (by rfl) L.m_sign_of L.F_sign_of.kp L.b_sign_of .nil pass0 (pa_cons (pv 0) (pa_cons (pv 1) pa_nil))) (pe_call G_sign_of hr (by rfl) L.m_sign_of L.F_sign_of.kp L.b_sign_of .nil pass0 (pa_cons (pv 0) (pa_cons (pv 2) pa_nil)))))), ?_⟩
  refine ⟨_, rfl, _, rfl, x, sc, tl, a, rfl, hF, fun H1 s1 => ?_⟩
  refine ⟨_, rfl, _, rfl, x, sc, tl, b, rfl, hF.same s1, fun H2 s2 => ?_⟩
  have q' := q _ (s1.trans s2)
  rw [← sx_xor] at q'
  exact ⟨_, _, rfl, rfl, q'⟩
def noneW (sc tl : Nat) : Int := (2 ^ sc - 1) * 2 ^ tl + 2 ^ (tl - 1)
def spBad (C : Addr) : Sp := fun vs H Q _ => ∃ (x : Addr) (sc tl : Nat), vs = [.ref x] ∧ FAt C H x sc tl ∧ ∀ t H', H t = none → Same H H' → PairAt H' t (noneW sc tl, ["bad"]) → Q (.ref t) H'
theorem ok_bad (B : Bl mg) (L : LL K mg C a1 a2 a3 a4 a5 a6 a7 a8 a9 a10 a11 a12 a13 a14 a15 a16 a17 a18 a19 a20 a21 a22 a23 a24 a25 a26 a27 a28 a29 a30 a31 a32 a33 a34 a35 a36 a37 a38 a39 a40 a41 a42 a43 a44 a45 a46 a47 a48 a49 a50 a51 a52 a53 a54 a55 a56 a57 a58 a59 a60 a61 a62 a63 a64 a65 a66 a67 l1 l2 l3 l4 l5 l6 l7 l8 l9 l10 l11 l12 l13 l14 l15 l16 l17 l18 l19 l20 l21 l22 l23 l24 l25 l26 l27 l28 l29 l30 l31 l32 l33 l34 l35 l36 l37 l38 l39 l40 l41 l42 l43 l44 l45 l46 l47 l48 l49 l50 l51 l52 l53 l54 l55 l56 l57 l58 l59 l60 l61 l62 l63 l64 l65 l66 l67 t62 t63 t64 tg_NEAR tg_CUT tg_UP tg_DOWN w dO esO nO) : FnOk P w K mg base CX0 3 a16 l16 ["form"] (spBad C) := by
  have G_Form_none_word : FnOk P w K mg base CX0 2 a65 l65 ["self"] (spNamed0 C) := (ok_Form_none_word B L).mono (by decide)
  refine L.F_bad.ok sc_bad (fun vs H Q E h => ?_) (fun cdv A outer s H vs Q E hr h => ?_)
  · obtain ⟨x, sc, tl, rfl, _⟩ := h
    rfl
  obtain ⟨x, sc, tl, rfl, hF, q⟩ := h
  obtain ⟨dx, hx, h1, h2, h3, h4⟩ := id hF
  refine ⟨_, (pss_one (ps_ret (pe_tup (pa_cons (pe_meth0 (pv 0) L.T.cl L.M_Form_none_word G_Form_none_word hr L.b_Form_none_word .nil pass0) (pa_cons (pe_tup (pa_cons pe_str pa_nil)) pa_nil))))), ?_⟩
  refine ⟨_, rfl, x, dx, _, rfl, hx, rfl, x, sc, tl, rfl, hF, ?_⟩
  refine ⟨(by show 1 ≤ sizeLine; decide), fun e ne => ⟨(by show 2 ≤ sizeLine; decide), fun t nt => ?_⟩⟩
  have se := same_upd (o := .tup [.str "bad"]) ne
  rw [show (0 * 2 ^ (sc + tl) + ((2 ^ sc - 1) * 2 ^ tl + 2 ^ (tl - 1)) : Int) = noneW sc tl by unfold noneW; omega]
  exact q t _ (se.free nt) (se.trans (same_upd nt)) ⟨e, upd_same, same_upd nt _ _ upd_same⟩
def spEBN (C : Addr) : Sp := fun vs H Q _ => ∃ (x : Addr) (sc tl : Nat) (a b : Int), vs = [.ref x, .int a, .int b] ∧ FAt C H x sc tl ∧ ∀ (r : Bool) H', Same H H' → (r = true ↔ (srt sc tl (sz sc tl a) = "endless" ∨ srt sc tl (sz sc tl b) = "endless") ∧ (srt sc tl (sz sc tl a) = "nought" ∨ srt sc tl (sz sc tl b) = "nought")) → Q (.bl r) H'
theorem ok_is_endless_by_nought (B : Bl mg) (L : LL K mg C a1 a2 a3 a4 a5 a6 a7 a8 a9 a10 a11 a12 a13 a14 a15 a16 a17 a18 a19 a20 a21 a22 a23 a24 a25 a26 a27 a28 a29 a30 a31 a32 a33 a34 a35 a36 a37 a38 a39 a40 a41 a42 a43 a44 a45 a46 a47 a48 a49 a50 a51 a52 a53 a54 a55 a56 a57 a58 a59 a60 a61 a62 a63 a64 a65 a66 a67 l1 l2 l3 l4 l5 l6 l7 l8 l9 l10 l11 l12 l13 l14 l15 l16 l17 l18 l19 l20 l21 l22 l23 l24 l25 l26 l27 l28 l29 l30 l31 l32 l33 l34 l35 l36 l37 l38 l39 l40 l41 l42 l43 l44 l45 l46 l47 l48 l49 l50 l51 l52 l53 l54 l55 l56 l57 l58 l59 l60 l61 l62 l63 l64 l65 l66 l67 t62 t63 t64 tg_NEAR tg_CUT tg_UP tg_DOWN w dO esO nO) : FnOk P w K mg base CX0 4 a17 l17 ["form", "a", "b"] (spEBN C) := by
  have G_Form_sort_of : FnOk P w K mg base CX0 3 a61 l61 ["self", "word"] (spSort C) := (ok_Form_sort_of B L).mono (by decide)
  refine L.F_is_endless_by_nought.ok sc_is_endless_by_nought (fun vs H Q E h => ?_) (fun cdv A outer s H vs Q E hr h => ?_)
  · obtain ⟨x, sc, tl, a, b, rfl, _⟩ := h
    rfl
  obtain ⟨x, sc, tl, a, b, rfl, hF, q⟩ := h
  obtain ⟨dx, hx, h1, h2, h3, h4⟩ := id hF
  refine ⟨_, (pss_cons (ps_set (i := 3) sc_is_endless_by_nought.nd rfl (.inl rfl) (pe_tup (pa_cons (pe_meth (pv 0) L.T.cl L.M_Form_sort_of G_Form_sort_of hr L.b_Form_sort_of .nil pass0 (pa_cons (pv 1) pa_nil)) (pa_cons (pe_meth (pv 0) L.T.cl L.M_Form_sort_of G_Form_sort_of hr L.b_Form_sort_of .nil pass0 (pa_cons (pv 2) pa_nil)) pa_nil))))
    (pss_one (ps_ret (pe_and (pe_cmpR op_in_seq pe_str (pv 3) (by rfl)) (pe_one (pe_cmpR op_in_seq pe_str (pv 3) (by rfl))))))), ?_⟩
  refine ⟨_, rfl, x, dx, _, rfl, hx, rfl, _, rfl, x, sc, tl, a, rfl, hF, fun H1 s1 => ?_⟩
  refine ⟨_, rfl, x, dx, _, rfl, s1 _ _ hx, rfl, _, rfl, x, sc, tl, b, rfl, hF.same s1, fun H2 s2 => ?_⟩
  refine ⟨(by show 2 ≤ sizeLine; decide), fun t nt => ?_⟩
  have ss := (s1.trans s2).trans (same_upd (o := .tup [.str (srt sc tl (sz sc tl a)), .str (srt sc tl (sz sc tl b))]) nt)
  refine ⟨_, rfl, t, _, rfl, .inr (.inl (.inl upd_same)), rfl, rfl, _, rfl, ite2 (fun c => ?_) (fun c => ?_)⟩
  · have c1 := of_decide_eq_true ((in_two _ _ _).symm.trans c)
    refine ⟨_, rfl, t, _, rfl, .inr (.inl (.inl upd_same)), rfl, rfl, ?_⟩
    refine q _ _ ss ?_
    show inV (.str "nought") [.str (srt sc tl (sz sc tl a)), .str (srt sc tl (sz sc tl b))] = true ↔ _
    rw [in_two, decide_eq_true_iff]
    exact ⟨fun z => ⟨c1, z⟩, fun z => z.2⟩
  · refine q _ _ ss ⟨fun z => Bool.noConfusion z, fun z => absurd (show inV (.str "endless") [.str (srt sc tl (sz sc tl a)), .str (srt sc tl (sz sc tl b))] = true by rw [in_two]; exact decide_eq_true z.1) c⟩
theorem wn_25 (sc : Nat) {tl : Nat} (v : Int) (h : tl ≤ 24) : -(2 ^ 25) < wn sc tl v ∧ wn sc tl v < 2 ^ 25 := by
  have hp := GM.pow_pos' tl
  have h24 : (2 : Int) ^ tl ≤ 2 ^ 24 := GM.pow_le' h
  have l := Int.emod_lt_of_pos (sz sc tl v) hp
  have n := Int.emod_nonneg (sz sc tl v) (show (2 : Int) ^ tl ≠ 0 by omega)
  unfold wn GM.num
  constructor <;> split <;> split <;> omega
theorem wn_64 (sc : Nat) {tl : Nat} (v : Int) (h : tl ≤ 24) : -(2 ^ 64) < wn sc tl v ∧ wn sc tl v < 2 ^ 64 := by
  have := wn_25 sc v h
  omega
def spProd (C : Addr) : Sp := fun vs H Q _ => ∃ (x : Addr) (sc tl : Nat) (a b : Int), vs = [.ref x, .int a, .int b] ∧ FAt C H x sc tl ∧
  ((GM.topS sc tl ≤ sz sc tl a ∨ GM.topS sc tl ≤ sz sc tl b) → ∀ H' t, Same H H' → H' t = some (.tup [.int (sx sc tl a b), .non]) → Q (.ref t) H') ∧
  (¬ GM.topS sc tl ≤ sz sc tl a → ¬ GM.topS sc tl ≤ sz sc tl b → ∀ H' t u, Same H H' → H' t = some (.tup [.int (sx sc tl a b), .ref u]) → H' u = some (.tup [.int (wn sc tl a * wn sc tl b), .int (wp sc tl a + wp sc tl b)]) → Q (.ref t) H')
theorem ok_product_of (B : Bl mg) (L : LL K mg C a1 a2 a3 a4 a5 a6 a7 a8 a9 a10 a11 a12 a13 a14 a15 a16 a17 a18 a19 a20 a21 a22 a23 a24 a25 a26 a27 a28 a29 a30 a31 a32 a33 a34 a35 a36 a37 a38 a39 a40 a41 a42 a43 a44 a45 a46 a47 a48 a49 a50 a51 a52 a53 a54 a55 a56 a57 a58 a59 a60 a61 a62 a63 a64 a65 a66 a67 l1 l2 l3 l4 l5 l6 l7 l8 l9 l10 l11 l12 l13 l14 l15 l16 l17 l18 l19 l20 l21 l22 l23 l24 l25 l26 l27 l28 l29 l30 l31 l32 l33 l34 l35 l36 l37 l38 l39 l40 l41 l42 l43 l44 l45 l46 l47 l48 l49 l50 l51 l52 l53 l54 l55 l56 l57 l58 l59 l60 l61 l62 l63 l64 l65 l66 l67 t62 t63 t64 tg_NEAR tg_CUT tg_UP tg_DOWN w dO esO nO) : FnOk P w K mg base CX0 5 a21 l21 ["form", "a", "b"] (spProd C) := by
  have G_unlike_sign : FnOk P w K mg base CX0 4 a19 l19 ["form", "a", "b"] (spUnl C) := (ok_unlike_sign B L).mono (by decide)
  have G_Form_worth : FnOk P w K mg base CX0 4 a67 l67 ["self", "word"] (spWorth C) := (ok_Form_worth B L).mono (by decide)
  refine L.F_product_of.ok sc_product_of (fun vs H Q E h => ?_) (fun cdv A outer s H vs Q E hr h => ?_)
  · obtain ⟨x, sc, tl, a, b, rfl, _⟩ := h
    rfl
  obtain ⟨x, sc, tl, a, b, rfl, hF, qn, qt⟩ := h
  refine ⟨_, (pss_cons (ps_set (i := 3) sc_product_of.nd rfl (.inl rfl) (pe_call G_unlike_sign hr (by rfl) L.m_unlike_sign L.F_unlike_sign.kp L.b_unlike_sign .nil pass0 (pa_cons (pv 0) (pa_cons (pv 1) (pa_cons (pv 2) pa_nil)))))
    (pss_cons (ps_set (i := 4) sc_product_of.nd rfl (.inl rfl) (pe_meth (pv 0) L.T.cl L.M_Form_worth G_Form_worth hr L.b_Form_worth .nil pass0 (pa_cons (pv 1) pa_nil)))
    (pss_cons (ps_set (i := 5) sc_product_of.nd rfl (.inl rfl) (pe_meth (pv 0) L.T.cl L.M_Form_worth G_Form_worth hr L.b_Form_worth .nil pass0 (pa_cons (pv 2) pa_nil)))
    (pss_cons (ps_if (PW.pt (pw_or (pt_cmpR op_isN (pv 4) pe_non (nomark _)) (pw_or1 (pt_cmpR op_isN (pv 5) pe_non (nomark _))))) (pss_one (ps_ret (pe_tup (pa_cons (pv 3) (pa_cons pe_non pa_nil))))) pss_nil)
    (pss_one (ps_ret (pe_tup (pa_cons (pv 3) (pa_cons (pe_tup (pa_cons (pe_op op_mul (pe_ix ix_tup (pv 4) pe_int (fun _ _ => rfl)) (pe_ix ix_tup (pv 5) pe_int (fun _ _ => rfl))) (pa_cons (pe_op op_add (pe_ix ix_tup (pv 4) pe_int (fun _ _ => rfl)) (pe_ix ix_tup (pv 5) pe_int (fun _ _ => rfl))) pa_nil))) pa_nil))))))))), ?_⟩
  refine ⟨_, rfl, _, rfl, _, rfl, x, sc, tl, a, b, rfl, hF, fun H1 s1 => ?_⟩
  obtain ⟨dx, hx, h1, h2, h3, h4⟩ := id (hF.same s1)
  refine ⟨_, rfl, x, dx, _, rfl, hx, rfl, _, rfl, x, sc, tl, a, rfl, hF.same s1, fun H2 s2 ca => ?_, fun H2 p s2 ca ep => ?_⟩
  · refine ⟨_, rfl, x, dx, _, rfl, s2 _ _ hx, rfl, _, rfl, x, sc, tl, b, rfl, (hF.same s1).same s2, fun H3 s3 cb => ?_, fun H3 p3 s3 cb ep3 => ?_⟩
    · refine ⟨_, rfl, rfl, _, rfl, iteT ?_⟩
      refine ⟨_, rfl, (by show 2 ≤ sizeLine; decide), fun t nt => ?_⟩
      exact qn (.inl ca) _ t (((s1.trans s2).trans s3).trans (same_upd nt)) upd_same
    · refine ⟨_, rfl, rfl, _, rfl, iteT ?_⟩
      refine ⟨_, rfl, (by show 2 ≤ sizeLine; decide), fun t nt => ?_⟩
      exact qn (.inl ca) _ t (((s1.trans s2).trans s3).trans (same_upd nt)) upd_same
  · refine ⟨_, rfl, x, dx, _, rfl, s2 _ _ hx, rfl, _, rfl, x, sc, tl, b, rfl, (hF.same s1).same s2, fun H3 s3 cb => ?_, fun H3 p3 s3 cb ep3 => ?_⟩
    · refine ⟨_, rfl, rfl, _, rfl, iteF ?_⟩
      refine ⟨_, rfl, rfl, _, rfl, iteT ?_⟩
      refine ⟨_, rfl, (by show 2 ≤ sizeLine; decide), fun t nt => ?_⟩
      exact qn (.inr cb) _ t (((s1.trans s2).trans s3).trans (same_upd nt)) upd_same
    · refine ⟨_, rfl, rfl, _, rfl, iteF ?_⟩
      refine ⟨_, rfl, rfl, _, rfl, iteF ?_⟩
      refine ⟨_, rfl, _, rfl, p, _, _, _, rfl, rfl, .inl (.inl (s3 _ _ ep)), rfl, _, rfl, p3, _, _, _, rfl, rfl, .inl (.inl ep3), rfl, _, _, rfl, rfl, .inl (wn_64 sc a h4), ?_⟩
      refine ⟨_, rfl, p, _, _, _, rfl, rfl, .inl (.inl (s3 _ _ ep)), rfl, _, rfl, p3, _, _, _, rfl, rfl, .inl (.inl ep3), rfl, _, _, rfl, rfl, ?_⟩
      refine ⟨(by show 2 ≤ sizeLine; decide), fun u nu => ⟨(by show 2 ≤ sizeLine; decide), fun t nt => ?_⟩⟩
      exact qt ca cb _ t u ((((s1.trans s2).trans s3).trans (same_upd nu)).trans (same_upd nt)) upd_same (same_upd nt _ _ upd_same)
/-! ### turned words -/
def trn (sc tl : Nat) (v : Int) : Int := (1 - GM.sgn sc tl v) * 2 ^ (sc + tl) + sz sc tl v
def spTurned (C : Addr) : Sp := fun vs H Q _ => ∃ (x : Addr) (sc tl : Nat) (v : Int), vs = [.ref x, .int v] ∧ FAt C H x sc tl ∧ ∀ H', Same H H' → Q (.int (trn sc tl v)) H'
theorem ok_Form_turned (B : Bl mg) (L : LL K mg C a1 a2 a3 a4 a5 a6 a7 a8 a9 a10 a11 a12 a13 a14 a15 a16 a17 a18 a19 a20 a21 a22 a23 a24 a25 a26 a27 a28 a29 a30 a31 a32 a33 a34 a35 a36 a37 a38 a39 a40 a41 a42 a43 a44 a45 a46 a47 a48 a49 a50 a51 a52 a53 a54 a55 a56 a57 a58 a59 a60 a61 a62 a63 a64 a65 a66 a67 l1 l2 l3 l4 l5 l6 l7 l8 l9 l10 l11 l12 l13 l14 l15 l16 l17 l18 l19 l20 l21 l22 l23 l24 l25 l26 l27 l28 l29 l30 l31 l32 l33 l34 l35 l36 l37 l38 l39 l40 l41 l42 l43 l44 l45 l46 l47 l48 l49 l50 l51 l52 l53 l54 l55 l56 l57 l58 l59 l60 l61 l62 l63 l64 l65 l66 l67 t62 t63 t64 tg_NEAR tg_CUT tg_UP tg_DOWN w dO esO nO) : FnOk P w K mg base CX0 3 a66 l66 ["self", "word"] (spTurned C) := by
  have G_Form_parts : FnOk P w K mg base CX0 2 a59 l59 ["self", "word"] (spParts C) := (ok_Form_parts B L).mono (by decide)
  have G_Form_word_of : FnOk P w K mg base CX0 2 a60 l60 ["self", "sign", "scale", "tail"] (spWordOf C) := (ok_Form_word_of B L).mono (by decide)
  refine L.F_Form_turned.ok sc_Form_turned (fun vs H Q E h => ?_) (fun cdv A outer s H vs Q E hr h => ?_)
  · obtain ⟨x, sc, tl, v, rfl, _⟩ := h
    rfl
  obtain ⟨x, sc, tl, v, rfl, hF, q⟩ := h
  obtain ⟨dx, hx, h1, h2, h3, h4⟩ := id hF
  refine ⟨_, (pss_cons (ps_asg (pe_meth (pv 0) L.T.cl L.M_Form_parts G_Form_parts hr L.b_Form_parts .nil pass0 (pa_cons (pv 1) pa_nil)) (pg_tup (by rfl) (pgs_cons (pg_name (i := 2) sc_Form_turned.nd rfl (.inl rfl)) (pgs_cons (pg_name (i := 3) sc_Form_turned.nd rfl (.inl rfl)) (pgs_cons (pg_name (i := 4) sc_Form_turned.nd rfl (.inl rfl)) pgs_nil)))))
    (pss_one (ps_ret (pe_meth (pv 0) L.T.cl L.M_Form_word_of G_Form_word_of hr L.b_Form_word_of .nil pass0 (pa_cons (pe_op op_sub pe_int (pv 2)) (pa_cons (pv 3) (pa_cons (pv 4) pa_nil))))))), ?_⟩
  refine ⟨_, rfl, x, dx, _, rfl, hx, rfl, _, rfl, x, sc, tl, v, rfl, hF, fun p np => ?_⟩
  have sp := same_upd (o := .tup [.int (GM.sgn sc tl v), .int (GM.scl sc tl v), .int (GM.tlp tl v)]) np
  refine ⟨p, _, rfl, .inl (.inl upd_same), rfl, _, _, rfl, _, _, rfl, _, _, rfl, rfl, ?_⟩
  have hs := GM.scl_nn sc tl v
  have ht := GM.tlp_nn tl v
  have h01 := GM.sgn_01 (m := sc) (t := tl) (w := v)
  have q' := q _ sp
  unfold trn at q'
  rw [show sz sc tl v = GM.scl sc tl v * 2 ^ tl + GM.tlp tl v from (GM.scl_tlp sc tl v).symm] at q'
  exact ⟨_, rfl, x, dx, _, rfl, sp _ _ hx, rfl, _, rfl, _, _, rfl, rfl, _, rfl, _, rfl, x, sc, tl, _, _, _, rfl, hF.same sp, by omega, hs.1, hs.2, ht.1, ht.2, q'⟩
theorem snoc_take {α β : Type} (xs : List α) (f : α → β) {i : Nat} {a : α} (h : xs[i]? = some a) : (xs.take (i + 1)).map f = (xs.take i).map f ++ [f a] := by
  rw [List.take_add_one, h, List.map_append]
  rfl
theorem len_take {α β : Type} (xs : List α) (f : α → β) (i : Nat) (h : xs.length ≤ 900) : ((xs.take i).map f).length < sizeLine := by
  rw [List.length_map, List.length_take]
  exact small1000 (by omega)
theorem at_int' {xs : List Int} {i : Nat} {x : V} (h : (xs.map V.int)[i]? = some x) : ∃ v, xs[i]? = some v ∧ x = .int v := by
  rw [List.getElem?_map] at h
  cases e : xs[i]? with
  | none => rw [e] at h; cases h
  | some z => rw [e] at h; exact ⟨z, rfl, (Option.some.inj h).symm⟩
def spHN (K : PySem.W.Frag) (C : Addr) : Sp := fun vs H Q _ => ∃ (x t : Addr) (sc tl : Nat) (xs : List Int), vs = [.ref x, .ref t] ∧ FAt C H x sc tl ∧ SqT K H t (xs.map V.int) ∧ xs.length ≤ 900 ∧ ∀ (r : Bool) H', Same H H' → (r = true ↔ ∃ v ∈ xs, srt sc tl (sz sc tl v) = "none") → Q (.bl r) H'
theorem in_strs (x : Str) (ys : List Str) : inV (.str x) (ys.map V.str) = true ↔ x ∈ ys := by
  induction ys with
  | nil => exact ⟨fun z => Bool.noConfusion z, fun z => nomatch z⟩
  | cons y ys ih =>
    show ((y == x) || inV (.str x) (ys.map V.str)) = true ↔ _
    rw [Bool.or_eq_true, beq_iff_eq, ih, List.mem_cons]
    exact ⟨fun z => z.imp Eq.symm id, fun z => z.imp Eq.symm id⟩
theorem flat_strs (ys : List Str) : (ys.map V.str).all flatV = true := by
  induction ys with
  | nil => rfl
  | cons y ys ih => exact ih
theorem ok_has_none (B : Bl mg) (L : LL K mg C a1 a2 a3 a4 a5 a6 a7 a8 a9 a10 a11 a12 a13 a14 a15 a16 a17 a18 a19 a20 a21 a22 a23 a24 a25 a26 a27 a28 a29 a30 a31 a32 a33 a34 a35 a36 a37 a38 a39 a40 a41 a42 a43 a44 a45 a46 a47 a48 a49 a50 a51 a52 a53 a54 a55 a56 a57 a58 a59 a60 a61 a62 a63 a64 a65 a66 a67 l1 l2 l3 l4 l5 l6 l7 l8 l9 l10 l11 l12 l13 l14 l15 l16 l17 l18 l19 l20 l21 l22 l23 l24 l25 l26 l27 l28 l29 l30 l31 l32 l33 l34 l35 l36 l37 l38 l39 l40 l41 l42 l43 l44 l45 l46 l47 l48 l49 l50 l51 l52 l53 l54 l55 l56 l57 l58 l59 l60 l61 l62 l63 l64 l65 l66 l67 t62 t63 t64 tg_NEAR tg_CUT tg_UP tg_DOWN w dO esO nO) : FnOk P w K mg base CX0 4 a15 l15 ["form", "words"] (spHN K C) := by
  have G_Form_sort_of : FnOk P w K mg base CX0 3 a61 l61 ["self", "word"] (spSort C) := (ok_Form_sort_of B L).mono (by decide)
  refine L.F_has_none.ok sc_has_none (fun vs H Q E h => ?_) (fun cdv A outer s H vs Q E hr h => ?_)
  · obtain ⟨x, t, sc, tl, xs, rfl, _⟩ := h
    rfl
  obtain ⟨x, t, sc, tl, xs, rfl, hF, hT, hl, q⟩ := h
  obtain ⟨dx, hx, h1, h2, h3, h4⟩ := id hF
  refine ⟨_, (pss_one (ps_ret (pe_cmpR op_in_seq pe_str (pe_lc (own := [("word", 2)]) (by rfl) sc_has_none.nd (pi_tup (pv 1)) (blkOk_by (own := [("word", 2)]) (N := ["form", "words", "word"]) (sc := defScope s_has_none) (by decide +kernel)) (fun _ _ _ _ _ => pg_name (i := 2) sc_has_none.nd rfl (Or.inl rfl)) (fun _ _ _ _ _ => pts_nil) (fun _ _ _ _ _ => (pe_meth (pv 0) L.T.cl L.M_Form_sort_of G_Form_sort_of hr L.b_Form_sort_of .nil pass0 (pa_cons (pv 2) pa_nil)))) (by rfl)))), ?_⟩
  refine ⟨_, rfl, t, rfl, ⟨_, hT⟩, fun D nD => ?_⟩
  refine lc_it (walk_tup (K := K) (a := t) (xs := xs.map V.int)) (fun i H9 => Same H H9 ∧ H9 D = some (.lst ((xs.take i).map fun v => V.str (srt sc tl (sz sc tl v))))) ⟨same_upd nD, upd_same⟩ (fun i H9 _ ⟨s9, _⟩ => Same.seqT s9 hT) ?_ ?_
  · rintro j z H9 H10 hj ⟨s9, eD3⟩ ⟨rfl, hz⟩
    obtain ⟨v, hv, rfl⟩ := at_int' hz
    refine ⟨rfl, yesT ?_⟩
    refine ⟨_, rfl, x, dx, _, rfl, s9 _ _ hx, rfl, _, rfl, x, sc, tl, v, rfl, hF.same s9, fun H11 s11 => ?_⟩
    refine ⟨_, s11 _ _ eD3, len_take _ _ _ hl, fun y u e => ?_, ?_⟩
    · rw [upd_ne (ne_of_none e nD)]
      exact s11 _ _ (s9 _ _ e)
    · rw [upd_same, snoc_take _ _ hv]
  rintro H9 ⟨s9, eD⟩
  rw [List.length_map, List.take_length] at eD
  have eD' : H9 D = some (.lst ((xs.map fun v => srt sc tl (sz sc tl v)).map V.str)) := by
    rw [eD, List.map_map]
    rfl
  refine ⟨D, _, rfl, .inl (SqL.of eD'), rfl, flat_strs _, ?_⟩
  refine q _ _ s9 ?_
  show inV (.str "none") _ = true ↔ _
  rw [in_strs, List.mem_map]
end
section
variable {P : Program} {w : World} {K : PySem.W.Frag} {mg : Str → Option Value} {base : Heap}
variable {C : Addr} {a1 a2 a3 a4 a5 a6 a7 a8 a9 a10 a11 a12 a13 a14 a15 a16 a17 a18 a19 a20 a21 a22 a23 a24 a25 a26 a27 a28 a29 a30 a31 a32 a33 a34 a35 a36 a37 a38 a39 a40 a41 a42 a43 a44 a45 a46 a47 a48 a49 a50 a51 a52 a53 a54 a55 a56 a57 a58 a59 a60 a61 a62 a63 a64 a65 a66 a67 : Addr} {l1 l2 l3 l4 l5 l6 l7 l8 l9 l10 l11 l12 l13 l14 l15 l16 l17 l18 l19 l20 l21 l22 l23 l24 l25 l26 l27 l28 l29 l30 l31 l32 l33 l34 l35 l36 l37 l38 l39 l40 l41 l42 l43 l44 l45 l46 l47 l48 l49 l50 l51 l52 l53 l54 l55 l56 l57 l58 l59 l60 l61 l62 l63 l64 l65 l66 l67 : FuncData} {t62 t63 t64 tg_NEAR tg_CUT tg_UP tg_DOWN : Tok} {dO : Addr} {esO : Array DictEntry} {nO : Nat}
def spForm : Sp := fun vs H Q _ => ∃ (b : Addr) (c : Int), vs = [.ref b] ∧ BoxAt c H b ∧ c ≤ 900000000 ∧
  ∀ (p : Addr) (sc tl : Nat) (H' : Hp), H' p = some (.tup [.int (sc : Int), .int (tl : Int)]) → 2 ≤ sc → sc ≤ 8 → 1 ≤ tl → tl ≤ 24 → BoxAt (c + 5) H' b → Keep b H H' → Q (.ref p) H'
theorem ok__law_form (B : Bl mg) (L : LL K mg C a1 a2 a3 a4 a5 a6 a7 a8 a9 a10 a11 a12 a13 a14 a15 a16 a17 a18 a19 a20 a21 a22 a23 a24 a25 a26 a27 a28 a29 a30 a31 a32 a33 a34 a35 a36 a37 a38 a39 a40 a41 a42 a43 a44 a45 a46 a47 a48 a49 a50 a51 a52 a53 a54 a55 a56 a57 a58 a59 a60 a61 a62 a63 a64 a65 a66 a67 l1 l2 l3 l4 l5 l6 l7 l8 l9 l10 l11 l12 l13 l14 l15 l16 l17 l18 l19 l20 l21 l22 l23 l24 l25 l26 l27 l28 l29 l30 l31 l32 l33 l34 l35 l36 l37 l38 l39 l40 l41 l42 l43 l44 l45 l46 l47 l48 l49 l50 l51 l52 l53 l54 l55 l56 l57 l58 l59 l60 l61 l62 l63 l64 l65 l66 l67 t62 t63 t64 tg_NEAR tg_CUT tg_UP tg_DOWN w dO esO nO) : FnOk P w K mg base CX0 2 a44 l44 ["_law_box_here"] spForm := by
  have G__law_take : FnOk P w K mg base CX0 1 a41 l41 ["_law_box_here", "_law_size"] (spTake 1) := (ok_take L.F__law_take L.b__law_take L.m__law_take B 1).mono (by decide)
  refine L.F__law_form.ok sc__law_form (fun vs H Q E h => ?_) (fun cdv A outer s H vs Q E hr h => ?_)
  · obtain ⟨b, c, rfl, _⟩ := h
    rfl
  obtain ⟨b, c, rfl, hB, hc, q⟩ := h
  refine ⟨_, (pss_cons (ps_set (i := 1) sc__law_form.nd rfl (.inl rfl) (pe_lst (pa_cons (pe_tup (pa_cons (pe_op op_add pe_int (pe_call G__law_take hr (by rfl) L.m__law_take L.F__law_take.kp L.b__law_take .nil pass0 (pa_cons (pv 0) (pa_cons pe_int pa_nil)))) (pa_cons (pe_op op_add pe_int (pe_call G__law_take hr (by rfl) L.m__law_take L.F__law_take.kp L.b__law_take .nil pass0 (pa_cons (pv 0) (pa_cons pe_int pa_nil)))) pa_nil))) (pa_cons (pe_tup (pa_cons (pe_op op_add pe_int (pe_call G__law_take hr (by rfl) L.m__law_take L.F__law_take.kp L.b__law_take .nil pass0 (pa_cons (pv 0) (pa_cons pe_int pa_nil)))) (pa_cons (pe_op op_add pe_int (pe_call G__law_take hr (by rfl) L.m__law_take L.F__law_take.kp L.b__law_take .nil pass0 (pa_cons (pv 0) (pa_cons pe_int pa_nil)))) pa_nil))) (pa_cons (pe_tup (pa_cons pe_int (pa_cons pe_int pa_nil))) pa_nil)))))
    (pss_one (ps_ret (pe_ix ix_list (pv 1) (pe_ix ix_list (pe_lst (pa_cons pe_int (pa_cons pe_int (pa_cons pe_int (pa_cons pe_int (pa_cons pe_int (pa_cons pe_int pa_nil))))))) (pe_call G__law_take hr (by rfl) L.m__law_take L.F__law_take.kp L.b__law_take .nil pass0 (pa_cons (pv 0) (pa_cons pe_int pa_nil))) (fun _ _ => rfl)) (fun _ _ => rfl))))), ?_⟩
  refine ⟨_, rfl, b, _, _, rfl, hB, (by decide), (by decide), (by decide), (by omega), (by decide), fun r1 H1 a1 a1' B1 k1 => ?_⟩
  replace B1 := bx1 B1
  refine ⟨_, _, rfl, rfl, _, rfl, b, _, _, rfl, B1, (by decide), (by decide), (by decide), (by omega), (by decide), fun r2 H2 a2 a2' B2 k2 => ?_⟩
  replace B2 := bx1 B2
  refine ⟨_, _, rfl, rfl, (by show 2 ≤ sizeLine; decide), fun t1 n1 => ?_⟩
  have n1b : t1 ≠ b := (B2.ne n1).symm
  refine ⟨_, rfl, b, _, _, rfl, B2.same (same_upd n1), (by decide), (by decide), (by decide), (by omega), (by decide), fun r3 H3 a3 a3' B3 k3 => ?_⟩
  replace B3 := bx1 B3
  have e1 := k3 _ _ upd_same n1b
  refine ⟨_, _, rfl, rfl, _, rfl, b, _, _, rfl, B3, (by decide), (by decide), (by decide), (by omega), (by decide), fun r4 H4 a4 a4' B4 k4 => ?_⟩
  replace B4 := bx1 B4
  have e1' := k4 _ _ e1 n1b
  refine ⟨_, _, rfl, rfl, (by show 2 ≤ sizeLine; decide), fun t2 n2 => ?_⟩
  refine ⟨(by show 2 ≤ sizeLine; decide), fun t3 n3 => ?_⟩
  refine ⟨(by show 3 ≤ sizeLine; decide), fun so nso => ?_⟩
  refine ⟨_, rfl, (by show 6 ≤ sizeLine; decide), fun ix nix => ?_⟩
  have s1 := same_upd (o := .tup [.int (2 + r3), .int (1 + r4)]) n2
  have s2 := same_upd (o := .tup [.int 8, .int 23]) n3
  have s3 := same_upd (o := .lst [.ref t1, .ref t2, .ref t3]) nso
  have s4 := same_upd (o := .lst [.int 0, .int 0, .int 1, .int 1, .int 1, .int 2]) nix
  have B5 := (((B4.same s1).same s2).same s3).same s4
  have n2b : t2 ≠ b := (B4.ne n2).symm
  have n3b : t3 ≠ b := ((B4.same s1).ne n3).symm
  have nsb : so ≠ b := (((B4.same s1).same s2).ne nso).symm
  have nxb : ix ≠ b := ((((B4.same s1).same s2).same s3).ne nix).symm
  refine ⟨_, rfl, b, _, _, rfl, B5, (by decide), (by decide), (by decide), (by omega), (by decide), fun r5 H5 a5 a5' B6 k5 => ?_⟩
  replace B6 := bx1 B6
  have ex := k5 _ _ upd_same nxb
  have es := k5 _ _ (s4 _ _ upd_same) nsb
  have f1 := k5 _ _ (s4 _ _ (s3 _ _ (s2 _ _ (s1 _ _ e1')))) n1b
  have f2 := k5 _ _ (s4 _ _ (s3 _ _ (s2 _ _ upd_same))) n2b
  have f3 := k5 _ _ (s4 _ _ (s3 _ _ upd_same)) n3b
  have kk : Keep b H H5 := (((k1.trans k2).trans ((Keep.new n1).trans k3)).trans k4).trans ((Keep.ofSame (s1.trans (s2.trans (s3.trans s4)))).trans k5)
  obtain ⟨j, hj, hj3⟩ : ∃ j : Nat, atI ([.int 0, .int 0, .int 1, .int 1, .int 1, .int 2] : List V) r5 = some (.int (j : Int)) ∧ j < 3 := by
    have c3 : r5 = 0 ∨ r5 = 1 ∨ r5 = 2 ∨ r5 = 3 ∨ r5 = 4 ∨ r5 = 5 := by omega
    rcases c3 with z | z | z | z | z | z <;> subst z
    · exact ⟨0, rfl, by decide⟩
    · exact ⟨0, rfl, by decide⟩
    · exact ⟨1, rfl, by decide⟩
    · exact ⟨1, rfl, by decide⟩
    · exact ⟨1, rfl, by decide⟩
    · exact ⟨2, rfl, by decide⟩
  obtain ⟨p, sc, tl, hp, ep, b1, b2, b3, b4⟩ : ∃ (p : Addr) (sc tl : Nat), atI ([.ref t1, .ref t2, .ref t3] : List V) (j : Int) = some (.ref p) ∧ H5 p = some (.tup [.int (sc : Int), .int (tl : Int)]) ∧ 2 ≤ sc ∧ sc ≤ 8 ∧ 1 ≤ tl ∧ tl ≤ 24 := by
    match j, hj3 with
    | 0, _ => exact ⟨t1, (2 + r1).toNat, (1 + r2).toNat, rfl, by rw [Int.toNat_of_nonneg (by omega), Int.toNat_of_nonneg (by omega)]; exact f1, by omega, by omega, by omega, by omega⟩
    | 1, _ => exact ⟨t2, (2 + r3).toNat, (1 + r4).toNat, rfl, by rw [Int.toNat_of_nonneg (by omega), Int.toNat_of_nonneg (by omega)]; exact f2, by omega, by omega, by omega, by omega⟩
    | 2, _ => exact ⟨t3, 8, 23, rfl, f3, by omega, by omega, by omega, by omega⟩
  refine ⟨ix, _, _, _, rfl, rfl, SqL.of ex, hj, ?_⟩
  refine ⟨so, _, _, _, rfl, rfl, SqL.of es, hp, ?_⟩
  exact q p sc tl H5 ep b1 b2 b3 b4 (B6.mono (by omega)) kk
theorem bx2 {c : Int} {H : Hp} {b : Addr} (h : BoxAt (c + 2 ^ (2 - 1)) H b) : BoxAt (c + 2) H b := h
def spWord : Sp := fun vs H Q _ => ∃ (b : Addr) (sc tl : Nat) (c : Int), vs = [.ref b, .int (sc : Int), .int (tl : Int)] ∧ 2 ≤ sc ∧ sc ≤ 8 ∧ 1 ≤ tl ∧ tl ≤ 24 ∧ BoxAt c H b ∧ c ≤ 900000000 ∧
  ∀ (r : Int) (H' : Hp), 0 ≤ r → r < 2 ^ (1 + sc + tl) → BoxAt (c + 20) H' b → Keep b H H' → Q (.int r) H'
theorem all8 {a0 a1 a2 a3 a4 a5 a6 a7 M : Int} {j : Nat} (hj : j < 8) (h0 : a0 < M) (h1 : a1 < M) (h2 : a2 < M) (h3 : a3 < M) (h4 : a4 < M) (h5 : a5 < M) (h6 : a6 < M) (h7 : a7 < M) :
    ∃ v : Int, atI ([.int a0, .int a1, .int a2, .int a3, .int a4, .int a5, .int a6, .int a7] : List V) (j : Int) = some (.int v) ∧ v < M := by
  match j, hj with
  | 0, _ => exact ⟨a0, rfl, h0⟩
  | 1, _ => exact ⟨a1, rfl, h1⟩
  | 2, _ => exact ⟨a2, rfl, h2⟩
  | 3, _ => exact ⟨a3, rfl, h3⟩
  | 4, _ => exact ⟨a4, rfl, h4⟩
  | 5, _ => exact ⟨a5, rfl, h5⟩
  | 6, _ => exact ⟨a6, rfl, h6⟩
  | 7, _ => exact ⟨a7, rfl, h7⟩
theorem at12 {r : Int} (h0 : 0 ≤ r) (h1 : r < 12) : ∃ j : Nat, atI ([.int 0, .int 0, .int 0, .int 0, .int 1, .int 2, .int 3, .int 4, .int 5, .int 6, .int 6, .int 7] : List V) r = some (.int (j : Int)) ∧ j < 8 := by
  obtain ⟨n, rfl⟩ : ∃ n : Nat, r = (n : Int) := ⟨r.toNat, by omega⟩
  have hn : n < 12 := by omega
  match n, hn with
  | 0, _ => exact ⟨0, rfl, by decide⟩
  | 1, _ => exact ⟨0, rfl, by decide⟩
  | 2, _ => exact ⟨0, rfl, by decide⟩
  | 3, _ => exact ⟨0, rfl, by decide⟩
  | 4, _ => exact ⟨1, rfl, by decide⟩
  | 5, _ => exact ⟨2, rfl, by decide⟩
  | 6, _ => exact ⟨3, rfl, by decide⟩
  | 7, _ => exact ⟨4, rfl, by decide⟩
  | 8, _ => exact ⟨5, rfl, by decide⟩
  | 9, _ => exact ⟨6, rfl, by decide⟩
  | 10, _ => exact ⟨6, rfl, by decide⟩
  | 11, _ => exact ⟨7, rfl, by decide⟩
theorem ok__law_word (B : Bl mg) (L : LL K mg C a1 a2 a3 a4 a5 a6 a7 a8 a9 a10 a11 a12 a13 a14 a15 a16 a17 a18 a19 a20 a21 a22 a23 a24 a25 a26 a27 a28 a29 a30 a31 a32 a33 a34 a35 a36 a37 a38 a39 a40 a41 a42 a43 a44 a45 a46 a47 a48 a49 a50 a51 a52 a53 a54 a55 a56 a57 a58 a59 a60 a61 a62 a63 a64 a65 a66 a67 l1 l2 l3 l4 l5 l6 l7 l8 l9 l10 l11 l12 l13 l14 l15 l16 l17 l18 l19 l20 l21 l22 l23 l24 l25 l26 l27 l28 l29 l30 l31 l32 l33 l34 l35 l36 l37 l38 l39 l40 l41 l42 l43 l44 l45 l46 l47 l48 l49 l50 l51 l52 l53 l54 l55 l56 l57 l58 l59 l60 l61 l62 l63 l64 l65 l66 l67 t62 t63 t64 tg_NEAR tg_CUT tg_UP tg_DOWN w dO esO nO) : FnOk P w K mg base CX0 3 a45 l45 ["_law_box_here", "_law_scale", "_law_tail"] spWord := by
  have G__law_take : FnOk P w K mg base CX0 2 a41 l41 ["_law_box_here", "_law_size"] (spTake 2) := (ok_take L.F__law_take L.b__law_take L.m__law_take B 2).mono (by decide)
  refine L.F__law_word.ok sc__law_word (fun vs H Q E h => ?_) (fun cdv A outer s H vs Q E hr h => ?_)
  · obtain ⟨b, sc, tl, c, rfl, _⟩ := h
    rfl
  obtain ⟨b, sc, tl, c, rfl, h1, h2, h3, h4, hB, hc, q⟩ := h
  refine ⟨_, (pss_cons (ps_set (i := 3) sc__law_word.nd rfl (.inl rfl) (pe_op op_add (pe_op op_mul pe_int pe_int) (pe_op op_shlN (pe_op op_sub (pe_op op_oneShl pe_int (pv 1)) pe_int) (pv 2))))
    (pss_cons (ps_set (i := 4) sc__law_word.nd rfl (.inl rfl) (pe_lst (pa_cons (pe_call G__law_take hr (by rfl) L.m__law_take L.F__law_take.kp L.b__law_take .nil pass0 (pa_cons (pv 0) (pa_cons (pv 3) pa_nil))) (pa_cons (pe_call G__law_take hr (by rfl) L.m__law_take L.F__law_take.kp L.b__law_take .nil pass0 (pa_cons (pv 0) (pa_cons pe_int pa_nil))) (pa_cons (pe_op op_add (pe_op op_sub (pe_op op_oneShl pe_int (pv 2)) pe_int) (pe_call G__law_take hr (by rfl) L.m__law_take L.F__law_take.kp L.b__law_take .nil pass0 (pa_cons (pv 0) (pa_cons pe_int pa_nil)))) (pa_cons (pe_op op_sub (pe_op op_sub (pv 3) pe_int) (pe_call G__law_take hr (by rfl) L.m__law_take L.F__law_take.kp L.b__law_take .nil pass0 (pa_cons (pv 0) (pa_cons pe_int pa_nil)))) pa_nil))))))
    (pss_cons (ps_set (i := 4) sc__law_word.nd rfl (.inl rfl) (pe_op op_cat (pv 4) (pe_lst (pa_cons (pv 3) (pa_cons (pe_op op_add (pe_op op_add (pv 3) pe_int) (pe_call G__law_take hr (by rfl) L.m__law_take L.F__law_take.kp L.b__law_take .nil pass0 (pa_cons (pv 0) (pa_cons (pe_orT (pe_op op_sub (pe_op op_oneShl pe_int (pv 2)) pe_int) (pe_one pe_int)) pa_nil)))) (pa_cons (pe_op op_shlN (pe_call G__law_take hr (by rfl) L.m__law_take L.F__law_take.kp L.b__law_take .nil pass0 (pa_cons (pv 0) (pa_cons (pe_op op_oneShl pe_int (pv 1)) pa_nil))) (pv 2)) (pa_cons pe_int pa_nil)))))))
    (pss_cons (ps_set (i := 5) sc__law_word.nd rfl (.inl rfl) (pe_ix ix_list (pe_lst (pa_cons pe_int (pa_cons pe_int (pa_cons pe_int (pa_cons pe_int (pa_cons pe_int (pa_cons pe_int (pa_cons pe_int (pa_cons pe_int (pa_cons pe_int (pa_cons pe_int (pa_cons pe_int (pa_cons pe_int pa_nil))))))))))))) (pe_call G__law_take hr (by rfl) L.m__law_take L.F__law_take.kp L.b__law_take .nil pass0 (pa_cons (pv 0) (pa_cons pe_int pa_nil))) (fun _ _ => rfl)))
    (pss_cons (ps_set (i := 6) sc__law_word.nd rfl (.inl rfl) (pe_ix ix_list (pv 4) (pv 5) (fun _ _ => rfl)))
    (pss_cons (ps_if (PW.pt (pw_and (pt_cmpR op_eq (pv 5) pe_int (nomark _)) (pw_and1 (pt_cmpR op_eq (pe_call G__law_take hr (by rfl) L.m__law_take L.F__law_take.kp L.b__law_take .nil pass0 (pa_cons (pv 0) (pa_cons pe_int pa_nil))) pe_int (nomark _))))) (pss_one (ps_set (i := 6) sc__law_word.nd rfl (.inl rfl) (pe_op op_orL (pe_op op_shlN (pe_op op_mod (pe_op op_add (pe_op op_sub (pe_op op_oneShl pe_int (pe_op op_sub (pv 1) pe_int)) pe_int) (pe_call G__law_take hr (by rfl) L.m__law_take L.F__law_take.kp L.b__law_take .nil pass0 (pa_cons (pv 0) (pa_cons pe_int pa_nil)))) (pe_op op_sub (pe_op op_oneShl pe_int (pv 1)) pe_int)) (pv 2)) (pe_op op_andM (pv 6) (pe_op op_sub (pe_op op_oneShl pe_int (pv 2)) pe_int))))) pss_nil)
    (pss_one (ps_ret (pe_op op_add (pe_op op_shlN (pe_call G__law_take hr (by rfl) L.m__law_take L.F__law_take.kp L.b__law_take .nil pass0 (pa_cons (pv 0) (pa_cons pe_int pa_nil))) (pe_op op_add (pv 1) (pv 2))) (pe_callB (call_max2 rfl) (by rfl) B.max boot_max (pa_cons pe_int (pa_cons (pv 6) pa_nil)))))))))))), ?_⟩
  have pS := GM.pow_pos' sc
  have pT := GM.pow_pos' tl
  have pS4 : (2 : Int) ^ 2 ≤ 2 ^ sc := GM.pow_le' h1
  have pS8 : (2 : Int) ^ sc ≤ 2 ^ 8 := GM.pow_le' h2
  have pT2 : (2 : Int) ^ 1 ≤ 2 ^ tl := GM.pow_le' h3
  have pT24 : (2 : Int) ^ tl ≤ 2 ^ 24 := GM.pow_le' h4
  have pST : (2 : Int) ^ (sc + tl) = 2 ^ sc * 2 ^ tl := GM.pow_add' sc tl
  have p1 : (2 : Int) ^ (1 + sc + tl) = 2 ^ (sc + tl) * 2 := by rw [← GM.pow_s]; congr 1; omega
  have p4T : 4 * 2 ^ tl ≤ (2 : Int) ^ (sc + tl) := by
    rw [pST]
    exact Int.mul_le_mul_of_nonneg_right pS4 (by omega)
  have p8T : (2 : Int) ^ (sc + tl) ≤ 256 * 2 ^ tl := by
    rw [pST]
    exact Int.mul_le_mul_of_nonneg_right pS8 (by omega)
  refine ⟨_, _, rfl, rfl, .inl ⟨by decide, by decide⟩, _, rfl, sc, rfl, rfl, by omega, _, _, rfl, rfl, _, rfl, _, tl, rfl, rfl, shl_ok (n := 9) (by omega) (by omega), _, _, rfl, rfl, ?_⟩
  obtain ⟨TP, eT, hT⟩ : ∃ TP : Int, (2 * 0 + (2 ^ sc - 1) * 2 ^ tl : Int) = TP ∧ TP = 2 ^ (sc + tl) - 2 ^ tl := by
    refine ⟨_, rfl, ?_⟩
    rw [pST, Int.sub_mul]
    omega
  dsimp only
  rw [eT]
  have e14 : (10000000 : Int) ^ 2 = 100000000000000 := by decide
  refine ⟨_, rfl, _, rfl, b, _, _, rfl, hB, (by omega), (by rw [e14]; omega), (by omega), (by omega), (by decide), fun r1 H1 u1 v1 B1 k1 => ?_⟩
  replace B1 := bx2 B1
  refine ⟨_, rfl, b, _, _, rfl, B1, (by decide), (by decide), (by decide), (by omega), (by decide), fun r2 H2 u2 v2 B2 k2 => ?_⟩
  replace B2 := bx2 B2
  refine ⟨_, rfl, tl, rfl, rfl, by omega, _, _, rfl, rfl, _, rfl, b, _, _, rfl, B2, (by decide), (by decide), (by decide), (by omega), (by decide), fun r3 H3 u3 v3 B3 k3 => ?_⟩
  replace B3 := bx2 B3
  refine ⟨_, _, rfl, rfl, _, rfl, _, _, rfl, rfl, _, rfl, b, _, _, rfl, B3, (by decide), (by decide), (by decide), (by omega), (by decide), fun r4 H4 u4 v4 B4 k4 => ?_⟩
  replace B4 := bx2 B4
  refine ⟨_, _, rfl, rfl, (by show 4 ≤ sizeLine; decide), fun s1 n1 => ?_⟩
  have n1b : s1 ≠ b := (B4.ne n1).symm
  have B4' := B4.same (same_upd (o := .lst [.int r1, .int r2, .int (2 ^ tl - 2 + r3), .int (TP - 1 - r4)]) n1)
  refine ⟨_, rfl, _, rfl, _, rfl, _, _, rfl, rfl, _, rfl, _, rfl, tl, rfl, rfl, by omega, _, _, rfl, rfl, true, ?_, iteT ?_⟩
  · show true = ((2 ^ tl - 1 : Int) != 0)
    rw [eq_comm, bne_iff_ne]
    omega
  refine ⟨b, _, _, rfl, B4', (by omega), (by rw [e14]; omega), (by omega), (by omega), (by decide), fun r5 H5 u5 v5 B5 k5 => ?_⟩
  replace B5 := bx2 B5
  have es5 := k5 _ _ upd_same n1b
  refine ⟨_, _, rfl, rfl, _, rfl, _, rfl, sc, rfl, rfl, by omega, b, _, _, rfl, B5, (by omega), (by rw [e14]; omega), (by omega), (by omega), (by decide), fun r6 H6 u6 v6 B6 k6 => ?_⟩
  replace B6 := bx2 B6
  have es6 := k6 _ _ es5 n1b
  refine ⟨_, rfl, _, tl, rfl, rfl, shl_ok (n := 9) (by omega) (by omega), (by show 4 ≤ sizeLine; decide), fun s2 n2 => ?_⟩
  have sm2 := same_upd (o := .lst [.int TP, .int (TP + 1 + r5), .int (r6 * 2 ^ tl), .int 0]) n2
  refine ⟨s1, s2, _, _, rfl, rfl, sm2 _ _ es6, upd_same, (by show 4 + 4 ≤ sizeLine; decide), fun s3 n3 => ?_⟩
  have sm3 := same_upd (o := .lst [.int r1, .int r2, .int (2 ^ tl - 2 + r3), .int (TP - 1 - r4), .int TP, .int (TP + 1 + r5), .int (r6 * 2 ^ tl), .int 0]) n3
  have B7 := (B6.same sm2).same sm3
  have n3b : s3 ≠ b := ((B6.same sm2).ne n3).symm
  -- way
  refine ⟨(by show 12 ≤ sizeLine; decide), fun s4 n4 => ?_⟩
  have sm4 := same_upd (o := .lst [.int 0, .int 0, .int 0, .int 0, .int 1, .int 2, .int 3, .int 4, .int 5, .int 6, .int 6, .int 7]) n4
  have n4b : s4 ≠ b := (B7.ne n4).symm
  refine ⟨_, rfl, b, _, _, rfl, B7.same sm4, (by decide), (by decide), (by decide), (by omega), (by decide), fun r7 H8 u7 v7 B8 k8 => ?_⟩
  replace B8 := bx2 B8
  obtain ⟨j, hj, hj8⟩ := at12 u7 v7
  refine ⟨s4, _, _, _, rfl, rfl, SqL.of (k8 _ _ upd_same n4b), hj, ?_⟩
  have es3 := k8 _ _ (sm4 _ _ upd_same) n3b
  have h6 : r6 * 2 ^ tl < 2 ^ (sc + tl) := by
    rw [pST]
    exact Int.mul_lt_mul_of_pos_right v6 pT
  obtain ⟨wd, hw, hwl⟩ := all8 (a0 := r1) (a1 := r2) (a2 := 2 ^ tl - 2 + r3) (a3 := TP - 1 - r4) (a4 := TP) (a5 := TP + 1 + r5) (a6 := r6 * 2 ^ tl) (a7 := 0) (M := 2 ^ (sc + tl)) hj8 (by omega) (by omega) (by omega) (by omega) (by omega) (by omega) h6 (by omega)
  refine ⟨_, rfl, _, rfl, s3, _, _, _, rfl, rfl, SqL.of es3, hw, ?_⟩
  have kk : Keep b H H8 := (((((((k1.trans k2).trans k3).trans k4).trans (Keep.new n1)).trans k5).trans k6).trans (Keep.ofSame (sm2.trans (sm3.trans sm4)))).trans k8
  have wrap : ∀ (v r : Int), v < 2 ^ (sc + tl) → 0 ≤ r → r < 2 → 0 ≤ r * 2 ^ (sc + tl) + (if v > 0 then v else 0) ∧ r * 2 ^ (sc + tl) + (if v > 0 then v else 0) < 2 ^ (1 + sc + tl) := fun v r hv r0 r1 => by
    have : r = 0 ∨ r = 1 := by omega
    rw [p1]
    rcases this with z | z <;> subst z <;> split <;> omega
  refine ⟨_, rfl, rfl, _, rfl, ite2 (fun cw => ?_) (fun cw => ?_)⟩
  · refine ⟨_, rfl, b, _, _, rfl, B8, (by decide), (by decide), (by decide), (by omega), (by decide), fun r8 H9 u8 v8 B9 k9 => ?_⟩
    replace B9 := bx2 B9
    refine ⟨rfl, _, rfl, ite2 (fun cz => ?_) (fun cz => ?_)⟩
    · -- another scale
      refine ⟨_, rfl, _, _, rfl, rfl, sc - 1, rfl, congrArg V.int (by omega), by omega, _, _, rfl, rfl, _, rfl, b, _, _, rfl, B9, (by decide), (by decide), (by decide), (by omega), (by decide), fun r9 H10 u9 v9 B10 k10 => ?_⟩
      replace B10 := bx2 B10
      refine ⟨_, _, rfl, rfl, _, rfl, sc, rfl, rfl, by omega, _, _, rfl, rfl, _, _, rfl, rfl, (by show (0 : Int) < 2 ^ sc - 1; omega), ?_⟩
      dsimp only
      obtain ⟨z, ez, z0, z1⟩ : ∃ z : Int, (2 ^ (sc - 1) - 3 + r9) % (2 ^ sc - 1) = z ∧ 0 ≤ z ∧ z < 2 ^ sc - 1 := ⟨_, rfl, Int.emod_nonneg _ (by omega), Int.emod_lt_of_pos _ (by omega)⟩
      rw [ez]
      have m0 := Int.emod_nonneg wd (show (2 : Int) ^ tl ≠ 0 by omega)
      have m1 := Int.emod_lt_of_pos wd pT
      refine ⟨_, rfl, _, tl, rfl, rfl, shl_ok (n := 9) (by omega) (by omega), _, rfl, _, rfl, tl, rfl, rfl, by omega, _, _, rfl, rfl, _, tl, rfl, rfl, z, _, tl, rfl, rfl, ⟨z0, m0, m1⟩, ?_⟩
      have hz : z * 2 ^ tl + wd % 2 ^ tl < 2 ^ (sc + tl) := by
        have : z * 2 ^ tl ≤ (2 ^ sc - 2) * 2 ^ tl := Int.mul_le_mul_of_nonneg_right (by omega) (by omega)
        rw [Int.sub_mul, ← pST] at this
        omega
      refine ⟨_, rfl, b, _, _, rfl, B10, (by decide), (by decide), (by decide), (by omega), (by decide), fun r H11 u10 v10 B11 k11 => ?_⟩
      replace B11 := bx2 B11
      refine ⟨_, rfl, _, rfl, _, _, rfl, rfl, _, sc + tl, rfl, rfl, shl_ok (n := 2) (by omega) (by omega), _, rfl, _, _, rfl, _, _, rfl, rfl, ?_⟩
      have wr := wrap _ r hz u10 v10
      exact q _ _ wr.1 wr.2 (B11.mono (by omega)) (((kk.trans k9).trans k10).trans k11)
    · refine ⟨_, rfl, b, _, _, rfl, B9, (by decide), (by decide), (by decide), (by omega), (by decide), fun r H11 u10 v10 B11 k11 => ?_⟩
      replace B11 := bx2 B11
      refine ⟨_, rfl, _, rfl, _, _, rfl, rfl, _, sc + tl, rfl, rfl, shl_ok (n := 2) (by omega) (by omega), _, rfl, _, _, rfl, _, _, rfl, rfl, ?_⟩
      have wr := wrap _ r hwl u10 v10
      exact q _ _ wr.1 wr.2 (B11.mono (by omega)) ((kk.trans k9).trans k11)
  · refine iteF ?_
    refine ⟨_, rfl, b, _, _, rfl, B8, (by decide), (by decide), (by decide), (by omega), (by decide), fun r H11 u10 v10 B11 k11 => ?_⟩
    replace B11 := bx2 B11
    refine ⟨_, rfl, _, rfl, _, _, rfl, rfl, _, sc + tl, rfl, rfl, shl_ok (n := 2) (by omega) (by omega), _, rfl, _, _, rfl, _, _, rfl, rfl, ?_⟩
    have wr := wrap _ r hwl u10 v10
    exact q _ _ wr.1 wr.2 (B11.mono (by omega)) (kk.trans k11)
def spSortL : Sp := fun vs H Q _ => ∃ (v : Int) (sc tl : Nat), vs = [.int v, .int (sc : Int), .int (tl : Int)] ∧ sc ≤ 8 ∧ tl ≤ 24 ∧ Q (.str (srt sc tl (sz sc tl v))) H
theorem ok__law_sort (B : Bl mg) (L : LL K mg C a1 a2 a3 a4 a5 a6 a7 a8 a9 a10 a11 a12 a13 a14 a15 a16 a17 a18 a19 a20 a21 a22 a23 a24 a25 a26 a27 a28 a29 a30 a31 a32 a33 a34 a35 a36 a37 a38 a39 a40 a41 a42 a43 a44 a45 a46 a47 a48 a49 a50 a51 a52 a53 a54 a55 a56 a57 a58 a59 a60 a61 a62 a63 a64 a65 a66 a67 l1 l2 l3 l4 l5 l6 l7 l8 l9 l10 l11 l12 l13 l14 l15 l16 l17 l18 l19 l20 l21 l22 l23 l24 l25 l26 l27 l28 l29 l30 l31 l32 l33 l34 l35 l36 l37 l38 l39 l40 l41 l42 l43 l44 l45 l46 l47 l48 l49 l50 l51 l52 l53 l54 l55 l56 l57 l58 l59 l60 l61 l62 l63 l64 l65 l66 l67 t62 t63 t64 tg_NEAR tg_CUT tg_UP tg_DOWN w dO esO nO) : FnOk P w K mg base CX0 1 a46 l46 ["_law_word_here", "_law_scale", "_law_tail"] spSortL := by
  refine L.F__law_sort.ok sc__law_sort (fun vs H Q E h => ?_) (fun cdv A outer s H vs Q E hr h => ?_)
  · obtain ⟨v, sc, tl, rfl, _⟩ := h
    rfl
  obtain ⟨v, sc, tl, rfl, h1, h2, q⟩ := h
  refine ⟨_, (pss_cons (ps_par (by rfl) sc__law_sort.nd (i := 3) (j := 4) rfl rfl (by decide) rfl rfl (pa_cons (pe_op op_andM (pv 0) (pe_op op_sub (pe_op op_oneShl pe_int (pe_op op_add (pv 1) (pv 2))) pe_int)) (pa_cons (pe_op op_shlN (pe_op op_sub (pe_op op_oneShl pe_int (pv 1)) pe_int) (pv 2)) pa_nil)) (by rfl))
    (pss_cons (ps_if (pt_cmpR op_ge (pv 3) (pv 4) (nomark _)) (pss_one (ps_ret (pe_ifExp (pt_cmpR op_eq (pv 3) (pv 4) (nomark _)) pe_str pe_str))) pss_nil)
    (pss_one (ps_ret (pe_ifExp (pt_cmpR op_eq (pv 3) pe_int (nomark _)) pe_str (pe_ifExp (pt_cmpR op_eq (pe_op op_shrN (pv 3) (pv 2)) pe_int (nomark _)) pe_str pe_str)))))), ?_⟩
  have p8 : (2 : Int) ^ sc ≤ 2 ^ 8 := GM.pow_le' h1
  have pS := GM.pow_pos' sc
  refine ⟨_, rfl, _, rfl, _, rfl, _, _, rfl, rfl, sc + tl, rfl, rfl, by omega, _, _, rfl, rfl, _, sc + tl, rfl, rfl, ?_⟩
  refine ⟨_, rfl, sc, rfl, rfl, by omega, _, _, rfl, rfl, _, rfl, _, tl, rfl, rfl, shl_ok (n := 9) (by omega) (by omega), .int (sz sc tl v), .int (GM.topS sc tl), rfl, ?_⟩
  unfold srt at q
  refine ⟨_, rfl, _, rfl, _, _, rfl, rfl, _, rfl, ite2 (fun c => ?_) (fun c => ?_)⟩
  · rw [if_pos (of_decide_eq_true c)] at q
    refine ⟨_, rfl, _, rfl, rfl, _, rfl, ite2 (fun d => ?_) (fun d => ?_)⟩
    · rw [if_pos (V.int.inj (of_decide_eq_true d))] at q
      exact q
    · rw [if_neg (fun z => d (decide_eq_true (by rw [z])))] at q
      exact q
  · rw [if_neg (of_decide_eq_false (Bool.eq_false_iff.mpr c))] at q
    refine ⟨_, rfl, rfl, _, rfl, ite2 (fun d => ?_) (fun d => ?_)⟩
    · rw [if_pos (V.int.inj (of_decide_eq_true d))] at q
      exact q
    · rw [if_neg (fun z => d (decide_eq_true (by rw [z])))] at q
      refine ⟨_, rfl, _, rfl, _, tl, rfl, rfl, rfl, _, rfl, ite2 (fun e => ?_) (fun e => ?_)⟩
      · rw [if_pos (V.int.inj (of_decide_eq_true e))] at q
        exact q
      · rw [if_neg (fun z => e (decide_eq_true (by rw [z])))] at q
        exact q
end
def WL : List Str := ["near", "cut", "up", "down"]
section
variable {P : Program} {w : World} {K : PySem.W.Frag} {mg : Str → Option Value} {base : Heap}
variable {C : Addr} {a1 a2 a3 a4 a5 a6 a7 a8 a9 a10 a11 a12 a13 a14 a15 a16 a17 a18 a19 a20 a21 a22 a23 a24 a25 a26 a27 a28 a29 a30 a31 a32 a33 a34 a35 a36 a37 a38 a39 a40 a41 a42 a43 a44 a45 a46 a47 a48 a49 a50 a51 a52 a53 a54 a55 a56 a57 a58 a59 a60 a61 a62 a63 a64 a65 a66 a67 : Addr} {l1 l2 l3 l4 l5 l6 l7 l8 l9 l10 l11 l12 l13 l14 l15 l16 l17 l18 l19 l20 l21 l22 l23 l24 l25 l26 l27 l28 l29 l30 l31 l32 l33 l34 l35 l36 l37 l38 l39 l40 l41 l42 l43 l44 l45 l46 l47 l48 l49 l50 l51 l52 l53 l54 l55 l56 l57 l58 l59 l60 l61 l62 l63 l64 l65 l66 l67 : FuncData} {t62 t63 t64 tg_NEAR tg_CUT tg_UP tg_DOWN : Tok} {dO : Addr} {esO : Array DictEntry} {nO : Nat}
/-! ### the law's own search -/
def spSizeOf : Sp := fun vs H Q _ => ∃ (s : Int) (sc tl : Nat), vs = [.int s, .int (sc : Int), .int (tl : Int)] ∧ 0 ≤ s ∧ 1 ≤ sc ∧ sc ≤ 8 ∧ tl ≤ 24 ∧ ∀ p, H p = none → Q (.ref p) (upd H p (.tup [.int (GM.num tl s), .int (GR.lea sc tl + (GM.ex tl s : Nat))]))
theorem ok__law_size_of (B : Bl mg) (L : LL K mg C a1 a2 a3 a4 a5 a6 a7 a8 a9 a10 a11 a12 a13 a14 a15 a16 a17 a18 a19 a20 a21 a22 a23 a24 a25 a26 a27 a28 a29 a30 a31 a32 a33 a34 a35 a36 a37 a38 a39 a40 a41 a42 a43 a44 a45 a46 a47 a48 a49 a50 a51 a52 a53 a54 a55 a56 a57 a58 a59 a60 a61 a62 a63 a64 a65 a66 a67 l1 l2 l3 l4 l5 l6 l7 l8 l9 l10 l11 l12 l13 l14 l15 l16 l17 l18 l19 l20 l21 l22 l23 l24 l25 l26 l27 l28 l29 l30 l31 l32 l33 l34 l35 l36 l37 l38 l39 l40 l41 l42 l43 l44 l45 l46 l47 l48 l49 l50 l51 l52 l53 l54 l55 l56 l57 l58 l59 l60 l61 l62 l63 l64 l65 l66 l67 t62 t63 t64 tg_NEAR tg_CUT tg_UP tg_DOWN w dO esO nO) : FnOk P w K mg base CX0 1 a47 l47 ["_law_size", "_law_scale", "_law_tail"] spSizeOf := by
  refine L.F__law_size_of.ok sc__law_size_of (fun vs H Q E h => ?_) (fun cdv A outer s H vs Q E hr h => ?_)
  · obtain ⟨s, sc, tl, rfl, _⟩ := h
    rfl
  obtain ⟨s, sc, tl, rfl, h0, h1, h2, h3, q⟩ := h
  refine ⟨_, (pss_cons (ps_par (by rfl) sc__law_size_of.nd (i := 3) (j := 4) rfl rfl (by decide) rfl rfl (pa_cons (pe_op op_shrN (pv 0) (pv 2)) (pa_cons (pe_op op_andM (pv 0) (pe_op op_sub (pe_op op_oneShl pe_int (pv 2)) pe_int)) pa_nil)) (by rfl))
    (pss_cons (ps_set (i := 5) sc__law_size_of.nd rfl (.inl rfl) (pe_op op_sub (pe_op op_oneShl pe_int (pe_op op_sub (pv 1) pe_int)) pe_int))
    (pss_one (ps_ret (pe_ifExp (pt_cmpR op_eq (pv 3) pe_int (nomark _)) (pe_tup (pa_cons (pv 4) (pa_cons (pe_op op_sub (pe_op op_sub pe_int (pv 5)) (pv 2)) pa_nil))) (pe_tup (pa_cons (pe_op op_add (pe_op op_oneShl pe_int (pv 2)) (pv 4)) (pa_cons (pe_op op_sub (pe_op op_sub (pv 3) (pv 5)) (pv 2)) pa_nil)))))))), ?_⟩
  have hd := Int.ediv_nonneg h0 (Int.le_of_lt (GM.pow_pos' tl))
  refine ⟨_, rfl, _, rfl, _, tl, rfl, rfl, _, rfl, _, rfl, tl, rfl, rfl, by omega, _, _, rfl, rfl, _, tl, rfl, rfl, _, _, rfl, ?_⟩
  refine ⟨_, rfl, _, _, rfl, rfl, sc - 1, rfl, congrArg V.int (by omega), by omega, _, _, rfl, rfl, ?_⟩
  refine ⟨_, rfl, rfl, _, rfl, ite2 (fun c => ?_) (fun c => ?_)⟩
  · have c1 : s / 2 ^ tl = 0 := V.int.inj (of_decide_eq_true c)
    refine ⟨_, rfl, _, rfl, _, _, rfl, rfl, _, rfl, _, _, rfl, rfl, (by show 2 ≤ sizeLine; decide), fun p np => ?_⟩
    have e1 : GM.num tl s = s % 2 ^ tl := if_pos c1
    have e2 : GR.lea sc tl + (GM.ex tl s : Nat) = 1 - (2 ^ (sc - 1) - 1) - (tl : Int) := by
      unfold GR.lea GM.ex
      rw [c1]
      show _ + ((0 : Nat) : Int) = _
      omega
    have := q p np
    rw [e1, e2] at this
    exact this
  · have c1 : ¬ s / 2 ^ tl = 0 := fun z => c (decide_eq_true (by rw [z]))
    refine ⟨_, rfl, tl, rfl, rfl, by omega, _, rfl, _, _, rfl, rfl, _, rfl, _, rfl, _, _, rfl, rfl, _, rfl, _, _, rfl, rfl, (by show 2 ≤ sizeLine; decide), fun p np => ?_⟩
    have e1 : GM.num tl s = 2 ^ tl + s % 2 ^ tl := if_neg c1
    have e2 : GR.lea sc tl + (GM.ex tl s : Nat) = s / 2 ^ tl - (2 ^ (sc - 1) - 1) - (tl : Int) := by
      unfold GR.lea GM.ex
      omega
    have := q p np
    rw [e1, e2] at this
    exact this
/-! ### _law_less -/
def lw (p e : Int) : Int := if e < p then e else p
def lessF (n p : Int) (more : Bool) (m e : Int) : Int := GR.cmpM (n * 2 ^ (p - lw p e).toNat) (2 ^ (p - lw p e).toNat) (m * 2 ^ (e - lw p e).toNat) more
theorem less_scale {n p m e B : Int} {more : Bool} {a c : Nat} (ha : p - B = a) (hc : e - B = c) : lessF n p more m e = GR.cmpM (n * 2 ^ a) (2 ^ a) (m * 2 ^ c) more := by
  have h1 : lw p e ≤ p ∧ lw p e ≤ e ∧ B ≤ lw p e := by
    unfold lw
    split <;> omega
  obtain ⟨f, hf⟩ : ∃ f : Nat, lw p e - B = f := ⟨(lw p e - B).toNat, by omega⟩
  have ea : a = (p - lw p e).toNat + f := by omega
  have ec : c = (e - lw p e).toNat + f := by omega
  unfold lessF
  rw [ea, ec, GM.pow_add', GM.pow_add', ← Int.mul_assoc, ← Int.mul_assoc]
  exact (GR.cmp_scale (GM.pow_pos' f)).symm
def spLess (K : PySem.W.Frag) : Sp := fun vs H Q _ => ∃ (a b : Addr) (n p m e : Int) (more : Bool), vs = [.ref a, .ref b] ∧ SqT K H a [.int n, .int p, .bl more] ∧ SqT K H b [.int m, .int e] ∧ Fit n ∧ Fit m ∧ -20000 ≤ p ∧ p ≤ 20000 ∧ -20000 ≤ e ∧ e ≤ 20000 ∧ Q (.int (lessF n p more m e)) H
theorem ok__law_less (B : Bl mg) (L : LL K mg C a1 a2 a3 a4 a5 a6 a7 a8 a9 a10 a11 a12 a13 a14 a15 a16 a17 a18 a19 a20 a21 a22 a23 a24 a25 a26 a27 a28 a29 a30 a31 a32 a33 a34 a35 a36 a37 a38 a39 a40 a41 a42 a43 a44 a45 a46 a47 a48 a49 a50 a51 a52 a53 a54 a55 a56 a57 a58 a59 a60 a61 a62 a63 a64 a65 a66 a67 l1 l2 l3 l4 l5 l6 l7 l8 l9 l10 l11 l12 l13 l14 l15 l16 l17 l18 l19 l20 l21 l22 l23 l24 l25 l26 l27 l28 l29 l30 l31 l32 l33 l34 l35 l36 l37 l38 l39 l40 l41 l42 l43 l44 l45 l46 l47 l48 l49 l50 l51 l52 l53 l54 l55 l56 l57 l58 l59 l60 l61 l62 l63 l64 l65 l66 l67 t62 t63 t64 tg_NEAR tg_CUT tg_UP tg_DOWN w dO esO nO) : FnOk P w K mg base CX0 1 a48 l48 ["_law_one", "_law_other"] (spLess K) := by
  refine L.F__law_less.ok sc__law_less (fun vs H Q E h => ?_) (fun cdv A outer s H vs Q E hr h => ?_)
  · obtain ⟨a, b, n, p, m, e, more, rfl, _⟩ := h
    rfl
  obtain ⟨a, b, n, p, m, e, more, rfl, hA, hB, fn, fm, p1, p2, e1, e2, q⟩ := h
  refine ⟨_, (pss_cons (ps_set (i := 2) sc__law_less.nd rfl (.inl rfl) (pe_callB (call_min2 rfl) (by rfl) B.min boot_min (pa_cons (pe_ix ix_tup (pv 0) pe_int (fun _ _ => rfl)) (pa_cons (pe_ix ix_tup (pv 1) pe_int (fun _ _ => rfl)) pa_nil))))
    (pss_cons (ps_par (by rfl) sc__law_less.nd (i := 3) (j := 4) rfl rfl (by decide) rfl rfl (pa_cons (pe_op op_shlN (pe_ix ix_tup (pv 0) pe_int (fun _ _ => rfl)) (pe_op op_sub (pe_ix ix_tup (pv 0) pe_int (fun _ _ => rfl)) (pv 2))) (pa_cons (pe_op op_shlN (pe_ix ix_tup (pv 1) pe_int (fun _ _ => rfl)) (pe_op op_sub (pe_ix ix_tup (pv 1) pe_int (fun _ _ => rfl)) (pv 2))) pa_nil)) (by rfl))
    (pss_cons (ps_if (pt_cmpR op_eq (pv 3) (pv 4) (nomark _)) (pss_one (ps_ret (pe_callTy call_int1 (by rfl) B.int PyProof.Rows.boot_int (pa_cons (pe_ix ix_tup (pv 0) pe_int (fun _ _ => rfl)) pa_nil)))) pss_nil)
    (pss_one (ps_ret (pe_ifExp (pt_cmpR op_gt (pv 3) (pv 4) (nomark _)) pe_int (pe_ifExp (pt_cmpR op_le (pe_op op_add (pv 3) (pe_op op_mul (pe_callTy call_int1 (by rfl) B.int PyProof.Rows.boot_int (pa_cons (pe_ix ix_tup (pv 0) pe_int (fun _ _ => rfl)) pa_nil)) (pe_op op_oneShl pe_int (pe_op op_sub (pe_ix ix_tup (pv 0) pe_int (fun _ _ => rfl)) (pv 2))))) (pv 4) (nomark _)) (pe_un un_neg pe_int) pe_int))))))), ?_⟩
  have hl : lw p e ≤ p ∧ lw p e ≤ e ∧ -20000 ≤ lw p e := by
    unfold lw
    split <;> omega
  refine ⟨_, rfl, a, _, _, _, rfl, rfl, hA, rfl, _, rfl, b, _, _, _, rfl, rfl, hB, rfl, _, _, rfl, ?_⟩
  refine ⟨_, rfl, a, _, _, _, rfl, rfl, hA, rfl, _, rfl, a, _, _, _, rfl, rfl, hA, rfl, _, rfl, _, _, rfl, rfl, _, (p - lw p e).toNat, rfl, congrArg V.int (show p - lw p e = ((p - lw p e).toNat : Nat) by omega), fit_shl fn (by omega), ?_⟩
  refine ⟨_, rfl, b, _, _, _, rfl, rfl, hB, rfl, _, rfl, b, _, _, _, rfl, rfl, hB, rfl, _, rfl, _, _, rfl, rfl, _, (e - lw p e).toNat, rfl, congrArg V.int (show e - lw p e = ((e - lw p e).toNat : Nat) by omega), fit_shl fm (by omega), _, _, rfl, ?_⟩
  unfold lessF GR.cmpM at q
  refine ⟨_, rfl, _, rfl, rfl, _, rfl, ite2 (fun c => ?_) (fun c => ?_)⟩
  · rw [dvi] at c
    rw [if_pos (of_decide_eq_true c)] at q
    exact ⟨_, rfl, a, _, _, _, rfl, rfl, hA, rfl, .inr ⟨_, rfl, q⟩⟩
  · rw [dvi] at c
    rw [if_neg (of_decide_eq_false (Bool.eq_false_iff.mpr c))] at q
    refine ⟨_, rfl, _, rfl, _, _, rfl, rfl, _, rfl, ite2 (fun d => ?_) (fun d => ?_)⟩
    · rw [if_pos (of_decide_eq_true d)] at q
      exact q
    · rw [if_neg (of_decide_eq_false (Bool.eq_false_iff.mpr d))] at q
      refine ⟨_, rfl, _, rfl, a, _, _, _, rfl, rfl, hA, rfl, .inr ⟨_, rfl, ?_⟩⟩
      refine ⟨_, rfl, a, _, _, _, rfl, rfl, hA, rfl, _, rfl, _, _, rfl, rfl, (p - lw p e).toNat, rfl, congrArg V.int (show p - lw p e = ((p - lw p e).toNat : Nat) by omega), by omega, _, _, rfl, rfl, .inl (b01 _), _, _, rfl, rfl, _, rfl, _, _, rfl, rfl, _, rfl, ite2 (fun g => ?_) (fun g => ?_)⟩
      · rw [if_pos (of_decide_eq_true g)] at q
        exact ⟨_, rfl, q⟩
      · rw [if_neg (of_decide_eq_false (Bool.eq_false_iff.mpr g))] at q
        exact q
/-! ### what the search tells is what the rounding tells -/
def UU (sc tl : Nat) : Int := (2 ^ sc - 1) * 2 ^ tl
def aww (how : Str) (s : Int) : Bool := (decide (how = "up") && decide (s = 0)) || (decide (how = "down") && decide (s = 1))
def nr2 (sd lo : Int) : Bool := decide (sd > 0) || (decide (sd = 0) && decide (lo % 2 = 1))
def sel (aw : Bool) (how : Str) (sd lo hi : Int) : Int := if (aw || (decide (how = "near") && nr2 sd lo)) = true then hi else lo
def srch (sc tl : Nat) (s lo hi sd : Int) (cb js ud aw : Bool) (how : Str) : Int × List Str :=
  if js = true then (s * 2 ^ (sc + tl) + lo, [])
  else if (cb || decide (sel aw how sd lo hi = UU sc tl)) = true then (s * 2 ^ (sc + tl) + (if (aw || decide (how = "near")) = true then hi else UU sc tl - 1), ["over", "rounded"])
  else (s * 2 ^ (sc + tl) + sel aw how sd lo hi, if ud = true then ["under", "rounded"] else ["rounded"])
theorem gup_zero (how : Str) (s m : Int) : GR.gup how s m 0 = false := by
  unfold GR.gup
  split
  · show (false || (false && decide (m % 2 = 1))) = false
    rfl
  · rfl
theorem wrd_U (sc tl : Nat) (s : Int) : GR.wrd sc tl s (2 ^ sc - 1) 0 = s * 2 ^ (sc + tl) + UU sc tl ∧ GR.wrd sc tl s (2 ^ sc - 1 - 1) (2 ^ tl - 1) = s * 2 ^ (sc + tl) + (UU sc tl - 1) ∧ GR.wrd sc tl s 0 0 = s * 2 ^ (sc + tl) := by
  unfold GR.wrd UU
  refine ⟨by omega, ?_, by omega⟩
  rw [Int.sub_mul (2 ^ sc - 1) 1, Int.one_mul]
  omega
theorem rnd_srch {sc tl : Nat} {s n p : Int} {how : Str} {more : Bool} {N Mo bq lo hi : Int} (hh : how ∈ WL) (hs : s = 0 ∨ s = 1) (hn : n ≠ 0) (hU : 0 < UU sc tl)
    (F : GR.Fl sc tl n p more N Mo bq ((GR.lap sc tl n p - GR.lea sc tl) * 2 ^ tl + GR.prQ n (GR.lap sc tl n p - p))) (h1 : hi = lo + 1) (h2 : lo ≤ (GR.lap sc tl n p - GR.lea sc tl) * 2 ^ tl + GR.prQ n (GR.lap sc tl n p - p)) (h3 : hi = UU sc tl ∨ (hi < UU sc tl ∧ (GR.lap sc tl n p - GR.lea sc tl) * 2 ^ tl + GR.prQ n (GR.lap sc tl n p - p) < hi)) :
    srch sc tl s lo hi (GR.cmpM (N * 2) (Mo * 2) (GR.W tl lo * bq + GR.W tl hi * bq) more) (decide (0 ≤ GR.cmpM N Mo (GR.W tl hi * bq) more)) (!decide (0 ≤ GR.cmpM N Mo (GR.W tl hi * bq) more) && decide (GR.cmpM N Mo (GR.W tl lo * bq) more = 0)) (decide (GR.cmpM N Mo (GR.W tl (2 ^ tl) * bq) more < 0)) (aww how s) how = GR.rnd sc tl s n p how more := by
  obtain ⟨w1, w2, w3⟩ := wrd_U sc tl s
  obtain ⟨w4, w5, w6⟩ := wrd_U sc tl 0
  rw [Int.zero_mul, Int.zero_add] at w5
  have hz := F.lo0
  have eS : GR.siz sc tl s n p how more = (GR.lap sc tl n p - GR.lea sc tl) * 2 ^ tl + GR.prQ n (GR.lap sc tl n p - p) + (if GR.gup how s (GR.prQ n (GR.lap sc tl n p - p)) (GR.prR n (GR.lap sc tl n p - p) more) = true then 1 else 0) := by
    unfold GR.siz GR.mny
    split <;> omega
  unfold GR.rnd
  rw [if_neg hn, eS, w5, w3]
  have eB : GR.bey sc tl s how = s * 2 ^ (sc + tl) + (if (aww how s || decide (how = "near")) = true then UU sc tl else UU sc tl - 1) := by
    unfold GR.bey
    rw [w1, w2]
    have : (decide (how = "near") || GR.away how s) = (aww how s || decide (how = "near")) := by
      unfold WL at hh
      simp only [List.mem_cons, List.mem_nil_iff, or_false] at hh
      rcases hh with z | z | z | z <;> subst z <;> rcases hs with y | y <;> subst y <;> decide
    rw [this]
    split <;> rfl
  rw [eB]
  have hr := F.rest
  have hodd := F.odd
  have eU : ∀ lo hi : Int, hi = lo + 1 → lo % 2 = GR.prQ n (GR.lap sc tl n p - p) % 2 → GR.prR n (GR.lap sc tl n p - p) more ≠ 0 → sel (aww how s) how (if GR.prR n (GR.lap sc tl n p - p) more = 3 then 1 else if GR.prR n (GR.lap sc tl n p - p) more = 2 then 0 else -1) lo hi = lo + (if GR.gup how s (GR.prQ n (GR.lap sc tl n p - p)) (GR.prR n (GR.lap sc tl n p - p) more) = true then 1 else 0) := fun lo hi e1 e2 e3 => by
    have r4 : GR.prR n (GR.lap sc tl n p - p) more = 1 ∨ GR.prR n (GR.lap sc tl n p - p) more = 2 ∨ GR.prR n (GR.lap sc tl n p - p) more = 3 := by omega
    unfold sel nr2
    rw [e2, e1]
    generalize GR.prQ n (GR.lap sc tl n p - p) = mq
    have m2 : mq % 2 = 0 ∨ mq % 2 = 1 := by omega
    unfold GR.gup
    unfold WL at hh
    simp only [List.mem_cons, List.mem_nil_iff, or_false] at hh
    rcases r4 with r | r | r <;> rw [r] <;> rcases m2 with y | y <;> rw [y] <;> rcases hh with z | z | z | z <;> subst z <;> rcases hs with x | x <;> subst x <;> first | rfl | (show lo = lo + 0; omega)
  have hg0 : GR.prR n (GR.lap sc tl n p - p) more = 0 → (if GR.gup how s (GR.prQ n (GR.lap sc tl n p - p)) (GR.prR n (GR.lap sc tl n p - p) more) = true then (1 : Int) else 0) = 0 := fun z => by
    rw [z, gup_zero]
    rfl
  have hg1 : (0 : Int) ≤ (if GR.gup how s (GR.prQ n (GR.lap sc tl n p - p)) (GR.prR n (GR.lap sc tl n p - p) more) = true then (1 : Int) else 0) ∧ (if GR.gup how s (GR.prQ n (GR.lap sc tl n p - p)) (GR.prR n (GR.lap sc tl n p - p) more) = true then (1 : Int) else 0) ≤ 1 := by
    split <;> decide
  generalize (if GR.gup how s (GR.prQ n (GR.lap sc tl n p - p)) (GR.prR n (GR.lap sc tl n p - p) more) = true then (1 : Int) else 0) = gi at *
  generalize hL : (GR.lap sc tl n p - GR.lea sc tl) * 2 ^ tl + GR.prQ n (GR.lap sc tl n p - p) = low0 at *
  by_cases cU : UU sc tl ≤ low0
  · have eh : hi = UU sc tl := by omega
    have c1 : 0 ≤ GR.cmpM N Mo (GR.W tl hi * bq) more := F.le hi (by omega) (by omega)
    unfold srch
    rw [decide_eq_true c1, Bool.not_true, Bool.false_and, if_neg Bool.false_ne_true, Bool.true_or, if_pos rfl, if_pos (show low0 + gi > UU sc tl - 1 by omega), eh]
  · have el : lo = low0 := by omega
    subst el
    have c1 : ¬ 0 ≤ GR.cmpM N Mo (GR.W tl hi * bq) more := by
      have := F.gt hi (by omega)
      omega
    have hhf := F.half
    rw [show lo + 1 = hi by omega] at hhf
    unfold srch
    rw [decide_eq_false c1, hhf, Bool.not_false, Bool.true_and, Bool.false_or]
    by_cases c2 : GR.prR n (GR.lap sc tl n p - p) more = 0
    · rw [decide_eq_true (F.just.mpr c2), if_pos rfl, hg0 c2, Int.add_zero, if_neg (show ¬ lo > UU sc tl - 1 by omega)]
      unfold GR.flg
      rw [if_pos c2]
    · rw [decide_eq_false (fun z => c2 (F.just.mp z)), if_neg Bool.false_ne_true, eU lo hi h1 hodd c2]
      by_cases c3 : lo + gi = UU sc tl
      · rw [decide_eq_true c3, if_pos rfl, if_pos (show lo + gi > UU sc tl - 1 by omega)]
        have eh : hi = UU sc tl := by omega
        rw [eh]
      · rw [decide_eq_false c3, if_neg Bool.false_ne_true, if_neg (show ¬ lo + gi > UU sc tl - 1 by omega)]
        unfold GR.flg
        rw [if_neg c2]
        by_cases c4 : GR.cmpM N Mo (GR.W tl (2 ^ tl) * bq) more < 0
        · rw [decide_eq_true c4, if_pos rfl, if_pos (F.und.mp c4)]
        · rw [decide_eq_false c4, if_neg Bool.false_ne_true, if_neg (fun z => c4 (F.und.mpr z))]
end
section
variable {P : Program} {w : World} {K : PySem.W.Frag} {mg : Str → Option Value} {base : Heap}
variable {C : Addr} {a1 a2 a3 a4 a5 a6 a7 a8 a9 a10 a11 a12 a13 a14 a15 a16 a17 a18 a19 a20 a21 a22 a23 a24 a25 a26 a27 a28 a29 a30 a31 a32 a33 a34 a35 a36 a37 a38 a39 a40 a41 a42 a43 a44 a45 a46 a47 a48 a49 a50 a51 a52 a53 a54 a55 a56 a57 a58 a59 a60 a61 a62 a63 a64 a65 a66 a67 : Addr} {l1 l2 l3 l4 l5 l6 l7 l8 l9 l10 l11 l12 l13 l14 l15 l16 l17 l18 l19 l20 l21 l22 l23 l24 l25 l26 l27 l28 l29 l30 l31 l32 l33 l34 l35 l36 l37 l38 l39 l40 l41 l42 l43 l44 l45 l46 l47 l48 l49 l50 l51 l52 l53 l54 l55 l56 l57 l58 l59 l60 l61 l62 l63 l64 l65 l66 l67 : FuncData} {t62 t63 t64 tg_NEAR tg_CUT tg_UP tg_DOWN : Tok} {dO : Addr} {esO : Array DictEntry} {nO : Nat}
/-! ### _law_rounded -/
def spLRnd (K : PySem.W.Frag) : Sp := fun vs H Q _ => ∃ (sc tl : Nat) (s n p : Int) (wr : Addr) (more : Bool) (how : Str), vs = [.int (sc : Int), .int (tl : Int), .int s, .ref wr, .str how] ∧ 2 ≤ sc ∧ sc ≤ 8 ∧ 1 ≤ tl ∧ tl ≤ 24 ∧ (s = 0 ∨ s = 1) ∧ SqT K H wr [.int n, .int p, .bl more] ∧ Fit n ∧ -4000 ≤ p ∧ p ≤ 4000 ∧ how ∈ WL ∧ (more = true → n ≠ 0 ∧ p < GR.lap sc tl n p) ∧
  ∀ t H', H t = none → Same H H' → PairAt H' t (GR.rnd sc tl s n p how more) → Q (.ref t) H'
theorem fit_lt {x : Int} {k : Nat} (h0 : 0 ≤ x) (h : x < 2 ^ k) (hk : k ≤ 4000) : Fit x := by
  have c : ((2 ^ k : Nat) : Int) = (2 : Int) ^ k := PySem.W.kbt_cast _
  exact ⟨h0, Nat.le_trans (PyProof.Rows.intBits_le (k := k) (by omega)) hk⟩
theorem num_in {tl : Nat} {u : Int} (h : 0 ≤ u) (ht : tl ≤ 24) : 0 ≤ GM.num tl u ∧ GM.num tl u < 2 ^ 25 := by
  have hp := GM.pow_pos' tl
  have h24 : (2 : Int) ^ tl ≤ 2 ^ 24 := GM.pow_le' ht
  have l := Int.emod_lt_of_pos u hp
  have n := Int.emod_nonneg u (show (2 : Int) ^ tl ≠ 0 by omega)
  unfold GM.num
  split <;> omega
theorem ex_in {sc tl : Nat} {u : Int} (hs : sc ≤ 8) (h : u ≤ UU sc tl) : GM.ex tl u ≤ 256 := by
  have hp := GM.pow_pos' tl
  have h8 : (2 : Int) ^ sc ≤ 2 ^ 8 := GM.pow_le' hs
  have : u / 2 ^ tl ≤ 2 ^ sc - 1 := by
    have := Int.ediv_le_ediv hp h
    unfold UU at this
    rw [Int.mul_ediv_cancel _ (by omega)] at this
    exact this
  unfold GM.ex
  omega
theorem UU_pos {sc tl : Nat} (h : 2 ≤ sc) : 0 < UU sc tl ∧ 2 ^ tl ≤ UU sc tl := by
  have hp := GM.pow_pos' tl
  have h4 : (2 : Int) ^ 2 ≤ 2 ^ sc := GM.pow_le' h
  have : 1 * 2 ^ tl ≤ UU sc tl := Int.mul_le_mul_of_nonneg_right (by omega) (by omega)
  omega
theorem ok__law_rounded (B : Bl mg) (L : LL K mg C a1 a2 a3 a4 a5 a6 a7 a8 a9 a10 a11 a12 a13 a14 a15 a16 a17 a18 a19 a20 a21 a22 a23 a24 a25 a26 a27 a28 a29 a30 a31 a32 a33 a34 a35 a36 a37 a38 a39 a40 a41 a42 a43 a44 a45 a46 a47 a48 a49 a50 a51 a52 a53 a54 a55 a56 a57 a58 a59 a60 a61 a62 a63 a64 a65 a66 a67 l1 l2 l3 l4 l5 l6 l7 l8 l9 l10 l11 l12 l13 l14 l15 l16 l17 l18 l19 l20 l21 l22 l23 l24 l25 l26 l27 l28 l29 l30 l31 l32 l33 l34 l35 l36 l37 l38 l39 l40 l41 l42 l43 l44 l45 l46 l47 l48 l49 l50 l51 l52 l53 l54 l55 l56 l57 l58 l59 l60 l61 l62 l63 l64 l65 l66 l67 t62 t63 t64 tg_NEAR tg_CUT tg_UP tg_DOWN w dO esO nO) : FnOk P w K mg base CX0 2 a49 l49 ["_law_scale", "_law_tail", "_law_sign", "_law_worth", "_law_how"] (spLRnd K) := by
  have G__law_size_of : FnOk P w K mg base CX0 1 a47 l47 ["_law_size", "_law_scale", "_law_tail"] spSizeOf := (ok__law_size_of B L).mono (by decide)
  have G__law_less : FnOk P w K mg base CX0 1 a48 l48 ["_law_one", "_law_other"] (spLess K) := (ok__law_less B L).mono (by decide)
  refine L.F__law_rounded.ok sc__law_rounded (fun vs H Q E h => ?_) (fun cdv A outer s H vs Q E hr h => ?_)
  · obtain ⟨sc, tl, s, n, p, wr, more, how, rfl, _⟩ := h
    rfl
  obtain ⟨sc, tl, s, n, p, wr, more, how, rfl, h1, h2, h3, h4, hs, hW, hf, hp1, hp2, hh, hm, q⟩ := h
  refine ⟨_, (pss_cons (ps_if (PW.pt (pw_and (pt_cmpR op_eq (pe_ix ix_tup (pv 3) pe_int (fun _ _ => rfl)) pe_int (nomark _)) (pw_and1 (pt_not (pt_val (pe_ix ix_tup (pv 3) pe_int (fun _ _ => rfl))))))) (pss_one (ps_ret (pe_tup (pa_cons (pe_op op_shlN (pv 2) (pe_op op_add (pv 0) (pv 1))) (pa_cons (pe_tup pa_nil) pa_nil))))) pss_nil)
    (pss_cons (ps_par (by rfl) sc__law_rounded.nd (i := 5) (j := 6) rfl rfl (by decide) rfl rfl (pa_cons pe_int (pa_cons (pe_op op_shlN (pe_op op_sub (pe_op op_oneShl pe_int (pv 0)) pe_int) (pv 1)) pa_nil)) (by rfl))
    (pss_cons (ps_while PassesOwn.never (pt_cmpR op_lt (pe_op op_add (pv 5) pe_int) (pv 6) (nomark _)) (pss_cons (ps_set (i := 7) sc__law_rounded.nd rfl (.inl rfl) (pe_op op_fdiv (pe_op op_add (pv 5) (pv 6)) pe_int))
    (pss_one (ps_asg (pe_ifExp (pt_cmpR op_ge (pe_call G__law_less hr (by rfl) L.m__law_less L.F__law_less.kp L.b__law_less .nil pass0 (pa_cons (pv 3) (pa_cons (pe_call G__law_size_of hr (by rfl) L.m__law_size_of L.F__law_size_of.kp L.b__law_size_of .nil pass0 (pa_cons (pv 7) (pa_cons (pv 0) (pa_cons (pv 1) pa_nil)))) pa_nil))) pe_int (nomark _)) (pe_tup (pa_cons (pv 7) (pa_cons (pv 6) pa_nil))) (pe_tup (pa_cons (pv 5) (pa_cons (pv 7) pa_nil)))) (pg_tup (by rfl) (pgs_cons (pg_name (i := 5) sc__law_rounded.nd rfl (.inl rfl)) (pgs_cons (pg_name (i := 6) sc__law_rounded.nd rfl (.inl rfl)) pgs_nil)))))))
    (pss_cons (ps_set (i := 8) sc__law_rounded.nd rfl (.inl rfl) (pe_cmpR op_ge (pe_call G__law_less hr (by rfl) L.m__law_less L.F__law_less.kp L.b__law_less .nil pass0 (pa_cons (pv 3) (pa_cons (pe_call G__law_size_of hr (by rfl) L.m__law_size_of L.F__law_size_of.kp L.b__law_size_of .nil pass0 (pa_cons (pv 6) (pa_cons (pv 0) (pa_cons (pv 1) pa_nil)))) pa_nil))) pe_int (nomark _)))
    (pss_cons (ps_set (i := 9) sc__law_rounded.nd rfl (.inl rfl) (pe_and (pe_not (pv 8)) (pe_one (pe_cmpR op_eq (pe_call G__law_less hr (by rfl) L.m__law_less L.F__law_less.kp L.b__law_less .nil pass0 (pa_cons (pv 3) (pa_cons (pe_call G__law_size_of hr (by rfl) L.m__law_size_of L.F__law_size_of.kp L.b__law_size_of .nil pass0 (pa_cons (pv 5) (pa_cons (pv 0) (pa_cons (pv 1) pa_nil)))) pa_nil))) pe_int (nomark _)))))
    (pss_cons (ps_par (by rfl) sc__law_rounded.nd (i := 10) (j := 11) rfl rfl (by decide) rfl rfl (pa_cons (pe_call G__law_size_of hr (by rfl) L.m__law_size_of L.F__law_size_of.kp L.b__law_size_of .nil pass0 (pa_cons (pv 5) (pa_cons (pv 0) (pa_cons (pv 1) pa_nil)))) (pa_cons (pe_call G__law_size_of hr (by rfl) L.m__law_size_of L.F__law_size_of.kp L.b__law_size_of .nil pass0 (pa_cons (pv 6) (pa_cons (pv 0) (pa_cons (pv 1) pa_nil)))) pa_nil)) (by rfl))
    (pss_cons (ps_set (i := 12) sc__law_rounded.nd rfl (.inl rfl) (pe_callB (call_min2 rfl) (by rfl) B.min boot_min (pa_cons (pe_ix ix_tup (pv 10) pe_int (fun _ _ => rfl)) (pa_cons (pe_ix ix_tup (pv 11) pe_int (fun _ _ => rfl)) pa_nil))))
    (pss_cons (ps_set (i := 13) sc__law_rounded.nd rfl (.inl rfl) (pe_tup (pa_cons (pe_op op_add (pe_op op_shlN (pe_ix ix_tup (pv 10) pe_int (fun _ _ => rfl)) (pe_op op_sub (pe_ix ix_tup (pv 10) pe_int (fun _ _ => rfl)) (pv 12))) (pe_op op_shlN (pe_ix ix_tup (pv 11) pe_int (fun _ _ => rfl)) (pe_op op_sub (pe_ix ix_tup (pv 11) pe_int (fun _ _ => rfl)) (pv 12)))) (pa_cons (pe_op op_sub (pv 12) pe_int) pa_nil))))
    (pss_cons (ps_set (i := 14) sc__law_rounded.nd rfl (.inl rfl) (pe_call G__law_less hr (by rfl) L.m__law_less L.F__law_less.kp L.b__law_less .nil pass0 (pa_cons (pv 3) (pa_cons (pv 13) pa_nil))))
    (pss_cons (ps_set (i := 15) sc__law_rounded.nd rfl (.inl rfl) (pe_or (pe_and (pe_cmpR op_eq (pv 4) pe_str (nomark _)) (pe_one (pe_cmpR op_eq (pv 2) pe_int (nomark _)))) (pe_one (pe_and (pe_cmpR op_eq (pv 4) pe_str (nomark _)) (pe_one (pe_cmpR op_eq (pv 2) pe_int (nomark _)))))))
    (pss_cons (ps_set (i := 16) sc__law_rounded.nd rfl (.inl rfl) (pe_ifExp (PW.pt (pw_or (pt_val (pv 15)) (pw_or1 (PW.pt (pw_and (pt_cmpR op_eq (pv 4) pe_str (nomark _)) (pw_and1 (PW.pt (pw_or (pt_cmpR op_gt (pv 14) pe_int (nomark _)) (pw_or1 (PW.pt (pw_and (pt_cmpR op_eq (pv 14) pe_int (nomark _)) (pw_and1 (pt_cmpR op_eq (pe_op op_andM (pv 5) pe_int) pe_int (nomark _)))))))))))))) (pv 6) (pv 5)))
    (pss_cons (ps_if (pt_val (pv 9)) (pss_one (ps_ret (pe_tup (pa_cons (pe_op op_add (pe_op op_shlN (pv 2) (pe_op op_add (pv 0) (pv 1))) (pv 5)) (pa_cons (pe_tup pa_nil) pa_nil))))) pss_nil)
    (pss_cons (ps_set (i := 17) sc__law_rounded.nd rfl (.inl rfl) (pe_or (pv 8) (pe_one (pe_cmpR op_eq (pv 16) (pe_op op_shlN (pe_op op_sub (pe_op op_oneShl pe_int (pv 0)) pe_int) (pv 1)) (nomark _)))))
    (pss_cons (ps_if (pt_val (pv 17)) (pss_cons (ps_set (i := 16) sc__law_rounded.nd rfl (.inl rfl) (pe_ifExp (PW.pt (pw_or (pt_val (pv 15)) (pw_or1 (pt_cmpR op_eq (pv 4) pe_str (nomark _))))) (pv 6) (pe_op op_shlN (pe_op op_sub (pe_op op_oneShl pe_int (pv 0)) pe_int) (pv 1))))
    (pss_cons (ps_set (i := 16) sc__law_rounded.nd rfl (.inl rfl) (pe_ifExp (PW.pt (pw_or (pt_val (pv 15)) (pw_or1 (pt_cmpR op_eq (pv 4) pe_str (nomark _))))) (pv 16) (pe_op op_sub (pv 16) pe_int)))
    (pss_one (ps_ret (pe_tup (pa_cons (pe_op op_add (pe_op op_shlN (pv 2) (pe_op op_add (pv 0) (pv 1))) (pv 16)) (pa_cons (pe_tup (pa_cons pe_str (pa_cons pe_str pa_nil))) pa_nil))))))) pss_nil)
    (pss_cons (ps_set (i := 18) sc__law_rounded.nd rfl (.inl rfl) (pe_cmpR op_lt (pe_call G__law_less hr (by rfl) L.m__law_less L.F__law_less.kp L.b__law_less .nil pass0 (pa_cons (pv 3) (pa_cons (pe_call G__law_size_of hr (by rfl) L.m__law_size_of L.F__law_size_of.kp L.b__law_size_of .nil pass0 (pa_cons (pe_op op_oneShl pe_int (pv 1)) (pa_cons (pv 0) (pa_cons (pv 1) pa_nil)))) pa_nil))) pe_int (nomark _)))
    (pss_one (ps_ret (pe_tup (pa_cons (pe_op op_add (pe_op op_shlN (pv 2) (pe_op op_add (pv 0) (pv 1))) (pv 16)) (pa_cons (pe_ifExp (pt_val (pv 18)) (pe_tup (pa_cons pe_str (pa_cons pe_str pa_nil))) (pe_tup (pa_cons pe_str pa_nil))) pa_nil)))))))))))))))))))), ?_⟩
  have pS8 : (2 : Int) ^ sc ≤ 2 ^ 8 := GM.pow_le' h2
  have pS0 : (2 : Int) ^ 2 ≤ 2 ^ sc := GM.pow_le' h1
  have pT0 := GM.pow_pos' tl
  have shS : CShl s ((sc + tl : Nat) : Int) := shl_ok (n := 1) (by omega) (by omega)
  have shU : CShl (2 ^ sc - 1) (tl : Int) := shl_ok (n := 9) (by omega) (by omega)
  refine ⟨_, rfl, wr, _, _, _, rfl, rfl, hW, rfl, rfl, _, rfl, ite2 (fun c => ?_) (fun c => ?_)⟩
  · rw [dvi] at c
    have c0 := of_decide_eq_true c
    cases more with
    | true => exact absurd c0 (hm rfl).1
    | false =>
      refine ⟨_, rfl, wr, _, _, _, rfl, rfl, hW, rfl, _, rfl, iteT ?_⟩
      refine ⟨_, rfl, _, rfl, _, rfl, _, _, rfl, rfl, _, sc + tl, rfl, rfl, shS, Nat.zero_le _, fun e ne => ⟨(by show 2 ≤ sizeLine; decide), fun t nt => ?_⟩⟩
      have se := same_upd (o := .tup []) ne
      refine q t _ (se.free nt) (se.trans (same_upd nt)) ⟨e, ?_, same_upd nt _ _ (by
        unfold GR.rnd
        rw [if_pos c0]
        exact upd_same)⟩
      unfold GR.rnd
      rw [if_pos c0, upd_same, (wrd_U sc tl s).2.2]
  rw [dvi] at c
  have hn : n ≠ 0 := of_decide_eq_false (Bool.eq_false_iff.mpr c)
  have hn0 : 0 < n := by
    have := hf.1
    omega
  -- one scale for all
  obtain ⟨B, hB⟩ : ∃ B : Int, B = (if GR.lea sc tl < p then GR.lea sc tl else p) - 1 := ⟨_, rfl⟩
  have hle := lap_in (sc := sc) (tl := tl) hf hp1 hp2 h2 h4
  obtain ⟨a, ha⟩ : ∃ a : Nat, p - B = a := ⟨(p - B).toNat, by split at hB <;> omega⟩
  obtain ⟨b, hb⟩ : ∃ b : Nat, GR.lea sc tl - B = (b : Int) + 1 := ⟨(GR.lea sc tl - B).toNat - 1, by split at hB <;> omega⟩
  have F := GR.floor_facts (sc := sc) (tl := tl) (n := n) (p := p) (more := more) h3 hn0 (fun z => (hm z).2) ha hb
  have lessV : ∀ u, lessF n p more (GM.num tl u) (GR.lea sc tl + (GM.ex tl u : Nat)) = GR.cmpM (n * 2 ^ a) (2 ^ a) (GR.W tl u * 2 ^ (b + 1)) more := fun u => by
    rw [less_scale (B := B) (a := a) (c := GM.ex tl u + (b + 1)) ha (by omega), GM.pow_add', ← Int.mul_assoc]
    rfl
  obtain ⟨uu1, uu2⟩ := UU_pos (sc := sc) (tl := tl) h1
  have fitN : ∀ u : Int, 0 ≤ u → Fit (GM.num tl u) := fun u u0 => fit_lt (num_in (tl := tl) u0 h4).1 (num_in (tl := tl) u0 h4).2 (by decide)
  have xlo : ∀ u : Int, u ≤ UU sc tl → -20000 ≤ GR.lea sc tl + (GM.ex tl u : Nat) ∧ GR.lea sc tl + (GM.ex tl u : Nat) ≤ 20000 := fun u u1 => by
    have xi := ex_in (tl := tl) h2 u1
    omega
  refine ⟨_, rfl, sc, rfl, rfl, by omega, _, _, rfl, rfl, _, rfl, _, tl, rfl, rfl, shU, _, _, rfl, ?_⟩
  generalize hL0 : (GR.lap sc tl n p - GR.lea sc tl) * 2 ^ tl + GR.prQ n (GR.lap sc tl n p - p) = low0 at *
  refine ⟨fun m σ H5 => ∃ (lo hi : Int) (y7 : Option V), σ = [some (.int (sc : Int)), some (.int (tl : Int)), some (.int s), some (.ref wr), some (.str how), some (.int lo), some (.int hi), y7, none, none, none, none, none, none, none, none, none, none, none] ∧ Same H H5 ∧ 0 ≤ lo ∧ lo < hi ∧ hi ≤ UU sc tl ∧ lo ≤ low0 ∧ (hi = UU sc tl ∨ low0 < hi) ∧ (m : Int) = hi - lo,
    ⟨(UU sc tl).toNat, 0, UU sc tl, none, rfl, Same.refl _, by omega, uu1, Int.le_refl _, F.lo0, .inl rfl, by omega⟩, ?_⟩
  rintro m σ H5 ⟨lo, hi, y7, rfl, s5, l0, l1, l2, l3, l4, hm5⟩
  refine ⟨_, rfl, _, _, rfl, rfl, _, rfl, _, _, rfl, rfl, _, rfl, ite2 (fun c5 => ?_) (fun c5 => ?_)⟩
  · have c6 : lo + 1 < hi := of_decide_eq_true c5
    refine ⟨fun σ' H' => ∃ (lo' hi' : Int) (y7 : Option V), σ' = [some (.int (sc : Int)), some (.int (tl : Int)), some (.int s), some (.ref wr), some (.str how), some (.int lo'), some (.int hi'), y7, none, none, none, none, none, none, none, none, none, none, none] ∧ Same H H' ∧ 0 ≤ lo' ∧ lo' < hi' ∧ hi' ≤ UU sc tl ∧ lo' ≤ low0 ∧ (hi' = UU sc tl ∨ low0 < hi') ∧ hi' - lo' < hi - lo, fun σ' H' ⟨lo', hi', y, e1, e2, e3, e4, e5, e6, e7, e8⟩ => ⟨(hi' - lo').toNat, by omega, lo', hi', y, e1, e2, e3, e4, e5, e6, e7, by omega⟩, ?_⟩
    refine ⟨_, rfl, _, rfl, _, _, rfl, rfl, _, _, rfl, rfl, ⟨by decide, by decide⟩, ?_⟩
    refine ⟨_, rfl, _, rfl, _, rfl, _, rfl, (lo + hi) / 2, sc, tl, rfl, by omega, by omega, h2, h4, fun t nt => ⟨wr, _, n, p, _, _, more, rfl, Same.seqT (s5.trans (same_upd nt)) hW, .inl (.inl upd_same), hf, fitN _ (by omega), by omega, by omega, (xlo _ (by omega)).1, (xlo _ (by omega)).2, ?_⟩⟩
    rw [lessV]
    have s6 := s5.trans (same_upd (o := .tup [.int (GM.num tl ((lo + hi) / 2)), .int (GR.lea sc tl + (GM.ex tl ((lo + hi) / 2) : Nat))]) nt)
    refine ⟨_, _, rfl, rfl, _, rfl, ite2 (fun d => ?_) (fun d => ?_)⟩
    · have d1 : 0 ≤ GR.cmpM (n * 2 ^ a) (2 ^ a) (GR.W tl ((lo + hi) / 2) * 2 ^ (b + 1)) more := of_decide_eq_true d
      have d2 : (lo + hi) / 2 ≤ low0 := by
        rcases Int.lt_or_le low0 ((lo + hi) / 2) with z | z
        · have := F.gt _ z
          omega
        · exact z
      refine ⟨_, rfl, _, rfl, (by show 2 ≤ sizeLine; decide), fun t2 nt2 => ⟨t2, _, rfl, .inl (.inl upd_same), rfl, _, _, rfl, _, _, rfl, rfl, ?_⟩⟩
      exact ⟨_, _, _, rfl, s6.trans (same_upd nt2), by omega, by omega, l2, d2, l4, by omega⟩
    · have d1 : ¬ 0 ≤ GR.cmpM (n * 2 ^ a) (2 ^ a) (GR.W tl ((lo + hi) / 2) * 2 ^ (b + 1)) more := of_decide_eq_false (Bool.eq_false_iff.mpr d)
      have d2 : low0 < (lo + hi) / 2 := by
        rcases Int.lt_or_le low0 ((lo + hi) / 2) with z | z
        · exact z
        · exact absurd (F.le _ (by omega) z) d1
      refine ⟨_, rfl, _, rfl, (by show 2 ≤ sizeLine; decide), fun t2 nt2 => ⟨t2, _, rfl, .inl (.inl upd_same), rfl, _, _, rfl, _, _, rfl, rfl, ?_⟩⟩
      exact ⟨_, _, _, rfl, s6.trans (same_upd nt2), by omega, by omega, by omega, l3, .inr d2, by omega⟩
  have c6 : ¬ lo + 1 < hi := of_decide_eq_false (Bool.eq_false_iff.mpr c5)
  have ehi : hi = lo + 1 := by omega
  have RS := rnd_srch (how := how) (lo := lo) (hi := hi) hh hs hn uu1 (by rw [hL0]; exact F) ehi (by rw [hL0]; exact l3) (by rw [hL0]; omega)
  rw [← RS] at q
  unfold srch at q
  clear RS hm5 c5
  -- beyond
  refine ⟨_, rfl, _, rfl, _, rfl, _, rfl, hi, sc, tl, rfl, by omega, by omega, h2, h4, fun t1 nt1 => ⟨wr, _, n, p, _, _, more, rfl, Same.seqT (s5.trans (same_upd nt1)) hW, .inl (.inl upd_same), hf, fitN _ (by omega), by omega, by omega, (xlo _ l2).1, (xlo _ l2).2, ?_⟩⟩
  rw [lessV]
  have s6 := s5.trans (same_upd (o := .tup [.int (GM.num tl hi), .int (GR.lea sc tl + (GM.ex tl hi : Nat))]) nt1)
  refine ⟨_, _, rfl, rfl, ?_⟩
  have pair : ∀ (H5 : Hp) (e : Addr) (r : Int × List Str), Same H H5 → H5 e = some (.tup (r.2.map V.str)) → (∀ t H', H t = none → Same H H' → PairAt H' t r → Q (.ref t) H') → ∀ t, H5 t = none → Q (.ref t) (upd H5 t (.tup [.int r.1, .ref e])) := fun H5 e r s5 he hq t nt =>
    hq t _ (s5.free nt) (s5.trans (same_upd nt)) ⟨e, upd_same, same_upd nt _ _ he⟩
  generalize hcb : decide (0 ≤ GR.cmpM (n * 2 ^ a) (2 ^ a) (GR.W tl hi * 2 ^ (b + 1)) more) = cb at q
  refine gB (u := cb) hcb ?_
  generalize (upd H5 t1 (.tup [.int (GM.num tl hi), .int (GR.lea sc tl + (GM.ex tl hi : Nat))])) = H6 at s6 ⊢
  -- just
  apply cutH (H := H)
  case h2 =>
    intro rest
    refine ⟨_, rfl, _, rfl, _, rfl, ?_⟩
    by_cases hc : cb = true
    · have e0 : false = (!cb && decide (GR.cmpM (n * 2 ^ a) (2 ^ a) (GR.W tl lo * 2 ^ (b + 1)) more = 0)) := by rw [hc]; rfl
      rw [show (!cb) = false by rw [hc]; rfl]
      exact iteF (gB e0 (rest H6 s6))
    · have hc' : cb = false := Bool.eq_false_iff.mpr hc
      rw [show (!cb) = true by rw [hc']; rfl]
      refine iteT ?_
      refine ⟨_, rfl, _, rfl, _, rfl, _, rfl, lo, sc, tl, rfl, l0, by omega, h2, h4, fun t2 nt2 => ⟨wr, _, n, p, _, _, more, rfl, Same.seqT (s6.trans (same_upd nt2)) hW, .inl (.inl upd_same), hf, fitN _ l0, by omega, by omega, (xlo _ (by omega)).1, (xlo _ (by omega)).2, ?_⟩⟩
      rw [lessV]
      have s7 := s6.trans (same_upd (o := .tup [.int (GM.num tl lo), .int (GR.lea sc tl + (GM.ex tl lo : Nat))]) nt2)
      refine ⟨rfl, ?_⟩
      have e0 : decide (V.int (GR.cmpM (n * 2 ^ a) (2 ^ a) (GR.W tl lo * 2 ^ (b + 1)) more) = V.int 0) = (!cb && decide (GR.cmpM (n * 2 ^ a) (2 ^ a) (GR.W tl lo * 2 ^ (b + 1)) more = 0)) := by rw [dvi, hc']; rfl
      generalize (upd H6 t2 (.tup [.int (GM.num tl lo), .int (GR.lea sc tl + (GM.ex tl lo : Nat))])) = H7 at s7 ⊢
      exact gB e0 (rest H7 s7)
  intro H7 s7
  generalize hjs : (!cb && decide (GR.cmpM (n * 2 ^ a) (2 ^ a) (GR.W tl lo * 2 ^ (b + 1)) more = 0)) = js at q ⊢
  -- one, other
  refine ⟨_, rfl, _, rfl, _, rfl, lo, sc, tl, rfl, l0, by omega, h2, h4, fun t1 nt1 => ?_⟩
  refine ⟨_, rfl, _, rfl, _, rfl, hi, sc, tl, rfl, by omega, by omega, h2, h4, fun t2 nt2 => ?_⟩
  refine ⟨_, _, rfl, ?_⟩
  have sa := same_upd (o := .tup [.int (GM.num tl lo), .int (GR.lea sc tl + (GM.ex tl lo : Nat))]) nt1
  have sb := same_upd (o := .tup [.int (GM.num tl hi), .int (GR.lea sc tl + (GM.ex tl hi : Nat))]) nt2
  have x1 := sb _ _ (show (upd H7 t1 (.tup [.int (GM.num tl lo), .int (GR.lea sc tl + (GM.ex tl lo : Nat))])) t1 = some (.tup [.int (GM.num tl lo), .int (GR.lea sc tl + (GM.ex tl lo : Nat))]) from upd_same)
  have x2 : (upd (upd H7 t1 (.tup [.int (GM.num tl lo), .int (GR.lea sc tl + (GM.ex tl lo : Nat))])) t2 (.tup [.int (GM.num tl hi), .int (GR.lea sc tl + (GM.ex tl hi : Nat))])) t2 = some (.tup [.int (GM.num tl hi), .int (GR.lea sc tl + (GM.ex tl hi : Nat))]) := upd_same
  have s8 := s7.trans (sa.trans sb)
  generalize (upd (upd H7 t1 (.tup [.int (GM.num tl lo), .int (GR.lea sc tl + (GM.ex tl lo : Nat))])) t2 (.tup [.int (GM.num tl hi), .int (GR.lea sc tl + (GM.ex tl hi : Nat))])) = H8 at x1 x2 s8 ⊢
  have xl := ex_in (tl := tl) (u := lo) h2 (by omega)
  have xh := ex_in (tl := tl) (u := hi) h2 l2
  obtain ⟨c, hc⟩ : ∃ c : Nat, lw (GR.lea sc tl + (GM.ex tl lo : Nat)) (GR.lea sc tl + (GM.ex tl hi : Nat)) - 1 - B = c := ⟨(lw (GR.lea sc tl + (GM.ex tl lo : Nat)) (GR.lea sc tl + (GM.ex tl hi : Nat)) - 1 - B).toNat, by unfold lw; split <;> omega⟩
  have bl1 : lw (GR.lea sc tl + (GM.ex tl lo : Nat)) (GR.lea sc tl + (GM.ex tl hi : Nat)) ≤ GR.lea sc tl + (GM.ex tl lo : Nat) ∧ lw (GR.lea sc tl + (GM.ex tl lo : Nat)) (GR.lea sc tl + (GM.ex tl hi : Nat)) ≤ GR.lea sc tl + (GM.ex tl hi : Nat) ∧ GR.lea sc tl ≤ lw (GR.lea sc tl + (GM.ex tl lo : Nat)) (GR.lea sc tl + (GM.ex tl hi : Nat)) := by
    unfold lw
    split <;> omega
  have hval : ∀ k1 k2 : Nat, GR.lea sc tl + (GM.ex tl lo : Nat) - lw (GR.lea sc tl + (GM.ex tl lo : Nat)) (GR.lea sc tl + (GM.ex tl hi : Nat)) = k1 → GR.lea sc tl + (GM.ex tl hi : Nat) - lw (GR.lea sc tl + (GM.ex tl lo : Nat)) (GR.lea sc tl + (GM.ex tl hi : Nat)) = k2 →
      lessF n p more (GM.num tl lo * 2 ^ k1 + GM.num tl hi * 2 ^ k2) (lw (GR.lea sc tl + (GM.ex tl lo : Nat)) (GR.lea sc tl + (GM.ex tl hi : Nat)) - 1) = GR.cmpM (n * 2 ^ a * 2) (2 ^ a * 2) (GR.W tl lo * 2 ^ (b + 1) + GR.W tl hi * 2 ^ (b + 1)) more ∧ Fit (GM.num tl lo * 2 ^ k1 + GM.num tl hi * 2 ^ k2) := fun k1 k2 g1 g2 => by
    have n1 := num_in (tl := tl) l0 h4
    have n2 := num_in (tl := tl) (u := hi) (by omega) h4
    constructor
    · rw [less_scale (B := B) (a := a) (c := c) ha hc, ← GR.cmp_scale (c := 2) (by decide)]
      congr 1
      rw [Int.mul_assoc, ← GM.pow_s, Int.add_mul, Int.mul_assoc, Int.mul_assoc, ← GM.pow_add', ← GM.pow_add']
      unfold GR.W
      rw [Int.mul_assoc, Int.mul_assoc, ← GM.pow_add', ← GM.pow_add', show k1 + (c + 1) = GM.ex tl lo + (b + 1) by omega, show k2 + (c + 1) = GM.ex tl hi + (b + 1) by omega]
    · have hk1 : k1 ≤ 300 := by omega
      have hk2 : k2 ≤ 300 := by omega
      have p1 := GM.pow_pos' k1
      have p2 := GM.pow_pos' k2
      have q1 : (2 : Int) ^ k1 ≤ 2 ^ 300 := GM.pow_le' hk1
      have q2 : (2 : Int) ^ k2 ≤ 2 ^ 300 := GM.pow_le' hk2
      have m1 : GM.num tl lo * 2 ^ k1 ≤ 2 ^ 25 * 2 ^ 300 := Int.mul_le_mul (by omega) q1 (by omega) (by decide)
      have m2 : GM.num tl hi * 2 ^ k2 ≤ 2 ^ 25 * 2 ^ 300 := Int.mul_le_mul (by omega) q2 (by omega) (by decide)
      have z1 := Int.mul_nonneg n1.1 (Int.le_of_lt p1)
      have z2 := Int.mul_nonneg n2.1 (Int.le_of_lt p2)
      refine fit_lt (k := 327) (by omega) ?_ (by decide)
      rw [← GM.pow_add'] at m1 m2
      have e3 : (2 : Int) ^ (25 + 300) * 2 < 2 ^ 327 := by
        rw [← GM.pow_s]
        have := GM.pow_s 326
        have := GM.pow_pos' 326
        show (2 : Int) ^ 326 < 2 ^ 327
        omega
      omega
  generalize hb1 : lw (GR.lea sc tl + (GM.ex tl lo : Nat)) (GR.lea sc tl + (GM.ex tl hi : Nat)) = bs at hc bl1 hval
  -- base, half, side
  refine ⟨_, rfl, t1, _, _, _, rfl, rfl, .inl (.inl x1), rfl, _, rfl, t2, _, _, _, rfl, rfl, .inl (.inl x2), rfl, _, _, rfl, ?_⟩
  refine gI (u := bs) hb1 ?_
  obtain ⟨k1, hk1⟩ : ∃ k1 : Nat, GR.lea sc tl + (GM.ex tl lo : Nat) - bs = k1 := ⟨(GR.lea sc tl + (GM.ex tl lo : Nat) - bs).toNat, by omega⟩
  obtain ⟨k2, hk2⟩ : ∃ k2 : Nat, GR.lea sc tl + (GM.ex tl hi : Nat) - bs = k2 := ⟨(GR.lea sc tl + (GM.ex tl hi : Nat) - bs).toNat, by omega⟩
  obtain ⟨v1, v2⟩ := hval k1 k2 hk1 hk2
  refine ⟨_, rfl, t1, _, _, _, rfl, rfl, .inl (.inl x1), rfl, _, rfl, t1, _, _, _, rfl, rfl, .inl (.inl x1), rfl, _, rfl, _, _, rfl, rfl, _, k1, rfl, congrArg V.int hk1, fit_shl (fitN lo l0) (by omega), ?_⟩
  refine ⟨_, rfl, t2, _, _, _, rfl, rfl, .inl (.inl x2), rfl, _, rfl, t2, _, _, _, rfl, rfl, .inl (.inl x2), rfl, _, rfl, _, _, rfl, rfl, _, k2, rfl, congrArg V.int hk2, fit_shl (fitN hi (by omega)) (by omega), _, _, rfl, rfl, _, rfl, _, _, rfl, rfl, (by show 2 ≤ sizeLine; decide), fun th nth => ?_⟩
  have s9 := s8.trans (same_upd (o := .tup [.int (GM.num tl lo * 2 ^ k1 + GM.num tl hi * 2 ^ k2), .int (bs - 1)]) nth)
  refine ⟨_, rfl, _, rfl, wr, th, n, p, _, _, more, rfl, Same.seqT s9 hW, .inl (.inl upd_same), hf, v2, by omega, by omega, by omega, by omega, ?_⟩
  refine gI (u := GR.cmpM (n * 2 ^ a * 2) (2 ^ a * 2) (GR.W tl lo * 2 ^ (b + 1) + GR.W tl hi * 2 ^ (b + 1)) more) v1 ?_
  generalize GR.cmpM (n * 2 ^ a * 2) (2 ^ a * 2) (GR.W tl lo * 2 ^ (b + 1) + GR.W tl hi * 2 ^ (b + 1)) more = sd at q ⊢
  generalize (upd H8 th (.tup [.int (GM.num tl lo * 2 ^ k1 + GM.num tl hi * 2 ^ k2), .int (bs - 1)])) = H9 at s9 ⊢
  -- away
  apply cutP
  case h2 =>
    intro rest
    refine ⟨_, rfl, rfl, _, rfl, ?_⟩
    rw [dvs]
    by_cases e1 : how = "up"
    · rw [decide_eq_true e1]
      refine iteT ⟨_, rfl, rfl, _, rfl, ?_⟩
      rw [dvi]
      by_cases e2 : s = 0
      · rw [decide_eq_true e2]
        exact iteT (gB (show true = aww how s by unfold aww; rw [decide_eq_true e1, decide_eq_true e2]; rfl) rest)
      · rw [decide_eq_false e2]
        refine iteF ⟨_, rfl, rfl, _, rfl, ?_⟩
        rw [dvs, decide_eq_false (show ¬ how = "down" by rw [e1]; decide)]
        exact iteF (gB (show false = aww how s by unfold aww; rw [decide_eq_true e1, decide_eq_false e2, decide_eq_false (show ¬ how = "down" by rw [e1]; decide)]; rfl) rest)
    · rw [decide_eq_false e1]
      refine iteF ⟨_, rfl, iteF ⟨_, rfl, rfl, _, rfl, ?_⟩⟩
      rw [dvs]
      by_cases e2 : how = "down"
      · rw [decide_eq_true e2]
        exact iteT ⟨_, rfl, rfl, gB (show decide (V.int s = V.int 1) = aww how s by rw [dvi]; unfold aww; rw [decide_eq_false e1, decide_eq_true e2]; rfl) rest⟩
      · rw [decide_eq_false e2]
        exact iteF (gB (show false = aww how s by unfold aww; rw [decide_eq_false e1, decide_eq_false e2]; rfl) rest)
  generalize aww how s = aw at q ⊢
  -- size
  apply cutP
  case h2 =>
    intro rest
    refine ⟨_, rfl, _, rfl, ite2 (fun e1 => ?_) (fun e1 => ?_)⟩
    · exact ⟨_, rfl, gI (show hi = sel aw how sd lo hi by unfold sel; rw [e1, Bool.true_or, if_pos rfl]) rest⟩
    · have e1' : aw = false := Bool.eq_false_iff.mpr e1
      refine ⟨_, rfl, rfl, _, rfl, ?_⟩
      rw [dvs]
      by_cases e2 : how = "near"
      · rw [decide_eq_true e2]
        refine iteT ⟨_, rfl, _, _, rfl, rfl, _, rfl, ?_⟩
        by_cases e3 : sd > 0
        · rw [decide_eq_true e3]
          exact iteT ⟨_, rfl, gI (show hi = sel aw how sd lo hi by unfold sel nr2; rw [e1', decide_eq_true e2, decide_eq_true e3]; rfl) rest⟩
        · rw [decide_eq_false e3]
          refine iteF ⟨_, rfl, rfl, _, rfl, ?_⟩
          rw [dvi]
          by_cases e4 : sd = 0
          · rw [decide_eq_true e4]
            refine iteT ⟨_, rfl, _, 1, rfl, rfl, rfl, _, rfl, ?_⟩
            by_cases e5 : lo % 2 = 1
            · rw [show decide (V.int (lo % 2 ^ 1) = V.int 1) = true by rw [dvi]; exact decide_eq_true e5]
              exact iteT ⟨_, rfl, gI (show hi = sel aw how sd lo hi by unfold sel nr2; rw [e1', decide_eq_true e2, decide_eq_false e3, decide_eq_true e4, decide_eq_true e5]; rfl) rest⟩
            · rw [show decide (V.int (lo % 2 ^ 1) = V.int 1) = false by rw [dvi]; exact decide_eq_false e5]
              exact iteF ⟨_, rfl, gI (show lo = sel aw how sd lo hi by unfold sel nr2; rw [e1', decide_eq_true e2, decide_eq_false e3, decide_eq_true e4, decide_eq_false e5]; rfl) rest⟩
          · rw [decide_eq_false e4]
            exact iteF ⟨_, rfl, gI (show lo = sel aw how sd lo hi by unfold sel nr2; rw [e1', decide_eq_true e2, decide_eq_false e3, decide_eq_false e4]; rfl) rest⟩
      · rw [decide_eq_false e2]
        exact iteF ⟨_, rfl, gI (show lo = sel aw how sd lo hi by unfold sel; rw [e1', decide_eq_false e2]; rfl) rest⟩
  generalize hsel : sel aw how sd lo hi = si at q ⊢
  have hsi : 0 ≤ si ∧ si ≤ UU sc tl := by
    rw [← hsel]
    unfold sel
    split <;> omega
  -- just
  refine ⟨_, rfl, _, rfl, ite2 (fun e1 => ?_) (fun e1 => ?_)⟩
  · rw [if_pos e1] at q
    refine ⟨_, rfl, _, rfl, _, rfl, _, _, rfl, rfl, _, sc + tl, rfl, rfl, shS, _, rfl, _, _, rfl, rfl, Nat.zero_le _, fun e ne => ⟨(by show 2 ≤ sizeLine; decide), fun t nt => ?_⟩⟩
    exact pair _ e (_, []) (s9.trans (same_upd ne)) upd_same q t nt
  rw [if_neg e1] at q
  -- over
  apply cutP
  case h2 =>
    intro rest
    refine ⟨_, rfl, _, rfl, ite2 (fun e2 => ?_) (fun e2 => ?_)⟩
    · exact (gB (show true = (cb || decide (si = UU sc tl)) by rw [e2]; rfl) rest)
    · have e2' : cb = false := Bool.eq_false_iff.mpr e2
      exact ⟨_, rfl, _, rfl, sc, rfl, rfl, by omega, _, _, rfl, rfl, _, rfl, _, tl, rfl, rfl, shU, rfl, gB (show decide (V.int si = V.int ((2 ^ sc - 1) * 2 ^ tl)) = (cb || decide (si = UU sc tl)) by rw [dvi, e2']; rfl) rest⟩
  generalize (cb || decide (si = UU sc tl)) = ov at q ⊢
  refine ⟨_, rfl, _, rfl, ite2 (fun e2 => ?_) (fun e2 => ?_)⟩
  · rw [if_pos e2] at q
    have fin : ∀ z : Int, (if (aw || decide (how = "near")) = true then hi else UU sc tl - 1) = z → ∀ (e : Addr), H9 e = none → ∀ t, (upd H9 e (.tup [.str "over", .str "rounded"])) t = none → Q (.ref t) (upd (upd H9 e (.tup [.str "over", .str "rounded"])) t (.tup [.int (s * 2 ^ (sc + tl) + z), .ref e])) := fun z hz e ne t nt => by
      rw [hz] at q
      exact pair _ e (_, ["over", "rounded"]) (s9.trans (same_upd ne)) upd_same q t nt
    refine ⟨_, rfl, _, rfl, ite2 (fun e3 => ?_) (fun e3 => ?_)⟩
    · refine ⟨_, rfl, ?_⟩
      refine ⟨_, rfl, _, rfl, ite2 (fun _ => ?_) (fun z => absurd e3 z)⟩
      refine ⟨_, rfl, ?_⟩
      refine ⟨_, rfl, _, rfl, _, rfl, _, _, rfl, rfl, _, sc + tl, rfl, rfl, shS, _, rfl, _, _, rfl, rfl, (by show 2 ≤ sizeLine; decide), fun e ne => ⟨(by show 2 ≤ sizeLine; decide), fun t nt => ?_⟩⟩
      exact fin hi (by rw [e3, Bool.true_or, if_pos rfl]) e ne t nt
    · have e3' : aw = false := Bool.eq_false_iff.mpr e3
      refine ⟨_, rfl, rfl, _, rfl, ?_⟩
      rw [dvs]
      by_cases e4 : how = "near"
      · rw [decide_eq_true e4]
        refine iteT ⟨_, rfl, ?_⟩
        refine ⟨_, rfl, _, rfl, ite2 (fun z => absurd z e3) (fun _ => ?_)⟩
        refine ⟨_, rfl, rfl, _, rfl, ?_⟩
        rw [dvs, decide_eq_true e4]
        refine iteT ⟨_, rfl, ?_⟩
        refine ⟨_, rfl, _, rfl, _, rfl, _, _, rfl, rfl, _, sc + tl, rfl, rfl, shS, _, rfl, _, _, rfl, rfl, (by show 2 ≤ sizeLine; decide), fun e ne => ⟨(by show 2 ≤ sizeLine; decide), fun t nt => ?_⟩⟩
        exact fin hi (by rw [e3', decide_eq_true e4]; rfl) e ne t nt
      · rw [decide_eq_false e4]
        refine iteF ⟨_, rfl, sc, rfl, rfl, by omega, _, _, rfl, rfl, _, rfl, _, tl, rfl, rfl, shU, ?_⟩
        refine ⟨_, rfl, _, rfl, ite2 (fun z => absurd z e3) (fun _ => ?_)⟩
        refine ⟨_, rfl, rfl, _, rfl, ?_⟩
        rw [dvs, decide_eq_false e4]
        refine iteF ⟨_, rfl, _, _, rfl, rfl, ?_⟩
        refine ⟨_, rfl, _, rfl, _, rfl, _, _, rfl, rfl, _, sc + tl, rfl, rfl, shS, _, rfl, _, _, rfl, rfl, (by show 2 ≤ sizeLine; decide), fun e ne => ⟨(by show 2 ≤ sizeLine; decide), fun t nt => ?_⟩⟩
        exact fin (UU sc tl - 1) (by rw [e3', decide_eq_false e4]; rfl) e ne t nt
  rw [if_neg e2] at q
  -- under
  refine ⟨_, rfl, _, rfl, tl, rfl, rfl, by omega, _, rfl, _, rfl, 2 ^ tl, sc, tl, rfl, by omega, by omega, h2, h4, fun t3 nt3 => ⟨wr, _, n, p, _, _, more, rfl, Same.seqT (s9.trans (same_upd nt3)) hW, .inl (.inl upd_same), hf, fitN _ (by omega), by omega, by omega, (xlo _ uu2).1, (xlo _ uu2).2, ?_⟩⟩
  rw [lessV]
  have s10 := s9.trans (same_upd (o := .tup [.int (GM.num tl (2 ^ tl)), .int (GR.lea sc tl + (GM.ex tl (2 ^ tl) : Nat))]) nt3)
  refine ⟨_, _, rfl, rfl, ?_⟩
  generalize hud : decide (GR.cmpM (n * 2 ^ a) (2 ^ a) (GR.W tl (2 ^ tl) * 2 ^ (b + 1)) more < 0) = ud at q
  refine ⟨_, rfl, _, rfl, _, rfl, _, _, rfl, rfl, _, sc + tl, rfl, rfl, shS, _, rfl, _, _, rfl, rfl, _, rfl, _, rfl, ite2 (fun e3 => ?_) (fun e3 => ?_)⟩
  · rw [if_pos (show ud = true from hud.symm.trans e3)] at q
    refine ⟨(by show 2 ≤ sizeLine; decide), fun e ne => ⟨(by show 2 ≤ sizeLine; decide), fun t nt => ?_⟩⟩
    exact pair _ e (_, ["under", "rounded"]) (s10.trans (same_upd ne)) upd_same q t nt
  · rw [if_neg (show ¬ ud = true from fun z => e3 (hud.trans z))] at q
    refine ⟨(by show 1 ≤ sizeLine; decide), fun e ne => ⟨(by show 2 ≤ sizeLine; decide), fun t nt => ?_⟩⟩
    exact pair _ e (_, ["rounded"]) (s10.trans (same_upd ne)) upd_same q t nt
end
section
variable {P : Program} {w : World} {K : PySem.W.Frag} {mg : Str → Option Value} {base : Heap}
variable {C : Addr} {a1 a2 a3 a4 a5 a6 a7 a8 a9 a10 a11 a12 a13 a14 a15 a16 a17 a18 a19 a20 a21 a22 a23 a24 a25 a26 a27 a28 a29 a30 a31 a32 a33 a34 a35 a36 a37 a38 a39 a40 a41 a42 a43 a44 a45 a46 a47 a48 a49 a50 a51 a52 a53 a54 a55 a56 a57 a58 a59 a60 a61 a62 a63 a64 a65 a66 a67 : Addr} {l1 l2 l3 l4 l5 l6 l7 l8 l9 l10 l11 l12 l13 l14 l15 l16 l17 l18 l19 l20 l21 l22 l23 l24 l25 l26 l27 l28 l29 l30 l31 l32 l33 l34 l35 l36 l37 l38 l39 l40 l41 l42 l43 l44 l45 l46 l47 l48 l49 l50 l51 l52 l53 l54 l55 l56 l57 l58 l59 l60 l61 l62 l63 l64 l65 l66 l67 : FuncData} {t62 t63 t64 tg_NEAR tg_CUT tg_UP tg_DOWN : Tok} {dO : Addr} {esO : Array DictEntry} {nO : Nat}
/-! ### terms and their sums -/
def ab (z : Int) : Int := if z < 0 then -z else z
theorem ab_nn (n : Int) : 0 ≤ ab n := by
  unfold ab
  split <;> omega
def TermAt (H : Hp) (t : Addr) (s : Int) : Option (Int × Int) → Prop
  | none => H t = some (.tup [.int s, .non])
  | some w => ∃ u, H t = some (.tup [.int s, .ref u]) ∧ H u = some (.tup [.int w.1, .int w.2])
theorem TermAt.same {H H' : Hp} {t : Addr} {s : Int} {o : Option (Int × Int)} (h : TermAt H t s o) (k : Same H H') : TermAt H' t s o := by
  cases o with
  | none => exact k _ _ h
  | some w => exact ⟨h.choose, k _ _ h.choose_spec.1, k _ _ h.choose_spec.2⟩
def wo (sc tl : Nat) (v : Int) : Option (Int × Int) := if GM.topS sc tl ≤ sz sc tl v then none else some (wn sc tl v, wp sc tl v)
def spTermOf (C : Addr) : Sp := fun vs H Q _ => ∃ (x : Addr) (sc tl : Nat) (v : Int), vs = [.ref x, .int v] ∧ FAt C H x sc tl ∧ ∀ t H', Same H H' → TermAt H' t (GM.sgn sc tl v) (wo sc tl v) → Q (.ref t) H'
theorem ok_term_of (B : Bl mg) (L : LL K mg C a1 a2 a3 a4 a5 a6 a7 a8 a9 a10 a11 a12 a13 a14 a15 a16 a17 a18 a19 a20 a21 a22 a23 a24 a25 a26 a27 a28 a29 a30 a31 a32 a33 a34 a35 a36 a37 a38 a39 a40 a41 a42 a43 a44 a45 a46 a47 a48 a49 a50 a51 a52 a53 a54 a55 a56 a57 a58 a59 a60 a61 a62 a63 a64 a65 a66 a67 l1 l2 l3 l4 l5 l6 l7 l8 l9 l10 l11 l12 l13 l14 l15 l16 l17 l18 l19 l20 l21 l22 l23 l24 l25 l26 l27 l28 l29 l30 l31 l32 l33 l34 l35 l36 l37 l38 l39 l40 l41 l42 l43 l44 l45 l46 l47 l48 l49 l50 l51 l52 l53 l54 l55 l56 l57 l58 l59 l60 l61 l62 l63 l64 l65 l66 l67 t62 t63 t64 tg_NEAR tg_CUT tg_UP tg_DOWN w dO esO nO) : FnOk P w K mg base CX0 4 a20 l20 ["form", "word"] (spTermOf C) := by
  have G_sign_of : FnOk P w K mg base CX0 3 a18 l18 ["form", "word"] (spSgn C) := (ok_sign_of B L).mono (by decide)
  have G_Form_worth : FnOk P w K mg base CX0 3 a67 l67 ["self", "word"] (spWorth C) := (ok_Form_worth B L).mono (by decide)
  refine L.F_term_of.ok sc_term_of (fun vs H Q E h => ?_) (fun cdv A outer s H vs Q E hr h => ?_)
  · obtain ⟨x, sc, tl, v, rfl, _⟩ := h
    rfl
  obtain ⟨x, sc, tl, v, rfl, hF, q⟩ := h
  refine ⟨_, (pss_one (ps_ret (pe_tup (pa_cons (pe_call G_sign_of hr (by rfl) L.m_sign_of L.F_sign_of.kp L.b_sign_of .nil pass0 (pa_cons (pv 0) (pa_cons (pv 1) pa_nil))) (pa_cons (pe_meth (pv 0) L.T.cl L.M_Form_worth G_Form_worth hr L.b_Form_worth .nil pass0 (pa_cons (pv 1) pa_nil)) pa_nil))))), ?_⟩
  refine ⟨_, rfl, _, rfl, x, sc, tl, v, rfl, hF, fun H1 s1 => ?_⟩
  obtain ⟨dx, hx, h1, h2, h3, h4⟩ := id (hF.same s1)
  refine ⟨_, rfl, x, dx, _, rfl, hx, rfl, _, rfl, x, sc, tl, v, rfl, hF.same s1, fun H2 s2 ca => ?_, fun H2 p s2 ca ep => ?_⟩
  · refine ⟨(by show 2 ≤ sizeLine; decide), fun t nt => ?_⟩
    refine q t _ ((s1.trans s2).trans (same_upd nt)) ?_
    unfold wo
    rw [if_pos ca]
    exact upd_same
  · refine ⟨(by show 2 ≤ sizeLine; decide), fun t nt => ?_⟩
    refine q t _ ((s1.trans s2).trans (same_upd nt)) ?_
    unfold wo
    rw [if_neg ca]
    exact ⟨p, upd_same, same_upd nt _ _ ep⟩
def nsg (s1 s2 : Int) (way : Str) : Int := if s1 = s2 then s1 else if way = "down" then 1 else 0
def spNsg : Sp := fun vs H Q _ => ∃ (s1 s2 : Int) (way : Str), vs = [.int s1, .int s2, .str way] ∧ Q (.int (nsg s1 s2 way)) H
theorem ok_nought_sign (B : Bl mg) (L : LL K mg C a1 a2 a3 a4 a5 a6 a7 a8 a9 a10 a11 a12 a13 a14 a15 a16 a17 a18 a19 a20 a21 a22 a23 a24 a25 a26 a27 a28 a29 a30 a31 a32 a33 a34 a35 a36 a37 a38 a39 a40 a41 a42 a43 a44 a45 a46 a47 a48 a49 a50 a51 a52 a53 a54 a55 a56 a57 a58 a59 a60 a61 a62 a63 a64 a65 a66 a67 l1 l2 l3 l4 l5 l6 l7 l8 l9 l10 l11 l12 l13 l14 l15 l16 l17 l18 l19 l20 l21 l22 l23 l24 l25 l26 l27 l28 l29 l30 l31 l32 l33 l34 l35 l36 l37 l38 l39 l40 l41 l42 l43 l44 l45 l46 l47 l48 l49 l50 l51 l52 l53 l54 l55 l56 l57 l58 l59 l60 l61 l62 l63 l64 l65 l66 l67 t62 t63 t64 tg_NEAR tg_CUT tg_UP tg_DOWN w dO esO nO) : FnOk P w K mg base CX0 1 a23 l23 ["sign", "other_sign", "way"] spNsg := by
  refine L.F_nought_sign.ok sc_nought_sign (fun vs H Q E h => ?_) (fun cdv A outer s H vs Q E hr h => ?_)
  · obtain ⟨s1, s2, way, rfl, _⟩ := h
    rfl
  obtain ⟨s1, s2, way, rfl, q⟩ := h
  refine ⟨_, (pss_cons (ps_if (pt_cmpR op_eq (pv 0) (pv 1) (nomark _)) (pss_one (ps_ret (pv 0))) pss_nil)
    (pss_one (ps_ret (pe_ifExp (pt_cmpR op_eq (pv 2) (pe_glob (v := .str "down") rfl L.g_DOWN ⟨_, rfl⟩) (nomark _)) pe_int pe_int)))), ?_⟩
  unfold nsg at q
  refine ⟨_, rfl, _, rfl, rfl, _, rfl, ite2 (fun c => ?_) (fun c => ?_)⟩
  · rw [if_pos (V.int.inj (of_decide_eq_true c))] at q
    exact ⟨_, rfl, q⟩
  · rw [if_neg (fun z => c (decide_eq_true (by rw [z])))] at q
    refine ⟨_, rfl, rfl, _, rfl, ite2 (fun d => ?_) (fun d => ?_)⟩
    · rw [if_pos (V.str.inj (of_decide_eq_true d))] at q
      exact q
    · rw [if_neg (fun z => d (decide_eq_true (by rw [z])))] at q
      exact q
def lwr (p e : Int) : Int := if e < p then e else p
def tgn (n p m e : Int) : Int := n * 2 ^ (p - lwr p e).toNat + m * 2 ^ (e - lwr p e).toNat
def Fi (n : Int) : Prop := n.natAbs < 2 ^ 60
theorem fi_shl {n : Int} {j : Nat} (h : Fi n) (hj : j ≤ 100000) : CShl n (j : Int) := shl_ok (n := 60) h (by omega)
def spWA (K : PySem.W.Frag) : Sp := fun vs H Q _ => ∃ (a b : Addr) (n p m e : Int), vs = [.ref a, .ref b] ∧ SqT K H a [.int n, .int p] ∧ SqT K H b [.int m, .int e] ∧ Fi n ∧ Fi m ∧ -1000 ≤ p ∧ p ≤ 1000 ∧ -1000 ≤ e ∧ e ≤ 1000 ∧ ∀ t H', Same H H' → H' t = some (.tup [.int (tgn n p m e), .int (lwr p e)]) → Q (.ref t) H'
theorem ok_worths_added (B : Bl mg) (L : LL K mg C a1 a2 a3 a4 a5 a6 a7 a8 a9 a10 a11 a12 a13 a14 a15 a16 a17 a18 a19 a20 a21 a22 a23 a24 a25 a26 a27 a28 a29 a30 a31 a32 a33 a34 a35 a36 a37 a38 a39 a40 a41 a42 a43 a44 a45 a46 a47 a48 a49 a50 a51 a52 a53 a54 a55 a56 a57 a58 a59 a60 a61 a62 a63 a64 a65 a66 a67 l1 l2 l3 l4 l5 l6 l7 l8 l9 l10 l11 l12 l13 l14 l15 l16 l17 l18 l19 l20 l21 l22 l23 l24 l25 l26 l27 l28 l29 l30 l31 l32 l33 l34 l35 l36 l37 l38 l39 l40 l41 l42 l43 l44 l45 l46 l47 l48 l49 l50 l51 l52 l53 l54 l55 l56 l57 l58 l59 l60 l61 l62 l63 l64 l65 l66 l67 t62 t63 t64 tg_NEAR tg_CUT tg_UP tg_DOWN w dO esO nO) : FnOk P w K mg base CX0 1 a24 l24 ["one", "other"] (spWA K) := by
  refine L.F_worths_added.ok sc_worths_added (fun vs H Q E h => ?_) (fun cdv A outer s H vs Q E hr h => ?_)
  · obtain ⟨a, b, n, p, m, e, rfl, _⟩ := h
    rfl
  obtain ⟨a, b, n, p, m, e, rfl, hA, hB, fn, fm, p1, p2, e1, e2, q⟩ := h
  refine ⟨_, (pss_cons (ps_asg (pv 0) (pg_tup (by rfl) (pgs_cons (pg_name (i := 2) sc_worths_added.nd rfl (.inl rfl)) (pgs_cons (pg_name (i := 3) sc_worths_added.nd rfl (.inl rfl)) pgs_nil))))
    (pss_cons (ps_asg (pv 1) (pg_tup (by rfl) (pgs_cons (pg_name (i := 4) sc_worths_added.nd rfl (.inl rfl)) (pgs_cons (pg_name (i := 5) sc_worths_added.nd rfl (.inl rfl)) pgs_nil))))
    (pss_cons (ps_set (i := 6) sc_worths_added.nd rfl (.inl rfl) (pe_callB (call_min2 rfl) (by rfl) B.min boot_min (pa_cons (pv 3) (pa_cons (pv 5) pa_nil))))
    (pss_one (ps_ret (pe_tup (pa_cons (pe_op op_add (pe_op op_shlN (pv 2) (pe_op op_sub (pv 3) (pv 6))) (pe_op op_shlN (pv 4) (pe_op op_sub (pv 5) (pv 6)))) (pa_cons (pv 6) pa_nil)))))))), ?_⟩
  have hl : lwr p e ≤ p ∧ lwr p e ≤ e ∧ -1000 ≤ lwr p e := by
    unfold lwr
    split <;> omega
  refine ⟨_, rfl, a, _, rfl, hA, rfl, _, _, rfl, _, _, rfl, rfl, ?_⟩
  refine ⟨_, rfl, b, _, rfl, hB, rfl, _, _, rfl, _, _, rfl, rfl, ?_⟩
  refine ⟨_, rfl, _, rfl, _, _, rfl, ?_⟩
  refine ⟨_, rfl, _, rfl, _, rfl, _, _, rfl, rfl, _, (p - lwr p e).toNat, rfl, congrArg V.int (show p - lwr p e = ((p - lwr p e).toNat : Nat) by omega), fi_shl fn (by omega), ?_⟩
  refine ⟨_, rfl, _, rfl, _, rfl, _, _, rfl, rfl, _, (e - lwr p e).toNat, rfl, congrArg V.int (show e - lwr p e = ((e - lwr p e).toNat : Nat) by omega), fi_shl fm (by omega), _, _, rfl, rfl, ?_⟩
  refine ⟨_, rfl, (by show 2 ≤ sizeLine; decide), fun t nt => ?_⟩
  exact q t _ (same_upd nt) upd_same
def endW (sc tl : Nat) (s : Int) : Int := s * 2 ^ (sc + tl) + ((2 ^ sc - 1) * 2 ^ tl + 0)
def totR (sc tl : Nat) (n p : Int) (s : Int) (way : Str) : Int × List Str :=
  if n = 0 then (s * 2 ^ (sc + tl), []) else GR.rnd sc tl (if n < 0 then 1 else 0) (ab n) p way false
def tadR (sc tl : Nat) (s1 : Int) (o1 : Option (Int × Int)) (s2 : Int) (o2 : Option (Int × Int)) (way : Str) : Int × List Str :=
  match o1, o2 with
  | none, none => if s1 = s2 then (endW sc tl s1, []) else (noneW sc tl, ["bad"])
  | none, some _ => (endW sc tl s1, [])
  | some _, none => (endW sc tl s2, [])
  | some w1, some w2 => totR sc tl (tgn w1.1 w1.2 w2.1 w2.2) (lwr w1.2 w2.2) (nsg s1 s2 way) way
def OFi (o : Option (Int × Int)) : Prop := ∀ w, o = some w → Fi w.1 ∧ -1000 ≤ w.2 ∧ w.2 ≤ 1000
theorem fi_tgn {n p m e : Int} (fn : Fi n) (fm : Fi m) (p1 : -1000 ≤ p) (p2 : p ≤ 1000) (e1 : -1000 ≤ e) (e2 : e ≤ 1000) : ab (tgn n p m e) < 2 ^ 3000 := by
  have hl : lwr p e ≤ p ∧ lwr p e ≤ e ∧ -1000 ≤ lwr p e := by
    unfold lwr
    split <;> omega
  have one : ∀ (x : Int) (k : Nat), Fi x → k ≤ 2000 → -(2 ^ 2060) < x * 2 ^ k ∧ x * 2 ^ k < 2 ^ 2060 := fun x k hx hk => by
    have e0 : (x * 2 ^ k).natAbs = x.natAbs * 2 ^ k := by
      rw [Int.natAbs_mul, Int.natAbs_pow]
      rfl
    have e1 : x.natAbs * 2 ^ k < 2 ^ 60 * 2 ^ 2000 := Nat.mul_lt_mul_of_lt_of_le hx (Nat.pow_le_pow_right (by decide) hk) (Nat.pow_pos (by decide))
    rw [← Nat.pow_add, ← e0] at e1
    have c : ((2 ^ 2060 : Nat) : Int) = (2 : Int) ^ 2060 := PySem.W.kbt_cast _
    generalize x * 2 ^ k = z at e1 ⊢
    omega
  have a1 := one n (p - lwr p e).toNat fn (by omega)
  have a2 := one m (e - lwr p e).toNat fm (by omega)
  have b1 : (2 : Int) ^ 2061 ≤ 2 ^ 3000 := GM.pow_le' (by decide)
  have b2 : (2 : Int) ^ 2061 = 2 ^ 2060 * 2 := GM.pow_s 2060
  unfold tgn ab
  split <;> omega
def spTA (C : Addr) : Sp := fun vs H Q _ => ∃ (x t1 t2 : Addr) (sc tl : Nat) (s1 s2 : Int) (o1 o2 : Option (Int × Int)) (way : Str), vs = [.ref x, .ref t1, .ref t2, .str way] ∧ FAt C H x sc tl ∧ TermAt H t1 s1 o1 ∧ TermAt H t2 s2 o2 ∧ (s1 = 0 ∨ s1 = 1) ∧ (s2 = 0 ∨ s2 = 1) ∧ OFi o1 ∧ OFi o2 ∧
  ∀ t H', Same H H' → PairAt H' t (tadR sc tl s1 o1 s2 o2 way) → Q (.ref t) H'
theorem nsg_01 {s1 s2 : Int} (h1 : s1 = 0 ∨ s1 = 1) (way : Str) : nsg s1 s2 way = 0 ∨ nsg s1 s2 way = 1 := by
  unfold nsg
  split
  · exact h1
  · split <;> simp
theorem ok_terms_added (B : Bl mg) (L : LL K mg C a1 a2 a3 a4 a5 a6 a7 a8 a9 a10 a11 a12 a13 a14 a15 a16 a17 a18 a19 a20 a21 a22 a23 a24 a25 a26 a27 a28 a29 a30 a31 a32 a33 a34 a35 a36 a37 a38 a39 a40 a41 a42 a43 a44 a45 a46 a47 a48 a49 a50 a51 a52 a53 a54 a55 a56 a57 a58 a59 a60 a61 a62 a63 a64 a65 a66 a67 l1 l2 l3 l4 l5 l6 l7 l8 l9 l10 l11 l12 l13 l14 l15 l16 l17 l18 l19 l20 l21 l22 l23 l24 l25 l26 l27 l28 l29 l30 l31 l32 l33 l34 l35 l36 l37 l38 l39 l40 l41 l42 l43 l44 l45 l46 l47 l48 l49 l50 l51 l52 l53 l54 l55 l56 l57 l58 l59 l60 l61 l62 l63 l64 l65 l66 l67 t62 t63 t64 tg_NEAR tg_CUT tg_UP tg_DOWN w dO esO nO) : FnOk P w K mg base CX0 6 a22 l22 ["form", "one", "other", "way"] (spTA C) := by
  have G_bad : FnOk P w K mg base CX0 5 a16 l16 ["form"] (spBad C) := (ok_bad B L).mono (by decide)
  have G_Form_endless : FnOk P w K mg base CX0 5 a63 l63 ["self", "sign"] (spNm C mEn mNo) := (ok_Form_endless B L).mono (by decide)
  have G_Form_nought : FnOk P w K mg base CX0 5 a62 l62 ["self", "sign"] (spNm C mNo mNo) := (ok_Form_nought B L).mono (by decide)
  have G_nought_sign : FnOk P w K mg base CX0 5 a23 l23 ["sign", "other_sign", "way"] spNsg := (ok_nought_sign B L).mono (by decide)
  have G_worths_added : FnOk P w K mg base CX0 5 a24 l24 ["one", "other"] (spWA K) := (ok_worths_added B L).mono (by decide)
  have G_rounded : FnOk P w K mg base CX0 5 a4 l4 ["form", "sign", "number", "power", "way", "more"] (spRnd C) := (ok_rounded B L).mono (by decide)
  refine L.F_terms_added.ok sc_terms_added (fun vs H Q E h => ?_) (fun cdv A outer s H vs Q E hr h => ?_)
  · obtain ⟨x, t1, t2, sc, tl, s1, s2, o1, o2, way, rfl, _⟩ := h
    rfl
  obtain ⟨x, t1, t2, sc, tl, s1, s2, o1, o2, way, rfl, hF, T1, T2, b1, b2, f1, f2, q⟩ := h
  obtain ⟨dx, hx, h1, h2, h3, h4⟩ := id hF
  refine ⟨_, (pss_cons (ps_asg (pv 1) (pg_tup (by rfl) (pgs_cons (pg_name (i := 4) sc_terms_added.nd rfl (.inl rfl)) (pgs_cons (pg_name (i := 5) sc_terms_added.nd rfl (.inl rfl)) pgs_nil))))
    (pss_cons (ps_asg (pv 2) (pg_tup (by rfl) (pgs_cons (pg_name (i := 6) sc_terms_added.nd rfl (.inl rfl)) (pgs_cons (pg_name (i := 7) sc_terms_added.nd rfl (.inl rfl)) pgs_nil))))
    (pss_cons (ps_if (PW.pt (pw_and (pt_cmpR op_isN (pv 5) pe_non (nomark _)) (pw_and (pt_cmpR op_isN (pv 7) pe_non (nomark _)) (pw_and1 (pt_cmpR op_ne (pv 4) (pv 6) (nomark _)))))) (pss_one (ps_ret (pe_call G_bad hr (by rfl) L.m_bad L.F_bad.kp L.b_bad .nil pass0 (pa_cons (pv 0) pa_nil)))) pss_nil)
    (pss_cons (ps_if (pt_cmpR op_isN (pv 5) pe_non (nomark _)) (pss_one (ps_ret (pe_tup (pa_cons (pe_meth (pv 0) L.T.cl L.M_Form_endless G_Form_endless hr L.b_Form_endless .nil pass0 (pa_cons (pv 4) pa_nil)) (pa_cons (pe_tup pa_nil) pa_nil))))) pss_nil)
    (pss_cons (ps_if (pt_cmpR op_isN (pv 7) pe_non (nomark _)) (pss_one (ps_ret (pe_tup (pa_cons (pe_meth (pv 0) L.T.cl L.M_Form_endless G_Form_endless hr L.b_Form_endless .nil pass0 (pa_cons (pv 6) pa_nil)) (pa_cons (pe_tup pa_nil) pa_nil))))) pss_nil)
    (pss_cons (ps_asg (pe_call G_worths_added hr (by rfl) L.m_worths_added L.F_worths_added.kp L.b_worths_added .nil pass0 (pa_cons (pv 5) (pa_cons (pv 7) pa_nil))) (pg_tup (by rfl) (pgs_cons (pg_name (i := 8) sc_terms_added.nd rfl (.inl rfl)) (pgs_cons (pg_name (i := 9) sc_terms_added.nd rfl (.inl rfl)) pgs_nil))))
    (pss_cons (ps_if (pt_cmpR op_eq (pv 8) pe_int (nomark _)) (pss_one (ps_ret (pe_tup (pa_cons (pe_meth (pv 0) L.T.cl L.M_Form_nought G_Form_nought hr L.b_Form_nought .nil pass0 (pa_cons (pe_call G_nought_sign hr (by rfl) L.m_nought_sign L.F_nought_sign.kp L.b_nought_sign .nil pass0 (pa_cons (pv 4) (pa_cons (pv 6) (pa_cons (pv 3) pa_nil)))) pa_nil)) (pa_cons (pe_tup pa_nil) pa_nil))))) pss_nil)
    (pss_one (ps_ret (pe_callN G_rounded hr (by rfl) L.m_rounded L.F_rounded.kp (L.kb_rounded_way).choose_spec pass0 (pa_cons (pv 0) (pa_cons (pe_ifExp (pt_cmpR op_lt (pv 8) pe_int (nomark _)) pe_int pe_int) (pa_cons (pe_callB call_abs (by rfl) B.abs boot_abs (pa_cons (pv 8) pa_nil)) (pa_cons (pv 9) pa_nil)))) (pk_cons (pv 3) pk_nil))))))))))), ?_⟩
  have en : ∀ (s : Int) (H1 : Hp) (Q' : VK), (s = 0 ∨ s = 1) → Same H H1 → (∀ t H', Same H H' → PairAt H' t (endW sc tl s, []) → Q' (.ref t) H') → ∀ e, H1 e = none → ∀ t, (upd H1 e (.tup [])) t = none → Q' (.ref t) (upd (upd H1 e (.tup [])) t (.tup [.int (s * 2 ^ (sc + tl) + ((2 ^ sc - 1) * 2 ^ tl + 0)), .ref e])) := fun s H1 Q' hs s1 q' e ne t nt => q' t _ ((s1.trans (same_upd ne)).trans (same_upd nt)) ⟨e, upd_same, same_upd nt _ _ upd_same⟩
  cases o1 with
  | none =>
    cases o2 with
    | none =>
      refine ⟨_, rfl, t1, _, rfl, .inl (.inl T1), rfl, _, _, rfl, _, _, rfl, rfl, ?_⟩
      refine ⟨_, rfl, t2, _, rfl, .inl (.inl T2), rfl, _, _, rfl, _, _, rfl, rfl, ?_⟩
      refine ⟨_, rfl, rfl, _, rfl, iteT ?_⟩
      refine ⟨_, rfl, rfl, _, rfl, iteT ?_⟩
      refine ⟨_, rfl, _, rfl, rfl, _, rfl, ite2 (fun c => ?_) (fun c => ?_)⟩
      · have c1 : ¬ s1 = s2 := fun z => by
          rw [z] at c
          simp at c
        refine ⟨_, rfl, x, sc, tl, rfl, hF, fun u H3 nu s3 pu => ?_⟩
        refine q u _ s3 ?_
        show PairAt H3 u (if s1 = s2 then (endW sc tl s1, []) else (noneW sc tl, ["bad"]))
        rw [if_neg c1]
        exact pu
      · have c1 : s1 = s2 := Classical.byContradiction fun z => c (by simpa using z)
        refine ⟨_, rfl, rfl, _, rfl, iteT ?_⟩
        refine ⟨_, rfl, x, dx, _, rfl, hx, rfl, _, rfl, x, sc, tl, _, rfl, hF, b1, Nat.zero_le _, fun e ne => ⟨(by show 2 ≤ sizeLine; decide), fun t nt => ?_⟩⟩
        refine en s1 H Q b1 (Same.refl _) (fun t H' k p => q t H' k ?_) e ne t nt
        show PairAt H' t (if s1 = s2 then (endW sc tl s1, []) else (noneW sc tl, ["bad"]))
        rw [if_pos c1]
        exact p
    | some w2 =>
      obtain ⟨u2, T2, U2⟩ := T2
      refine ⟨_, rfl, t1, _, rfl, .inl (.inl T1), rfl, _, _, rfl, _, _, rfl, rfl, ?_⟩
      refine ⟨_, rfl, t2, _, rfl, .inl (.inl T2), rfl, _, _, rfl, _, _, rfl, rfl, ?_⟩
      refine ⟨_, rfl, rfl, _, rfl, iteT ?_⟩
      refine ⟨_, rfl, rfl, _, rfl, iteF ?_⟩
      refine iteF ?_
      refine ⟨_, rfl, rfl, _, rfl, iteT ?_⟩
      refine ⟨_, rfl, x, dx, _, rfl, hx, rfl, _, rfl, x, sc, tl, _, rfl, hF, b1, Nat.zero_le _, fun e ne => ⟨(by show 2 ≤ sizeLine; decide), fun t nt => ?_⟩⟩
      exact en s1 H Q b1 (Same.refl _) q e ne t nt
  | some w1 =>
    obtain ⟨u1, T1, U1⟩ := T1
    cases o2 with
    | none =>
      refine ⟨_, rfl, t1, _, rfl, .inl (.inl T1), rfl, _, _, rfl, _, _, rfl, rfl, ?_⟩
      refine ⟨_, rfl, t2, _, rfl, .inl (.inl T2), rfl, _, _, rfl, _, _, rfl, rfl, ?_⟩
      refine ⟨_, rfl, rfl, _, rfl, iteF ?_⟩
      refine iteF ?_
      refine ⟨_, rfl, rfl, _, rfl, iteF ?_⟩
      refine ⟨_, rfl, rfl, _, rfl, iteT ?_⟩
      refine ⟨_, rfl, x, dx, _, rfl, hx, rfl, _, rfl, x, sc, tl, _, rfl, hF, b2, Nat.zero_le _, fun e ne => ⟨(by show 2 ≤ sizeLine; decide), fun t nt => ?_⟩⟩
      exact en s2 H Q b2 (Same.refl _) q e ne t nt
    | some w2 =>
      obtain ⟨u2, T2, U2⟩ := T2
      obtain ⟨fa, pa1, pa2⟩ := f1 w1 rfl
      obtain ⟨fb, pb1, pb2⟩ := f2 w2 rfl
      refine ⟨_, rfl, t1, _, rfl, .inl (.inl T1), rfl, _, _, rfl, _, _, rfl, rfl, ?_⟩
      refine ⟨_, rfl, t2, _, rfl, .inl (.inl T2), rfl, _, _, rfl, _, _, rfl, rfl, ?_⟩
      refine ⟨_, rfl, rfl, _, rfl, iteF ?_⟩
      refine iteF ?_
      refine ⟨_, rfl, rfl, _, rfl, iteF ?_⟩
      refine ⟨_, rfl, rfl, _, rfl, iteF ?_⟩
      refine ⟨_, rfl, _, rfl, u1, u2, w1.1, w1.2, w2.1, w2.2, rfl, .inl (.inl U1), .inl (.inl U2), fa, fb, pa1, pa2, pb1, pb2, fun v H1 k1 ev => ?_⟩
      refine ⟨v, _, rfl, .inl (.inl ev), rfl, _, _, rfl, _, _, rfl, rfl, ?_⟩
      have hb := fi_tgn fa fb pa1 pa2 pb1 pb2
      have hl : lwr w1.2 w2.2 ≤ 1000 ∧ -1000 ≤ lwr w1.2 w2.2 := by
        unfold lwr
        split <;> omega
      change ∀ t H', Same H H' → PairAt H' t (totR sc tl (tgn w1.1 w1.2 w2.1 w2.2) (lwr w1.2 w2.2) (nsg s1 s2 way) way) → Q (.ref t) H' at q
      generalize tgn w1.1 w1.2 w2.1 w2.2 = n at *
      generalize lwr w1.2 w2.2 = p at *
      unfold totR at q
      have F1 := hF.same k1
      refine ⟨_, rfl, rfl, _, rfl, ite2 (fun c => ?_) (fun c => ?_)⟩
      · rw [if_pos (V.int.inj (of_decide_eq_true c))] at q
        refine ⟨_, rfl, x, dx, _, rfl, k1 _ _ hx, rfl, _, rfl, _, rfl, _, rfl, _, _, _, rfl, x, sc, tl, _, rfl, F1, nsg_01 b1 way, Nat.zero_le _, fun e ne => ⟨(by show 2 ≤ sizeLine; decide), fun t nt => ?_⟩⟩
        refine q t _ ((k1.trans (same_upd ne)).trans (same_upd nt)) ⟨e, ?_, same_upd nt _ _ upd_same⟩
        rw [upd_same]
        show some (HO.tup [.int (nsg s1 s2 way * 2 ^ (sc + tl) + (0 * 2 ^ tl + 0)), .ref e]) = _
        rw [Int.zero_mul, Int.add_zero, Int.add_zero]
      · rw [if_neg (fun z => c (decide_eq_true (by rw [z])))] at q
        refine ⟨_, rfl, if_ev (fun z H' => z = .int (if n < 0 then 1 else 0) ∧ H' = H1) (fun Q' q' => ?_) ?_⟩
        · refine ⟨_, rfl, _, _, rfl, rfl, _, rfl, ite2 (fun d => ?_) (fun d => ?_)⟩
          · exact q' _ _ ⟨by rw [if_pos (of_decide_eq_true d)], rfl⟩
          · exact q' _ _ ⟨by rw [if_neg (of_decide_eq_false (Bool.eq_false_iff.mpr d))], rfl⟩
        rintro z H' ⟨rfl, rfl⟩
        refine ⟨_, rfl, n, rfl, _, rfl, _, rfl, rfl, rfl, x, sc, tl, _, _, _, way, false, rfl, F1, (by split <;> simp), fit_lt (ab_nn n) (k := 3000) hb (by decide), by omega, by omega, (fun z => nomatch z), fun t3 H4 nt3 s4 P3 => ?_⟩
        exact q t3 _ (k1.trans s4) P3
end
section
variable {P : Program} {w : World} {K : PySem.W.Frag} {mg : Str → Option Value} {base : Heap}
variable {C : Addr} {a1 a2 a3 a4 a5 a6 a7 a8 a9 a10 a11 a12 a13 a14 a15 a16 a17 a18 a19 a20 a21 a22 a23 a24 a25 a26 a27 a28 a29 a30 a31 a32 a33 a34 a35 a36 a37 a38 a39 a40 a41 a42 a43 a44 a45 a46 a47 a48 a49 a50 a51 a52 a53 a54 a55 a56 a57 a58 a59 a60 a61 a62 a63 a64 a65 a66 a67 : Addr} {l1 l2 l3 l4 l5 l6 l7 l8 l9 l10 l11 l12 l13 l14 l15 l16 l17 l18 l19 l20 l21 l22 l23 l24 l25 l26 l27 l28 l29 l30 l31 l32 l33 l34 l35 l36 l37 l38 l39 l40 l41 l42 l43 l44 l45 l46 l47 l48 l49 l50 l51 l52 l53 l54 l55 l56 l57 l58 l59 l60 l61 l62 l63 l64 l65 l66 l67 : FuncData} {t62 t63 t64 tg_NEAR tg_CUT tg_UP tg_DOWN : Tok} {dO : Addr} {esO : Array DictEntry} {nO : Nat}
theorem wp_in {sc tl : Nat} {v : Int} (h1 : 2 ≤ sc) (h2 : sc ≤ 8) (h4 : tl ≤ 24) (h : ¬ GM.topS sc tl ≤ sz sc tl v) : -400 ≤ wp sc tl v ∧ wp sc tl v ≤ 400 := by
  have e : GM.ex tl (sz sc tl v) ≤ 256 := ex_in (sc := sc) h2 (by show _ ≤ GM.topS sc tl; omega)
  have p8 : (2 : Int) ^ (sc - 1) ≤ 2 ^ 7 := GM.pow_le' (by omega)
  have p0 := GM.pow_pos' (sc - 1)
  unfold wp P0
  omega
theorem fi_wn {sc tl : Nat} (v : Int) (h4 : tl ≤ 24) : Fi (wn sc tl v) := by
  have := wn_25 sc v h4
  unfold Fi
  omega
theorem ofi_wo {sc tl : Nat} (v : Int) (h1 : 2 ≤ sc) (h2 : sc ≤ 8) (h4 : tl ≤ 24) : OFi (wo sc tl v) := by
  intro w e
  unfold wo at e
  by_cases c : GM.topS sc tl ≤ sz sc tl v
  · rw [if_pos c] at e
    cases e
  · rw [if_neg c] at e
    have e' := Option.some.inj e
    subst e'
    have := wp_in h1 h2 h4 c
    exact ⟨fi_wn v h4, by omega, by omega⟩
def addR (sc tl : Nat) (a b : Int) (way : Str) : Int × List Str :=
  if srt sc tl (sz sc tl a) = "none" ∨ srt sc tl (sz sc tl b) = "none" then (noneW sc tl, [])
  else tadR sc tl (GM.sgn sc tl a) (wo sc tl a) (GM.sgn sc tl b) (wo sc tl b) way
def spAdd (C : Addr) : Sp := fun vs H Q _ => ∃ (x : Addr) (sc tl : Nat) (a b : Int) (way : Str), vs = [.ref x, .int a, .int b, .str way] ∧ FAt C H x sc tl ∧
  ∀ t H', Same H H' → PairAt H' t (addR sc tl a b way) → Q (.ref t) H'
theorem ok_added (B : Bl mg) (L : LL K mg C a1 a2 a3 a4 a5 a6 a7 a8 a9 a10 a11 a12 a13 a14 a15 a16 a17 a18 a19 a20 a21 a22 a23 a24 a25 a26 a27 a28 a29 a30 a31 a32 a33 a34 a35 a36 a37 a38 a39 a40 a41 a42 a43 a44 a45 a46 a47 a48 a49 a50 a51 a52 a53 a54 a55 a56 a57 a58 a59 a60 a61 a62 a63 a64 a65 a66 a67 l1 l2 l3 l4 l5 l6 l7 l8 l9 l10 l11 l12 l13 l14 l15 l16 l17 l18 l19 l20 l21 l22 l23 l24 l25 l26 l27 l28 l29 l30 l31 l32 l33 l34 l35 l36 l37 l38 l39 l40 l41 l42 l43 l44 l45 l46 l47 l48 l49 l50 l51 l52 l53 l54 l55 l56 l57 l58 l59 l60 l61 l62 l63 l64 l65 l66 l67 t62 t63 t64 tg_NEAR tg_CUT tg_UP tg_DOWN w dO esO nO) : FnOk P w K mg base CX0 7 a10 l10 ["form", "a", "b", "way"] (spAdd C) := by
  have G_has_none : FnOk P w K mg base CX0 6 a15 l15 ["form", "words"] (spHN K C) := (ok_has_none B L).mono (by decide)
  have G_Form_none_word : FnOk P w K mg base CX0 6 a65 l65 ["self"] (spNamed0 C) := (ok_Form_none_word B L).mono (by decide)
  have G_terms_added : FnOk P w K mg base CX0 6 a22 l22 ["form", "one", "other", "way"] (spTA C) := (ok_terms_added B L).mono (by decide)
  have G_term_of : FnOk P w K mg base CX0 6 a20 l20 ["form", "word"] (spTermOf C) := (ok_term_of B L).mono (by decide)
  refine L.F_added.ok sc_added (fun vs H Q E h => ?_) (fun cdv A outer s H vs Q E hr h => ?_)
  · obtain ⟨x, sc, tl, a, b, way, rfl, _⟩ := h
    rfl
  obtain ⟨x, sc, tl, a, b, way, rfl, hF, q⟩ := h
  obtain ⟨dx, hx, h1, h2, h3, h4⟩ := id hF
  refine ⟨_, (pss_cons (ps_if (pt_val (pe_call G_has_none hr (by rfl) L.m_has_none L.F_has_none.kp L.b_has_none .nil pass0 (pa_cons (pv 0) (pa_cons (pe_tup (pa_cons (pv 1) (pa_cons (pv 2) pa_nil))) pa_nil)))) (pss_one (ps_ret (pe_tup (pa_cons (pe_meth0 (pv 0) L.T.cl L.M_Form_none_word G_Form_none_word hr L.b_Form_none_word .nil pass0) (pa_cons (pe_tup pa_nil) pa_nil))))) pss_nil)
    (pss_one (ps_ret (pe_call G_terms_added hr (by rfl) L.m_terms_added L.F_terms_added.kp L.b_terms_added .nil pass0 (pa_cons (pv 0) (pa_cons (pe_call G_term_of hr (by rfl) L.m_term_of L.F_term_of.kp L.b_term_of .nil pass0 (pa_cons (pv 0) (pa_cons (pv 1) pa_nil))) (pa_cons (pe_call G_term_of hr (by rfl) L.m_term_of L.F_term_of.kp L.b_term_of .nil pass0 (pa_cons (pv 0) (pa_cons (pv 2) pa_nil))) (pa_cons (pv 3) pa_nil)))))))), ?_⟩
  refine ⟨_, rfl, _, rfl, _, rfl, (by show 2 ≤ sizeLine; decide), fun t nt => ?_⟩
  have st := same_upd (o := .tup [.int a, .int b]) nt
  refine ⟨x, t, sc, tl, [a, b], rfl, hF.same st, .inl (.inl upd_same), Nat.le_of_ble_eq_true rfl, fun r H1 s1 hr1 => ?_⟩
  have w1 := st.trans s1
  have e1 : r = true ↔ (srt sc tl (sz sc tl a) = "none" ∨ srt sc tl (sz sc tl b) = "none") := by
    rw [hr1]
    simp
  unfold addR at q
  refine ⟨_, rfl, ite2 (fun c => ?_) (fun c => ?_)⟩
  · refine ⟨_, rfl, x, dx, _, rfl, w1 _ _ hx, rfl, x, sc, tl, rfl, hF.same w1, Nat.zero_le _, fun e ne => ⟨(by show 2 ≤ sizeLine; decide), fun u nu => ?_⟩⟩
    have se := same_upd (o := .tup []) ne
    rw [show (0 * 2 ^ (sc + tl) + ((2 ^ sc - 1) * 2 ^ tl + 2 ^ (tl - 1)) : Int) = noneW sc tl by unfold noneW; omega]
    rw [if_pos (e1.mp c)] at q
    exact q u _ ((w1.trans se).trans (same_upd nu)) ⟨e, upd_same, same_upd nu _ _ upd_same⟩
  rw [if_neg (fun z => c (e1.mpr z))] at q
  refine ⟨_, rfl, _, rfl, _, rfl, x, sc, tl, a, rfl, hF.same w1, fun t1 H2 s2 T1 => ?_⟩
  have w2 := w1.trans s2
  refine ⟨_, rfl, _, rfl, x, sc, tl, b, rfl, hF.same w2, fun t2 H3 s3 T2 => ?_⟩
  have w3 := w2.trans s3
  refine ⟨_, rfl, x, t1, t2, sc, tl, _, _, _, _, way, rfl, hF.same w3, T1.same s3, T2, GM.sgn_01, GM.sgn_01, ofi_wo a h1 h2 h4, ofi_wo b h1 h2 h4, fun t4 H4 s4 P4 => ?_⟩
  exact q t4 _ (w3.trans s4) P4
def spTake2 (C : Addr) : Sp := fun vs H Q _ => ∃ (x : Addr) (sc tl : Nat) (a b : Int) (way : Str), vs = [.ref x, .int a, .int b, .str way] ∧ FAt C H x sc tl ∧
  ∀ t H', Same H H' → PairAt H' t (addR sc tl a (trn sc tl b) way) → Q (.ref t) H'
theorem ok_taken (B : Bl mg) (L : LL K mg C a1 a2 a3 a4 a5 a6 a7 a8 a9 a10 a11 a12 a13 a14 a15 a16 a17 a18 a19 a20 a21 a22 a23 a24 a25 a26 a27 a28 a29 a30 a31 a32 a33 a34 a35 a36 a37 a38 a39 a40 a41 a42 a43 a44 a45 a46 a47 a48 a49 a50 a51 a52 a53 a54 a55 a56 a57 a58 a59 a60 a61 a62 a63 a64 a65 a66 a67 l1 l2 l3 l4 l5 l6 l7 l8 l9 l10 l11 l12 l13 l14 l15 l16 l17 l18 l19 l20 l21 l22 l23 l24 l25 l26 l27 l28 l29 l30 l31 l32 l33 l34 l35 l36 l37 l38 l39 l40 l41 l42 l43 l44 l45 l46 l47 l48 l49 l50 l51 l52 l53 l54 l55 l56 l57 l58 l59 l60 l61 l62 l63 l64 l65 l66 l67 t62 t63 t64 tg_NEAR tg_CUT tg_UP tg_DOWN w dO esO nO) : FnOk P w K mg base CX0 8 a11 l11 ["form", "a", "b", "way"] (spTake2 C) := by
  have G_added : FnOk P w K mg base CX0 7 a10 l10 ["form", "a", "b", "way"] (spAdd C) := (ok_added B L).mono (by decide)
  have G_Form_turned : FnOk P w K mg base CX0 7 a66 l66 ["self", "word"] (spTurned C) := (ok_Form_turned B L).mono (by decide)
  refine L.F_taken.ok sc_taken (fun vs H Q E h => ?_) (fun cdv A outer s H vs Q E hr h => ?_)
  · obtain ⟨x, sc, tl, a, b, way, rfl, _⟩ := h
    rfl
  obtain ⟨x, sc, tl, a, b, way, rfl, hF, q⟩ := h
  obtain ⟨dx, hx, h1, h2, h3, h4⟩ := id hF
  refine ⟨_, (pss_one (ps_ret (pe_callN G_added hr (by rfl) L.m_added L.F_added.kp (L.kb_added_way).choose_spec pass0 (pa_cons (pv 0) (pa_cons (pv 1) (pa_cons (pe_meth (pv 0) L.T.cl L.M_Form_turned G_Form_turned hr L.b_Form_turned .nil pass0 (pa_cons (pv 2) pa_nil)) pa_nil))) (pk_cons (pv 3) pk_nil)))), ?_⟩
  refine ⟨_, rfl, _, rfl, _, rfl, x, dx, _, rfl, hx, rfl, _, rfl, x, sc, tl, b, rfl, hF, fun H1 s1 => ?_⟩
  exact ⟨_, rfl, rfl, rfl, x, sc, tl, a, _, way, rfl, hF.same s1, fun t H2 s2 P2 => q t _ (s1.trans s2) P2⟩
end
section
variable {P : Program} {w : World} {K : PySem.W.Frag} {mg : Str → Option Value} {base : Heap}
variable {C : Addr} {a1 a2 a3 a4 a5 a6 a7 a8 a9 a10 a11 a12 a13 a14 a15 a16 a17 a18 a19 a20 a21 a22 a23 a24 a25 a26 a27 a28 a29 a30 a31 a32 a33 a34 a35 a36 a37 a38 a39 a40 a41 a42 a43 a44 a45 a46 a47 a48 a49 a50 a51 a52 a53 a54 a55 a56 a57 a58 a59 a60 a61 a62 a63 a64 a65 a66 a67 : Addr} {l1 l2 l3 l4 l5 l6 l7 l8 l9 l10 l11 l12 l13 l14 l15 l16 l17 l18 l19 l20 l21 l22 l23 l24 l25 l26 l27 l28 l29 l30 l31 l32 l33 l34 l35 l36 l37 l38 l39 l40 l41 l42 l43 l44 l45 l46 l47 l48 l49 l50 l51 l52 l53 l54 l55 l56 l57 l58 l59 l60 l61 l62 l63 l64 l65 l66 l67 : FuncData} {t62 t63 t64 tg_NEAR tg_CUT tg_UP tg_DOWN : Tok} {dO : Addr} {esO : Array DictEntry} {nO : Nat}
theorem sx_01 (sc tl : Nat) (a b : Int) : sx sc tl a b = 0 ∨ sx sc tl a b = 1 := by
  unfold sx
  split <;> simp
def po (sc tl : Nat) (a b : Int) : Option (Int × Int) := if GM.topS sc tl ≤ sz sc tl a ∨ GM.topS sc tl ≤ sz sc tl b then none else some (wn sc tl a * wn sc tl b, wp sc tl a + wp sc tl b)
theorem fi_mul {x y : Int} (hx : -(2 ^ 25) < x ∧ x < 2 ^ 25) (hy : -(2 ^ 25) < y ∧ y < 2 ^ 25) : Fi (x * y) := by
  have e : (x * y).natAbs = x.natAbs * y.natAbs := Int.natAbs_mul x y
  have h : x.natAbs * y.natAbs ≤ (2 ^ 25 - 1) * (2 ^ 25 - 1) := Nat.mul_le_mul (by omega) (by omega)
  unfold Fi
  rw [e]
  omega
theorem ofi_po {sc tl : Nat} (a b : Int) (h1 : 2 ≤ sc) (h2 : sc ≤ 8) (h4 : tl ≤ 24) : OFi (po sc tl a b) := by
  intro w e
  unfold po at e
  by_cases c : GM.topS sc tl ≤ sz sc tl a ∨ GM.topS sc tl ≤ sz sc tl b
  · rw [if_pos c] at e
    cases e
  · rw [if_neg c] at e
    have e' := Option.some.inj e
    subst e'
    have i1 := wp_in h1 h2 h4 (fun z => c (.inl z))
    have i2 := wp_in h1 h2 h4 (fun z => c (.inr z))
    exact ⟨fi_mul (wn_25 sc a h4) (wn_25 sc b h4), by show -1000 ≤ wp sc tl a + wp sc tl b; omega, by show wp sc tl a + wp sc tl b ≤ 1000; omega⟩
def joinR (sc tl : Nat) (a b c : Int) (way : Str) : Int × List Str :=
  if srt sc tl (sz sc tl a) = "none" ∨ srt sc tl (sz sc tl b) = "none" ∨ srt sc tl (sz sc tl c) = "none" then (noneW sc tl, [])
  else if (srt sc tl (sz sc tl a) = "endless" ∨ srt sc tl (sz sc tl b) = "endless") ∧ (srt sc tl (sz sc tl a) = "nought" ∨ srt sc tl (sz sc tl b) = "nought") then (noneW sc tl, ["bad"])
  else tadR sc tl (sx sc tl a b) (po sc tl a b) (GM.sgn sc tl c) (wo sc tl c) way
def spJoin (C : Addr) : Sp := fun vs H Q _ => ∃ (x : Addr) (sc tl : Nat) (a b c : Int) (way : Str), vs = [.ref x, .int a, .int b, .int c, .str way] ∧ FAt C H x sc tl ∧
  ∀ t H', Same H H' → PairAt H' t (joinR sc tl a b c way) → Q (.ref t) H'
theorem ok_joined (B : Bl mg) (L : LL K mg C a1 a2 a3 a4 a5 a6 a7 a8 a9 a10 a11 a12 a13 a14 a15 a16 a17 a18 a19 a20 a21 a22 a23 a24 a25 a26 a27 a28 a29 a30 a31 a32 a33 a34 a35 a36 a37 a38 a39 a40 a41 a42 a43 a44 a45 a46 a47 a48 a49 a50 a51 a52 a53 a54 a55 a56 a57 a58 a59 a60 a61 a62 a63 a64 a65 a66 a67 l1 l2 l3 l4 l5 l6 l7 l8 l9 l10 l11 l12 l13 l14 l15 l16 l17 l18 l19 l20 l21 l22 l23 l24 l25 l26 l27 l28 l29 l30 l31 l32 l33 l34 l35 l36 l37 l38 l39 l40 l41 l42 l43 l44 l45 l46 l47 l48 l49 l50 l51 l52 l53 l54 l55 l56 l57 l58 l59 l60 l61 l62 l63 l64 l65 l66 l67 t62 t63 t64 tg_NEAR tg_CUT tg_UP tg_DOWN w dO esO nO) : FnOk P w K mg base CX0 7 a14 l14 ["form", "a", "b", "c", "way"] (spJoin C) := by
  have G_has_none : FnOk P w K mg base CX0 6 a15 l15 ["form", "words"] (spHN K C) := (ok_has_none B L).mono (by decide)
  have G_Form_none_word : FnOk P w K mg base CX0 6 a65 l65 ["self"] (spNamed0 C) := (ok_Form_none_word B L).mono (by decide)
  have G_is_endless_by_nought : FnOk P w K mg base CX0 6 a17 l17 ["form", "a", "b"] (spEBN C) := (ok_is_endless_by_nought B L).mono (by decide)
  have G_bad : FnOk P w K mg base CX0 6 a16 l16 ["form"] (spBad C) := (ok_bad B L).mono (by decide)
  have G_terms_added : FnOk P w K mg base CX0 6 a22 l22 ["form", "one", "other", "way"] (spTA C) := (ok_terms_added B L).mono (by decide)
  have G_product_of : FnOk P w K mg base CX0 6 a21 l21 ["form", "a", "b"] (spProd C) := (ok_product_of B L).mono (by decide)
  have G_term_of : FnOk P w K mg base CX0 6 a20 l20 ["form", "word"] (spTermOf C) := (ok_term_of B L).mono (by decide)
  refine L.F_joined.ok sc_joined (fun vs H Q E h => ?_) (fun cdv A outer s H vs Q E hr h => ?_)
  · obtain ⟨x, sc, tl, a, b, c, way, rfl, _⟩ := h
    rfl
  obtain ⟨x, sc, tl, a, b, c, way, rfl, hF, q⟩ := h
  obtain ⟨dx, hx, h1, h2, h3, h4⟩ := id hF
  refine ⟨_, (pss_cons (ps_if (pt_val (pe_call G_has_none hr (by rfl) L.m_has_none L.F_has_none.kp L.b_has_none .nil pass0 (pa_cons (pv 0) (pa_cons (pe_tup (pa_cons (pv 1) (pa_cons (pv 2) (pa_cons (pv 3) pa_nil)))) pa_nil)))) (pss_one (ps_ret (pe_tup (pa_cons (pe_meth0 (pv 0) L.T.cl L.M_Form_none_word G_Form_none_word hr L.b_Form_none_word .nil pass0) (pa_cons (pe_tup pa_nil) pa_nil))))) pss_nil)
    (pss_cons (ps_if (pt_val (pe_call G_is_endless_by_nought hr (by rfl) L.m_is_endless_by_nought L.F_is_endless_by_nought.kp L.b_is_endless_by_nought .nil pass0 (pa_cons (pv 0) (pa_cons (pv 1) (pa_cons (pv 2) pa_nil))))) (pss_one (ps_ret (pe_call G_bad hr (by rfl) L.m_bad L.F_bad.kp L.b_bad .nil pass0 (pa_cons (pv 0) pa_nil)))) pss_nil)
    (pss_one (ps_ret (pe_call G_terms_added hr (by rfl) L.m_terms_added L.F_terms_added.kp L.b_terms_added .nil pass0 (pa_cons (pv 0) (pa_cons (pe_call G_product_of hr (by rfl) L.m_product_of L.F_product_of.kp L.b_product_of .nil pass0 (pa_cons (pv 0) (pa_cons (pv 1) (pa_cons (pv 2) pa_nil)))) (pa_cons (pe_call G_term_of hr (by rfl) L.m_term_of L.F_term_of.kp L.b_term_of .nil pass0 (pa_cons (pv 0) (pa_cons (pv 3) pa_nil))) (pa_cons (pv 4) pa_nil))))))))), ?_⟩
  refine ⟨_, rfl, _, rfl, _, rfl, _, rfl, (by show 3 ≤ sizeLine; decide), fun t nt => ?_⟩
  have st := same_upd (o := .tup [.int a, .int b, .int c]) nt
  refine ⟨x, t, sc, tl, [a, b, c], rfl, hF.same st, .inl (.inl upd_same), Nat.le_of_ble_eq_true rfl, fun r H1 s1 hr1 => ?_⟩
  have w1 := st.trans s1
  have e1 : r = true ↔ (srt sc tl (sz sc tl a) = "none" ∨ srt sc tl (sz sc tl b) = "none" ∨ srt sc tl (sz sc tl c) = "none") := by
    rw [hr1]
    simp
  unfold joinR at q
  refine ⟨_, rfl, ite2 (fun cn => ?_) (fun cn => ?_)⟩
  · refine ⟨_, rfl, x, dx, _, rfl, w1 _ _ hx, rfl, x, sc, tl, rfl, hF.same w1, Nat.zero_le _, fun e ne => ⟨(by show 2 ≤ sizeLine; decide), fun u nu => ?_⟩⟩
    have se := same_upd (o := .tup []) ne
    rw [show (0 * 2 ^ (sc + tl) + ((2 ^ sc - 1) * 2 ^ tl + 2 ^ (tl - 1)) : Int) = noneW sc tl by unfold noneW; omega]
    rw [if_pos (e1.mp cn)] at q
    exact q u _ ((w1.trans se).trans (same_upd nu)) ⟨e, upd_same, same_upd nu _ _ upd_same⟩
  rw [if_neg (fun z => cn (e1.mpr z))] at q
  refine ⟨_, rfl, _, rfl, _, rfl, x, sc, tl, a, b, rfl, hF.same w1, fun r2 H2 s2 e2 => ?_⟩
  have w2 := w1.trans s2
  refine ⟨_, rfl, ite2 (fun c2 => ?_) (fun c2 => ?_)⟩
  · refine ⟨_, rfl, x, sc, tl, rfl, hF.same w2, fun u H3 nu s3 pu => ?_⟩
    rw [if_pos (e2.mp c2)] at q
    exact q u _ (w2.trans s3) pu
  rw [if_neg (fun z => c2 (e2.mpr z))] at q
  have go : ∀ (t1 : Addr) (H3 : Hp), Same H2 H3 → TermAt H3 t1 (sx sc tl a b) (po sc tl a b) → FAt C H3 x sc tl := fun _ _ k _ => (hF.same w2).same k
  refine ⟨_, rfl, _, rfl, _, rfl, _, rfl, x, sc, tl, a, b, rfl, hF.same w2, fun ct H3 t1 s3 et => ?_, fun na nb H3 t1 u s3 et eu => ?_⟩
  · have T1 : TermAt H3 t1 (sx sc tl a b) (po sc tl a b) := by
      unfold po
      rw [if_pos ct]
      exact et
    have w3 := w2.trans s3
    refine ⟨_, rfl, _, rfl, x, sc, tl, c, rfl, hF.same w3, fun t2 H4 s4 T2 => ?_⟩
    have w4 := w3.trans s4
    refine ⟨_, rfl, x, t1, t2, sc, tl, _, _, _, _, way, rfl, hF.same w4, T1.same s4, T2, sx_01 sc tl a b, GM.sgn_01, ofi_po a b h1 h2 h4, ofi_wo c h1 h2 h4, fun t4 H5 s5 P5 => ?_⟩
    exact q t4 _ (w4.trans s5) P5
  · have T1 : TermAt H3 t1 (sx sc tl a b) (po sc tl a b) := by
      unfold po
      rw [if_neg (fun z => z.elim na nb)]
      exact ⟨u, et, eu⟩
    have w3 := w2.trans s3
    refine ⟨_, rfl, _, rfl, x, sc, tl, c, rfl, hF.same w3, fun t2 H4 s4 T2 => ?_⟩
    have w4 := w3.trans s4
    refine ⟨_, rfl, x, t1, t2, sc, tl, _, _, _, _, way, rfl, hF.same w4, T1.same s4, T2, sx_01 sc tl a b, GM.sgn_01, ofi_po a b h1 h2 h4, ofi_wo c h1 h2 h4, fun t4 H5 s5 P5 => ?_⟩
    exact q t4 _ (w4.trans s5) P5
end
section
variable {P : Program} {w : World} {K : PySem.W.Frag} {mg : Str → Option Value} {base : Heap}
variable {C : Addr} {a1 a2 a3 a4 a5 a6 a7 a8 a9 a10 a11 a12 a13 a14 a15 a16 a17 a18 a19 a20 a21 a22 a23 a24 a25 a26 a27 a28 a29 a30 a31 a32 a33 a34 a35 a36 a37 a38 a39 a40 a41 a42 a43 a44 a45 a46 a47 a48 a49 a50 a51 a52 a53 a54 a55 a56 a57 a58 a59 a60 a61 a62 a63 a64 a65 a66 a67 : Addr} {l1 l2 l3 l4 l5 l6 l7 l8 l9 l10 l11 l12 l13 l14 l15 l16 l17 l18 l19 l20 l21 l22 l23 l24 l25 l26 l27 l28 l29 l30 l31 l32 l33 l34 l35 l36 l37 l38 l39 l40 l41 l42 l43 l44 l45 l46 l47 l48 l49 l50 l51 l52 l53 l54 l55 l56 l57 l58 l59 l60 l61 l62 l63 l64 l65 l66 l67 : FuncData} {t62 t63 t64 tg_NEAR tg_CUT tg_UP tg_DOWN : Tok} {dO : Addr} {esO : Array DictEntry} {nO : Nat}
theorem abs_in {x y : Int} (hx : -(2 ^ 25) < x ∧ x < 2 ^ 25) (hy : -(2 ^ 25) < y ∧ y < 2 ^ 25) : 0 ≤ ab (x * y) ∧ ab (x * y) < 2 ^ 50 := by
  have e : (x * y).natAbs = x.natAbs * y.natAbs := Int.natAbs_mul x y
  have h : x.natAbs * y.natAbs ≤ (2 ^ 25 - 1) * (2 ^ 25 - 1) := Nat.mul_le_mul (by omega) (by omega)
  rw [← e] at h
  unfold ab
  generalize x * y = z at h
  split <;> omega
def mulR (sc tl : Nat) (a b : Int) (way : Str) : Int × List Str :=
  if srt sc tl (sz sc tl a) = "none" ∨ srt sc tl (sz sc tl b) = "none" then (noneW sc tl, [])
  else if (srt sc tl (sz sc tl a) = "endless" ∨ srt sc tl (sz sc tl b) = "endless") ∧ (srt sc tl (sz sc tl a) = "nought" ∨ srt sc tl (sz sc tl b) = "nought") then (noneW sc tl, ["bad"])
  else if GM.topS sc tl ≤ sz sc tl a ∨ GM.topS sc tl ≤ sz sc tl b then (sx sc tl a b * 2 ^ (sc + tl) + ((2 ^ sc - 1) * 2 ^ tl + 0), [])
  else GR.rnd sc tl (sx sc tl a b) (ab (wn sc tl a * wn sc tl b)) (wp sc tl a + wp sc tl b) way false
def spMul (C : Addr) : Sp := fun vs H Q _ => ∃ (x : Addr) (sc tl : Nat) (a b : Int) (way : Str), vs = [.ref x, .int a, .int b, .str way] ∧ FAt C H x sc tl ∧
  ∀ t H', Same H H' → PairAt H' t (mulR sc tl a b way) → Q (.ref t) H'
theorem ok_multiplied (B : Bl mg) (L : LL K mg C a1 a2 a3 a4 a5 a6 a7 a8 a9 a10 a11 a12 a13 a14 a15 a16 a17 a18 a19 a20 a21 a22 a23 a24 a25 a26 a27 a28 a29 a30 a31 a32 a33 a34 a35 a36 a37 a38 a39 a40 a41 a42 a43 a44 a45 a46 a47 a48 a49 a50 a51 a52 a53 a54 a55 a56 a57 a58 a59 a60 a61 a62 a63 a64 a65 a66 a67 l1 l2 l3 l4 l5 l6 l7 l8 l9 l10 l11 l12 l13 l14 l15 l16 l17 l18 l19 l20 l21 l22 l23 l24 l25 l26 l27 l28 l29 l30 l31 l32 l33 l34 l35 l36 l37 l38 l39 l40 l41 l42 l43 l44 l45 l46 l47 l48 l49 l50 l51 l52 l53 l54 l55 l56 l57 l58 l59 l60 l61 l62 l63 l64 l65 l66 l67 t62 t63 t64 tg_NEAR tg_CUT tg_UP tg_DOWN w dO esO nO) : FnOk P w K mg base CX0 6 a12 l12 ["form", "a", "b", "way"] (spMul C) := by
  have G_has_none : FnOk P w K mg base CX0 5 a15 l15 ["form", "words"] (spHN K C) := (ok_has_none B L).mono (by decide)
  have G_Form_none_word : FnOk P w K mg base CX0 5 a65 l65 ["self"] (spNamed0 C) := (ok_Form_none_word B L).mono (by decide)
  have G_is_endless_by_nought : FnOk P w K mg base CX0 5 a17 l17 ["form", "a", "b"] (spEBN C) := (ok_is_endless_by_nought B L).mono (by decide)
  have G_bad : FnOk P w K mg base CX0 5 a16 l16 ["form"] (spBad C) := (ok_bad B L).mono (by decide)
  have G_product_of : FnOk P w K mg base CX0 5 a21 l21 ["form", "a", "b"] (spProd C) := (ok_product_of B L).mono (by decide)
  have G_Form_endless : FnOk P w K mg base CX0 5 a63 l63 ["self", "sign"] (spNm C mEn mNo) := (ok_Form_endless B L).mono (by decide)
  have G_rounded : FnOk P w K mg base CX0 5 a4 l4 ["form", "sign", "number", "power", "way", "more"] (spRnd C) := (ok_rounded B L).mono (by decide)
  refine L.F_multiplied.ok sc_multiplied (fun vs H Q E h => ?_) (fun cdv A outer s H vs Q E hr h => ?_)
  · obtain ⟨x, sc, tl, a, b, way, rfl, _⟩ := h
    rfl
  obtain ⟨x, sc, tl, a, b, way, rfl, hF, q⟩ := h
  obtain ⟨dx, hx, h1, h2, h3, h4⟩ := id hF
  refine ⟨_, (pss_cons (ps_if (pt_val (pe_call G_has_none hr (by rfl) L.m_has_none L.F_has_none.kp L.b_has_none .nil pass0 (pa_cons (pv 0) (pa_cons (pe_tup (pa_cons (pv 1) (pa_cons (pv 2) pa_nil))) pa_nil)))) (pss_one (ps_ret (pe_tup (pa_cons (pe_meth0 (pv 0) L.T.cl L.M_Form_none_word G_Form_none_word hr L.b_Form_none_word .nil pass0) (pa_cons (pe_tup pa_nil) pa_nil))))) pss_nil)
    (pss_cons (ps_if (pt_val (pe_call G_is_endless_by_nought hr (by rfl) L.m_is_endless_by_nought L.F_is_endless_by_nought.kp L.b_is_endless_by_nought .nil pass0 (pa_cons (pv 0) (pa_cons (pv 1) (pa_cons (pv 2) pa_nil))))) (pss_one (ps_ret (pe_call G_bad hr (by rfl) L.m_bad L.F_bad.kp L.b_bad .nil pass0 (pa_cons (pv 0) pa_nil)))) pss_nil)
    (pss_cons (ps_asg (pe_call G_product_of hr (by rfl) L.m_product_of L.F_product_of.kp L.b_product_of .nil pass0 (pa_cons (pv 0) (pa_cons (pv 1) (pa_cons (pv 2) pa_nil)))) (pg_tup (by rfl) (pgs_cons (pg_name (i := 4) sc_multiplied.nd rfl (.inl rfl)) (pgs_cons (pg_name (i := 5) sc_multiplied.nd rfl (.inl rfl)) pgs_nil))))
    (pss_cons (ps_if (pt_cmpR op_isN (pv 5) pe_non (nomark _)) (pss_one (ps_ret (pe_tup (pa_cons (pe_meth (pv 0) L.T.cl L.M_Form_endless G_Form_endless hr L.b_Form_endless .nil pass0 (pa_cons (pv 4) pa_nil)) (pa_cons (pe_tup pa_nil) pa_nil))))) pss_nil)
    (pss_cons (ps_asg (pv 5) (pg_tup (by rfl) (pgs_cons (pg_name (i := 6) sc_multiplied.nd rfl (.inl rfl)) (pgs_cons (pg_name (i := 7) sc_multiplied.nd rfl (.inl rfl)) pgs_nil))))
    (pss_one (ps_ret (pe_callN G_rounded hr (by rfl) L.m_rounded L.F_rounded.kp (L.kb_rounded_way).choose_spec pass0 (pa_cons (pv 0) (pa_cons (pv 4) (pa_cons (pe_callB call_abs (by rfl) B.abs boot_abs (pa_cons (pv 6) pa_nil)) (pa_cons (pv 7) pa_nil)))) (pk_cons (pv 3) pk_nil))))))))), ?_⟩
  refine ⟨_, rfl, _, rfl, _, rfl, (by show 2 ≤ sizeLine; decide), fun t nt => ?_⟩
  have st := same_upd (o := .tup [.int a, .int b]) nt
  refine ⟨x, t, sc, tl, [a, b], rfl, hF.same st, .inl (.inl upd_same), Nat.le_of_ble_eq_true rfl, fun r H1 s1 hr1 => ?_⟩
  have w1 := st.trans s1
  have e1 : r = true ↔ (srt sc tl (sz sc tl a) = "none" ∨ srt sc tl (sz sc tl b) = "none") := by
    rw [hr1]
    simp
  refine ⟨_, rfl, ite2 (fun c => ?_) (fun c => ?_)⟩
  · refine ⟨_, rfl, x, dx, _, rfl, w1 _ _ hx, rfl, x, sc, tl, rfl, hF.same w1, Nat.zero_le _, fun e ne => ⟨(by show 2 ≤ sizeLine; decide), fun u nu => ?_⟩⟩
    have se := same_upd (o := .tup []) ne
    rw [show (0 * 2 ^ (sc + tl) + ((2 ^ sc - 1) * 2 ^ tl + 2 ^ (tl - 1)) : Int) = noneW sc tl by unfold noneW; omega]
    refine q u _ ((w1.trans se).trans (same_upd nu)) ?_
    unfold mulR
    rw [if_pos (e1.mp c)]
    exact ⟨e, upd_same, same_upd nu _ _ upd_same⟩
  have n1 := fun z => c (e1.mpr z)
  refine ⟨_, rfl, _, rfl, _, rfl, x, sc, tl, a, b, rfl, hF.same w1, fun r2 H2 s2 e2 => ?_⟩
  have w2 := w1.trans s2
  refine ⟨_, rfl, ite2 (fun c2 => ?_) (fun c2 => ?_)⟩
  · refine ⟨_, rfl, x, sc, tl, rfl, hF.same w2, fun u H3 nu s3 pu => ?_⟩
    refine q u _ (w2.trans s3) ?_
    unfold mulR
    rw [if_neg n1, if_pos (e2.mp c2)]
    exact pu
  have n2 := fun z => c2 (e2.mpr z)
  refine ⟨_, rfl, _, rfl, _, rfl, x, sc, tl, a, b, rfl, hF.same w2, fun ct H3 u s3 eu => ?_, fun na nb H3 u v s3 eu ev => ?_⟩
  · have w3 := w2.trans s3
    refine ⟨u, _, rfl, .inl (.inl eu), rfl, _, _, rfl, _, _, rfl, rfl, ?_⟩
    refine ⟨_, rfl, rfl, _, rfl, iteT ?_⟩
    refine ⟨_, rfl, x, dx, _, rfl, w3 _ _ hx, rfl, _, rfl, x, sc, tl, _, rfl, hF.same w3, sx_01 sc tl a b, Nat.zero_le _, fun e ne => ⟨(by show 2 ≤ sizeLine; decide), fun t2 nt2 => ?_⟩⟩
    have se := same_upd (o := .tup []) ne
    refine q t2 _ ((w3.trans se).trans (same_upd nt2)) ?_
    unfold mulR
    rw [if_neg n1, if_neg n2, if_pos ct]
    exact ⟨e, upd_same, same_upd nt2 _ _ upd_same⟩
  · have w3 := w2.trans s3
    refine ⟨u, _, rfl, .inl (.inl eu), rfl, _, _, rfl, _, _, rfl, rfl, ?_⟩
    refine ⟨_, rfl, rfl, _, rfl, iteF ?_⟩
    refine ⟨_, rfl, v, _, rfl, .inl (.inl ev), rfl, _, _, rfl, _, _, rfl, rfl, ?_⟩
    have ia := wp_in h1 h2 h4 na
    have ib := wp_in h1 h2 h4 nb
    have im := abs_in (wn_25 sc a h4) (wn_25 sc b h4)
    refine ⟨_, rfl, _, rfl, _, rfl, _, rfl, _, rfl, _, rfl, rfl, rfl, x, sc, tl, _, _, _, way, false, rfl, hF.same w3, sx_01 sc tl a b, fit_lt im.1 im.2 (by decide), by omega, by omega, (fun z => nomatch z), fun t3 H4 nt3 s4 P3 => ?_⟩
    refine q t3 _ (w3.trans s4) ?_
    unfold mulR
    rw [if_neg n1, if_neg n2, if_neg (fun z => z.elim na nb)]
    exact P3
end
section
variable {P : Program} {w : World} {K : PySem.W.Frag} {mg : Str → Option Value} {base : Heap}
variable {C : Addr} {a1 a2 a3 a4 a5 a6 a7 a8 a9 a10 a11 a12 a13 a14 a15 a16 a17 a18 a19 a20 a21 a22 a23 a24 a25 a26 a27 a28 a29 a30 a31 a32 a33 a34 a35 a36 a37 a38 a39 a40 a41 a42 a43 a44 a45 a46 a47 a48 a49 a50 a51 a52 a53 a54 a55 a56 a57 a58 a59 a60 a61 a62 a63 a64 a65 a66 a67 : Addr} {l1 l2 l3 l4 l5 l6 l7 l8 l9 l10 l11 l12 l13 l14 l15 l16 l17 l18 l19 l20 l21 l22 l23 l24 l25 l26 l27 l28 l29 l30 l31 l32 l33 l34 l35 l36 l37 l38 l39 l40 l41 l42 l43 l44 l45 l46 l47 l48 l49 l50 l51 l52 l53 l54 l55 l56 l57 l58 l59 l60 l61 l62 l63 l64 l65 l66 l67 : FuncData} {t62 t63 t64 tg_NEAR tg_CUT tg_UP tg_DOWN : Tok} {dO : Addr} {esO : Array DictEntry} {nO : Nat}
theorem quo_ok {sc tl k : Nat} {x y p : Int} (hx : 0 < x) (hy : 0 < y) (hy2 : y < 2 ^ (tl + 1)) (hk : 2 * tl + 2 ≤ k) : 0 < x * 2 ^ k / y ∧ p < GR.lap sc tl (x * 2 ^ k / y) p := by
  have pk := GM.pow_pos' k
  have p1 := GM.pow_pos' (tl + 1)
  have l1 : (2 : Int) ^ (tl + 1) * 2 ^ (tl + 1) ≤ x * 2 ^ k := by
    rw [← GM.pow_add']
    have a : (2 : Int) ^ (tl + 1 + (tl + 1)) ≤ 2 ^ k := GM.pow_le' (by omega)
    have b : 1 * 2 ^ k ≤ x * 2 ^ k := Int.mul_le_mul_of_nonneg_right (by omega) (by omega)
    omega
  have hq : (2 : Int) ^ (tl + 1) ≤ x * 2 ^ k / y := by
    refine (Int.le_ediv_iff_mul_le hy).mpr ?_
    have : (2 : Int) ^ (tl + 1) * y ≤ 2 ^ (tl + 1) * 2 ^ (tl + 1) := Int.mul_le_mul_of_nonneg_left (by omega) (by omega)
    omega
  have h0 : 0 < x * 2 ^ k / y := by omega
  refine ⟨h0, ?_⟩
  generalize x * 2 ^ k / y = q at *
  obtain ⟨m, hm, g1, g2⟩ := GR.bl_in h0
  have hm1 : tl + 1 ≤ m := by
    rcases Nat.lt_or_ge m (tl + 1) with c | c
    · have := GM.pow_le' (show m + 1 ≤ tl + 1 by omega)
      omega
    · exact c
  unfold GR.lap
  split <;> omega
def quoR (sc tl k : Nat) (s x p y e : Int) (w : Str) : Int × List Str := GR.rnd sc tl s (x * 2 ^ k / y) (p - e - k) w (!decide (x * 2 ^ k % y = 0))
theorem quo_eq {sc tl : Nat} {s x p y e : Int} {w : Str} (j : Nat) (hx : 0 < x) (hy : 0 < y) (hy2 : y < 2 ^ (tl + 1)) : quoR sc tl (2 * tl + 2 + j) s x p y e w = quoR sc tl (2 * tl + 2) s x p y e w := by
  have pj := GM.pow_pos' j
  have pk := GM.pow_pos' (2 * tl + 2)
  have ek : (2 : Int) ^ (2 * tl + 2 + j) = 2 ^ (2 * tl + 2) * 2 ^ j := GM.pow_add' _ _
  have eq : x * 2 ^ (2 * tl + 2 + j) / y / 2 ^ j = x * 2 ^ (2 * tl + 2) / y := by
    rw [Int.ediv_ediv_of_nonneg (Int.le_of_lt hy), ek, ← Int.mul_assoc, Int.mul_ediv_mul_of_pos_left _ _ pj]
  have ok := quo_ok (sc := sc) (p := p - e - ((2 * tl + 2 : Nat) : Int)) hx hy hy2 (Nat.le_refl (2 * tl + 2))
  have ep : p - e - ((2 * tl + 2 + j : Nat) : Int) + j = p - e - ((2 * tl + 2 : Nat) : Int) := by omega
  unfold quoR
  rw [GR.rnd_cut j (by rw [eq]; exact ok.1) (by rw [eq, ep]; exact ok.2), eq, ep]
  congr 1
  rw [Bool.eq_iff_iff, Bool.or_eq_true, Bool.not_eq_true', Bool.not_eq_true', Bool.not_eq_true', decide_eq_false_iff_not, decide_eq_false_iff_not, decide_eq_false_iff_not]
  have dm1 := Int.emod_add_mul_ediv (x * 2 ^ (2 * tl + 2 + j)) y
  have key : (x * 2 ^ (2 * tl + 2 + j) / y % 2 ^ j = 0 ∧ x * 2 ^ (2 * tl + 2 + j) % y = 0) ↔ x * 2 ^ (2 * tl + 2) % y = 0 := by
    constructor
    · rintro ⟨a, b⟩
      rw [b, Int.zero_add] at dm1
      have dm2 := Int.emod_add_mul_ediv (x * 2 ^ (2 * tl + 2 + j) / y) (2 ^ j)
      rw [a, Int.zero_add, eq] at dm2
      have e3 : (y * (x * 2 ^ (2 * tl + 2) / y)) * 2 ^ j = (x * 2 ^ (2 * tl + 2)) * 2 ^ j := by
        rw [Int.mul_assoc y, Int.mul_comm _ (2 ^ j), dm2, dm1, ek, Int.mul_assoc]
      have := Int.eq_of_mul_eq_mul_right (by omega) e3
      rw [← this, Int.mul_emod_right]
    · intro a
      have dm2 := Int.emod_add_mul_ediv (x * 2 ^ (2 * tl + 2)) y
      rw [a, Int.zero_add] at dm2
      have e2 : x * 2 ^ (2 * tl + 2 + j) = y * (x * 2 ^ (2 * tl + 2) / y * 2 ^ j) := by
        rw [ek, ← Int.mul_assoc, ← Int.mul_assoc, dm2]
      refine ⟨?_, ?_⟩
      · rw [e2, Int.mul_ediv_cancel_left _ (by omega), Int.mul_emod_left]
      · rw [e2, Int.mul_emod_right]
  constructor
  · intro h z
    have := key.mpr z
    exact h.elim (fun y => y this.1) (fun y => y this.2)
  · intro h
    by_cases z : x * 2 ^ (2 * tl + 2 + j) / y % 2 ^ j = 0
    · exact .inr (fun y => h (key.mp ⟨z, y⟩))
    · exact .inl z
theorem ifS_ev {c : TT} {t u : TS} {D : Ends} {σ : L2.St} {H : Hp} (R : Bool → Hp → Prop) (h : ∀ Q : Bool → Hp → Prop, (∀ z H', R z H' → Q z H') → c σ H Q) (q1 : ∀ H', R true H' → t D σ H') (q2 : ∀ H', R false H' → u D σ H') : tIfS c t u D σ H := h _ fun z H' r => by
  cases z with
  | true => exact q1 H' r
  | false => exact q2 H' r
def divR (sc tl : Nat) (a b : Int) (way : Str) : Int × List Str :=
  if srt sc tl (sz sc tl a) = "none" ∨ srt sc tl (sz sc tl b) = "none" then (noneW sc tl, [])
  else if (srt sc tl (sz sc tl a) = "nought" ∧ srt sc tl (sz sc tl b) = "nought") ∨ (srt sc tl (sz sc tl a) = "endless" ∧ srt sc tl (sz sc tl b) = "endless") then (noneW sc tl, ["bad"])
  else if srt sc tl (sz sc tl a) = "endless" then (endW sc tl (sx sc tl a b), [])
  else if srt sc tl (sz sc tl b) = "endless" ∨ srt sc tl (sz sc tl a) = "nought" then (sx sc tl a b * 2 ^ (sc + tl), [])
  else if srt sc tl (sz sc tl b) = "nought" then (endW sc tl (sx sc tl a b), ["bynought"])
  else quoR sc tl (2 * tl + 2) (sx sc tl a b) (ab (wn sc tl a)) (wp sc tl a) (ab (wn sc tl b)) (wp sc tl b) way
theorem sz_nn (sc tl : Nat) (v : Int) : 0 ≤ sz sc tl v := Int.emod_nonneg _ (by have := GM.pow_pos' (sc + tl); omega)
theorem srt_nought (m t : Nat) (s : Int) : srt m t s = "nought" ↔ (¬ GM.topS m t ≤ s ∧ s = 0) := by
  unfold srt
  constructor
  · intro h
    by_cases c : GM.topS m t ≤ s
    · rw [if_pos c] at h
      by_cases e : s = GM.topS m t
      · rw [if_pos e] at h
        exact absurd h (by decide +kernel)
      · rw [if_neg e] at h
        exact absurd h (by decide +kernel)
    · rw [if_neg c] at h
      by_cases e : s = 0
      · exact ⟨c, e⟩
      · rw [if_neg e] at h
        by_cases e2 : s / 2 ^ t = 0
        · rw [if_pos e2] at h
          exact absurd h (by decide +kernel)
        · rw [if_neg e2] at h
          exact absurd h (by decide +kernel)
  · intro h
    rw [if_neg h.1, if_pos h.2]
theorem num_zero {tl : Nat} {u : Int} (h0 : 0 ≤ u) : 0 ≤ GM.num tl u ∧ (GM.num tl u = 0 ↔ u = 0) := by
  have hp := GM.pow_pos' tl
  have n := Int.emod_nonneg u (show (2 : Int) ^ tl ≠ 0 by omega)
  have d := Int.emod_add_mul_ediv u (2 ^ tl)
  unfold GM.num
  by_cases c : u / 2 ^ tl = 0
  · rw [if_pos c]
    rw [c, Int.mul_zero, Int.add_zero] at d
    omega
  · rw [if_neg c]
    refine ⟨by omega, fun z => by omega, fun z => ?_⟩
    rw [z] at c
    exact absurd (Int.zero_ediv _) c
theorem num_in2 {tl : Nat} {u : Int} (h0 : 0 ≤ u) : GM.num tl u < 2 ^ (tl + 1) := by
  have hp := GM.pow_pos' tl
  have p1 : (2 : Int) ^ (tl + 1) = 2 ^ tl * 2 := GM.pow_s _
  have l := Int.emod_lt_of_pos u hp
  unfold GM.num
  split <;> omega
theorem ab_wn {sc tl : Nat} {v : Int} (hn : ¬ srt sc tl (sz sc tl v) = "nought") (ht : ¬ GM.topS sc tl ≤ sz sc tl v) : 0 < ab (wn sc tl v) ∧ ab (wn sc tl v) < 2 ^ (tl + 1) := by
  have h := num_zero (tl := tl) (sz_nn sc tl v)
  have l := num_in2 (tl := tl) (sz_nn sc tl v)
  have nz : ¬ GM.num tl (sz sc tl v) = 0 := fun z => hn ((srt_nought _ _ _).mpr ⟨ht, h.2.mp z⟩)
  unfold wn ab
  split <;> split <;> omega
theorem quo_fit {x y : Int} {k : Nat} (hx : 0 < x) (hx2 : x < 2 ^ 25) (hy : 0 < y) (hk : k ≤ 100) : Fit (x * 2 ^ k / y) := by
  have pk := GM.pow_pos' k
  have a : 0 ≤ x * 2 ^ k := Int.mul_nonneg (by omega) (by omega)
  have b : x * 2 ^ k / y ≤ x * 2 ^ k := Int.ediv_le_self _ a
  have c : x * 2 ^ k < 2 ^ 25 * 2 ^ k := Int.mul_lt_mul_of_pos_right hx2 pk
  have d : (2 : Int) ^ 25 * 2 ^ k ≤ 2 ^ 125 := by
    rw [← GM.pow_add']
    exact GM.pow_le' (by omega)
  exact fit_lt (k := 125) (Int.ediv_nonneg a (by omega)) (by omega) (by decide)
def spQR (K : PySem.W.Frag) (C : Addr) : Sp := fun vs H Q _ => ∃ (x oa ob : Addr) (sc tl : Nat) (s n p m e : Int) (way : Str), vs = [.ref x, .int s, .ref oa, .ref ob, .str way] ∧ FAt C H x sc tl ∧ (s = 0 ∨ s = 1) ∧ SqT K H oa [.int n, .int p] ∧ SqT K H ob [.int m, .int e] ∧ 0 < ab n ∧ ab n < 2 ^ (tl + 1) ∧ 0 < ab m ∧ ab m < 2 ^ (tl + 1) ∧ -400 ≤ p ∧ p ≤ 400 ∧ -400 ≤ e ∧ e ≤ 400 ∧
  ∀ t H', Same H H' → PairAt H' t (quoR sc tl (2 * tl + 2) s (ab n) p (ab m) e way) → Q (.ref t) H'
theorem ok_quotient_rounded (B : Bl mg) (L : LL K mg C a1 a2 a3 a4 a5 a6 a7 a8 a9 a10 a11 a12 a13 a14 a15 a16 a17 a18 a19 a20 a21 a22 a23 a24 a25 a26 a27 a28 a29 a30 a31 a32 a33 a34 a35 a36 a37 a38 a39 a40 a41 a42 a43 a44 a45 a46 a47 a48 a49 a50 a51 a52 a53 a54 a55 a56 a57 a58 a59 a60 a61 a62 a63 a64 a65 a66 a67 l1 l2 l3 l4 l5 l6 l7 l8 l9 l10 l11 l12 l13 l14 l15 l16 l17 l18 l19 l20 l21 l22 l23 l24 l25 l26 l27 l28 l29 l30 l31 l32 l33 l34 l35 l36 l37 l38 l39 l40 l41 l42 l43 l44 l45 l46 l47 l48 l49 l50 l51 l52 l53 l54 l55 l56 l57 l58 l59 l60 l61 l62 l63 l64 l65 l66 l67 t62 t63 t64 tg_NEAR tg_CUT tg_UP tg_DOWN w dO esO nO) : FnOk P w K mg base CX0 6 a25 l25 ["form", "sign", "one", "other", "way"] (spQR K C) := by
  have G_rounded : FnOk P w K mg base CX0 5 a4 l4 ["form", "sign", "number", "power", "way", "more"] (spRnd C) := (ok_rounded B L).mono (by decide)
  refine L.F_quotient_rounded.ok sc_quotient_rounded (fun vs H Q E h => ?_) (fun cdv A outer s H vs Q E hr h => ?_)
  · obtain ⟨x, oa, ob, sc, tl, s, n, p, m, e, way, rfl, _⟩ := h
    rfl
  obtain ⟨x, oa, ob, sc, tl, s, n, p, m, e, way, rfl, hF, hs, hA, hB, n0, n1, m0, m1, p1, p2, e1, e2, q⟩ := h
  obtain ⟨dx, hx, h1, h2, h3, h4⟩ := id hF
  refine ⟨_, (pss_cons (ps_asg (pv 2) (pg_tup (by rfl) (pgs_cons (pg_name (i := 5) sc_quotient_rounded.nd rfl (.inl rfl)) (pgs_cons (pg_name (i := 6) sc_quotient_rounded.nd rfl (.inl rfl)) pgs_nil))))
    (pss_cons (ps_asg (pv 3) (pg_tup (by rfl) (pgs_cons (pg_name (i := 7) sc_quotient_rounded.nd rfl (.inl rfl)) (pgs_cons (pg_name (i := 8) sc_quotient_rounded.nd rfl (.inl rfl)) pgs_nil))))
    (pss_cons (ps_set (i := 9) sc_quotient_rounded.nd rfl (.inl rfl) (pe_op op_add (pe_op op_mul pe_int (pe_fld (pv 0) rfl)) pe_int))
    (pss_cons (ps_asg (pe_callB call_divmodW (by rfl) B.divmod boot_divmod (pa_cons (pe_op op_shlN (pe_callB call_abs (by rfl) B.abs boot_abs (pa_cons (pv 5) pa_nil)) (pv 9)) (pa_cons (pe_callB call_abs (by rfl) B.abs boot_abs (pa_cons (pv 7) pa_nil)) pa_nil))) (pg_tup (by rfl) (pgs_cons (pg_name (i := 10) sc_quotient_rounded.nd rfl (.inl rfl)) (pgs_cons (pg_name (i := 11) sc_quotient_rounded.nd rfl (.inl rfl)) pgs_nil))))
    (pss_one (ps_ret (pe_callN G_rounded hr (by rfl) L.m_rounded L.F_rounded.kp (L.kb_rounded_way_more).choose_spec pass0 (pa_cons (pv 0) (pa_cons (pv 1) (pa_cons (pv 10) (pa_cons (pe_op op_sub (pe_op op_sub (pv 6) (pv 8)) (pv 9)) pa_nil)))) (pk_cons (pv 4) (pk_cons (pe_cmpR op_ne (pv 11) pe_int (nomark _)) pk_nil))))))))), ?_⟩
  have p25 : (2 : Int) ^ (tl + 1) ≤ 2 ^ 25 := GM.pow_le' (by omega)
  refine ⟨_, rfl, oa, _, rfl, hA, rfl, _, _, rfl, _, _, rfl, rfl, ?_⟩
  refine ⟨_, rfl, ob, _, rfl, hB, rfl, _, _, rfl, _, _, rfl, rfl, ?_⟩
  refine ⟨_, rfl, x, C, dx, _, _, rfl, hx, L.T.cl, L.T.nt, fl_t _ _, _, _, rfl, rfl, .inl ⟨by decide, by decide⟩, _, _, rfl, rfl, ?_⟩
  have pk := GM.pow_pos' (2 * tl + 2)
  have pb : ab n * 2 ^ (2 * tl + 2) < 2 ^ 25 * 2 ^ (2 * tl + 2) := Int.mul_lt_mul_of_pos_right (by omega) pk
  refine ⟨_, rfl, n, rfl, _, rfl, _, 2 * tl + 2, rfl, congrArg V.int (by omega), shl_ok (n := 25) (by show (ab n).natAbs < _; omega) (by omega), _, rfl, m, rfl, _, _, rfl, divp_small m0 (by show ab m < 2 ^ 250; omega), fun P np => ?_⟩
  have sP := same_upd (o := .tup [.int (ab n * 2 ^ (2 * tl + 2) / ab m), .int (ab n * 2 ^ (2 * tl + 2) % ab m)]) np
  refine ⟨P, _, rfl, .inl (.inl upd_same), rfl, _, _, rfl, _, _, rfl, rfl, ?_⟩
  have F1 := hF.same sP
  refine ⟨_, rfl, _, rfl, _, rfl, _, rfl, _, rfl, _, _, rfl, rfl, _, rfl, _, _, rfl, rfl, _, rfl, _, rfl, rfl, rfl, rfl, ?_⟩
  have ok := quo_ok (sc := sc) (p := p - e - (2 * (tl : Int) + 2)) n0 m0 m1 (Nat.le_refl (2 * tl + 2))
  refine ⟨x, sc, tl, s, _, _, way, _, rfl, F1, hs, quo_fit (x := ab n) (y := ab m) n0 (by omega) m0 (by omega), by omega, by omega, fun _ => ⟨by have := ok.1; show ¬ ab n * 2 ^ (2 * tl + 2) / ab m = 0; omega, ok.2⟩, fun t3 H4 nt3 s4 P3 => ?_⟩
  refine q t3 _ (sP.trans s4) ?_
  unfold quoR
  rw [dvi] at P3
  rw [show p - e - ((2 * tl + 2 : Nat) : Int) = p - e - (2 * (tl : Int) + 2) by omega]
  exact P3
def spDiv (C : Addr) : Sp := fun vs H Q _ => ∃ (x : Addr) (sc tl : Nat) (a b : Int) (way : Str), vs = [.ref x, .int a, .int b, .str way] ∧ FAt C H x sc tl ∧
  ∀ t H', Same H H' → PairAt H' t (divR sc tl a b way) → Q (.ref t) H'
theorem srt_dif (sc tl : Nat) (s : Int) : ¬ (srt sc tl s = "endless" ∧ srt sc tl s = "nought") := fun h => by
  rw [h.1] at h
  exact absurd h.2 (by decide +kernel)
theorem ok_divided (B : Bl mg) (L : LL K mg C a1 a2 a3 a4 a5 a6 a7 a8 a9 a10 a11 a12 a13 a14 a15 a16 a17 a18 a19 a20 a21 a22 a23 a24 a25 a26 a27 a28 a29 a30 a31 a32 a33 a34 a35 a36 a37 a38 a39 a40 a41 a42 a43 a44 a45 a46 a47 a48 a49 a50 a51 a52 a53 a54 a55 a56 a57 a58 a59 a60 a61 a62 a63 a64 a65 a66 a67 l1 l2 l3 l4 l5 l6 l7 l8 l9 l10 l11 l12 l13 l14 l15 l16 l17 l18 l19 l20 l21 l22 l23 l24 l25 l26 l27 l28 l29 l30 l31 l32 l33 l34 l35 l36 l37 l38 l39 l40 l41 l42 l43 l44 l45 l46 l47 l48 l49 l50 l51 l52 l53 l54 l55 l56 l57 l58 l59 l60 l61 l62 l63 l64 l65 l66 l67 t62 t63 t64 tg_NEAR tg_CUT tg_UP tg_DOWN w dO esO nO) : FnOk P w K mg base CX0 7 a13 l13 ["form", "a", "b", "way"] (spDiv C) := by
  have G_has_none : FnOk P w K mg base CX0 6 a15 l15 ["form", "words"] (spHN K C) := (ok_has_none B L).mono (by decide)
  have G_Form_none_word : FnOk P w K mg base CX0 6 a65 l65 ["self"] (spNamed0 C) := (ok_Form_none_word B L).mono (by decide)
  have G_Form_sort_of : FnOk P w K mg base CX0 6 a61 l61 ["self", "word"] (spSort C) := (ok_Form_sort_of B L).mono (by decide)
  have G_unlike_sign : FnOk P w K mg base CX0 6 a19 l19 ["form", "a", "b"] (spUnl C) := (ok_unlike_sign B L).mono (by decide)
  have G_bad : FnOk P w K mg base CX0 6 a16 l16 ["form"] (spBad C) := (ok_bad B L).mono (by decide)
  have G_Form_endless : FnOk P w K mg base CX0 6 a63 l63 ["self", "sign"] (spNm C mEn mNo) := (ok_Form_endless B L).mono (by decide)
  have G_Form_nought : FnOk P w K mg base CX0 6 a62 l62 ["self", "sign"] (spNm C mNo mNo) := (ok_Form_nought B L).mono (by decide)
  have G_Form_worth : FnOk P w K mg base CX0 6 a67 l67 ["self", "word"] (spWorth C) := (ok_Form_worth B L).mono (by decide)
  have G_quotient_rounded : FnOk P w K mg base CX0 6 a25 l25 ["form", "sign", "one", "other", "way"] (spQR K C) := (ok_quotient_rounded B L).mono (by decide)
  refine L.F_divided.ok sc_divided (fun vs H Q E h => ?_) (fun cdv A outer s H vs Q E hr h => ?_)
  · obtain ⟨x, sc, tl, a, b, way, rfl, _⟩ := h
    rfl
  obtain ⟨x, sc, tl, a, b, way, rfl, hF, q⟩ := h
  obtain ⟨dx, hx, h1, h2, h3, h4⟩ := id hF
  refine ⟨_, (pss_cons (ps_if (pt_val (pe_call G_has_none hr (by rfl) L.m_has_none L.F_has_none.kp L.b_has_none .nil pass0 (pa_cons (pv 0) (pa_cons (pe_tup (pa_cons (pv 1) (pa_cons (pv 2) pa_nil))) pa_nil)))) (pss_one (ps_ret (pe_tup (pa_cons (pe_meth0 (pv 0) L.T.cl L.M_Form_none_word G_Form_none_word hr L.b_Form_none_word .nil pass0) (pa_cons (pe_tup pa_nil) pa_nil))))) pss_nil)
    (pss_cons (ps_set (i := 4) sc_divided.nd rfl (.inl rfl) (pe_meth (pv 0) L.T.cl L.M_Form_sort_of G_Form_sort_of hr L.b_Form_sort_of .nil pass0 (pa_cons (pv 1) pa_nil)))
    (pss_cons (ps_set (i := 5) sc_divided.nd rfl (.inl rfl) (pe_meth (pv 0) L.T.cl L.M_Form_sort_of G_Form_sort_of hr L.b_Form_sort_of .nil pass0 (pa_cons (pv 2) pa_nil)))
    (pss_cons (ps_set (i := 6) sc_divided.nd rfl (.inl rfl) (pe_call G_unlike_sign hr (by rfl) L.m_unlike_sign L.F_unlike_sign.kp L.b_unlike_sign .nil pass0 (pa_cons (pv 0) (pa_cons (pv 1) (pa_cons (pv 2) pa_nil)))))
    (pss_cons (ps_if (PW.pt (pw_and (pt_cmpR op_eq (pv 4) (pv 5) (nomark _)) (pw_and1 (pt_cmpR op_in_seq (pv 4) (pe_tup (pa_cons pe_str (pa_cons pe_str pa_nil))) (by rfl))))) (pss_one (ps_ret (pe_call G_bad hr (by rfl) L.m_bad L.F_bad.kp L.b_bad .nil pass0 (pa_cons (pv 0) pa_nil)))) pss_nil)
    (pss_cons (ps_if (pt_cmpR op_eq (pv 4) pe_str (nomark _)) (pss_one (ps_ret (pe_tup (pa_cons (pe_meth (pv 0) L.T.cl L.M_Form_endless G_Form_endless hr L.b_Form_endless .nil pass0 (pa_cons (pv 6) pa_nil)) (pa_cons (pe_tup pa_nil) pa_nil))))) pss_nil)
    (pss_cons (ps_if (PW.pt (pw_or (pt_cmpR op_eq (pv 5) pe_str (nomark _)) (pw_or1 (pt_cmpR op_eq (pv 4) pe_str (nomark _))))) (pss_one (ps_ret (pe_tup (pa_cons (pe_meth (pv 0) L.T.cl L.M_Form_nought G_Form_nought hr L.b_Form_nought .nil pass0 (pa_cons (pv 6) pa_nil)) (pa_cons (pe_tup pa_nil) pa_nil))))) pss_nil)
    (pss_cons (ps_if (pt_cmpR op_eq (pv 5) pe_str (nomark _)) (pss_one (ps_ret (pe_tup (pa_cons (pe_meth (pv 0) L.T.cl L.M_Form_endless G_Form_endless hr L.b_Form_endless .nil pass0 (pa_cons (pv 6) pa_nil)) (pa_cons (pe_tup (pa_cons pe_str pa_nil)) pa_nil))))) pss_nil)
    (pss_one (ps_ret (pe_call G_quotient_rounded hr (by rfl) L.m_quotient_rounded L.F_quotient_rounded.kp L.b_quotient_rounded .nil pass0 (pa_cons (pv 0) (pa_cons (pv 6) (pa_cons (pe_meth (pv 0) L.T.cl L.M_Form_worth G_Form_worth hr L.b_Form_worth .nil pass0 (pa_cons (pv 1) pa_nil)) (pa_cons (pe_meth (pv 0) L.T.cl L.M_Form_worth G_Form_worth hr L.b_Form_worth .nil pass0 (pa_cons (pv 2) pa_nil)) (pa_cons (pv 3) pa_nil)))))))))))))))), ?_⟩
  refine ⟨_, rfl, _, rfl, _, rfl, (by show 2 ≤ sizeLine; decide), fun t nt => ?_⟩
  have st := same_upd (o := .tup [.int a, .int b]) nt
  refine ⟨x, t, sc, tl, [a, b], rfl, hF.same st, .inl (.inl upd_same), Nat.le_of_ble_eq_true rfl, fun r H1 s1 hr1 => ?_⟩
  have w1 := st.trans s1
  have e1 : r = true ↔ (srt sc tl (sz sc tl a) = "none" ∨ srt sc tl (sz sc tl b) = "none") := by
    rw [hr1]
    simp
  unfold divR at q
  refine ⟨_, rfl, ite2 (fun c => ?_) (fun c => ?_)⟩
  · refine ⟨_, rfl, x, dx, _, rfl, w1 _ _ hx, rfl, x, sc, tl, rfl, hF.same w1, Nat.zero_le _, fun e ne => ⟨(by show 2 ≤ sizeLine; decide), fun u nu => ?_⟩⟩
    have se := same_upd (o := .tup []) ne
    rw [show (0 * 2 ^ (sc + tl) + ((2 ^ sc - 1) * 2 ^ tl + 2 ^ (tl - 1)) : Int) = noneW sc tl by unfold noneW; omega]
    rw [if_pos (e1.mp c)] at q
    exact q u _ ((w1.trans se).trans (same_upd nu)) ⟨e, upd_same, same_upd nu _ _ upd_same⟩
  have n1 := fun z => c (e1.mpr z)
  rw [if_neg n1] at q
  refine ⟨_, rfl, x, dx, _, rfl, w1 _ _ hx, rfl, _, rfl, x, sc, tl, a, rfl, hF.same w1, fun H2 s2 => ?_⟩
  have w2 := w1.trans s2
  refine ⟨_, rfl, x, dx, _, rfl, w2 _ _ hx, rfl, _, rfl, x, sc, tl, b, rfl, hF.same w2, fun H3 s3 => ?_⟩
  have w3 := w2.trans s3
  refine ⟨_, rfl, _, rfl, _, rfl, x, sc, tl, a, b, rfl, hF.same w3, fun H4 s4 => ?_⟩
  have w4 := w3.trans s4
  have tpa := srt_top sc tl (sz sc tl a)
  have tpb := srt_top sc tl (sz sc tl b)
  have wnA := fun hn ht => ab_wn (sc := sc) (tl := tl) (v := a) hn ht
  have wnB := fun hn ht => ab_wn (sc := sc) (tl := tl) (v := b) hn ht
  have s01 := sx_01 sc tl a b
  have sd := srt_dif sc tl (sz sc tl a)
  try dsimp only [tNext, tSeq, gName]
  refine ifS_ev (fun r H' => (r = true ↔ ((srt sc tl (sz sc tl a) = "nought" ∧ srt sc tl (sz sc tl b) = "nought") ∨ (srt sc tl (sz sc tl a) = "endless" ∧ srt sc tl (sz sc tl b) = "endless"))) ∧ Same H4 H') (fun Q' q' => ?_) (fun HX hX => ?_) (fun HX hX => ?_)
  · refine ⟨_, rfl, _, rfl, rfl, _, rfl, ite2 (fun ca => ?_) (fun ca => ?_)⟩
    · have ca1 : srt sc tl (sz sc tl a) = srt sc tl (sz sc tl b) := V.str.inj (of_decide_eq_true ca)
      refine ⟨_, rfl, (by show 2 ≤ sizeLine; decide), fun U nU => ?_⟩
      refine ⟨U, _, rfl, .inr (.inl (.inl upd_same)), rfl, rfl, _, rfl, q' _ _ ⟨?_, same_upd nU⟩⟩
      show inV (.str (srt sc tl (sz sc tl a))) [.str "nought", .str "endless"] = true ↔ _
      rw [in_two, decide_eq_true_iff, ← ca1]
      exact ⟨fun z => z.imp (fun y => ⟨y.symm, y.symm⟩) (fun y => ⟨y.symm, y.symm⟩), fun z => z.imp (fun y => y.1.symm) (fun y => y.1.symm)⟩
    · have ca1 : ¬ srt sc tl (sz sc tl a) = srt sc tl (sz sc tl b) := fun z => ca (decide_eq_true (congrArg V.str z))
      exact q' _ _ ⟨⟨fun z => Bool.noConfusion z, fun z => absurd (z.elim (fun y => y.1.trans y.2.symm) (fun y => y.1.trans y.2.symm)) ca1⟩, Same.refl _⟩
  · have w5 := w4.trans hX.2
    refine ⟨_, rfl, x, sc, tl, rfl, hF.same w5, fun u H6 nu s6 pu => ?_⟩
    rw [if_pos (hX.1.mp rfl)] at q
    exact q u _ (w5.trans s6) pu
  have w5 := w4.trans hX.2
  rw [if_neg (mt hX.1.mpr (by decide))] at q
  have F5 := hF.same w5
  refine ⟨_, rfl, rfl, _, rfl, ite2 (fun ca => ?_) (fun ca => ?_)⟩
  · rw [if_pos (V.str.inj (of_decide_eq_true ca))] at q
    refine ⟨_, rfl, x, dx, _, rfl, w5 _ _ hx, rfl, _, rfl, x, sc, tl, _, rfl, F5, s01, Nat.zero_le _, fun e ne => ⟨(by show 2 ≤ sizeLine; decide), fun u nu => ?_⟩⟩
    exact q u _ ((w5.trans (same_upd ne)).trans (same_upd nu)) ⟨e, upd_same, same_upd nu _ _ upd_same⟩
  have ca1 : ¬ srt sc tl (sz sc tl a) = "endless" := fun z => ca (decide_eq_true (congrArg V.str z))
  rw [if_neg ca1] at q
  have noughtGo : (srt sc tl (sz sc tl b) = "endless" ∨ srt sc tl (sz sc tl a) = "nought") → ∀ e, HX e = none → ∀ u, (upd HX e (.tup [])) u = none → Q (.ref u) (upd (upd HX e (.tup [])) u (.tup [.int (sx sc tl a b * 2 ^ (sc + tl) + (0 * 2 ^ tl + 0)), .ref e])) := fun hc e ne u nu => by
    rw [if_pos hc] at q
    refine q u _ ((w5.trans (same_upd ne)).trans (same_upd nu)) ⟨e, ?_, same_upd nu _ _ upd_same⟩
    rw [upd_same, Int.zero_mul, Int.add_zero, Int.add_zero]
  refine ⟨_, rfl, rfl, _, rfl, ite2 (fun cb => ?_) (fun cb => ?_)⟩
  · have cb1 := V.str.inj (of_decide_eq_true cb)
    refine iteT ?_
    refine ⟨_, rfl, x, dx, _, rfl, w5 _ _ hx, rfl, _, rfl, x, sc, tl, _, rfl, F5, s01, Nat.zero_le _, fun e ne => ⟨(by show 2 ≤ sizeLine; decide), fun u nu => ?_⟩⟩
    exact noughtGo (.inl cb1) e ne u nu
  have cb1 : ¬ srt sc tl (sz sc tl b) = "endless" := fun z => cb (decide_eq_true (congrArg V.str z))
  refine ⟨_, rfl, rfl, _, rfl, ite2 (fun cc => ?_) (fun cc => ?_)⟩
  · have cc1 := V.str.inj (of_decide_eq_true cc)
    refine ⟨_, rfl, x, dx, _, rfl, w5 _ _ hx, rfl, _, rfl, x, sc, tl, _, rfl, F5, s01, Nat.zero_le _, fun e ne => ⟨(by show 2 ≤ sizeLine; decide), fun u nu => ?_⟩⟩
    exact noughtGo (.inr cc1) e ne u nu
  have cc1 : ¬ srt sc tl (sz sc tl a) = "nought" := fun z => cc (decide_eq_true (congrArg V.str z))
  rw [if_neg (fun z => z.elim cb1 cc1)] at q
  refine ⟨_, rfl, rfl, _, rfl, ite2 (fun cd => ?_) (fun cd => ?_)⟩
  · rw [if_pos (V.str.inj (of_decide_eq_true cd))] at q
    refine ⟨_, rfl, x, dx, _, rfl, w5 _ _ hx, rfl, _, rfl, x, sc, tl, _, rfl, F5, s01, (by show 1 ≤ sizeLine; decide), fun e ne => ⟨(by show 2 ≤ sizeLine; decide), fun u nu => ?_⟩⟩
    exact q u _ ((w5.trans (same_upd ne)).trans (same_upd nu)) ⟨e, upd_same, same_upd nu _ _ upd_same⟩
  have cd1 : ¬ srt sc tl (sz sc tl b) = "nought" := fun z => cd (decide_eq_true (congrArg V.str z))
  rw [if_neg cd1] at q
  have na : ¬ GM.topS sc tl ≤ sz sc tl a := fun z => (tpa.mpr z).elim ca1 (fun z => n1 (.inl z))
  have nb : ¬ GM.topS sc tl ≤ sz sc tl b := fun z => (tpb.mpr z).elim cb1 (fun z => n1 (.inr z))
  have ia := wp_in h1 h2 h4 na
  have ib := wp_in h1 h2 h4 nb
  refine ⟨_, rfl, _, rfl, _, rfl, x, dx, _, rfl, w5 _ _ hx, rfl, _, rfl, x, sc, tl, a, rfl, F5, fun H6 s6 z => absurd z na, fun H6 pa s6 _ ea => ?_⟩
  have w6 := w5.trans s6
  refine ⟨_, rfl, x, dx, _, rfl, w6 _ _ hx, rfl, _, rfl, x, sc, tl, b, rfl, hF.same w6, fun H7 s7 z => absurd z nb, fun H7 pb s7 _ eb => ?_⟩
  have w7 := w6.trans s7
  refine ⟨_, rfl, x, pa, pb, sc, tl, _, _, _, _, _, way, rfl, hF.same w7, s01, .inl (.inl (s7 _ _ ea)), .inl (.inl eb), (wnA cc1 na).1, (wnA cc1 na).2, (wnB cd1 nb).1, (wnB cd1 nb).2, ia.1, ia.2, ib.1, ib.2, fun t3 H8 s8 P3 => ?_⟩
  exact q t3 _ (w7.trans s8) P3
end
/-! ### a dict of the written part; f(e, *ys, k = v) of a local name -/
section
variable {M : Model} {A : Around} {E : Value → Shared → Prop} {s : Shared}
theorem ks_callKW {f : Value} {first : List Value} {pos : Pos} {Q : Value → Shared → Prop} {P : Heap → Prop} {args : List (Bool × Sem Value)} {kws : List (Option Str × Sem Value)} (hst : args.any (·.1) = true)
    (hk : ∀ h, P h → ∃ k, (k = Keeper.frame ∨ k = Keeper.machine ∨ k = Keeper.boundFrame) ∧ PySem.W.Looks M h (keeperOf f) k)
    (h : wpAny M A (evalArgs f true args kws) (fun a s₁ => P s₁.heap ∧ wpAny M A (call f (first ++ a.pos) a.kw) Q E s₁) E s) : wpAny M A (callWith pos f first args kws) Q E s := by
  unfold callWith
  refine wpAny_bind (wpAny_holding (wpAny_mono h (fun a s₁ h₁ => wpAny_bind (wpAny_standAt ?_)) fun _ _ x => x))
  obtain ⟨k, hk', L⟩ := hk _ h₁.1
  simp only [hst, Bool.true_or]
  refine wpAny_bind (L.here ?_)
  have tail : ∀ {t : Sem Value}, wpAny M A t Q E s₁ → wpAny M A (t >>= fun r => holding [r] point >>= fun _ => pure r) Q E s₁ :=
    fun ht => wpAny_bind (wpAny_mono ht (fun r s₂ hr => wpAny_bind (wpAny_holding (wpAny_point (wpAny_pure hr)))) fun _ _ x => x)
  have marked (mk : Value) : wpAny M A (callMarked mk f (first ++ a.pos) a.kw) Q E s₁ := by unfold callMarked; exact PySem.Calls.wpAny_keep h₁.2
  rcases hk' with rfl | rfl | rfl <;> dsimp only <;> first | exact tail (marked _) | exact tail (wpAny_operating h₁.2)
end
structure HeldN (P : Program) (w : World) (K : PySem.W.Frag) (mg : Str → Option Value) (base : Heap) (k : Nat) (f : Addr) (n : Nat) (ks : List Str) (sp : Sp) (gV : List V → List V → List V) : Prop where
  ex : ∃ (fd : FuncData) (ps : List Str) (g : List Value → List Value → List Value), FnOk P w K mg base CX0 k f fd ps sp ∧ PySem.W.keepIn K (.ref f) = true ∧ KBn K fd ps n ks g gV
def tCallLS (i m : Nat) (S : Addr → Nat → Sp → (List V → List V → List V) → Prop) (t tk : TA) : TE := fun σ H Q => ∃ f n sp gV, σ[i]? = some (some (.ref f)) ∧ S f n sp gV ∧ t σ H fun vs H1 => tk σ H1 fun zs H2 => vs.length = n ∧ zs.length = m ∧ sp (gV vs zs) H2 Q E0
section
variable {X : Cx} {k i : Nat} {ks : List Str} {x : Str} {p pos : Pos} {e : Expr} {es : List Expr} {kws : List Keyword} {t tk : TA} {S : Addr → Nat → Sp → (List V → List V → List V) → Prop}
theorem pe_callLS (A : ∀ f n sp gV, S f n sp gV → HeldN X.prog X.w X.K X.mg X.base k f n ks sp gV) (hr : Room k X.A) (hN : X.N[i]? = some x) (hv : Vis X.env.scope x) (ha : PA X (e :: es) t) (hkw : PK X kws tk)
    (hall : (backToKw pos (keywordEach kws X.env)).all (·.1.isSome) = true := by rfl) (hks : (backToKw pos (keywordEach kws X.env)).filterMap (·.1) = ks := by rfl)
    (hdb : (x == ("__debug__" : Str)) = false := by decide) (hcd : (x == ("__classdict__" : Str)) = false := by decide)
    (he : starEach (e :: es) X.env = (false, eval e X.env) :: starEach es X.env := by rfl) (hst : (backTo pos (starEach (e :: es) X.env)).any (·.1) = true := by rfl) :
    PE X (.Call (.Name x p) (e :: es) kws pos) (tCallLS i ks.length S t tk) := by
  refine ⟨fun pins s σ H Q I h => ?_⟩
  obtain ⟨f, n, sp, gV, hs, hS, ht⟩ := h
  obtain ⟨fd, ps, g, F, hk, hb⟩ := (A f n sp gV hS).ex
  refine wpAny_Call_Name_kw (thn ((pe_var (pos := p) hN hv hdb hcd).run pins s σ H (fun v H1 => v = .ref f ∧ H1 = H) I ⟨.ref f, hs, rfl, rfl⟩) fun u s1 ⟨v, H1, I1, r1, q1⟩ => ?_)
  obtain ⟨rfl, rfl⟩ := q1
  cases r1
  refine ks_callKW hst (PySem.W.keeps_K hk) (evalArgs_kw2 hall (thn (ha.run pos pins s1 σ _ _ I1 ht) fun us s2 ⟨vs, H2, I2, r, q⟩ => ?_) he)
  refine thn (hkw.run pos pins s2 σ H2 _ I2 q) fun ws s3 ⟨zs, H3, I3, rz, l1, l2, q3⟩ => ⟨I3.kIn, ?_⟩
  rw [hks]
  exact run_fnN F hr hb pass0 I3 r rz l1 l2 q3
theorem ix_kd {d : Addr} {es : Array DictEntry} {n : Nat} (D : KDict X.K X.w d es n) : IxR X (fun x y H Q => ∃ (z : Str) (u0 : Value) (v0 : V), x = .ref d ∧ y = .str z ∧ PySem.W.nsIn X.K d z = some (some u0) ∧ RelV v0 u0 ∧ Q v0 H) := by
  intro value slice pins s σ H x y v u Q I rx ry h hs
  obtain ⟨z, u0, v0, rfl, rfl, e, r, q⟩ := h
  cases rx
  obtain ⟨t, rfl⟩ := ry
  exact tail_any (kd_type D I) PySem.F.slot_dict_getitem.lookup (wpAny_getItem_of (PySem.strKind_is X.prog X.w z t) (PySem.W.mapOf_K (prog := X.prog) I.kIn D.at_ D.lit) (PySem.W.find_K D.at_ e) ⟨v0, H, I.tok _, r, q⟩) hs
end
section
variable {P : Program} {w : World} {K : PySem.W.Frag} {mg : Str → Option Value} {base : Heap}
variable {C : Addr} {a1 a2 a3 a4 a5 a6 a7 a8 a9 a10 a11 a12 a13 a14 a15 a16 a17 a18 a19 a20 a21 a22 a23 a24 a25 a26 a27 a28 a29 a30 a31 a32 a33 a34 a35 a36 a37 a38 a39 a40 a41 a42 a43 a44 a45 a46 a47 a48 a49 a50 a51 a52 a53 a54 a55 a56 a57 a58 a59 a60 a61 a62 a63 a64 a65 a66 a67 : Addr} {l1 l2 l3 l4 l5 l6 l7 l8 l9 l10 l11 l12 l13 l14 l15 l16 l17 l18 l19 l20 l21 l22 l23 l24 l25 l26 l27 l28 l29 l30 l31 l32 l33 l34 l35 l36 l37 l38 l39 l40 l41 l42 l43 l44 l45 l46 l47 l48 l49 l50 l51 l52 l53 l54 l55 l56 l57 l58 l59 l60 l61 l62 l63 l64 l65 l66 l67 : FuncData} {t62 t63 t64 tg_NEAR tg_CUT tg_UP tg_DOWN : Tok} {dO : Addr} {esO : Array DictEntry} {nO : Nat}
/-! ### done -/
def doneR (sc tl : Nat) (op : Str) (ws : List Int) (way : Str) : Option (Int × List Str) :=
  match ws with
  | [a, b] => if op = "add" then some (addR sc tl a b way) else if op = "take" then some (addR sc tl a (trn sc tl b) way) else if op = "times" then some (mulR sc tl a b way) else if op = "over" then some (divR sc tl a b way) else none
  | [a, b, c] => if op = "join" then some (joinR sc tl a b c way) else none
  | _ => none
def spDone (K : PySem.W.Frag) (C : Addr) : Sp := fun vs H Q _ => ∃ (x u : Addr) (sc tl : Nat) (op way : Str) (ws : List Int) (r : Int × List Str), vs = [.ref x, .str op, .ref u, .str way] ∧ FAt C H x sc tl ∧ (SqT K H u (ws.map V.int) ∨ SqL K H u (ws.map V.int)) ∧ doneR sc tl op ws way = some r ∧
  ∀ t H', Same H H' → PairAt H' t r → Q (.ref t) H'
def gApp : List V → List V → List V := fun vs zs => vs ++ zs
def SOps (C aA aT aM aO aJ : Addr) : Addr → Nat → Sp → (List V → List V → List V) → Prop := fun f n sp gV => (f = aA ∧ n = 3 ∧ sp = spAdd C ∧ gV = gApp) ∨ (f = aT ∧ n = 3 ∧ sp = spTake2 C ∧ gV = gApp) ∨ (f = aM ∧ n = 3 ∧ sp = spMul C ∧ gV = gApp) ∨ (f = aO ∧ n = 3 ∧ sp = spDiv C ∧ gV = gApp) ∨ (f = aJ ∧ n = 4 ∧ sp = spJoin C ∧ gV = gApp)
theorem ok_done (B : Bl mg) (L : LL K mg C a1 a2 a3 a4 a5 a6 a7 a8 a9 a10 a11 a12 a13 a14 a15 a16 a17 a18 a19 a20 a21 a22 a23 a24 a25 a26 a27 a28 a29 a30 a31 a32 a33 a34 a35 a36 a37 a38 a39 a40 a41 a42 a43 a44 a45 a46 a47 a48 a49 a50 a51 a52 a53 a54 a55 a56 a57 a58 a59 a60 a61 a62 a63 a64 a65 a66 a67 l1 l2 l3 l4 l5 l6 l7 l8 l9 l10 l11 l12 l13 l14 l15 l16 l17 l18 l19 l20 l21 l22 l23 l24 l25 l26 l27 l28 l29 l30 l31 l32 l33 l34 l35 l36 l37 l38 l39 l40 l41 l42 l43 l44 l45 l46 l47 l48 l49 l50 l51 l52 l53 l54 l55 l56 l57 l58 l59 l60 l61 l62 l63 l64 l65 l66 l67 t62 t63 t64 tg_NEAR tg_CUT tg_UP tg_DOWN w dO esO nO) : FnOk P w K mg base CX0 9 a26 l26 ["form", "op", "words", "way"] (spDone K C) := by
  have G_added : FnOk P w K mg base CX0 8 a10 l10 ["form", "a", "b", "way"] (spAdd C) := (ok_added B L).mono (by decide)
  have G_taken : FnOk P w K mg base CX0 8 a11 l11 ["form", "a", "b", "way"] (spTake2 C) := (ok_taken B L).mono (by decide)
  have G_multiplied : FnOk P w K mg base CX0 8 a12 l12 ["form", "a", "b", "way"] (spMul C) := (ok_multiplied B L).mono (by decide)
  have G_divided : FnOk P w K mg base CX0 8 a13 l13 ["form", "a", "b", "way"] (spDiv C) := (ok_divided B L).mono (by decide)
  have G_joined : FnOk P w K mg base CX0 8 a14 l14 ["form", "a", "b", "c", "way"] (spJoin C) := (ok_joined B L).mono (by decide)
  refine L.F_done.ok sc_done (fun vs H Q E h => ?_) (fun cdv A outer s H vs Q E hr h => ?_)
  · obtain ⟨x, u, sc, tl, op, way, ws, r, rfl, _⟩ := h
    rfl
  obtain ⟨x, u, sc, tl, op, way, ws, r, rfl, hF, hU, hr0, q⟩ := h
  have AS : ∀ f n sp gV, SOps C a10 a11 a12 a13 a14 f n sp gV → HeldN P w K mg base 8 f n ["way"] sp gV := fun f n sp gV hS => by
    rcases hS with ⟨rfl, rfl, rfl, rfl⟩ | ⟨rfl, rfl, rfl, rfl⟩ | ⟨rfl, rfl, rfl, rfl⟩ | ⟨rfl, rfl, rfl, rfl⟩ | ⟨rfl, rfl, rfl, rfl⟩
    · exact ⟨⟨_, _, _, G_added, L.F_added.kp, L.kb_added_way.choose_spec⟩⟩
    · exact ⟨⟨_, _, _, G_taken, L.F_taken.kp, L.kb_taken_way.choose_spec⟩⟩
    · exact ⟨⟨_, _, _, G_multiplied, L.F_multiplied.kp, L.kb_multiplied_way.choose_spec⟩⟩
    · exact ⟨⟨_, _, _, G_divided, L.F_divided.kp, L.kb_divided_way.choose_spec⟩⟩
    · exact ⟨⟨_, _, _, G_joined, L.F_joined.kp, L.kb_joined_way.choose_spec⟩⟩
  refine ⟨_, (pss_cons (ps_set (i := 4) sc_done.nd rfl (.inl rfl) (pe_ix (ix_kd L.OPS_D) (pe_glob (v := .ref dO) rfl L.m_OPS rfl) (pv 1) (fun _ _ => rfl)))
    (pss_one (ps_ret (pe_callLS (k := 8) (i := 4) (S := SOps C a10 a11 a12 a13 a14) AS hr rfl (Or.inl rfl) (pa_cons (pv 0) (StX.pa_star (pv 2) pa_nil)) (pk_cons (pv 3) pk_nil))))), ?_⟩
  unfold doneR at hr0
  split at hr0
  · rename_i a b
    split at hr0
    · rename_i e
      subst e
      have hr' := Option.some.inj hr0
      subst hr'
      refine ⟨_, rfl, _, .ref a10, V.ref a10, rfl, rfl, L.o_add, rfl, ?_⟩
      exact ⟨a10, _, _, _, rfl, .inl ⟨rfl, rfl, rfl, rfl⟩, _, rfl, _, rfl, u, _, rfl, hU, _, rfl, rfl, rfl, x, sc, tl, a, b, way, rfl, hF, q⟩
    split at hr0
    · rename_i e
      subst e
      have hr' := Option.some.inj hr0
      subst hr'
      refine ⟨_, rfl, _, .ref a11, V.ref a11, rfl, rfl, L.o_take, rfl, ?_⟩
      exact ⟨a11, _, _, _, rfl, .inr (.inl ⟨rfl, rfl, rfl, rfl⟩), _, rfl, _, rfl, u, _, rfl, hU, _, rfl, rfl, rfl, x, sc, tl, a, b, way, rfl, hF, q⟩
    split at hr0
    · rename_i e
      subst e
      have hr' := Option.some.inj hr0
      subst hr'
      refine ⟨_, rfl, _, .ref a12, V.ref a12, rfl, rfl, L.o_times, rfl, ?_⟩
      exact ⟨a12, _, _, _, rfl, .inr (.inr (.inl ⟨rfl, rfl, rfl, rfl⟩)), _, rfl, _, rfl, u, _, rfl, hU, _, rfl, rfl, rfl, x, sc, tl, a, b, way, rfl, hF, q⟩
    split at hr0
    · rename_i e
      subst e
      have hr' := Option.some.inj hr0
      subst hr'
      refine ⟨_, rfl, _, .ref a13, V.ref a13, rfl, rfl, L.o_over, rfl, ?_⟩
      exact ⟨a13, _, _, _, rfl, .inr (.inr (.inr (.inl ⟨rfl, rfl, rfl, rfl⟩))), _, rfl, _, rfl, u, _, rfl, hU, _, rfl, rfl, rfl, x, sc, tl, a, b, way, rfl, hF, q⟩
    cases hr0
  · rename_i a b c
    split at hr0
    · rename_i e
      subst e
      have hr' := Option.some.inj hr0
      subst hr'
      refine ⟨_, rfl, _, .ref a14, V.ref a14, rfl, rfl, L.o_join, rfl, ?_⟩
      exact ⟨a14, _, _, _, rfl, .inr (.inr (.inr (.inr ⟨rfl, rfl, rfl, rfl⟩))), _, rfl, _, rfl, u, _, rfl, hU, _, rfl, rfl, rfl, x, sc, tl, a, b, c, way, rfl, hF, q⟩
    cases hr0
  · cases hr0
end
section
variable {P : Program} {w : World} {K : PySem.W.Frag} {mg : Str → Option Value} {base : Heap}
variable {C : Addr} {a1 a2 a3 a4 a5 a6 a7 a8 a9 a10 a11 a12 a13 a14 a15 a16 a17 a18 a19 a20 a21 a22 a23 a24 a25 a26 a27 a28 a29 a30 a31 a32 a33 a34 a35 a36 a37 a38 a39 a40 a41 a42 a43 a44 a45 a46 a47 a48 a49 a50 a51 a52 a53 a54 a55 a56 a57 a58 a59 a60 a61 a62 a63 a64 a65 a66 a67 : Addr} {l1 l2 l3 l4 l5 l6 l7 l8 l9 l10 l11 l12 l13 l14 l15 l16 l17 l18 l19 l20 l21 l22 l23 l24 l25 l26 l27 l28 l29 l30 l31 l32 l33 l34 l35 l36 l37 l38 l39 l40 l41 l42 l43 l44 l45 l46 l47 l48 l49 l50 l51 l52 l53 l54 l55 l56 l57 l58 l59 l60 l61 l62 l63 l64 l65 l66 l67 : FuncData} {t62 t63 t64 tg_NEAR tg_CUT tg_UP tg_DOWN : Tok} {dO : Addr} {esO : Array DictEntry} {nO : Nat}
theorem sgn_div {sc tl : Nat} {v : Int} (h0 : 0 ≤ v) (h1 : v < 2 ^ (1 + sc + tl)) : v / 2 ^ (sc + tl) = GM.sgn sc tl v := by
  have p1 : (2 : Int) ^ (1 + sc + tl) = 2 * 2 ^ (sc + tl) := by rw [Int.mul_comm, ← GM.pow_s]; congr 1; omega
  have hp := GM.pow_pos' (sc + tl)
  have a : 0 ≤ v / 2 ^ (sc + tl) := Int.ediv_nonneg h0 (by omega)
  have b : v / 2 ^ (sc + tl) < 2 := Int.ediv_lt_of_lt_mul hp (by omega)
  unfold GM.sgn
  omega
/-! ### signs by xor -/
theorem and_step (a b : Nat) : a &&& b = 2 * (a / 2 &&& b / 2) + (a % 2) * (b % 2) := by
  have h1 : (a &&& b) / 2 = a / 2 &&& b / 2 := by
    have := Nat.and_div_two_pow (a := a) (b := b) (n := 1)
    simpa using this
  have h2 : (a &&& b) % 2 = (a % 2) * (b % 2) := by
    have := Nat.and_mod_two_pow (a := a) (b := b) (n := 1)
    rw [show 2 ^ 1 = 2 from rfl] at this
    rw [this]
    have ha : a % 2 = 0 ∨ a % 2 = 1 := by omega
    have hb : b % 2 = 0 ∨ b % 2 = 1 := by omega
    rcases ha with ha | ha <;> rcases hb with hb | hb <;> rw [ha, hb] <;> rfl
  omega
theorem or_lt (k : Nat) : ∀ a b : Nat, a < 2 ^ k → b < 2 ^ k → a + b < 2 ^ k + (a &&& b) := by
  induction k with
  | zero =>
    intro a b ha hb
    have : a = 0 := by omega
    have : b = 0 := by omega
    subst a b
    decide
  | succ k ih =>
    intro a b ha hb
    rw [Nat.pow_succ] at ha hb ⊢
    have := ih (a / 2) (b / 2) (by omega) (by omega)
    rw [and_step a b]
    have ha : a % 2 = 0 ∨ a % 2 = 1 := by omega
    have hb : b % 2 = 0 ∨ b % 2 = 1 := by omega
    rcases ha with ha | ha <;> rcases hb with hb | hb <;> rw [ha, hb] <;> omega
theorem and_split (k a b : Nat) : a &&& b = (a / 2 ^ k &&& b / 2 ^ k) * 2 ^ k + (a % 2 ^ k &&& b % 2 ^ k) := by
  have h1 := Nat.and_div_two_pow (a := a) (b := b) (n := k)
  have h2 := Nat.and_mod_two_pow (a := a) (b := b) (n := k)
  rw [← h1, ← h2, Nat.mul_comm]
  exact (Nat.div_add_mod _ _).symm
theorem xor_high (k m n : Nat) : Builtin.bitXor (m : Int) (n : Int) / 2 ^ k = Builtin.bitXor ((m / 2 ^ k : Nat) : Int) ((n / 2 ^ k : Nat) : Int) := by
  have bx : ∀ x y : Nat, Builtin.bitXor (x : Int) (y : Int) = (x : Int) + y - 2 * ((x &&& y : Nat) : Int) := fun x y => by
    rw [bitXor_and]
    rfl
  rw [bx, bx]
  have hp := GM.pow_pos' k
  have c : ((2 ^ k : Nat) : Int) = (2 : Int) ^ k := PySem.W.kbt_cast _
  have e := and_split k m n
  have l := or_lt k (m % 2 ^ k) (n % 2 ^ k) (Nat.mod_lt _ (by omega)) (Nat.mod_lt _ (by omega))
  have l1 := Nat.and_le_left (n := m % 2 ^ k) (m := n % 2 ^ k)
  have l2 := Nat.and_le_right (n := m % 2 ^ k) (m := n % 2 ^ k)
  have dm := Nat.div_add_mod m (2 ^ k)
  have dn := Nat.div_add_mod n (2 ^ k)
  generalize m / 2 ^ k = mq at *
  generalize n / 2 ^ k = nq at *
  generalize m % 2 ^ k = mr at *
  generalize n % 2 ^ k = nr at *
  generalize mr &&& nr = r at *
  rw [e]
  generalize mq &&& nq = s
  rw [← dm, ← dn, Int.natCast_add, Int.natCast_add, Int.natCast_add, Int.natCast_mul, Int.natCast_mul, Int.natCast_mul, c]
  rw [show (2 : Int) ^ k * mq + mr + (2 ^ k * nq + nr) - 2 * (s * 2 ^ k + r) = (mr + nr - 2 * r) + (mq + nq - 2 * s) * 2 ^ k by rw [Int.sub_mul, Int.add_mul, Int.mul_add, Int.mul_comm (2 ^ k) mq, Int.mul_comm (2 ^ k) nq, Int.mul_assoc]; omega]
  rw [Int.add_mul_ediv_right _ _ (by omega), Int.ediv_eq_zero_of_lt (by omega) (by omega), Int.zero_add]
theorem xor_sx {sc tl : Nat} {a b : Int} (a0 : 0 ≤ a) (a1 : a < 2 ^ (1 + sc + tl)) (b0 : 0 ≤ b) (b1 : b < 2 ^ (1 + sc + tl)) : Builtin.bitXor a b / 2 ^ (sc + tl) = sx sc tl a b := by
  obtain ⟨m, rfl⟩ := Int.eq_ofNat_of_zero_le a0
  obtain ⟨n, rfl⟩ := Int.eq_ofNat_of_zero_le b0
  have c : ((2 ^ (sc + tl) : Nat) : Int) = (2 : Int) ^ (sc + tl) := PySem.W.kbt_cast _
  rw [xor_high, Int.natCast_ediv, Int.natCast_ediv, c, sgn_div a0 a1, sgn_div b0 b1, sx_xor]
end
section
variable {P : Program} {w : World} {K : PySem.W.Frag} {mg : Str → Option Value} {base : Heap}
variable {C : Addr} {a1 a2 a3 a4 a5 a6 a7 a8 a9 a10 a11 a12 a13 a14 a15 a16 a17 a18 a19 a20 a21 a22 a23 a24 a25 a26 a27 a28 a29 a30 a31 a32 a33 a34 a35 a36 a37 a38 a39 a40 a41 a42 a43 a44 a45 a46 a47 a48 a49 a50 a51 a52 a53 a54 a55 a56 a57 a58 a59 a60 a61 a62 a63 a64 a65 a66 a67 : Addr} {l1 l2 l3 l4 l5 l6 l7 l8 l9 l10 l11 l12 l13 l14 l15 l16 l17 l18 l19 l20 l21 l22 l23 l24 l25 l26 l27 l28 l29 l30 l31 l32 l33 l34 l35 l36 l37 l38 l39 l40 l41 l42 l43 l44 l45 l46 l47 l48 l49 l50 l51 l52 l53 l54 l55 l56 l57 l58 l59 l60 l61 l62 l63 l64 l65 l66 l67 : FuncData} {t62 t63 t64 tg_NEAR tg_CUT tg_UP tg_DOWN : Tok} {dO : Addr} {esO : Array DictEntry} {nO : Nat}
theorem wn_zero (sc tl : Nat) (v : Int) : (wn sc tl v = 0 ↔ sz sc tl v = 0) ∧ (GM.sgn sc tl v = 0 → 0 ≤ wn sc tl v) ∧ (GM.sgn sc tl v = 1 → wn sc tl v ≤ 0) := by
  have h := num_zero (tl := tl) (sz_nn sc tl v)
  unfold wn
  refine ⟨?_, ?_, ?_⟩
  · split
    · rw [← h.2]
      omega
    · exact h.2
  · intro z
    rw [if_neg (by omega)]
    exact h.1
  · intro z
    rw [if_pos z]
    omega
theorem zero_two {x y : Int} {i j : Nat} (h : x * 2 ^ i + y * 2 ^ j = 0) (hs : (0 ≤ x ∧ 0 ≤ y) ∨ (x ≤ 0 ∧ y ≤ 0)) : x = 0 ∧ y = 0 := by
  have pi := GM.pow_pos' i
  have pj := GM.pow_pos' j
  have key : ∀ {x y : Int}, x * 2 ^ i + y * 2 ^ j = 0 → 0 ≤ x → 0 ≤ y → x = 0 ∧ y = 0 := fun {x y} h hx hy => by
    have a := Int.mul_nonneg hx (Int.le_of_lt pi)
    have b := Int.mul_nonneg hy (Int.le_of_lt pj)
    have a0 : x * 2 ^ i = 0 := by omega
    have b0 : y * 2 ^ j = 0 := by omega
    exact ⟨(Int.mul_eq_zero.mp a0).resolve_right (by omega), (Int.mul_eq_zero.mp b0).resolve_right (by omega)⟩
  rcases hs with hs | hs
  · exact key h hs.1 hs.2
  · have := key (x := -x) (y := -y) (by rw [Int.neg_mul, Int.neg_mul]; omega) (by omega) (by omega)
    omega
theorem word_top {sc tl : Nat} {v : Int} (h0 : 0 ≤ v) (h1 : v < 2 ^ (1 + sc + tl)) (h : srt sc tl (sz sc tl v) = "endless") (hn : ¬ srt sc tl (sz sc tl v) = "none") : endW sc tl (GM.sgn sc tl v) = v := by
  have e := (srt_endless (fun z => hn ((srt_none sc tl _).mpr z))).mp h
  unfold endW
  rw [Int.add_zero]
  have e2 : (2 ^ sc - 1) * 2 ^ tl = sz sc tl v := by rw [e]; rfl
  rw [e2, ← sgn_div h0 h1]
  unfold sz
  have d := Int.emod_add_mul_ediv v (2 ^ (sc + tl))
  rw [Int.mul_comm] at d
  omega
theorem m3 (x a b c : Str) : x ∈ [a, b, c] ↔ (a = x ∨ b = x ∨ c = x) := by
  rw [List.mem_cons, List.mem_cons, List.mem_cons]
  exact ⟨fun z => z.elim (fun e => .inl e.symm) fun z => z.elim (fun e => .inr (.inl e.symm)) fun z => z.elim (fun e => .inr (.inr e.symm)) fun z => (nomatch z), fun z => z.elim (fun e => .inl e.symm) fun z => z.elim (fun e => .inr (.inl e.symm)) fun e => .inr (.inr (.inl e.symm))⟩
theorem m2 (x a b : Str) : x ∈ [a, b] ↔ (a = x ∨ b = x) := by
  rw [List.mem_cons, List.mem_cons]
  exact ⟨fun z => z.elim (fun e => .inl e.symm) fun z => z.elim (fun e => .inr e.symm) fun z => (nomatch z), fun z => z.elim (fun e => .inl e.symm) fun e => .inr (.inl e.symm)⟩
theorem wn_sgn (sc tl : Nat) (v : Int) : (GM.sgn sc tl v = 1 → wn sc tl v ≤ 0) ∧ (GM.sgn sc tl v = 0 → 0 ≤ wn sc tl v) := by
  have hp := GM.pow_pos' tl
  have n := Int.emod_nonneg (sz sc tl v) (show (2 : Int) ^ tl ≠ 0 by omega)
  have z : 0 ≤ GM.num tl (sz sc tl v) := by
    unfold GM.num
    split <;> omega
  unfold wn
  constructor
  · intro h
    rw [if_pos h]
    omega
  · intro h
    rw [if_neg (by omega)]
    exact z
theorem prod_sgn (sc tl : Nat) (a b : Int) : (wn sc tl a * wn sc tl b < 0 → sx sc tl a b = 1) ∧ (0 < wn sc tl a * wn sc tl b → sx sc tl a b = 0) := by
  have ha := wn_sgn sc tl a
  have hb := wn_sgn sc tl b
  have sa := GM.sgn_01 (m := sc) (t := tl) (w := a)
  have sb := GM.sgn_01 (m := sc) (t := tl) (w := b)
  unfold sx
  rcases sa with sa | sa <;> rcases sb with sb | sb <;> rw [sa, sb] <;> refine ⟨fun h => ?_, fun h => ?_⟩
  · have := Int.mul_nonneg (ha.2 sa) (hb.2 sb)
    omega
  · rfl
  · rfl
  · have := Int.mul_nonneg (ha.2 sa) (show 0 ≤ -(wn sc tl b) by have := hb.1 sb; omega)
    rw [Int.mul_neg] at this
    omega
  · rfl
  · have := Int.mul_nonneg (show 0 ≤ -(wn sc tl a) by have := ha.1 sa; omega) (hb.2 sb)
    rw [Int.neg_mul] at this
    omega
  · have := Int.mul_nonneg (show 0 ≤ -(wn sc tl a) by have := ha.1 sa; omega) (show 0 ≤ -(wn sc tl b) by have := hb.1 sb; omega)
    rw [Int.neg_mul_neg] at this
    omega
  · rfl
theorem ab_pow (x : Int) (k : Nat) : ab (x * 2 ^ k) = ab x * 2 ^ k := by
  have pk := GM.pow_pos' k
  unfold ab
  by_cases c : x < 0
  · rw [if_pos c, if_pos (Int.mul_neg_of_neg_of_pos c pk), Int.neg_mul]
  · rw [if_neg c, if_neg (by have := Int.mul_nonneg (show 0 ≤ x by omega) (Int.le_of_lt pk); omega)]
theorem ab_num (sc tl : Nat) (v : Int) : ab (wn sc tl v) = GM.num tl (sz sc tl v) := by
  have h := (num_zero (tl := tl) (sz_nn sc tl v)).1
  unfold wn ab
  split <;> split <;> omega
theorem ab_mul' (sc tl : Nat) (a b : Int) : ab (wn sc tl a * wn sc tl b) = GM.num tl (sz sc tl a) * GM.num tl (sz sc tl b) := by
  rw [← ab_num, ← ab_num]
  have e : ∀ z : Int, ab z = (z.natAbs : Int) := fun z => by
    unfold ab
    split <;> omega
  rw [e, e, e, Int.natAbs_mul, Int.natCast_mul]
theorem word_is {sc tl : Nat} {v : Int} (h0 : 0 ≤ v) (h1 : v < 2 ^ (1 + sc + tl)) : GM.sgn sc tl v * 2 ^ (sc + tl) + sz sc tl v = v := by
  rw [← sgn_div h0 h1]
  unfold sz
  have d := Int.emod_add_mul_ediv v (2 ^ (sc + tl))
  rw [Int.mul_comm] at d
  omega
theorem lwr_k (p e : Int) : lwr p e = e - ((e - lwr p e).toNat : Nat) ∧ lwr p e = p - ((p - lwr p e).toNat : Nat) := by
  have : lwr p e ≤ p ∧ lwr p e ≤ e := by
    unfold lwr
    split <;> omega
  omega
end
section
variable {P : Program} {w : World} {K : PySem.W.Frag} {mg : Str → Option Value} {base : Heap}
variable {C : Addr} {a1 a2 a3 a4 a5 a6 a7 a8 a9 a10 a11 a12 a13 a14 a15 a16 a17 a18 a19 a20 a21 a22 a23 a24 a25 a26 a27 a28 a29 a30 a31 a32 a33 a34 a35 a36 a37 a38 a39 a40 a41 a42 a43 a44 a45 a46 a47 a48 a49 a50 a51 a52 a53 a54 a55 a56 a57 a58 a59 a60 a61 a62 a63 a64 a65 a66 a67 : Addr} {l1 l2 l3 l4 l5 l6 l7 l8 l9 l10 l11 l12 l13 l14 l15 l16 l17 l18 l19 l20 l21 l22 l23 l24 l25 l26 l27 l28 l29 l30 l31 l32 l33 l34 l35 l36 l37 l38 l39 l40 l41 l42 l43 l44 l45 l46 l47 l48 l49 l50 l51 l52 l53 l54 l55 l56 l57 l58 l59 l60 l61 l62 l63 l64 l65 l66 l67 : FuncData} {t62 t63 t64 tg_NEAR tg_CUT tg_UP tg_DOWN : Tok} {dO : Addr} {esO : Array DictEntry} {nO : Nat}
/-! ### steps of odd words -/
def hdv (sc tl : Nat) (v : Int) : Bool := decide (("small" : Str) = srt sc tl (sz sc tl v) ∨ ("plain" : Str) = srt sc tl (sz sc tl v))
def spHH (K : PySem.W.Frag) (C : Addr) : Sp := fun vs H Q _ => ∃ (x t : Addr) (sc tl : Nat) (xs : List Int), vs = [.ref x, .ref t] ∧ FAt C H x sc tl ∧ SqT K H t (xs.map V.int) ∧ xs.length ≤ 900 ∧ ∀ H', Same H H' → Q (.bl (xs.all (hdv sc tl))) H'
theorem ok_have_heads (B : Bl mg) (L : LL K mg C a1 a2 a3 a4 a5 a6 a7 a8 a9 a10 a11 a12 a13 a14 a15 a16 a17 a18 a19 a20 a21 a22 a23 a24 a25 a26 a27 a28 a29 a30 a31 a32 a33 a34 a35 a36 a37 a38 a39 a40 a41 a42 a43 a44 a45 a46 a47 a48 a49 a50 a51 a52 a53 a54 a55 a56 a57 a58 a59 a60 a61 a62 a63 a64 a65 a66 a67 l1 l2 l3 l4 l5 l6 l7 l8 l9 l10 l11 l12 l13 l14 l15 l16 l17 l18 l19 l20 l21 l22 l23 l24 l25 l26 l27 l28 l29 l30 l31 l32 l33 l34 l35 l36 l37 l38 l39 l40 l41 l42 l43 l44 l45 l46 l47 l48 l49 l50 l51 l52 l53 l54 l55 l56 l57 l58 l59 l60 l61 l62 l63 l64 l65 l66 l67 t62 t63 t64 tg_NEAR tg_CUT tg_UP tg_DOWN w dO esO nO) : FnOk P w K mg base CX0 4 a27 l27 ["form", "words"] (spHH K C) := by
  have G_Form_sort_of : FnOk P w K mg base CX0 3 a61 l61 ["self", "word"] (spSort C) := (ok_Form_sort_of B L).mono (by decide)
  refine L.F_have_heads.ok sc_have_heads (fun vs H Q E h => ?_) (fun cdv A outer s H vs Q E hr h => ?_)
  · obtain ⟨x, t, sc, tl, xs, rfl, _⟩ := h
    rfl
  obtain ⟨x, t, sc, tl, xs, rfl, hF, hT, hl, q⟩ := h
  obtain ⟨dx, hx, h1, h2, h3, h4⟩ := id hF
  refine ⟨_, (pss_one (ps_ret (pe_callB (cr_all rfl) (by rfl) B.all boot_all (pa_cons (pe_lc (own := [("word", 2)]) (by rfl) sc_have_heads.nd (pi_tup (pv 1)) (blkOk_by (own := [("word", 2)]) (N := ["form", "words", "word"]) (sc := defScope s_have_heads) (by decide +kernel)) (fun _ _ _ _ _ => pg_name (i := 2) sc_have_heads.nd rfl (Or.inl rfl)) (fun _ _ _ _ _ => pts_nil) (fun _ _ _ _ _ => (pe_cmpR (op_in_seqK (K := K)) (pe_meth (pv 0) L.T.cl L.M_Form_sort_of G_Form_sort_of hr L.b_Form_sort_of .nil pass0 (pa_cons (pv 2) pa_nil)) (pe_tup (pa_cons pe_str (pa_cons pe_str pa_nil))) (by rfl)))) pa_nil)))), ?_⟩
  refine ⟨_, rfl, t, rfl, ⟨_, hT⟩, fun D nD => ?_⟩
  refine lc_it (walk_tup (K := K) (a := t) (xs := xs.map V.int)) (fun i H9 => Same H H9 ∧ H9 D = some (.lst ((xs.take i).map fun v => V.bl (hdv sc tl v)))) ⟨same_upd nD, upd_same⟩ (fun i H9 _ ⟨s9, _⟩ => Same.seqT s9 hT) ?_ ?_
  · rintro j z H9 H10 hj ⟨s9, eD3⟩ ⟨rfl, hz⟩
    obtain ⟨v, hv, rfl⟩ := at_int' hz
    refine ⟨rfl, yesT ?_⟩
    refine ⟨_, rfl, x, dx, _, rfl, s9 _ _ hx, rfl, _, rfl, x, sc, tl, v, rfl, hF.same s9, fun H11 s11 => ?_⟩
    refine ⟨(by show 2 ≤ sizeLine; decide), fun U nU => ?_⟩
    have sU := same_upd (o := .tup [.str "small", .str "plain"]) nU
    have eD11 := sU _ _ (s11 _ _ eD3)
    refine ⟨U, _, rfl, .inr (.inl (.inl upd_same)), rfl, rfl, ?_⟩
    refine ⟨_, eD11, len_take _ _ _ hl, fun y u e => ?_, ?_⟩
    · rw [upd_ne (ne_of_none e nD)]
      exact sU _ _ (s11 _ _ (s9 _ _ e))
    · rw [upd_same, snoc_take _ _ hv]
      have : inV (.str (srt sc tl (sz sc tl v))) [.str "small", .str "plain"] = hdv sc tl v := in_two _ _ _
      show some (HO.lst (_ ++ [V.bl (inV (.str (srt sc tl (sz sc tl v))) [.str "small", .str "plain"])])) = _
      rw [this]
  rintro H9 ⟨s9, eD⟩
  rw [List.length_map, List.take_length] at eD
  have eD' : H9 D = some (.lst ((xs.map (hdv sc tl)).map V.bl)) := by
    rw [eD, List.map_map]
    rfl
  refine ⟨D, _, rfl, .inl (.inl eD'), ?_⟩
  have q' := q _ s9
  rw [show xs.all (hdv sc tl) = (xs.map (hdv sc tl)).all id by rw [List.all_map]; rfl] at q'
  exact q'
def StepAt (H : Hp) (t : Addr) (nm : Str) (r : Int × List Str) : Prop := ∃ f, H t = some (.tup [.str nm, .int r.1, .ref f]) ∧ H f = some (.tup (r.2.map V.str))
theorem StepAt.same {H H' : Hp} {t : Addr} {nm : Str} {r : Int × List Str} (h : StepAt H t nm r) (s : Same H H') : StepAt H' t nm r := by
  obtain ⟨f, e1, e2⟩ := h
  exact ⟨f, s _ _ e1, s _ _ e2⟩
def spPS (K : PySem.W.Frag) (C : Addr) : Sp := fun vs H Q _ => ∃ (x u : Addr) (sc tl : Nat) (nm op way : Str) (ws : List Int) (r : Int × List Str), vs = [.str nm, .ref x, .str op, .ref u, .str way] ∧ FAt C H x sc tl ∧ (SqT K H u (ws.map V.int) ∨ SqL K H u (ws.map V.int)) ∧ doneR sc tl op ws way = some r ∧
  ∀ t H', Same H H' → StepAt H' t nm r → Q (.ref t) H'
theorem ok_plain_step (B : Bl mg) (L : LL K mg C a1 a2 a3 a4 a5 a6 a7 a8 a9 a10 a11 a12 a13 a14 a15 a16 a17 a18 a19 a20 a21 a22 a23 a24 a25 a26 a27 a28 a29 a30 a31 a32 a33 a34 a35 a36 a37 a38 a39 a40 a41 a42 a43 a44 a45 a46 a47 a48 a49 a50 a51 a52 a53 a54 a55 a56 a57 a58 a59 a60 a61 a62 a63 a64 a65 a66 a67 l1 l2 l3 l4 l5 l6 l7 l8 l9 l10 l11 l12 l13 l14 l15 l16 l17 l18 l19 l20 l21 l22 l23 l24 l25 l26 l27 l28 l29 l30 l31 l32 l33 l34 l35 l36 l37 l38 l39 l40 l41 l42 l43 l44 l45 l46 l47 l48 l49 l50 l51 l52 l53 l54 l55 l56 l57 l58 l59 l60 l61 l62 l63 l64 l65 l66 l67 t62 t63 t64 tg_NEAR tg_CUT tg_UP tg_DOWN w dO esO nO) : FnOk P w K mg base CX0 10 a29 l29 ["name", "form", "op", "words", "way"] (spPS K C) := by
  have G_done : FnOk P w K mg base CX0 9 a26 l26 ["form", "op", "words", "way"] (spDone K C) := (ok_done B L).mono (by decide)
  refine L.F_plain_step.ok sc_plain_step (fun vs H Q E h => ?_) (fun cdv A outer s H vs Q E hr h => ?_)
  · obtain ⟨x, u, sc, tl, nm, op, way, ws, r, rfl, _⟩ := h
    rfl
  obtain ⟨x, u, sc, tl, nm, op, way, ws, r, rfl, hF, hU, hr0, q⟩ := h
  refine ⟨_, (pss_cons (ps_asg (pe_callN G_done hr (by rfl) L.m_done L.F_done.kp (L.kb_done_way).choose_spec pass0 (pa_cons (pv 1) (pa_cons (pv 2) (pa_cons (pv 3) pa_nil))) (pk_cons (pv 4) pk_nil)) (pg_tup (by rfl) (pgs_cons (pg_name (i := 5) sc_plain_step.nd rfl (.inl rfl)) (pgs_cons (pg_name (i := 6) sc_plain_step.nd rfl (.inl rfl)) pgs_nil))))
    (pss_one (ps_ret (pe_tup (pa_cons (pv 0) (pa_cons (pv 5) (pa_cons (pv 6) pa_nil))))))), ?_⟩
  refine ⟨_, rfl, _, rfl, _, rfl, _, rfl, rfl, rfl, x, u, sc, tl, op, way, ws, r, rfl, hF, hU, hr0, fun t H1 s1 P1 => ?_⟩
  obtain ⟨f, e1, e2⟩ := P1
  refine ⟨t, _, rfl, .inl (.inl e1), rfl, _, _, rfl, _, _, rfl, rfl, ?_⟩
  refine ⟨_, rfl, _, rfl, _, rfl, (by show 3 ≤ sizeLine; decide), fun v nv => ?_⟩
  exact q v _ (s1.trans (same_upd nv)) ⟨f, upd_same, same_upd nv _ _ e2⟩
/-! ### the law's parts -/
def spHd : Sp := fun vs H Q _ => ∃ (v : Int) (sc tl : Nat), vs = [.int (sc : Int), .int (tl : Int), .int v] ∧ 0 ≤ v ∧ v < 2 ^ (1 + sc + tl) ∧ 2 ≤ sc ∧ sc ≤ 8 ∧ 1 ≤ tl ∧ tl ≤ 24 ∧
  ∀ H' p, Same H H' → H' p = some (.tup [.int (GM.sgn sc tl v), .int (GM.num tl (sz sc tl v)), .int (wp sc tl v)]) → Q (.ref p) H'
theorem ok__law_head (B : Bl mg) (L : LL K mg C a1 a2 a3 a4 a5 a6 a7 a8 a9 a10 a11 a12 a13 a14 a15 a16 a17 a18 a19 a20 a21 a22 a23 a24 a25 a26 a27 a28 a29 a30 a31 a32 a33 a34 a35 a36 a37 a38 a39 a40 a41 a42 a43 a44 a45 a46 a47 a48 a49 a50 a51 a52 a53 a54 a55 a56 a57 a58 a59 a60 a61 a62 a63 a64 a65 a66 a67 l1 l2 l3 l4 l5 l6 l7 l8 l9 l10 l11 l12 l13 l14 l15 l16 l17 l18 l19 l20 l21 l22 l23 l24 l25 l26 l27 l28 l29 l30 l31 l32 l33 l34 l35 l36 l37 l38 l39 l40 l41 l42 l43 l44 l45 l46 l47 l48 l49 l50 l51 l52 l53 l54 l55 l56 l57 l58 l59 l60 l61 l62 l63 l64 l65 l66 l67 t62 t63 t64 tg_NEAR tg_CUT tg_UP tg_DOWN w dO esO nO) : FnOk P w K mg base CX0 2 a50 l50 ["_law_scale", "_law_tail", "_law_word_here"] spHd := by
  have G__law_size_of : FnOk P w K mg base CX0 1 a47 l47 ["_law_size", "_law_scale", "_law_tail"] spSizeOf := (ok__law_size_of B L).mono (by decide)
  refine L.F__law_head.ok sc__law_head (fun vs H Q E h => ?_) (fun cdv A outer s H vs Q E hr h => ?_)
  · obtain ⟨v, sc, tl, rfl, _⟩ := h
    rfl
  obtain ⟨v, sc, tl, rfl, v0, v1, h1, h2, h3, h4, q⟩ := h
  refine ⟨_, (pss_cons (ps_asg (pe_call G__law_size_of hr (by rfl) L.m__law_size_of L.F__law_size_of.kp L.b__law_size_of .nil pass0 (pa_cons (pe_op op_andM (pv 2) (pe_op op_sub (pe_op op_oneShl pe_int (pe_op op_add (pv 0) (pv 1))) pe_int)) (pa_cons (pv 0) (pa_cons (pv 1) pa_nil)))) (pg_tup (by rfl) (pgs_cons (pg_name (i := 3) sc__law_head.nd rfl (.inl rfl)) (pgs_cons (pg_name (i := 4) sc__law_head.nd rfl (.inl rfl)) pgs_nil))))
    (pss_one (ps_ret (pe_tup (pa_cons (pe_op op_shrN (pv 2) (pe_op op_add (pv 0) (pv 1))) (pa_cons (pv 3) (pa_cons (pv 4) pa_nil))))))), ?_⟩
  refine ⟨_, rfl, _, rfl, _, rfl, _, _, rfl, rfl, sc + tl, rfl, rfl, by omega, _, _, rfl, rfl, _, sc + tl, rfl, rfl, _, rfl, _, rfl, sz sc tl v, sc, tl, rfl, sz_nn sc tl v, by omega, h2, h4, fun p np => ?_⟩
  have sp := same_upd (o := .tup [.int (GM.num tl (sz sc tl v)), .int (GR.lea sc tl + (GM.ex tl (sz sc tl v) : Nat))]) np
  refine ⟨p, _, rfl, .inl (.inl upd_same), rfl, _, _, rfl, _, _, rfl, rfl, ?_⟩
  refine ⟨_, rfl, _, rfl, _, rfl, _, _, rfl, rfl, _, sc + tl, rfl, rfl, ?_⟩
  dsimp only
  rw [sgn_div v0 v1]
  refine ⟨_, rfl, _, rfl, (by show 3 ≤ sizeLine; decide), fun u nu => ?_⟩
  exact q _ u (sp.trans (same_upd nu)) upd_same
theorem hdv_real {sc tl : Nat} {v : Int} (h : hdv sc tl v = true) : ¬ GM.topS sc tl ≤ sz sc tl v ∧ ¬ sz sc tl v = 0 := by
  unfold hdv at h
  have h := of_decide_eq_true h
  refine ⟨fun z => ?_, fun z => ?_⟩
  · rcases (srt_top sc tl (sz sc tl v)).mpr z with y | y <;> rw [y] at h <;> exact absurd h (by decide +kernel)
  · by_cases c : GM.topS sc tl ≤ sz sc tl v
    · rcases (srt_top sc tl (sz sc tl v)).mpr c with y | y <;> rw [y] at h <;> exact absurd h (by decide +kernel)
    · rw [(srt_nought sc tl _).mpr ⟨c, z⟩] at h
      exact absurd h (by decide +kernel)
def spHO (C : Addr) : Sp := fun vs H Q _ => ∃ (x : Addr) (sc tl : Nat) (v : Int), vs = [.ref x, .int v] ∧ FAt C H x sc tl ∧ ¬ GM.topS sc tl ≤ sz sc tl v ∧
  ∀ t H', H t = none → Same H H' → H' t = some (.tup [.int (GM.num tl (sz sc tl v)), .int (wp sc tl v)]) → Q (.ref t) H'
theorem ok_head_of (B : Bl mg) (L : LL K mg C a1 a2 a3 a4 a5 a6 a7 a8 a9 a10 a11 a12 a13 a14 a15 a16 a17 a18 a19 a20 a21 a22 a23 a24 a25 a26 a27 a28 a29 a30 a31 a32 a33 a34 a35 a36 a37 a38 a39 a40 a41 a42 a43 a44 a45 a46 a47 a48 a49 a50 a51 a52 a53 a54 a55 a56 a57 a58 a59 a60 a61 a62 a63 a64 a65 a66 a67 l1 l2 l3 l4 l5 l6 l7 l8 l9 l10 l11 l12 l13 l14 l15 l16 l17 l18 l19 l20 l21 l22 l23 l24 l25 l26 l27 l28 l29 l30 l31 l32 l33 l34 l35 l36 l37 l38 l39 l40 l41 l42 l43 l44 l45 l46 l47 l48 l49 l50 l51 l52 l53 l54 l55 l56 l57 l58 l59 l60 l61 l62 l63 l64 l65 l66 l67 t62 t63 t64 tg_NEAR tg_CUT tg_UP tg_DOWN w dO esO nO) : FnOk P w K mg base CX0 4 a28 l28 ["form", "word"] (spHO C) := by
  have G_Form_worth : FnOk P w K mg base CX0 3 a67 l67 ["self", "word"] (spWorth C) := (ok_Form_worth B L).mono (by decide)
  refine L.F_head_of.ok sc_head_of (fun vs H Q E h => ?_) (fun cdv A outer s H vs Q E hr h => ?_)
  · obtain ⟨x, sc, tl, v, rfl, _⟩ := h
    rfl
  obtain ⟨x, sc, tl, v, rfl, hF, nt, q⟩ := h
  obtain ⟨dx, hx, h1, h2, h3, h4⟩ := id hF
  refine ⟨_, (pss_cons (ps_asg (pe_meth (pv 0) L.T.cl L.M_Form_worth G_Form_worth hr L.b_Form_worth .nil pass0 (pa_cons (pv 1) pa_nil)) (pg_tup (by rfl) (pgs_cons (pg_name (i := 2) sc_head_of.nd rfl (.inl rfl)) (pgs_cons (pg_name (i := 3) sc_head_of.nd rfl (.inl rfl)) pgs_nil))))
    (pss_one (ps_ret (pe_tup (pa_cons (pe_callB call_abs (by rfl) B.abs boot_abs (pa_cons (pv 2) pa_nil)) (pa_cons (pv 3) pa_nil)))))), ?_⟩
  refine ⟨_, rfl, x, dx, _, rfl, hx, rfl, _, rfl, x, sc, tl, v, rfl, hF, fun H1 s1 ca => absurd ca nt, fun H1 p s1 ca ep => ?_⟩
  refine ⟨p, _, rfl, .inl (.inl ep), rfl, _, _, rfl, _, _, rfl, rfl, ?_⟩
  refine ⟨_, rfl, _, rfl, _, rfl, (by show 2 ≤ sizeLine; decide), fun t nt => ?_⟩
  refine q t _ (s1.free nt) (s1.trans (same_upd nt)) ?_
  rw [upd_same, ← ab_num]
  rfl
def spRS (C : Addr) : Sp := fun vs H Q _ => ∃ (x : Addr) (sc tl : Nat) (s n p : Int) (way : Str) (more : Bool), vs = [.ref x, .int s, .int n, .int p, .str way, .bl more] ∧ FAt C H x sc tl ∧ (s = 0 ∨ s = 1) ∧ Fit n ∧ -4000 ≤ p ∧ p ≤ 4000 ∧ (more = true → n ≠ 0 ∧ p < GR.lap sc tl n p) ∧
  ∀ t H', Same H H' → StepAt H' t "round" (GR.rnd sc tl s n p way more) → Q (.ref t) H'
theorem ok_round_step (B : Bl mg) (L : LL K mg C a1 a2 a3 a4 a5 a6 a7 a8 a9 a10 a11 a12 a13 a14 a15 a16 a17 a18 a19 a20 a21 a22 a23 a24 a25 a26 a27 a28 a29 a30 a31 a32 a33 a34 a35 a36 a37 a38 a39 a40 a41 a42 a43 a44 a45 a46 a47 a48 a49 a50 a51 a52 a53 a54 a55 a56 a57 a58 a59 a60 a61 a62 a63 a64 a65 a66 a67 l1 l2 l3 l4 l5 l6 l7 l8 l9 l10 l11 l12 l13 l14 l15 l16 l17 l18 l19 l20 l21 l22 l23 l24 l25 l26 l27 l28 l29 l30 l31 l32 l33 l34 l35 l36 l37 l38 l39 l40 l41 l42 l43 l44 l45 l46 l47 l48 l49 l50 l51 l52 l53 l54 l55 l56 l57 l58 l59 l60 l61 l62 l63 l64 l65 l66 l67 t62 t63 t64 tg_NEAR tg_CUT tg_UP tg_DOWN w dO esO nO) : FnOk P w K mg base CX0 6 a30 l30 ["form", "sign", "total", "power", "way", "more"] (spRS C) := by
  have G_rounded : FnOk P w K mg base CX0 5 a4 l4 ["form", "sign", "number", "power", "way", "more"] (spRnd C) := (ok_rounded B L).mono (by decide)
  refine L.F_round_step.ok sc_round_step (fun vs H Q E h => ?_) (fun cdv A outer s H vs Q E hr h => ?_)
  · obtain ⟨x, sc, tl, s, n, p, way, more, rfl, _⟩ := h
    rfl
  obtain ⟨x, sc, tl, s, n, p, way, more, rfl, hF, hs, hf, p1, p2, hm, q⟩ := h
  refine ⟨_, (pss_cons (ps_asg (pe_callN G_rounded hr (by rfl) L.m_rounded L.F_rounded.kp (L.kb_rounded_way_more).choose_spec pass0 (pa_cons (pv 0) (pa_cons (pv 1) (pa_cons (pv 2) (pa_cons (pv 3) pa_nil)))) (pk_cons (pv 4) (pk_cons (pv 5) pk_nil))) (pg_tup (by rfl) (pgs_cons (pg_name (i := 6) sc_round_step.nd rfl (.inl rfl)) (pgs_cons (pg_name (i := 7) sc_round_step.nd rfl (.inl rfl)) pgs_nil))))
    (pss_one (ps_ret (pe_tup (pa_cons pe_str (pa_cons (pv 6) (pa_cons (pv 7) pa_nil))))))), ?_⟩
  refine ⟨_, rfl, _, rfl, _, rfl, _, rfl, _, rfl, _, rfl, rfl, rfl, x, sc, tl, s, n, p, way, more, rfl, hF, hs, hf, by omega, by omega, hm, fun t H1 nt s1 P1 => ?_⟩
  obtain ⟨f, e1, e2⟩ := P1
  refine ⟨t, _, rfl, .inl (.inl e1), rfl, _, _, rfl, _, _, rfl, rfl, ?_⟩
  refine ⟨_, rfl, _, rfl, (by show 3 ≤ sizeLine; decide), fun v nv => ?_⟩
  exact q v _ (s1.trans (same_upd nv)) ⟨f, upd_same, same_upd nv _ _ e2⟩
end
/-! ### xs.extend(a tuple) -/
section
variable {X : Cx}
theorem ext_tup {prog : Program} {w : World} {A : Around} {s : Shared} {Q : Value → Shared → Prop} {E : Value → Shared → Prop} {l b : Addr} {its : List Value} {n : Nat} {o : Obj} {items : Array Value} {m : Nat} (hS : s.heap.get? l = some { cls := .type "list", data := .seq its.toArray n })
    (ho : s.heap.get? b = some o) (hc : o.cls = .type "tuple") (hd : o.data = .seq items m) (hz : its.length + items.size ≤ sizeLine)
    (hQ : Q .none { s with heap := s.heap.update l (Obj.mapSeq (· ++ items)) }) : wpAny (model prog w) A (call (.builtin "list.extend") [.ref l, .ref b]) Q E s := by
  refine wpAny_call_entry PySem.F.slot_list_extend ⟨_, hS, rfl⟩ PySem.F.entry_list_extend ?_ (PySem.F.args_list_extend_2 _ _)
  show wpAny _ _ (Builtin.List.listExtendWith (.ref l) (.ref b) .none) _ _ s
  unfold Builtin.List.listExtendWith
  refine wpAny_bind (wpAny_typeOf ⟨o, ho, hc⟩ ?_)
  have h1 : (Builtin.List.listSameRef (.ref l) (.ref b) || Value.type "tuple" == Value.type "list" || Value.type "tuple" == Value.type "tuple") = true := by simp
  simp only [h1, if_true]
  refine wpAny_bind ?_
  unfold Builtin.List.listItems
  refine wpAny_bind (wpAny_seqItems ho hd (wpAny_pure ?_))
  refine wpAny_bind ?_
  refine wpAny_bind (wpAny_seqItems hS rfl (wpAny_pure ?_))
  have hl2 : (!its.toArray.isEmpty && Builtin.List.listTooLong (its.toArray.size + items.size)) = false := by
    rw [notLongL (by rw [List.size_toArray]; exact hz), Bool.and_false]
  rw [if_neg (by rw [hl2]; exact Bool.false_ne_true)]
  show wpAny _ _ (updateSeq l (· ++ items) >>= fun _ => PySem.ret Value.none) _ _ s
  refine wpAny_bind (wpAny_updateSeq hS rfl ?_ (hz := by rw [List.size_toArray]; omega) (_hz' := by rw [Array.size_append, List.size_toArray]; omega))
  exact wpAny_pure ⟨_, rfl, hQ⟩
theorem mt_extT : MtM X "list.extend" (fun x vs H Q => ∃ l b xs zs, x = .ref l ∧ vs = [.ref b] ∧ H l = some (.lst xs) ∧ SqT X.K H b zs ∧ xs.length + zs.length ≤ sizeLine ∧ Q .non (upd H l (.lst (xs ++ zs)))) := by
  intro pins s σ H x vs v us Q I rx rv h
  obtain ⟨l, b, xs, zs, rfl, rfl, hH, hB, hz, q⟩ := h
  cases rx
  obtain ⟨u, rfl, ru⟩ := rv.one
  cases ru
  obtain ⟨z, its, n, r, hl, e⟩ := I.lstM hH
  obtain ⟨its2, r2, ⟨o2, eo2, hc2, n2, hd2⟩, hz2⟩ := I.tuple hB
  have hl2 := r2.length
  refine ext_tup e eo2 hc2 hd2 (by rw [List.size_toArray, ← hl, ← hl2]; exact hz) ?_
  refine ⟨.non, _, I.lset (its' := its ++ its2) hH e (by simp) (r.append r2) ?_, rfl, q⟩
  rw [List.length_append]
  omega
end
section
variable {P : Program} {w : World} {K : PySem.W.Frag} {mg : Str → Option Value} {base : Heap}
variable {C : Addr} {a1 a2 a3 a4 a5 a6 a7 a8 a9 a10 a11 a12 a13 a14 a15 a16 a17 a18 a19 a20 a21 a22 a23 a24 a25 a26 a27 a28 a29 a30 a31 a32 a33 a34 a35 a36 a37 a38 a39 a40 a41 a42 a43 a44 a45 a46 a47 a48 a49 a50 a51 a52 a53 a54 a55 a56 a57 a58 a59 a60 a61 a62 a63 a64 a65 a66 a67 : Addr} {l1 l2 l3 l4 l5 l6 l7 l8 l9 l10 l11 l12 l13 l14 l15 l16 l17 l18 l19 l20 l21 l22 l23 l24 l25 l26 l27 l28 l29 l30 l31 l32 l33 l34 l35 l36 l37 l38 l39 l40 l41 l42 l43 l44 l45 l46 l47 l48 l49 l50 l51 l52 l53 l54 l55 l56 l57 l58 l59 l60 l61 l62 l63 l64 l65 l66 l67 : FuncData} {t62 t63 t64 tg_NEAR tg_CUT tg_UP tg_DOWN : Tok} {dO : Addr} {esO : Array DictEntry} {nO : Nat}
/-! ### four_of, fours_of, rows_of -/
def spFour : Sp := fun vs H Q _ => ∃ x : Int, vs = [.int x] ∧ Q (.int (x / 2 ^ 1 % 2 ^ 1 + x % 2 ^ 1 - 2 * (x / 2 ^ 2 % 2 ^ 1))) H
theorem ok_four_of (B : Bl mg) (L : LL K mg C a1 a2 a3 a4 a5 a6 a7 a8 a9 a10 a11 a12 a13 a14 a15 a16 a17 a18 a19 a20 a21 a22 a23 a24 a25 a26 a27 a28 a29 a30 a31 a32 a33 a34 a35 a36 a37 a38 a39 a40 a41 a42 a43 a44 a45 a46 a47 a48 a49 a50 a51 a52 a53 a54 a55 a56 a57 a58 a59 a60 a61 a62 a63 a64 a65 a66 a67 l1 l2 l3 l4 l5 l6 l7 l8 l9 l10 l11 l12 l13 l14 l15 l16 l17 l18 l19 l20 l21 l22 l23 l24 l25 l26 l27 l28 l29 l30 l31 l32 l33 l34 l35 l36 l37 l38 l39 l40 l41 l42 l43 l44 l45 l46 l47 l48 l49 l50 l51 l52 l53 l54 l55 l56 l57 l58 l59 l60 l61 l62 l63 l64 l65 l66 l67 t62 t63 t64 tg_NEAR tg_CUT tg_UP tg_DOWN w dO esO nO) : FnOk P w K mg base CX0 1 a32 l32 ["bits"] spFour := by
  refine L.F_four_of.ok sc_four_of (fun vs H Q E h => ?_) (fun cdv A outer s H vs Q E hr h => ?_)
  · obtain ⟨x, rfl, _⟩ := h
    rfl
  obtain ⟨x, rfl, q⟩ := h
  refine ⟨_, (pss_one (ps_ret (pe_op op_sub (pe_op op_add (pe_op op_andM (pe_op op_shrN (pv 0) pe_int) pe_int) (pe_op op_andM (pv 0) pe_int)) (pe_op op_mul pe_int (pe_op op_andM (pe_op op_shrN (pv 0) pe_int) pe_int))))), ?_⟩
  exact ⟨_, rfl, _, 1, rfl, rfl, _, 1, rfl, rfl, _, rfl, _, 1, rfl, rfl, _, _, rfl, rfl, _, rfl, _, 2, rfl, rfl, _, 1, rfl, rfl, _, _, rfl, rfl, .inl ⟨by decide, by decide⟩, _, _, rfl, rfl, q⟩
def kf (n : Int) : Nat := Builtin.Int.intBits n / 2 + 1
theorem fo_eq (n : Int) (p : Nat) : 2 * n / 2 ^ (2 * p) / 2 ^ 1 % 2 ^ 1 + 2 * n / 2 ^ (2 * p) % 2 ^ 1 - 2 * (2 * n / 2 ^ (2 * p) / 2 ^ 2 % 2 ^ 1) = GM.fo n p := by
  rw [GM.div_div, GM.div_div]
  rfl
def spFours : Sp := fun vs H Q _ => ∃ n : Int, vs = [.int n] ∧ 0 ≤ n ∧ n < 2 ^ 200 ∧
  ∀ (p : Addr) (H' : Hp), H p = none → Same H H' → H' p = some (.lst ((GM.fol n (kf n)).map V.int)) → Q (.ref p) H'
theorem kf_le {n : Int} (h0 : 0 ≤ n) (h1 : n < 2 ^ 200) : kf n ≤ 101 := by
  have : Builtin.Int.intBits n ≤ 200 := PyProof.Rows.intBits_le (by
    have c : ((2 ^ 200 : Nat) : Int) = (2 : Int) ^ 200 := PySem.W.kbt_cast _
    omega)
  unfold kf
  omega
theorem ok_fours_of (B : Bl mg) (L : LL K mg C a1 a2 a3 a4 a5 a6 a7 a8 a9 a10 a11 a12 a13 a14 a15 a16 a17 a18 a19 a20 a21 a22 a23 a24 a25 a26 a27 a28 a29 a30 a31 a32 a33 a34 a35 a36 a37 a38 a39 a40 a41 a42 a43 a44 a45 a46 a47 a48 a49 a50 a51 a52 a53 a54 a55 a56 a57 a58 a59 a60 a61 a62 a63 a64 a65 a66 a67 l1 l2 l3 l4 l5 l6 l7 l8 l9 l10 l11 l12 l13 l14 l15 l16 l17 l18 l19 l20 l21 l22 l23 l24 l25 l26 l27 l28 l29 l30 l31 l32 l33 l34 l35 l36 l37 l38 l39 l40 l41 l42 l43 l44 l45 l46 l47 l48 l49 l50 l51 l52 l53 l54 l55 l56 l57 l58 l59 l60 l61 l62 l63 l64 l65 l66 l67 t62 t63 t64 tg_NEAR tg_CUT tg_UP tg_DOWN w dO esO nO) : FnOk P w K mg base CX0 2 a31 l31 ["number"] spFours := by
  have G_four_of : FnOk P w K mg base CX0 1 a32 l32 ["bits"] spFour := (ok_four_of B L).mono (by decide)
  refine L.F_fours_of.ok sc_fours_of (fun vs H Q E h => ?_) (fun cdv A outer s H vs Q E hr h => ?_)
  · obtain ⟨n, rfl, _⟩ := h
    rfl
  obtain ⟨n, rfl, h0, h1, q⟩ := h
  have hk := kf_le h0 h1
  refine ⟨_, (pss_cons (ps_set (i := 1) sc_fours_of.nd rfl (.inr rfl) (pe_op op_mul pe_int (pv 0)))
    (pss_one (ps_ret (pe_lc (own := [("place", 2)]) (by rfl) sc_fours_of.nd (pi_range3 (by rfl) B.range (pa_cons (pe_op op_fdiv (pe_bits (pv 0)) pe_int) (pa_cons (pe_un un_neg pe_int) (pa_cons (pe_un un_neg pe_int) pa_nil)))) (blkOk_by (own := [("place", 2)]) (N := ["number", "doubled", "place"]) (sc := defScope s_fours_of) (by decide +kernel)) (fun _ _ _ _ _ => pg_name (i := 2) sc_fours_of.nd rfl (Or.inl rfl)) (fun _ _ _ _ _ => pts_nil) (fun _ _ _ _ _ => (pe_call G_four_of hr (by rfl) L.m_four_of L.F_four_of.kp L.b_four_of .nil pass0 (pa_cons (pe_op op_shrN (pv 1) (pe_op op_mul pe_int (pv 2))) pa_nil))))))), ?_⟩
  refine ⟨_, rfl, _, _, rfl, rfl, .inl ⟨by decide, by decide⟩, ?_⟩
  refine ⟨_, rfl, _, rfl, _, _, rfl, rfl, ⟨by decide, by decide⟩, _, rfl, _, rfl, _, _, _, (((Builtin.Int.intBits n : Nat) : Int) / 2 - -1).toNat, rfl, RgC.neg (by omega) (by unfold kf at hk; omega) (by decide) (by decide), fun D nD => ?_⟩
  rw [show (((Builtin.Int.intBits n : Nat) : Int) / 2 - -1).toNat = kf n by unfold kf; omega]
  have sD : Same H (upd H D (.lst [])) := same_upd nD
  refine lc_it walk_rangeC (fun i H3 => Same H H3 ∧ H3 D = some (.lst (((GM.fol n (kf n)).take i).map V.int))) ⟨sD, upd_same⟩ (fun _ _ _ _ => trivial) ?_ ?_
  · rintro i x H3 H4 hi ⟨s3, eD⟩ ⟨rfl, rfl⟩
    show gName _ (V.int (((Builtin.Int.intBits n : Nat) : Int) / 2 + (i : Nat) * (-1))) _ _ _
    rw [show ((Builtin.Int.intBits n : Nat) : Int) / 2 + (i : Nat) * (-1) = ((kf n - 1 - i : Nat) : Int) by unfold kf at hi ⊢; omega]
    refine ⟨rfl, yesT ?_⟩
    refine ⟨_, rfl, _, rfl, _, _, rfl, rfl, .inl ⟨by decide, by decide⟩, _, 2 * (kf n - 1 - i), rfl, congrArg V.int (by omega), _, rfl, _, eD, ?_, fun b o e => ?_, ?_⟩
    · rw [List.length_map, List.length_take]
      exact Nat.lt_of_le_of_lt (Nat.min_le_left _ _) (small1000 (by omega))
    · rw [upd_ne (ne_of_none e nD)]
      exact s3 _ _ e
    · rw [upd_same, fo_eq, GM.take_fol hi, List.map_append]
      rfl
  · rintro H3 ⟨s3, eD⟩
    refine q D H3 nD s3 ?_
    rw [List.take_of_length_le (by rw [GM.fol_len]; exact Nat.le_refl _)] at eD
    exact eD
def spRows : Sp := fun vs H Q _ => ∃ o n : Int, vs = [.int o, .int n] ∧ 0 ≤ n ∧ n < 2 ^ 200 ∧ 0 ≤ o ∧ o < 2 ^ 200 ∧
  ∀ (p : Addr) (H' : Hp), H p = none → Same H H' → H' p = some (.lst ((GM.rol o n (kf n)).map V.int)) → Q (.ref p) H'
theorem ok_rows_of (B : Bl mg) (L : LL K mg C a1 a2 a3 a4 a5 a6 a7 a8 a9 a10 a11 a12 a13 a14 a15 a16 a17 a18 a19 a20 a21 a22 a23 a24 a25 a26 a27 a28 a29 a30 a31 a32 a33 a34 a35 a36 a37 a38 a39 a40 a41 a42 a43 a44 a45 a46 a47 a48 a49 a50 a51 a52 a53 a54 a55 a56 a57 a58 a59 a60 a61 a62 a63 a64 a65 a66 a67 l1 l2 l3 l4 l5 l6 l7 l8 l9 l10 l11 l12 l13 l14 l15 l16 l17 l18 l19 l20 l21 l22 l23 l24 l25 l26 l27 l28 l29 l30 l31 l32 l33 l34 l35 l36 l37 l38 l39 l40 l41 l42 l43 l44 l45 l46 l47 l48 l49 l50 l51 l52 l53 l54 l55 l56 l57 l58 l59 l60 l61 l62 l63 l64 l65 l66 l67 t62 t63 t64 tg_NEAR tg_CUT tg_UP tg_DOWN w dO esO nO) : FnOk P w K mg base CX0 3 a33 l33 ["one", "number"] spRows := by
  have G_fours_of : FnOk P w K mg base CX0 2 a31 l31 ["number"] spFours := (ok_fours_of B L).mono (by decide)
  refine L.F_rows_of.ok sc_rows_of (fun vs H Q E h => ?_) (fun cdv A outer s H vs Q E hr h => ?_)
  · obtain ⟨o, n, rfl, _⟩ := h
    rfl
  obtain ⟨o, n, rfl, h0, h1, o0, o1, q⟩ := h
  have hk := kf_le h0 h1
  refine ⟨_, (pss_cons (ps_set (i := 2) sc_rows_of.nd rfl (.inl rfl) (pe_call G_fours_of hr (by rfl) L.m_fours_of L.F_fours_of.kp L.b_fours_of .nil pass0 (pa_cons (pv 1) pa_nil)))
    (pss_cons (ps_set (i := 3) sc_rows_of.nd rfl (.inr rfl) (pe_op op_sub (pe_callB call_len_seq (by rfl) B.len PySem.boot_len (pa_cons (pv 2) pa_nil)) pe_int))
    (pss_one (ps_ret (pe_lc (own := [("at", 4), ("four", 5)]) (g := gTup K 2 (gCons (gName 4) (gCons (gName 5) gNil))) (by rfl) sc_rows_of.nd (pi_enum (by rfl) B.enumerate (pa_cons (pv 2) pa_nil)) (blkOk_by (own := [("at", 4), ("four", 5)]) (N := ["one", "number", "fours", "last", "at", "four"]) (sc := defScope s_rows_of) (by decide +kernel)) (fun _ _ _ _ _ => pg_tup rfl (pgs_cons (pg_name (i := 4) sc_rows_of.nd rfl (Or.inl rfl) (.inr rfl)) (pgs_cons (pg_name (i := 5) sc_rows_of.nd rfl (Or.inl rfl) (.inr rfl)) pgs_nil))) (fun _ _ _ _ _ => pts_nil) (fun _ _ _ _ _ => (pe_op op_shlN (pe_op op_mul (pv 5) (pv 0)) (pe_op op_mul pe_int (pe_op op_sub (pv 3) (pv 4)))))))))), ?_⟩
  refine ⟨_, rfl, n, rfl, h0, h1, fun fs H1 nf s1 ef => ?_⟩
  refine ⟨_, rfl, fs, _, rfl, .inl (SqL.of ef), _, _, rfl, rfl, ?_⟩
  rw [List.length_map, GM.fol_len]
  refine ⟨_, rfl, fs, _, rfl, SqL.of ef, fun D nD => ?_⟩
  have sD := s1.trans (same_upd (o := .lst []) nD)
  refine lc_it (walk_enum (K := K) (a := fs) (xs := (GM.fol n (kf n)).map V.int)) (fun i H3 => Same H1 H3 ∧ H3 D = some (.lst (((GM.rol o n (kf n)).take i).map V.int))) ⟨same_upd nD, upd_same⟩ (fun i H3 _ ⟨s3, _⟩ => SqL.of (s3 _ _ ef)) ?_ ?_
  · rintro i x H3 H4 hi ⟨s3, eD⟩ ⟨T, x1, x2, rfl, nT, rfl, e1, e2⟩
    cases e1
    obtain ⟨z2, f2, rfl⟩ := int_at e2
    rw [List.length_map, GM.fol_len] at hi
    rw [GM.fol_get n (kf n) i hi] at f2
    cases f2
    have hfo := GM.fo_in n (kf n - 1 - i)
    have c200 : ((2 ^ 200 : Nat) : Int) = (2 : Int) ^ 200 := PySem.W.kbt_cast _
    have sT : Same H3 (upd H3 T (.tup [.int (i : Nat), .int (GM.fo n (kf n - 1 - i))])) := same_upd nT
    refine ⟨T, _, rfl, .inl (.inl upd_same), rfl, _, _, rfl, _, _, rfl, rfl, rfl, ?_⟩
    refine yesT ?_
    refine ⟨_, rfl, _, rfl, _, _, rfl, rfl, .inl ⟨by omega, by omega⟩, _, rfl, _, rfl, _, _, rfl, rfl, _, _, rfl, rfl, .inl ⟨by decide, by decide⟩, _, 2 * (kf n - 1 - i), rfl, congrArg V.int (by omega), shl_ok (n := 202) ?_ (by omega), _, sT _ _ eD, ?_, fun b u e => ?_, ?_⟩
    · exact wide_lt (a := 2) (b := 200) (by omega) (by omega)
    · rw [List.length_map, List.length_take]
      exact Nat.lt_of_le_of_lt (Nat.min_le_left _ _) (small1000 (by omega))
    · rw [upd_ne (ne_of_none e nD)]
      exact sT _ _ (s3 _ _ e)
    · rw [upd_same, GM.take_rol hi, List.map_append]
      rfl
  · rintro H3 ⟨s3, eD⟩
    refine q D H3 (s1.free nD) (s1.trans s3) ?_
    rw [List.take_of_length_le (by rw [GM.rol_len, List.length_map, GM.fol_len]; exact Nat.le_refl _)] at eD
    exact eD
end
section
variable {P : Program} {w : World} {K : PySem.W.Frag} {mg : Str → Option Value} {base : Heap}
variable {C : Addr} {a1 a2 a3 a4 a5 a6 a7 a8 a9 a10 a11 a12 a13 a14 a15 a16 a17 a18 a19 a20 a21 a22 a23 a24 a25 a26 a27 a28 a29 a30 a31 a32 a33 a34 a35 a36 a37 a38 a39 a40 a41 a42 a43 a44 a45 a46 a47 a48 a49 a50 a51 a52 a53 a54 a55 a56 a57 a58 a59 a60 a61 a62 a63 a64 a65 a66 a67 : Addr} {l1 l2 l3 l4 l5 l6 l7 l8 l9 l10 l11 l12 l13 l14 l15 l16 l17 l18 l19 l20 l21 l22 l23 l24 l25 l26 l27 l28 l29 l30 l31 l32 l33 l34 l35 l36 l37 l38 l39 l40 l41 l42 l43 l44 l45 l46 l47 l48 l49 l50 l51 l52 l53 l54 l55 l56 l57 l58 l59 l60 l61 l62 l63 l64 l65 l66 l67 : FuncData} {t62 t63 t64 tg_NEAR tg_CUT tg_UP tg_DOWN : Tok} {dO : Addr} {esO : Array DictEntry} {nO : Nat}
def Sq (K : PySem.W.Frag) (H : Hp) (a : Addr) (ds : List Int) : Prop := SqL K H a (ds.map V.int) ∨ SqT K H a (ds.map V.int)
theorem Sq.same {H H' : Hp} {a : Addr} {ds : List Int} (h : Sq K H a ds) (s : Same H H') : Sq K H' a ds := by
  rcases h with h | h
  · exact .inl (s.seq h)
  · exact .inr (Same.seqT s h)
/-! ### saved -/
def spSaved : Sp := fun vs H Q _ => ∃ x y z : Int, vs = [.int x, .int y, .int z] ∧ ∀ p, H p = none → Q (.ref p) (upd H p (.tup [.int (GM.x3 x y z), .int (x + y + z - GM.x3 x y z)]))
theorem ok_saved (B : Bl mg) (L : LL K mg C a1 a2 a3 a4 a5 a6 a7 a8 a9 a10 a11 a12 a13 a14 a15 a16 a17 a18 a19 a20 a21 a22 a23 a24 a25 a26 a27 a28 a29 a30 a31 a32 a33 a34 a35 a36 a37 a38 a39 a40 a41 a42 a43 a44 a45 a46 a47 a48 a49 a50 a51 a52 a53 a54 a55 a56 a57 a58 a59 a60 a61 a62 a63 a64 a65 a66 a67 l1 l2 l3 l4 l5 l6 l7 l8 l9 l10 l11 l12 l13 l14 l15 l16 l17 l18 l19 l20 l21 l22 l23 l24 l25 l26 l27 l28 l29 l30 l31 l32 l33 l34 l35 l36 l37 l38 l39 l40 l41 l42 l43 l44 l45 l46 l47 l48 l49 l50 l51 l52 l53 l54 l55 l56 l57 l58 l59 l60 l61 l62 l63 l64 l65 l66 l67 t62 t63 t64 tg_NEAR tg_CUT tg_UP tg_DOWN w dO esO nO) : FnOk P w K mg base CX0 1 a34 l34 ["x", "y", "z"] spSaved := by
  refine L.F_saved.ok sc_saved (fun vs H Q E h => ?_) (fun cdv A outer s H vs Q E hr h => ?_)
  · obtain ⟨x, y, z, rfl, _⟩ := h
    rfl
  obtain ⟨x, y, z, rfl, q⟩ := h
  refine ⟨_, (pss_one (ps_ret (pe_tup (pa_cons (pe_op op_xor (pe_op op_xor (pv 0) (pv 1)) (pv 2)) (pa_cons (pe_op op_mul pe_int (pe_op op_or (pe_op op_or (pe_op op_and (pv 0) (pv 1)) (pe_op op_and (pv 0) (pv 2))) (pe_op op_and (pv 1) (pv 2)))) pa_nil))))), ?_⟩
  refine ⟨_, rfl, _, rfl, _, _, rfl, rfl, _, rfl, _, _, rfl, rfl, _, rfl, _, rfl, _, _, rfl, rfl, _, rfl, _, rfl, _, _, rfl, rfl, _, _, rfl, rfl, _, rfl, _, rfl, _, _, rfl, rfl, _, _, rfl, rfl, _, _, rfl, rfl, .inl ⟨by decide, by decide⟩, (by show 2 ≤ sizeLine; decide), fun p np => ?_⟩
  have q' := q p np
  rw [← GM.sum3] at q'
  exact q'
/-! ### level_behind -/
def spBehind : Sp := fun vs H Q _ => ∃ (a : Addr) (r : List Int), vs = [.ref a] ∧ H a = some (.lst (r.map V.int)) ∧ r.length ≤ 198 ∧
  ∀ p H', H p = none → Same H H' → H' p = some (.lst ((GM.lv r).map V.int)) → Q (.ref p) H'
theorem at_get3 {r : List Int} {i : Nat} (h : i < r.length) : atI (r.map V.int) (i : Int) = some (.int (GM.at3 r i)) := by
  refine atI_nat ?_
  rw [List.getElem?_map, GM.at3_get h]
  rfl
theorem cut_hi (r : List Int) (m : Nat) : cutV (r.map V.int) (some (m : Int)) none = (r.drop m).map V.int := by
  unfold cutV
  rw [HT.sIx_nat, HT.sIx_none, List.length_map, ← List.map_drop, ← List.map_take]
  congr 1
  by_cases c : m ≤ r.length
  · rw [Nat.min_eq_left c, List.take_of_length_le (by rw [List.length_drop]; exact Nat.le_refl _)]
  · rw [List.drop_of_length_le (by omega), List.drop_of_length_le (by omega), List.take_nil]
theorem rg3_all : ((List.range 67).all fun k => decide (Builtin.Range.small 0 (3 * (k : Int)) 3 = true) && decide (Builtin.Range.rangeSize 0 (3 * (k : Int)) 3 = k)) = true := by decide +kernel
theorem rg3 {k : Nat} (h : k ≤ 66) : RgC 0 ((3 * k : Nat) : Int) 3 k := by
  have a := List.all_eq_true.mp rg3_all k (List.mem_range.mpr (by omega))
  rw [Bool.and_eq_true] at a
  exact ⟨by decide, by decide, of_decide_eq_true a.1, of_decide_eq_true a.2⟩
theorem lv_eq (r : List Int) : (GM.lv r).map V.int = (GM.acc r (r.length / 3)).map V.int ++ (r.drop (3 * (r.length / 3))).map V.int := by
  unfold GM.lv
  rw [List.map_append, Nat.mul_comm]
theorem ok_level_behind (B : Bl mg) (L : LL K mg C a1 a2 a3 a4 a5 a6 a7 a8 a9 a10 a11 a12 a13 a14 a15 a16 a17 a18 a19 a20 a21 a22 a23 a24 a25 a26 a27 a28 a29 a30 a31 a32 a33 a34 a35 a36 a37 a38 a39 a40 a41 a42 a43 a44 a45 a46 a47 a48 a49 a50 a51 a52 a53 a54 a55 a56 a57 a58 a59 a60 a61 a62 a63 a64 a65 a66 a67 l1 l2 l3 l4 l5 l6 l7 l8 l9 l10 l11 l12 l13 l14 l15 l16 l17 l18 l19 l20 l21 l22 l23 l24 l25 l26 l27 l28 l29 l30 l31 l32 l33 l34 l35 l36 l37 l38 l39 l40 l41 l42 l43 l44 l45 l46 l47 l48 l49 l50 l51 l52 l53 l54 l55 l56 l57 l58 l59 l60 l61 l62 l63 l64 l65 l66 l67 t62 t63 t64 tg_NEAR tg_CUT tg_UP tg_DOWN w dO esO nO) : FnOk P w K mg base CX0 2 a36 l36 ["rows"] spBehind := by
  have G_saved : FnOk P w K mg base CX0 1 a34 l34 ["x", "y", "z"] spSaved := (ok_saved B L).mono (by decide)
  refine L.F_level_behind.ok sc_level_behind (fun vs H Q E h => ?_) (fun cdv A outer s H vs Q E hr h => ?_)
  · obtain ⟨a, r, rfl, _⟩ := h
    rfl
  obtain ⟨a, r, rfl, ha, hl, q⟩ := h
  refine ⟨_, (pss_cons (ps_set (i := 1) sc_level_behind.nd rfl (.inl rfl) (pe_op op_mul (pe_op op_fdiv (pe_callB call_len_seq (by rfl) B.len PySem.boot_len (pa_cons (pv 0) pa_nil)) pe_int) pe_int))
    (pss_cons (ps_set (i := 2) sc_level_behind.nd rfl (.inl rfl) (pe_lst pa_nil))
    (pss_cons (ps_for PassesOwn.never rfl (pi_range3 (by rfl) B.range (pa_cons pe_int (pa_cons (pv 1) (pa_cons pe_int pa_nil)))) (pg_name (i := 3) sc_level_behind.nd rfl (.inl rfl)) (pss_one (ps_expr (pe_bm PySem.F.plainAttrs_list PySem.F.slot_list_extend PySem.F.type_list_extend mt_extT (pv 2) (pa_cons (pe_call G_saved hr (by rfl) L.m_saved L.F_saved.kp L.b_saved .nil pass0 (pa_cons (pe_ix ix_list (pv 0) (pv 3) (fun _ _ => rfl)) (pa_cons (pe_ix ix_list (pv 0) (pe_op op_add (pv 3) pe_int) (fun _ _ => rfl)) (pa_cons (pe_ix ix_list (pv 0) (pe_op op_add (pv 3) pe_int) (fun _ _ => rfl)) pa_nil)))) pa_nil)))))
    (pss_one (ps_ret (pe_op op_cat (pv 2) (pe_slice sl_list (pv 0) (po_some (pv 1)) po_none))))))), ?_⟩
  have hb : (((r.map V.int).length : Nat) : Int) / 3 * 3 = ((3 * (r.length / 3) : Nat) : Int) := by
    rw [List.length_map]
    omega
  refine ⟨_, rfl, a, _, rfl, .inl (SqL.of ha), _, _, rfl, rfl, ⟨by decide, by decide⟩, _, _, rfl, rfl, .inr ⟨by decide, by decide⟩, ?_⟩
  refine ⟨Nat.zero_le _, fun o no => ?_⟩
  refine ⟨_, rfl, 0, ((3 * (r.length / 3) : Nat) : Int), 3, r.length / 3, congrArg (fun z => [V.int 0, V.int z, V.int 3]) hb, rg3 (by omega), ?_⟩
  refine for_it walk_rangeC (fun i σ H3 => ∃ (y3 : Option V), σ = [some (.ref a), some (.int ((((r.map V.int).length : Nat) : Int) / 3 * 3)), some (.ref o), y3] ∧ Same H H3 ∧ H3 o = some (.lst ((GM.acc r i).map V.int))) ⟨none, rfl, same_upd no, (upd_same : (upd H o (.lst [])) o = some (.lst []))⟩ (fun _ _ _ _ _ => trivial) ?_ ?_
  · rintro i v σ H3 H4 hi ⟨y3, rfl, s3, eo⟩ ⟨rfl, rfl⟩
    show gName _ (V.int (0 + (i : Nat) * 3)) _ _ _
    rw [show (0 : Int) + (i : Nat) * 3 = ((3 * i : Nat) : Int) by omega]
    have ha3 := s3 _ _ ha
    refine ⟨_, rfl, .inl ⟨rfl, _, SqL.of eo⟩, _, rfl, _, rfl, a, _, _, _, rfl, rfl, SqL.of ha3, at_get3 (by omega), _, rfl, _, rfl, _, _, rfl, rfl, a, _, _, _, rfl, rfl, SqL.of ha3, at_get3 (i := 3 * i + 1) (by omega), _, rfl, _, rfl, _, _, rfl, rfl, a, _, _, _, rfl, rfl, SqL.of ha3, at_get3 (i := 3 * i + 2) (by omega), _, _, _, rfl, fun p np => ?_⟩
    have sp := same_upd (o := .tup [.int (GM.x3 (GM.at3 r (3 * i)) (GM.at3 r (3 * i + 1)) (GM.at3 r (3 * i + 2))), .int (GM.at3 r (3 * i) + GM.at3 r (3 * i + 1) + GM.at3 r (3 * i + 2) - GM.x3 (GM.at3 r (3 * i)) (GM.at3 r (3 * i + 1)) (GM.at3 r (3 * i + 2)))]) np
    refine ⟨o, p, _, _, rfl, rfl, sp _ _ eo, .inl (.inl upd_same), ?_, _, rfl, fun x u e => ?_, ?_⟩
    · rw [List.length_map, GM.acc_len]
      exact Nat.le_of_lt (small1000 (by show 2 * i + 2 ≤ 1000; omega))
    · rw [upd_ne (ne_of_none e no)]
      exact sp _ _ (s3 _ _ e)
    · rw [upd_same]
      show some (HO.lst ((GM.acc r i).map V.int ++ (GM.trip r i).map V.int)) = some (HO.lst ((GM.acc r i ++ GM.trip r i).map V.int))
      rw [List.map_append]
  · rintro σ H3 ⟨y3, rfl, s3, eo⟩
    have ha3 := s3 _ _ ha
    refine ⟨_, rfl, _, rfl, _, rfl, _, congrArg V.int hb, a, _, rfl, SqL.of ha3, fun c nc => ?_⟩
    rw [cut_hi]
    have sc := same_upd (o := .lst ((r.drop (3 * (r.length / 3))).map V.int)) nc
    refine ⟨o, c, _, _, rfl, rfl, sc _ _ eo, upd_same, ?_, fun p np => ?_⟩
    · rw [List.length_map, List.length_map, GM.acc_len, List.length_drop]
      exact Nat.le_of_lt (small1000 (by omega))
    refine q p _ (s3.free (sc.free np)) (s3.trans (sc.trans (same_upd np))) ?_
    rw [upd_same, lv_eq]
/-! ### levels_of -/
/-- at L0 stands the list of the levels of r, n behind the first -/
def LvAt (H0 H : Hp) (L0 : Addr) (r : List Int) (n : Nat) (pre : List (Addr × List Int)) (x : Addr) : Prop :=
  H L0 = some (.lst (pre.map (fun q => V.ref q.1) ++ [V.ref x])) ∧ (∀ q ∈ pre ++ [(x, GM.lvn r n)], H q.1 = some (.lst (q.2.map V.int)) ∧ H0 q.1 = none ∧ q.1 ≠ L0) ∧ pre.map Prod.snd = (List.range n).map (GM.lvn r) ∧ (∀ i, i < n → 2 < (GM.lvn r i).length)
theorem LvAt.last {H0 H : Hp} {L0 : Addr} {r : List Int} {n : Nat} {pre : List (Addr × List Int)} {x : Addr} (h : LvAt H0 H L0 r n pre x) : H x = some (.lst ((GM.lvn r n).map V.int)) ∧ H0 x = none ∧ x ≠ L0 :=
  h.2.1 (x, GM.lvn r n) (List.mem_append_right _ List.mem_cons_self)
theorem LvAt.same {H0 H H' : Hp} {L0 : Addr} {r : List Int} {n : Nat} {pre : List (Addr × List Int)} {x : Addr} (h : LvAt H0 H L0 r n pre x) (s : Same H H') : LvAt H0 H' L0 r n pre x :=
  ⟨s _ _ h.1, fun q hq => ⟨s _ _ (h.2.1 q hq).1, (h.2.1 q hq).2⟩, h.2.2⟩
theorem LvAt.len {H0 H : Hp} {L0 : Addr} {r : List Int} {n : Nat} {pre : List (Addr × List Int)} {x : Addr} (h : LvAt H0 H L0 r n pre x) : pre.length = n := by
  have := congrArg List.length h.2.2.1
  rw [List.length_map, List.length_map, List.length_range] at this
  exact this
/-- one level more -/
theorem LvAt.next {H0 H H' : Hp} {L0 : Addr} {r : List Int} {n : Nat} {pre : List (Addr × List Int)} {x y : Addr} (h : LvAt H0 H L0 r n pre x) (s : Same H H') (s0 : Same H0 H) (hl : 2 < (GM.lvn r n).length) (ny : H y = none) (ey : H' y = some (.lst ((GM.lv (GM.lvn r n)).map V.int))) :
    LvAt H0 (upd H' L0 (.lst ((pre.map (fun q => V.ref q.1) ++ [V.ref x]) ++ [V.ref y]))) L0 r (n + 1) (pre ++ [(x, GM.lvn r n)]) y := by
  have nyL : y ≠ L0 := (ne_of_none h.1 ny).symm
  refine ⟨?_, fun q hq => ?_, ?_, fun i hi => ?_⟩
  · rw [upd_same, List.map_append]
    rfl
  · rcases List.mem_append.mp hq with e | e
    · obtain ⟨a1, a2, a3⟩ := h.2.1 q e
      exact ⟨by rw [upd_ne a3]; exact s _ _ a1, a2, a3⟩
    · rw [List.mem_singleton] at e
      subst e
      exact ⟨by rw [upd_ne nyL]; exact ey, s0.free ny, nyL⟩
  · rw [List.map_append, h.2.2.1, List.range_succ, List.map_append]
    rfl
  · by_cases c : i < n
    · exact h.2.2.2 i c
    · rw [show i = n by omega]
      exact hl
def spLev (K : PySem.W.Frag) : Sp := fun vs H Q _ => ∃ (a : Addr) (r : List Int), vs = [.ref a] ∧ Sq K H a r ∧ r.length ≤ 101 ∧
  ∀ p H' n pre x, H p = none → Same H H' → LvAt H H' p r n pre x → (GM.lvn r n).length ≤ 2 → Q (.ref p) H'
theorem ok_levels_of (B : Bl mg) (L : LL K mg C a1 a2 a3 a4 a5 a6 a7 a8 a9 a10 a11 a12 a13 a14 a15 a16 a17 a18 a19 a20 a21 a22 a23 a24 a25 a26 a27 a28 a29 a30 a31 a32 a33 a34 a35 a36 a37 a38 a39 a40 a41 a42 a43 a44 a45 a46 a47 a48 a49 a50 a51 a52 a53 a54 a55 a56 a57 a58 a59 a60 a61 a62 a63 a64 a65 a66 a67 l1 l2 l3 l4 l5 l6 l7 l8 l9 l10 l11 l12 l13 l14 l15 l16 l17 l18 l19 l20 l21 l22 l23 l24 l25 l26 l27 l28 l29 l30 l31 l32 l33 l34 l35 l36 l37 l38 l39 l40 l41 l42 l43 l44 l45 l46 l47 l48 l49 l50 l51 l52 l53 l54 l55 l56 l57 l58 l59 l60 l61 l62 l63 l64 l65 l66 l67 t62 t63 t64 tg_NEAR tg_CUT tg_UP tg_DOWN w dO esO nO) : FnOk P w K mg base CX0 3 a35 l35 ["rows"] (spLev K) := by
  have G_level_behind : FnOk P w K mg base CX0 2 a36 l36 ["rows"] spBehind := (ok_level_behind B L).mono (by decide)
  refine L.F_levels_of.ok sc_levels_of (fun vs H Q E h => ?_) (fun cdv A outer s H vs Q E hr h => ?_)
  · obtain ⟨a, r, rfl, _⟩ := h
    rfl
  obtain ⟨a, r, rfl, ha, hl, q⟩ := h
  refine ⟨_, (pss_cons (ps_set (i := 1) sc_levels_of.nd rfl (.inl rfl) (pe_lst (pa_cons (pe_callTy call_list_of (by rfl) B.list PyProof.Rows.boot_list (pa_cons (pv 0) pa_nil)) pa_nil)))
    (pss_cons (ps_while PassesOwn.never (pt_cmpR op_gt (pe_callB call_len_seq (by rfl) B.len PySem.boot_len (pa_cons (pe_ix ix_list (pv 1) (pe_un un_neg pe_int) (fun _ _ => rfl)) pa_nil)) pe_int (nomark _)) (pss_one (ps_expr (pe_bm PySem.F.plainAttrs_list PySem.F.slot_list_append PySem.F.type_list_append mt_append (pv 1) (pa_cons (pe_call G_level_behind hr (by rfl) L.m_level_behind L.F_level_behind.kp L.b_level_behind .nil pass0 (pa_cons (pe_ix ix_list (pv 1) (pe_un un_neg pe_int) (fun _ _ => rfl)) pa_nil)) pa_nil)))))
    (pss_one (ps_ret (pv 1))))), ?_⟩
  refine ⟨_, rfl, a, _, rfl, ha, fun l0 nl0 => ⟨(by show 1 ≤ sizeLine; decide), fun L0 nL0 => ?_⟩⟩
  have s0 := same_upd (o := .lst (r.map V.int)) nl0
  have s1 := s0.trans (same_upd (o := .lst [.ref l0]) nL0)
  have ne0 : l0 ≠ L0 := fun e => by
    subst e
    rw [upd_same] at nL0
    cases nL0
  have nLH : H L0 = none := s0.free nL0
  refine ⟨fun m σ H5 => ∃ (n : Nat) (pre : List (Addr × List Int)) (x : Addr), σ = [some (.ref a), some (.ref L0)] ∧ Same H H5 ∧ LvAt H H5 L0 r n pre x ∧ m + n = 300, ⟨300, 0, [], l0, rfl, s1, ⟨upd_same, fun q hq => ?_, rfl, fun i hi => absurd hi (Nat.not_lt_zero i)⟩, rfl⟩, ?_⟩
  · rw [List.nil_append, List.mem_singleton] at hq
    subst hq
    exact ⟨by rw [upd_ne ne0]; exact upd_same, nl0, ne0⟩
  rintro m σ H5 ⟨n, pre, x, rfl, s5, hL, hm⟩
  obtain ⟨ex, nx, nxL⟩ := hL.last
  have hln := GM.lvn_len r n hL.2.2.2
  refine ⟨_, rfl, _, rfl, L0, _, _, _, rfl, rfl, SqL.of hL.1, atI_last _ _, x, _, rfl, .inl (SqL.of ex), _, _, rfl, rfl, _, rfl, ite2 (fun c => ?_) (fun c => ?_)⟩
  · have c1 : (2 : Int) < (((GM.lvn r n).map V.int).length : Nat) := of_decide_eq_true c
    rw [List.length_map] at c1
    refine ⟨fun σ' H' => ∃ (pre : List (Addr × List Int)) (x : Addr), σ' = [some (.ref a), some (.ref L0)] ∧ Same H H' ∧ LvAt H H' L0 r (n + 1) pre x, fun σ' H' ⟨pre', x', e1, e2, e3⟩ => ⟨m - 1, by omega, n + 1, pre', x', e1, e2, e3, by omega⟩, ?_⟩
    refine ⟨_, rfl, .inl ⟨rfl, _, SqL.of hL.1⟩, _, rfl, _, rfl, L0, _, _, _, rfl, rfl, SqL.of hL.1, atI_last _ _, x, _, rfl, ex, by omega, fun y H6 ny s6 ey => ?_⟩
    refine ⟨L0, _, _, rfl, rfl, s6 _ _ hL.1, ?_, _, y, rfl, fun z u e => ?_, hL.next s6 s5 (by omega) ny ey⟩
    · rw [List.length_append, List.length_map, hL.len]
      exact small1000 (by show n + 1 ≤ 1000; omega)
    · rw [upd_ne (ne_of_none e nLH)]
      exact s6 _ _ (s5 _ _ e)
  · have c1 : ¬ (2 : Int) < (((GM.lvn r n).map V.int).length : Nat) := of_decide_eq_false (Bool.eq_false_iff.mpr c)
    rw [List.length_map] at c1
    exact ⟨_, rfl, q L0 H5 n pre x nLH s5 hL (by omega)⟩
theorem drop3 {r : List Int} {i : Nat} (h : 3 * i + 2 < r.length) : (r.drop (3 * i)).take 3 = [GM.at3 r (3 * i), GM.at3 r (3 * i + 1), GM.at3 r (3 * i + 2)] := by
  have g : ∀ j, (hj : j < r.length) → r[j] = GM.at3 r j := fun j hj => by
    have := GM.at3_get hj
    rw [List.getElem?_eq_getElem hj] at this
    exact Option.some.inj this
  rw [List.drop_eq_getElem_cons (by omega), List.drop_eq_getElem_cons (by omega), List.drop_eq_getElem_cons (by omega), g _ (by omega), g _ (by omega), g _ (by omega)]
  rfl
theorem cut_3 {r : List Int} {i : Nat} (h : 3 * i + 2 < r.length) : cutV (r.map V.int) (some (3 * (i : Int))) (some (3 * (i : Int) + 3)) = [.int (GM.at3 r (3 * i)), .int (GM.at3 r (3 * i + 1)), .int (GM.at3 r (3 * i + 2))] := by
  rw [show 3 * (i : Int) + 3 = ((3 * i + 3 : Nat) : Int) by omega, show 3 * (i : Int) = ((3 * i : Nat) : Int) by omega]
  unfold cutV
  rw [HT.sIx_nat, HT.sIx_nat, List.length_map, ← List.map_drop, ← List.map_take, Nat.min_eq_left (by omega), Nat.min_eq_left (by omega), show 3 * i + 3 - 3 * i = 3 by omega, drop3 h]
  rfl
end
section
variable {P : Program} {w : World} {K : PySem.W.Frag} {mg : Str → Option Value} {base : Heap}
variable {C : Addr} {a1 a2 a3 a4 a5 a6 a7 a8 a9 a10 a11 a12 a13 a14 a15 a16 a17 a18 a19 a20 a21 a22 a23 a24 a25 a26 a27 a28 a29 a30 a31 a32 a33 a34 a35 a36 a37 a38 a39 a40 a41 a42 a43 a44 a45 a46 a47 a48 a49 a50 a51 a52 a53 a54 a55 a56 a57 a58 a59 a60 a61 a62 a63 a64 a65 a66 a67 : Addr} {l1 l2 l3 l4 l5 l6 l7 l8 l9 l10 l11 l12 l13 l14 l15 l16 l17 l18 l19 l20 l21 l22 l23 l24 l25 l26 l27 l28 l29 l30 l31 l32 l33 l34 l35 l36 l37 l38 l39 l40 l41 l42 l43 l44 l45 l46 l47 l48 l49 l50 l51 l52 l53 l54 l55 l56 l57 l58 l59 l60 l61 l62 l63 l64 l65 l66 l67 : FuncData} {t62 t63 t64 tg_NEAR tg_CUT tg_UP tg_DOWN : Tok} {dO : Addr} {esO : Array DictEntry} {nO : Nat}
theorem dp_pair {H : Hp} {p : Addr} {r : Int × List Str} (h : PairAt H p r) : Dp K H (.ref p) (.tuple [.int r.1, .tuple (r.2.map PyData.str)]) := by
  obtain ⟨f, e1, e2⟩ := h
  refine .tup (.inl (.inl e1)) (.cons (.int _) (.cons (.tup (.inl (.inl e2)) ?_) .nil))
  generalize r.2 = l
  induction l with
  | nil => exact .nil
  | cons x l ih => exact .cons (.str x) ih
theorem lv_pair (r : Int × List Str) (h : r.2.length ≤ 1000) : Lv 2 (.tuple [.int r.1, .tuple (r.2.map PyData.str)]) := by
  refine ⟨by show 2 ≤ 1000000; decide, fun d hd => ?_⟩
  rcases List.mem_cons.mp hd with e | hd
  · rw [e]
    trivial
  · rcases List.mem_cons.mp hd with e | hd
    · rw [e]
      refine ⟨by rw [List.length_map]; omega, fun d hd => ?_⟩
      obtain ⟨x, _, rfl⟩ := List.mem_map.mp hd
      trivial
    · exact nomatch hd
theorem lv_pair3 (r : Int × List Str) (h : r.2.length ≤ 1000) : Lv 3 (.tuple [.int r.1, .tuple (r.2.map PyData.str)]) := by
  refine ⟨by show 2 ≤ 1000000; decide, fun d hd => ?_⟩
  rcases List.mem_cons.mp hd with e | hd
  · rw [e]
    trivial
  · rcases List.mem_cons.mp hd with e | hd
    · rw [e]
      refine ⟨by rw [List.length_map]; omega, fun d hd => ?_⟩
      obtain ⟨x, _, rfl⟩ := List.mem_map.mp hd
      trivial
    · exact nomatch hd
theorem rnd_len (sc tl : Nat) (s n p : Int) (w : Str) (m : Bool) : (GR.rnd sc tl s n p w m).2.length ≤ 1000 := by
  unfold GR.rnd GR.flg
  repeat' split
  all_goals first | exact (by decide : 2 ≤ 1000) | exact (by decide : 0 ≤ 1000) | exact (by decide : 1 ≤ 1000)
theorem PairAt.same {H H' : Hp} {p : Addr} {r : Int × List Str} (h : PairAt H p r) (s : Same H H') : PairAt H' p r := by
  obtain ⟨f, e1, e2⟩ := h
  exact ⟨f, s _ _ e1, s _ _ e2⟩
theorem lv_two (d : PyData) (h : Lv 2 d) : Lv 3 (.list [d, d]) := by
  refine ⟨by show 2 ≤ 1000000; decide, fun e he => ?_⟩
  rcases List.mem_cons.mp he with z | he
  · rw [z]; exact h
  · rcases List.mem_cons.mp he with z | he
    · rw [z]; exact h
    · exact nomatch he
theorem mul_len (sc tl : Nat) (a b : Int) (w : Str) : (mulR sc tl a b w).2.length ≤ 1000 := by
  unfold mulR
  split
  · exact (by decide : 0 ≤ 1000)
  split
  · exact (by decide : 1 ≤ 1000)
  split
  · exact (by decide : 0 ≤ 1000)
  exact rnd_len _ _ _ _ _ _ _
theorem rnd_len0 (sc tl : Nat) (n p s : Int) (w : Str) : (totR sc tl n p s w).2.length ≤ 1000 := by
  unfold totR
  split
  · exact (by decide : 0 ≤ 1000)
  · exact rnd_len _ _ _ _ _ _ _
theorem tad_len (sc tl : Nat) (s1 s2 : Int) (o1 o2 : Option (Int × Int)) (w : Str) : (tadR sc tl s1 o1 s2 o2 w).2.length ≤ 1000 := by
  unfold tadR
  split
  · split
    · exact (by decide : 0 ≤ 1000)
    · exact (by decide : 1 ≤ 1000)
  · exact (by decide : 0 ≤ 1000)
  · exact (by decide : 0 ≤ 1000)
  · exact rnd_len0 _ _ _ _ _ _
theorem join_len (sc tl : Nat) (a b c : Int) (w : Str) : (joinR sc tl a b c w).2.length ≤ 1000 := by
  unfold joinR
  split
  · exact (by decide : 0 ≤ 1000)
  split
  · exact (by decide : 1 ≤ 1000)
  exact tad_len _ _ _ _ _ _ _
theorem add_len (sc tl : Nat) (a b : Int) (w : Str) : (addR sc tl a b w).2.length ≤ 1000 := by
  unfold addR
  split
  · exact (by decide : 0 ≤ 1000)
  exact tad_len _ _ _ _ _ _ _
theorem div_len (sc tl : Nat) (a b : Int) (w : Str) : (divR sc tl a b w).2.length ≤ 1000 := by
  unfold divR
  repeat' split
  all_goals first | exact (by decide : 0 ≤ 1000) | exact (by decide : 1 ≤ 1000) | exact rnd_len _ _ _ _ _ _ _
end
section
variable {P : Program} {w : World} {K : PySem.W.Frag} {mg : Str → Option Value} {base : Heap}
variable {C : Addr} {a1 a2 a3 a4 a5 a6 a7 a8 a9 a10 a11 a12 a13 a14 a15 a16 a17 a18 a19 a20 a21 a22 a23 a24 a25 a26 a27 a28 a29 a30 a31 a32 a33 a34 a35 a36 a37 a38 a39 a40 a41 a42 a43 a44 a45 a46 a47 a48 a49 a50 a51 a52 a53 a54 a55 a56 a57 a58 a59 a60 a61 a62 a63 a64 a65 a66 a67 : Addr} {l1 l2 l3 l4 l5 l6 l7 l8 l9 l10 l11 l12 l13 l14 l15 l16 l17 l18 l19 l20 l21 l22 l23 l24 l25 l26 l27 l28 l29 l30 l31 l32 l33 l34 l35 l36 l37 l38 l39 l40 l41 l42 l43 l44 l45 l46 l47 l48 l49 l50 l51 l52 l53 l54 l55 l56 l57 l58 l59 l60 l61 l62 l63 l64 l65 l66 l67 : FuncData} {t62 t63 t64 tg_NEAR tg_CUT tg_UP tg_DOWN : Tok} {dO : Addr} {esO : Array DictEntry} {nO : Nat}
/-! ### the steps of a product -/
def px (r : List Int) : Int := r.getD 0 0
def py (r : List Int) : Int := r.getD 1 0
theorem two_of {r : List Int} (h1 : 1 ≤ r.length) (h2 : r.length ≤ 2) : cutV (r.map V.int ++ [V.int 0]) none (some 2) = [.int (px r), .int (py r)] ∧ px r + py r = r.sum := by
  match r, h1, h2 with
  | [u], _, _ => exact ⟨rfl, by show u + 0 = u + 0; rfl⟩
  | [u, v], _, _ => exact ⟨rfl, by show u + v = u + (v + 0); omega⟩
theorem lvn_pos {r : List Int} (h : 1 ≤ r.length) : ∀ n, 1 ≤ (GM.lvn r n).length
  | 0 => h
  | n + 1 => by
    have := lvn_pos h n
    have h2 := GM.lv_len (GM.lvn r n)
    show 1 ≤ (GM.lv (GM.lvn r n)).length
    omega
theorem rol_all {o n : Int} (h0 : 0 ≤ n) : (GM.rol o n (kf n)).sum = o * n := by
  have hn : n < 2 ^ (Builtin.Int.intBits n) := by
    have c : ((2 ^ (Builtin.Int.intBits n) : Nat) : Int) = (2 : Int) ^ (Builtin.Int.intBits n) := PySem.W.kbt_cast _
    have : n.natAbs < 2 ^ (Builtin.Int.intBits n) := PyProof.Rows.natAbs_lt_pow_bits n
    omega
  have hp : (2 : Int) ^ (Builtin.Int.intBits n) ≤ 2 ^ (2 * (Builtin.Int.intBits n / 2) + 1) := GM.pow_le' (by omega)
  rw [GM.rol_sum]
  unfold kf
  rw [GM.s4_all h0 (by omega)]
def StepsAt (H : Hp) (l f : Addr) (ds : List Int) (n x y z : Int) (r : Int × List Str) : Prop := ∃ t0 t1 t2 t3 t4 : Addr, H l = some (.lst [.ref t0, .ref t1, .ref t2, .ref t3, .ref t4]) ∧ H t0 = some (.tup [.str "fours", .ref f]) ∧ H f = some (.lst (ds.map V.int)) ∧ H t1 = some (.tup [.str "levels", .int n]) ∧ H t2 = some (.tup [.str "pair", .int x, .int y]) ∧ H t3 = some (.tup [.str "product", .int z]) ∧ StepAt H t4 "round" r
theorem StepsAt.same {H H' : Hp} {l f : Addr} {ds : List Int} {n x y z : Int} {r : Int × List Str} (h : StepsAt H l f ds n x y z r) (s : Same H H') : StepsAt H' l f ds n x y z r := by
  obtain ⟨t0, t1, t2, t3, t4, e, e0, e1, e2, e3, e4, e5⟩ := h
  exact ⟨t0, t1, t2, t3, t4, s _ _ e, s _ _ e0, s _ _ e1, s _ _ e2, s _ _ e3, s _ _ e4, e5.same s⟩
def hd (sc tl : Nat) (v : Int) : Int := GM.num tl (sz sc tl v)
def TimesAt (H : Hp) (l f : Addr) (sc tl : Nat) (a b : Int) (way : Str) (n : Nat) : Prop := GM.Ends (GM.rol (hd sc tl a) (hd sc tl b) (kf (hd sc tl b))) n ∧ StepsAt H l f (GM.fol (hd sc tl b) (kf (hd sc tl b))) ((n : Int) + 1) (px (GM.lvn (GM.rol (hd sc tl a) (hd sc tl b) (kf (hd sc tl b))) n)) (py (GM.lvn (GM.rol (hd sc tl a) (hd sc tl b) (kf (hd sc tl b))) n)) (hd sc tl a * hd sc tl b) (GR.rnd sc tl (sx sc tl a b) (hd sc tl a * hd sc tl b) (wp sc tl a + wp sc tl b) way false)
theorem hd_in (sc : Nat) {tl : Nat} (v : Int) (h4 : tl ≤ 24) : 0 ≤ hd sc tl v ∧ hd sc tl v < 2 ^ 25 := num_in (tl := tl) (u := sz sc tl v) (sz_nn sc tl v) h4
theorem hd_mul (sc : Nat) {tl : Nat} (a b : Int) (h4 : tl ≤ 24) : 0 ≤ hd sc tl a * hd sc tl b ∧ hd sc tl a * hd sc tl b < 2 ^ 50 := by
  have ka := hd_in sc a h4
  have kb := hd_in sc b h4
  have e := Int.mul_le_mul (show hd sc tl a ≤ 2 ^ 25 - 1 by omega) (show hd sc tl b ≤ 2 ^ 25 - 1 by omega) kb.1 (by decide)
  exact ⟨Int.mul_nonneg ka.1 kb.1, by omega⟩
def spTS (C : Addr) : Sp := fun vs H Q _ => ∃ (x : Addr) (sc tl : Nat) (a b : Int) (way : Str), vs = [.ref x, .int a, .int b, .str way] ∧ FAt C H x sc tl ∧
  (([a, b].all (hdv sc tl)) = false → ∀ l t H', H l = none → Same H H' → H' l = some (.lst [.ref t]) → StepAt H' t "told" (mulR sc tl a b way) → Q (.ref l) H') ∧
  (([a, b].all (hdv sc tl)) = true → ∀ l f n H', H l = none → H f = none → f ≠ l → Same H H' → TimesAt H' l f sc tl a b way n → Q (.ref l) H')
theorem ok_times_steps (B : Bl mg) (L : LL K mg C a1 a2 a3 a4 a5 a6 a7 a8 a9 a10 a11 a12 a13 a14 a15 a16 a17 a18 a19 a20 a21 a22 a23 a24 a25 a26 a27 a28 a29 a30 a31 a32 a33 a34 a35 a36 a37 a38 a39 a40 a41 a42 a43 a44 a45 a46 a47 a48 a49 a50 a51 a52 a53 a54 a55 a56 a57 a58 a59 a60 a61 a62 a63 a64 a65 a66 a67 l1 l2 l3 l4 l5 l6 l7 l8 l9 l10 l11 l12 l13 l14 l15 l16 l17 l18 l19 l20 l21 l22 l23 l24 l25 l26 l27 l28 l29 l30 l31 l32 l33 l34 l35 l36 l37 l38 l39 l40 l41 l42 l43 l44 l45 l46 l47 l48 l49 l50 l51 l52 l53 l54 l55 l56 l57 l58 l59 l60 l61 l62 l63 l64 l65 l66 l67 t62 t63 t64 tg_NEAR tg_CUT tg_UP tg_DOWN w dO esO nO) : FnOk P w K mg base CX0 11 a37 l37 ["form", "a", "b", "way"] (spTS C) := by
  have G_have_heads : FnOk P w K mg base CX0 10 a27 l27 ["form", "words"] (spHH K C) := (ok_have_heads B L).mono (by decide)
  have G_plain_step : FnOk P w K mg base CX0 10 a29 l29 ["name", "form", "op", "words", "way"] (spPS K C) := (ok_plain_step B L).mono (by decide)
  have G_head_of : FnOk P w K mg base CX0 10 a28 l28 ["form", "word"] (spHO C) := (ok_head_of B L).mono (by decide)
  have G_rows_of : FnOk P w K mg base CX0 10 a33 l33 ["one", "number"] spRows := (ok_rows_of B L).mono (by decide)
  have G_levels_of : FnOk P w K mg base CX0 10 a35 l35 ["rows"] (spLev K) := (ok_levels_of B L).mono (by decide)
  have G_fours_of : FnOk P w K mg base CX0 10 a31 l31 ["number"] spFours := (ok_fours_of B L).mono (by decide)
  have G_unlike_sign : FnOk P w K mg base CX0 10 a19 l19 ["form", "a", "b"] (spUnl C) := (ok_unlike_sign B L).mono (by decide)
  have G_round_step : FnOk P w K mg base CX0 10 a30 l30 ["form", "sign", "total", "power", "way", "more"] (spRS C) := (ok_round_step B L).mono (by decide)
  refine L.F_times_steps.ok sc_times_steps (fun vs H Q E h => ?_) (fun cdv A outer s H vs Q E hr h => ?_)
  · obtain ⟨x, sc, tl, a, b, way, rfl, _⟩ := h
    rfl
  obtain ⟨x, sc, tl, a, b, way, rfl, hF, qo, qr⟩ := h
  refine ⟨_, (pss_cons (ps_if (pt_not (pt_val (pe_call G_have_heads hr (by rfl) L.m_have_heads L.F_have_heads.kp L.b_have_heads .nil pass0 (pa_cons (pv 0) (pa_cons (pe_tup (pa_cons (pv 1) (pa_cons (pv 2) pa_nil))) pa_nil))))) (pss_one (ps_ret (pe_lst (pa_cons (pe_call G_plain_step hr (by rfl) L.m_plain_step L.F_plain_step.kp L.b_plain_step .nil pass0 (pa_cons pe_str (pa_cons (pv 0) (pa_cons pe_str (pa_cons (pe_tup (pa_cons (pv 1) (pa_cons (pv 2) pa_nil))) (pa_cons (pv 3) pa_nil)))))) pa_nil)))) pss_nil)
    (pss_cons (ps_asg (pe_call G_head_of hr (by rfl) L.m_head_of L.F_head_of.kp L.b_head_of .nil pass0 (pa_cons (pv 0) (pa_cons (pv 1) pa_nil))) (pg_tup (by rfl) (pgs_cons (pg_name (i := 4) sc_times_steps.nd rfl (.inl rfl)) (pgs_cons (pg_name (i := 5) sc_times_steps.nd rfl (.inl rfl)) pgs_nil))))
    (pss_cons (ps_asg (pe_call G_head_of hr (by rfl) L.m_head_of L.F_head_of.kp L.b_head_of .nil pass0 (pa_cons (pv 0) (pa_cons (pv 2) pa_nil))) (pg_tup (by rfl) (pgs_cons (pg_name (i := 6) sc_times_steps.nd rfl (.inl rfl)) (pgs_cons (pg_name (i := 7) sc_times_steps.nd rfl (.inl rfl)) pgs_nil))))
    (pss_cons (ps_set (i := 8) sc_times_steps.nd rfl (.inl rfl) (pe_call G_levels_of hr (by rfl) L.m_levels_of L.F_levels_of.kp L.b_levels_of .nil pass0 (pa_cons (pe_call G_rows_of hr (by rfl) L.m_rows_of L.F_rows_of.kp L.b_rows_of .nil pass0 (pa_cons (pv 4) (pa_cons (pv 6) pa_nil))) pa_nil)))
    (pss_cons (ps_asg (pe_slice sl_list (pe_lst (StX.pa_star (pe_ix ix_list (pv 8) (pe_un un_neg pe_int) (fun _ _ => rfl)) (pa_cons pe_int pa_nil))) po_none (po_some pe_int)) (pg_unl rfl (pgs_cons (pg_name (i := 9) sc_times_steps.nd rfl (.inl rfl)) (pgs_cons (pg_name (i := 10) sc_times_steps.nd rfl (.inl rfl)) pgs_nil))))
    (pss_cons (ps_set (i := 11) sc_times_steps.nd rfl (.inl rfl) (pe_op op_add (pv 9) (pv 10)))
    (pss_one (ps_ret (pe_lst (pa_cons (pe_tup (pa_cons pe_str (pa_cons (pe_call G_fours_of hr (by rfl) L.m_fours_of L.F_fours_of.kp L.b_fours_of .nil pass0 (pa_cons (pv 6) pa_nil)) pa_nil))) (pa_cons (pe_tup (pa_cons pe_str (pa_cons (pe_callB call_len_seq (by rfl) B.len PySem.boot_len (pa_cons (pv 8) pa_nil)) pa_nil))) (pa_cons (pe_tup (pa_cons pe_str (pa_cons (pv 9) (pa_cons (pv 10) pa_nil)))) (pa_cons (pe_tup (pa_cons pe_str (pa_cons (pv 11) pa_nil))) (pa_cons (pe_call G_round_step hr (by rfl) L.m_round_step L.F_round_step.kp L.b_round_step .nil pass0 (pa_cons (pv 0) (pa_cons (pe_call G_unlike_sign hr (by rfl) L.m_unlike_sign L.F_unlike_sign.kp L.b_unlike_sign .nil pass0 (pa_cons (pv 0) (pa_cons (pv 1) (pa_cons (pv 2) pa_nil)))) (pa_cons (pv 11) (pa_cons (pe_op op_add (pv 5) (pv 7)) (pa_cons (pv 3) (pa_cons pe_bl pa_nil))))))) pa_nil)))))))))))))), ?_⟩
  refine ⟨_, rfl, _, rfl, _, rfl, (by show 2 ≤ sizeLine; decide), fun t nt => ?_⟩
  have st := same_upd (o := .tup [.int a, .int b]) nt
  refine ⟨x, t, sc, tl, [a, b], rfl, hF.same st, .inl (.inl upd_same), Nat.le_of_ble_eq_true rfl, fun H1 s1 => ?_⟩
  have w1 := st.trans s1
  cases hr2 : [a, b].all (hdv sc tl) with
  | false =>
    refine ⟨_, rfl, iteT ?_⟩
    refine ⟨_, rfl, _, rfl, _, rfl, (by show 2 ≤ sizeLine; decide), fun u nu => ?_⟩
    have su := same_upd (o := .tup [.int a, .int b]) nu
    have w2 := w1.trans su
    refine ⟨_, rfl, x, u, sc, tl, "told", "times", way, [a, b], mulR sc tl a b way, rfl, hF.same w2, .inl (.inl (.inl upd_same)), (by unfold doneR; rfl), fun v H2 s2 P2 => ?_⟩
    refine ⟨(by show 1 ≤ sizeLine; decide), fun l nl => ?_⟩
    exact qo hr2 l v _ ((w2.trans s2).free nl) ((w2.trans s2).trans (same_upd nl)) upd_same (P2.same (same_upd nl))
  | true =>
    refine ⟨_, rfl, iteF ?_⟩
    obtain ⟨dx, hx, h1, h2, h3, h4⟩ := id hF
    have hab := List.all_eq_true.mp hr2
    have ra := hdv_real (hab a (by simp))
    have rb := hdv_real (hab b (by simp))
    have ka := hd_in sc a h4
    have kb := hd_in sc b h4
    have p200 : (2 : Int) ^ 25 ≤ 2 ^ 200 := GM.pow_le' (by decide)
    have kk := kf_le kb.1 (by omega)
    refine ⟨_, rfl, _, rfl, x, sc, tl, a, rfl, hF.same w1, ra.1, fun p1 H2 n2 s2 e2 => ?_⟩
    refine ⟨p1, _, rfl, .inl (.inl e2), rfl, _, _, rfl, _, _, rfl, rfl, ?_⟩
    have w2 := w1.trans s2
    refine ⟨_, rfl, _, rfl, x, sc, tl, b, rfl, hF.same w2, rb.1, fun p2 H3 n3 s3 e3 => ?_⟩
    refine ⟨p2, _, rfl, .inl (.inl e3), rfl, _, _, rfl, _, _, rfl, rfl, ?_⟩
    have w3 := w2.trans s3
    simp only [L2.start, List.map_cons, List.map_nil, List.length_cons, List.length_nil, List.replicate_succ, List.replicate_zero, List.cons_append, List.nil_append, List.set_cons_succ, List.set_cons_zero, Nat.reduceAdd, Nat.reduceSub, Nat.zero_add]
    refine ⟨_, rfl, _, rfl, hd sc tl a, hd sc tl b, rfl, kb.1, by omega, ka.1, by omega, fun ro H4 n4 s4 e4 => ?_⟩
    refine ⟨ro, _, rfl, .inl (SqL.of e4), by rw [GM.rol_len]; exact kk, fun L0 H5 n pre y nL s5 hL hlen => ?_⟩
    have w5 := (w3.trans s4).trans s5
    have hE : GM.Ends (GM.rol (hd sc tl a) (hd sc tl b) (kf (hd sc tl b))) n := ⟨hL.2.2.2, hlen⟩
    have hpos := lvn_pos (r := GM.rol (hd sc tl a) (hd sc tl b) (kf (hd sc tl b))) (by rw [GM.rol_len]; unfold kf; omega) n
    have h2f := two_of hpos hlen
    rw [GM.lvn_sum, rol_all kb.1] at h2f
    obtain ⟨ey, ny, nyL⟩ := hL.last
    refine ⟨_, rfl, _, rfl, L0, _, _, _, rfl, rfl, SqL.of hL.1, atI_last _ _, y, _, rfl, .inr (SqL.of ey), ?_⟩
    refine ⟨(by show _ ≤ sizeLine; rw [List.length_append, List.length_map]; exact Nat.le_of_lt (small1000 (by show _ + 1 ≤ 1000; omega))), fun u nu => ?_⟩
    have su := same_upd (o := .lst ((GM.lvn (GM.rol (hd sc tl a) (hd sc tl b) (kf (hd sc tl b))) n).map V.int ++ [.int 0])) nu
    refine ⟨_, rfl, u, _, rfl, SqL.of upd_same, fun v nv => ?_⟩
    rw [h2f.1]
    have sv := same_upd (o := .lst [.int (px (GM.lvn (GM.rol (hd sc tl a) (hd sc tl b) (kf (hd sc tl b))) n)), .int (py (GM.lvn (GM.rol (hd sc tl a) (hd sc tl b) (kf (hd sc tl b))) n))]) nv
    refine ⟨v, _, rfl, SqL.of upd_same, rfl, _, _, rfl, _, _, rfl, rfl, ?_⟩
    have w6 := (w5.trans su).trans sv
    have hLs := su.trans sv
    have lL := hL.len
    simp only [L2.start, List.map_cons, List.map_nil, List.length_cons, List.length_nil, List.replicate_succ, List.replicate_zero, List.cons_append, List.nil_append, List.set_cons_succ, List.set_cons_zero, Nat.reduceAdd, Nat.reduceSub, Nat.zero_add]
    refine ⟨_, rfl, _, rfl, _, _, rfl, rfl, gI h2f.2 ?_⟩
    simp only [L2.start, List.map_cons, List.map_nil, List.length_cons, List.length_nil, List.replicate_succ, List.replicate_zero, List.cons_append, List.nil_append, List.set_cons_succ, List.set_cons_zero, Nat.reduceAdd, Nat.reduceSub, Nat.zero_add]
    refine ⟨_, rfl, hd sc tl b, rfl, kb.1, by omega, fun f H6 nf s6 ef => ⟨(by show 2 ≤ sizeLine; decide), fun t0 nt0 => ?_⟩⟩
    have st0 := same_upd (o := .tup [.str "fours", .ref f]) nt0
    have w7 := (w6.trans s6).trans st0
    refine ⟨_, rfl, L0, _, rfl, .inl (SqL.of (st0 _ _ (s6 _ _ (hLs _ _ hL.1)))), (by show 2 ≤ sizeLine; decide), fun t1 nt1 => ?_⟩
    have st1 := same_upd (o := .tup [.str "levels", .int ((((pre.map fun q => V.ref q.1) ++ [V.ref y]).length : Nat) : Int)]) nt1
    refine ⟨_, rfl, _, rfl, (by show 3 ≤ sizeLine; decide), fun t2 nt2 => ?_⟩
    have st2 := same_upd (o := .tup [.str "pair", .int (px (GM.lvn (GM.rol (hd sc tl a) (hd sc tl b) (kf (hd sc tl b))) n)), .int (py (GM.lvn (GM.rol (hd sc tl a) (hd sc tl b) (kf (hd sc tl b))) n))]) nt2
    refine ⟨_, rfl, (by show 2 ≤ sizeLine; decide), fun t3 nt3 => ?_⟩
    have st3 := same_upd (o := .tup [.str "product", .int (hd sc tl a * hd sc tl b)]) nt3
    have w8 := ((w7.trans st1).trans st2).trans st3
    refine ⟨_, rfl, _, rfl, _, rfl, _, rfl, x, sc, tl, a, b, rfl, hF.same w8, fun H7 s7 => ?_⟩
    have kab := hd_mul sc a b h4
    have ia := wp_in h1 h2 h4 ra.1
    have ib := wp_in h1 h2 h4 rb.1
    refine ⟨_, rfl, _, rfl, _, rfl, _, _, rfl, rfl, _, rfl, x, sc, tl, sx sc tl a b, hd sc tl a * hd sc tl b, wp sc tl a + wp sc tl b, way, false, rfl, hF.same (w8.trans s7), sx_01 sc tl a b, fit_lt kab.1 kab.2 (by decide), by omega, by omega, (fun z => nomatch z), fun t4 H8 s8 P8 => ⟨(by show 5 ≤ sizeLine; decide), fun l nl => ?_⟩⟩
    have sl := same_upd (o := .lst [.ref t0, .ref t1, .ref t2, .ref t3, .ref t4]) nl
    have z3 := (s7.trans s8).trans sl
    have z2 := st3.trans z3
    have z1 := st2.trans z2
    have z0 := st1.trans z1
    have zf := st0.trans z0
    refine qr hr2 l f n _ (((w8.trans s7).trans s8).free nl) (w6.free nf) (ne_of_none (s8 _ _ (s7 _ _ (st3 _ _ (st2 _ _ (st1 _ _ (st0 _ _ ef)))))) nl) (w8.trans z3) ⟨hE, t0, t1, t2, t3, t4, upd_same, z0 _ _ upd_same, zf _ _ ef, ?_, z2 _ _ upd_same, z3 _ _ upd_same, P8.same sl⟩
    refine (z1 _ _ upd_same).trans ?_
    rw [List.length_append, List.length_map, lL]
    rfl
end
section
variable {P : Program} {w : World} {K : PySem.W.Frag} {mg : Str → Option Value} {base : Heap}
variable {C : Addr} {a1 a2 a3 a4 a5 a6 a7 a8 a9 a10 a11 a12 a13 a14 a15 a16 a17 a18 a19 a20 a21 a22 a23 a24 a25 a26 a27 a28 a29 a30 a31 a32 a33 a34 a35 a36 a37 a38 a39 a40 a41 a42 a43 a44 a45 a46 a47 a48 a49 a50 a51 a52 a53 a54 a55 a56 a57 a58 a59 a60 a61 a62 a63 a64 a65 a66 a67 : Addr} {l1 l2 l3 l4 l5 l6 l7 l8 l9 l10 l11 l12 l13 l14 l15 l16 l17 l18 l19 l20 l21 l22 l23 l24 l25 l26 l27 l28 l29 l30 l31 l32 l33 l34 l35 l36 l37 l38 l39 l40 l41 l42 l43 l44 l45 l46 l47 l48 l49 l50 l51 l52 l53 l54 l55 l56 l57 l58 l59 l60 l61 l62 l63 l64 l65 l66 l67 : FuncData} {t62 t63 t64 tg_NEAR tg_CUT tg_UP tg_DOWN : Tok} {dO : Addr} {esO : Array DictEntry} {nO : Nat}
/-! ### the law's own steps -/
theorem fo4 (n : Int) (i : Nat) : n / 2 ^ (2 * i) % 2 ^ 2 + GM.bit (2 * n) (2 * i) - 4 * GM.bit (2 * n) (2 * (i + 1)) = GM.fo n i := by
  unfold GM.fo
  rw [show 2 * (i + 1) = 2 * i + 1 + 1 by omega, show 2 * i + 2 = 2 * i + 1 + 1 by omega, GM.bit_two, GM.bit_two]
  generalize GM.bit (2 * n) (2 * i) = z
  unfold GM.bit
  rw [GM.div_s, show (2 : Int) ^ 2 = 4 by decide]
  omega
theorem bit_is (n : Int) (i : Nat) : (if decide (V.int (n / 2 ^ (2 * i + 1) % 2 ^ 1) = V.int 1) = true then (1 : Int) else 0) = GM.bit (2 * n) (2 * (i + 1)) := by
  rw [show 2 * (i + 1) = 2 * i + 1 + 1 by omega, GM.bit_two, dvi]
  have h : n / 2 ^ (2 * i + 1) % 2 ^ 1 = 0 ∨ n / 2 ^ (2 * i + 1) % 2 ^ 1 = 1 := GM.bit01 n (2 * i + 1)
  show _ = n / 2 ^ (2 * i + 1) % 2 ^ 1
  rcases h with z | z <;> rw [z] <;> decide
def spLFours : Sp := fun vs H Q _ => ∃ n : Int, vs = [.int n] ∧ 0 ≤ n ∧ n < 2 ^ 200 ∧
  ∀ (p : Addr) (H' : Hp), H p = none → Same H H' → H' p = some (.lst (((List.range (kf n)).map (GM.fo n)).map V.int)) → Q (.ref p) H'
theorem ok__law_fours (B : Bl mg) (L : LL K mg C a1 a2 a3 a4 a5 a6 a7 a8 a9 a10 a11 a12 a13 a14 a15 a16 a17 a18 a19 a20 a21 a22 a23 a24 a25 a26 a27 a28 a29 a30 a31 a32 a33 a34 a35 a36 a37 a38 a39 a40 a41 a42 a43 a44 a45 a46 a47 a48 a49 a50 a51 a52 a53 a54 a55 a56 a57 a58 a59 a60 a61 a62 a63 a64 a65 a66 a67 l1 l2 l3 l4 l5 l6 l7 l8 l9 l10 l11 l12 l13 l14 l15 l16 l17 l18 l19 l20 l21 l22 l23 l24 l25 l26 l27 l28 l29 l30 l31 l32 l33 l34 l35 l36 l37 l38 l39 l40 l41 l42 l43 l44 l45 l46 l47 l48 l49 l50 l51 l52 l53 l54 l55 l56 l57 l58 l59 l60 l61 l62 l63 l64 l65 l66 l67 t62 t63 t64 tg_NEAR tg_CUT tg_UP tg_DOWN w dO esO nO) : FnOk P w K mg base CX0 1 a51 l51 ["_law_number"] spLFours := by
  refine L.F__law_fours.ok sc__law_fours (fun vs H Q E h => ?_) (fun cdv A outer s H vs Q E hr h => ?_)
  · obtain ⟨n, rfl, _⟩ := h
    rfl
  obtain ⟨n, rfl, h0, h1, q⟩ := h
  have hk := kf_le h0 h1
  refine ⟨_, (pss_cons (ps_par (by rfl) sc__law_fours.nd (i := 1) (j := 2) rfl rfl (by decide) rfl rfl (pa_cons (pe_lst pa_nil) (pa_cons pe_int pa_nil)) (by rfl))
    (pss_cons (ps_for PassesOwn.never rfl (pi_range1 (by rfl) B.range (pa_cons (pe_op op_add (pe_op op_fdiv (pe_bits (pv 0)) pe_int) pe_int) pa_nil)) (pg_name (i := 3) sc__law_fours.nd rfl (.inl rfl)) (pss_cons (ps_set (i := 4) sc__law_fours.nd rfl (.inl rfl) (pe_op op_add (pe_op op_andM (pe_op op_shrN (pv 0) (pe_op op_mul pe_int (pv 3))) pe_int) (pv 2)))
    (pss_cons (ps_set (i := 2) sc__law_fours.nd rfl (.inl rfl) (pe_callTy call_int1 (by rfl) B.int PyProof.Rows.boot_int (pa_cons (pe_cmpR op_eq (pe_op op_andM (pe_op op_shrN (pv 0) (pe_op op_add (pe_op op_mul pe_int (pv 3)) pe_int)) pe_int) pe_int (nomark _)) pa_nil)))
    (pss_one (ps_expr (pe_bm PySem.F.plainAttrs_list PySem.F.slot_list_append PySem.F.type_list_append mt_append (pv 1) (pa_cons (pe_op op_sub (pv 4) (pe_op op_mul pe_int (pv 2))) pa_nil)))))))
    (pss_one (ps_ret (pv 1))))), ?_⟩
  refine ⟨Nat.zero_le _, fun o no => ?_⟩
  refine ⟨_, _, rfl, ?_⟩
  refine ⟨_, rfl, _, rfl, _, _, rfl, rfl, ⟨by decide, by decide⟩, _, _, rfl, rfl, ((kf n : Nat) : Int), congrArg (fun z => [V.int z]) (by unfold kf; omega), by omega, by omega, ?_⟩
  rw [Int.toNat_natCast]
  refine for_range (n := kf n) (fun i σ H4 => ∃ (y3 y4 : Option V), σ = [some (.int n), some (.ref o), some (.int (GM.bit (2 * n) (2 * i))), y3, y4] ∧ Same H H4 ∧ H4 o = some (.lst (((List.range i).map (GM.fo n)).map V.int))) ⟨none, none, ?_, same_upd no, upd_same⟩ ?_ ?_
  · have : GM.bit (2 * n) (2 * 0) = 0 := by
      show 2 * n / 2 ^ 0 % 2 = 0
      rw [Int.pow_zero]
      omega
    rw [this]
    rfl
  · rintro i σ H4 hi ⟨y3, y4, rfl, s4, eo⟩
    show gName _ (V.int (0 + (i : Int))) _ _ _
    rw [Int.zero_add]
    refine ⟨_, rfl, _, rfl, _, _, rfl, rfl, .inl ⟨by decide, by decide⟩, _, 2 * i, rfl, congrArg V.int (by omega), _, 2, rfl, rfl, _, rfl, _, _, rfl, rfl, ?_⟩
    refine ⟨_, rfl, _, rfl, _, _, rfl, rfl, .inl ⟨by decide, by decide⟩, _, _, rfl, rfl, _, 2 * i + 1, rfl, congrArg V.int (by omega), _, 1, rfl, rfl, rfl, .inr ⟨_, rfl, ?_⟩⟩
    rw [bit_is]
    refine ⟨_, rfl, .inl ⟨rfl, _, SqL.of eo⟩, _, rfl, _, rfl, _, _, rfl, rfl, .inl ⟨by decide, by decide⟩, _, _, rfl, rfl, o, _, _, rfl, rfl, eo, ?_, ?_⟩
    · rw [List.length_map, List.length_map, List.length_range]
      exact small1000 (by omega)
    · refine ⟨_, _, rfl, fun x u e => ?_, ?_⟩
      · rw [upd_ne (ne_of_none e no)]
        exact s4 _ _ e
      · rw [upd_same, List.range_succ, List.map_append, List.map_append]
        show some (HO.lst (_ ++ [V.int (n / 2 ^ (2 * i) % 2 ^ 2 + GM.bit (2 * n) (2 * i) - 4 * GM.bit (2 * n) (2 * (i + 1)))])) = some (HO.lst (_ ++ [V.int (GM.fo n i)]))
        rw [← fo4]
  · rintro σ H4 ⟨y3, y4, rfl, s4, eo⟩
    exact ⟨_, rfl, q o _ no s4 eo⟩
def spLLL (K : PySem.W.Frag) : Sp := fun vs H Q _ => ∃ (a : Addr) (r : List Int), vs = [.ref a] ∧ SqL K H a (r.map V.int) ∧ 1 ≤ r.length ∧ r.length ≤ 101 ∧
  ∀ t p H' n, Same H H' → GM.Ends r n → H' t = some (.tup [.int ((n : Int) + 1), .ref p]) → H' p = some (.lst [.int (px (GM.lvn r n)), .int (py (GM.lvn r n))]) → Q (.ref t) H'
theorem ok__law_last_level (B : Bl mg) (L : LL K mg C a1 a2 a3 a4 a5 a6 a7 a8 a9 a10 a11 a12 a13 a14 a15 a16 a17 a18 a19 a20 a21 a22 a23 a24 a25 a26 a27 a28 a29 a30 a31 a32 a33 a34 a35 a36 a37 a38 a39 a40 a41 a42 a43 a44 a45 a46 a47 a48 a49 a50 a51 a52 a53 a54 a55 a56 a57 a58 a59 a60 a61 a62 a63 a64 a65 a66 a67 l1 l2 l3 l4 l5 l6 l7 l8 l9 l10 l11 l12 l13 l14 l15 l16 l17 l18 l19 l20 l21 l22 l23 l24 l25 l26 l27 l28 l29 l30 l31 l32 l33 l34 l35 l36 l37 l38 l39 l40 l41 l42 l43 l44 l45 l46 l47 l48 l49 l50 l51 l52 l53 l54 l55 l56 l57 l58 l59 l60 l61 l62 l63 l64 l65 l66 l67 t62 t63 t64 tg_NEAR tg_CUT tg_UP tg_DOWN w dO esO nO) : FnOk P w K mg base CX0 1 a52 l52 ["_law_rows"] (spLLL K) := by
  refine L.F__law_last_level.ok sc__law_last_level (fun vs H Q E h => ?_) (fun cdv A outer s H vs Q E hr h => ?_)
  · obtain ⟨a, r, rfl, _⟩ := h
    rfl
  obtain ⟨a, r, rfl, ha, hl1, hl, q⟩ := h
  refine ⟨_, (pss_cons (ps_par (by rfl) sc__law_last_level.nd (i := 1) (j := 2) rfl rfl (by decide) rfl rfl (pa_cons pe_int (pa_cons (pe_callTy call_list_of (by rfl) B.list PyProof.Rows.boot_list (pa_cons (pv 0) pa_nil)) pa_nil)) (by rfl))
    (pss_cons (ps_while PassesOwn.never (pt_cmpR op_gt (pe_callB call_len_seq (by rfl) B.len PySem.boot_len (pa_cons (pv 2) pa_nil)) pe_int (nomark _)) (pss_cons (ps_set (i := 3) sc__law_last_level.nd rfl (.inl rfl) (pe_lst pa_nil))
    (pss_cons (ps_for PassesOwn.never rfl (pi_range1 (by rfl) B.range (pa_cons (pe_op op_fdiv (pe_callB call_len_seq (by rfl) B.len PySem.boot_len (pa_cons (pv 2) pa_nil)) pe_int) pa_nil)) (pg_name (i := 4) sc__law_last_level.nd rfl (.inl rfl)) (pss_cons (ps_asg (pe_slice sl_list (pv 2) (po_some (pe_op op_mul pe_int (pv 4))) (po_some (pe_op op_add (pe_op op_mul pe_int (pv 4)) pe_int))) (pg_unl rfl (pgs_cons (pg_name (i := 5) sc__law_last_level.nd rfl (.inl rfl)) (pgs_cons (pg_name (i := 6) sc__law_last_level.nd rfl (.inl rfl)) (pgs_cons (pg_name (i := 7) sc__law_last_level.nd rfl (.inl rfl)) pgs_nil)))))
    (pss_one (ps_expr (pe_bm PySem.F.plainAttrs_list PySem.F.slot_list_extend PySem.F.type_list_extend mt_extend (pv 3) (pa_cons (pe_lst (pa_cons (pe_op op_xor (pe_op op_xor (pv 5) (pv 6)) (pv 7)) (pa_cons (pe_op op_sub (pe_op op_add (pe_op op_add (pv 5) (pv 6)) (pv 7)) (pe_op op_xor (pe_op op_xor (pv 5) (pv 6)) (pv 7))) pa_nil))) pa_nil))))))
    (pss_one (ps_par (by rfl) sc__law_last_level.nd (i := 1) (j := 2) rfl rfl (by decide) rfl rfl (pa_cons (pe_op op_add (pv 1) pe_int) (pa_cons (pe_op op_cat (pv 3) (pe_slice sl_list (pv 2) (po_some (pe_op op_sub (pe_callB call_len_seq (by rfl) B.len PySem.boot_len (pa_cons (pv 2) pa_nil)) (pe_op op_mod (pe_callB call_len_seq (by rfl) B.len PySem.boot_len (pa_cons (pv 2) pa_nil)) pe_int))) po_none)) pa_nil)) (by rfl))))))
    (pss_one (ps_ret (pe_tup (pa_cons (pv 1) (pa_cons (pe_slice sl_list (pe_op op_cat (pv 2) (pe_lst (pa_cons pe_int pa_nil))) po_none (po_some pe_int)) pa_nil))))))), ?_⟩
  refine ⟨_, rfl, a, _, rfl, .inl ha, fun l0 nl0 => ?_⟩
  have s0 := same_upd (o := .lst (r.map V.int)) nl0
  refine ⟨_, _, rfl, ?_⟩
  refine ⟨fun m σ H5 => ∃ (n : Nat) (x : Addr) (y3 y4 y5 y6 y7 : Option V), σ = [some (.ref a), some (.int ((n : Int) + 1)), some (.ref x), y3, y4, y5, y6, y7] ∧ Same H H5 ∧ H5 x = some (.lst ((GM.lvn r n).map V.int)) ∧ (∀ i, i < n → 2 < (GM.lvn r i).length) ∧ m + n = 300, ⟨300, 0, l0, none, none, none, none, none, rfl, s0, upd_same, fun i hi => absurd hi (Nat.not_lt_zero i), rfl⟩, ?_⟩
  rintro m σ H5 ⟨n, x, y3, y4, y5, y6, y7, rfl, s5, ex, hE, hm⟩
  have hln := GM.lvn_len r n hE
  refine ⟨_, rfl, x, _, rfl, .inl (SqL.of ex), _, _, rfl, rfl, _, rfl, ite2 (fun c => ?_) (fun c => ?_)⟩
  · have c1 : (2 : Int) < (((GM.lvn r n).map V.int).length : Nat) := of_decide_eq_true c
    rw [List.length_map] at c1
    refine ⟨fun σ' H' => ∃ (x : Addr) (y3 y4 y5 y6 y7 : Option V), σ' = [some (.ref a), some (.int ((n : Int) + 1 + 1)), some (.ref x), y3, y4, y5, y6, y7] ∧ Same H H' ∧ H' x = some (.lst ((GM.lvn r (n + 1)).map V.int)), fun σ' H' ⟨x', z3, z4, z5, z6, z7, e1, e2, e3⟩ => ⟨m - 1, by omega, n + 1, x', z3, z4, z5, z6, z7, e1, e2, e3, fun i hi => by
      by_cases d : i < n
      · exact hE i d
      · rw [show i = n by omega]
        omega, by omega⟩, ?_⟩
    have hnn : (GM.lvn r n).length ≤ 101 := by omega
    have hR1 : GM.lvn r (n + 1) = GM.lv (GM.lvn r n) := rfl
    rw [hR1]
    generalize hR : GM.lvn r n = R at ex c1 hnn
    refine ⟨Nat.zero_le _, fun o no => ?_⟩
    have so := same_upd (o := .lst []) no
    have ex1 := so _ _ ex
    refine ⟨_, rfl, x, _, rfl, .inl (SqL.of ex1), _, _, rfl, rfl, ⟨by decide, by decide⟩, ((R.length / 3 : Nat) : Int), congrArg (fun z => [V.int z]) (show (((R.map V.int).length : Nat) : Int) / 3 = ((R.length / 3 : Nat) : Int) by rw [List.length_map]; omega), by omega, by omega, ?_⟩
    rw [Int.toNat_natCast]
    refine for_range (n := R.length / 3) (fun i σ H6 => ∃ (y4 y5 y6 y7 : Option V), σ = [some (.ref a), some (.int ((n : Int) + 1)), some (.ref x), some (.ref o), y4, y5, y6, y7] ∧ Same H5 H6 ∧ H6 o = some (.lst ((GM.acc R i).map V.int))) ⟨_, _, _, _, rfl, so, upd_same⟩ ?_ ?_
    · rintro i σ H6 hi ⟨y4, y5, y6, y7, rfl, s6, eo⟩
      show gName _ (V.int (0 + (i : Int))) _ _ _
      rw [Int.zero_add]
      have ex6 := s6 _ _ ex
      refine ⟨_, rfl, _, rfl, _, _, rfl, rfl, .inl ⟨by decide, by decide⟩, _, rfl, _, rfl, _, _, rfl, rfl, .inl ⟨by decide, by decide⟩, _, _, rfl, rfl, _, rfl, x, _, rfl, SqL.of ex6, fun c nc => ?_⟩
      rw [cut_3 (by omega)]
      have s7 := same_upd (o := .lst [.int (GM.at3 R (3 * i)), .int (GM.at3 R (3 * i + 1)), .int (GM.at3 R (3 * i + 2))]) nc
      refine ⟨c, _, rfl, SqL.of upd_same, rfl, _, _, rfl, _, _, rfl, _, _, rfl, rfl, ?_⟩
      refine ⟨_, rfl, .inl ⟨rfl, _, SqL.of (s7 _ _ eo)⟩, _, rfl, _, rfl, _, _, rfl, rfl, _, rfl, _, _, rfl, rfl, _, rfl, _, rfl, _, _, rfl, rfl, _, rfl, _, _, rfl, rfl, _, rfl, _, rfl, _, _, rfl, rfl, _, rfl, _, _, rfl, rfl, _, _, rfl, rfl, (by show 2 ≤ sizeLine; decide), fun d nd => ?_⟩
      have s8 := same_upd (o := .lst ((GM.trip R i).map V.int)) nd
      refine ⟨o, d, _, _, rfl, rfl, s8 _ _ (s7 _ _ eo), upd_same, ?_, _, _, _, _, rfl, fun z u e => ?_, ?_⟩
      · rw [List.length_map, GM.acc_len]
        exact Nat.le_of_lt (small1000 (by show 2 * i + 2 ≤ 1000; omega))
      · rw [upd_ne (ne_of_none e no)]
        exact s8 _ _ (s7 _ _ (s6 _ _ e))
      · rw [upd_same]
        show some (HO.lst ((GM.acc R i).map V.int ++ (GM.trip R i).map V.int)) = some (HO.lst ((GM.acc R i ++ GM.trip R i).map V.int))
        rw [List.map_append]
    · rintro σ H6 ⟨y4, y5, y6, y7, rfl, s6, eo⟩
      have ex6 := s6 _ _ ex
      refine ⟨_, rfl, _, _, rfl, rfl, _, rfl, _, rfl, _, rfl, x, _, rfl, .inl (SqL.of ex6), _, rfl, x, _, rfl, .inl (SqL.of ex6), _, _, rfl, rfl, (by show (0 : Int) < 3; decide), _, _, rfl, rfl, _, congrArg V.int (show (((R.map V.int).length : Nat) : Int) - (((R.map V.int).length : Nat) : Int) % 3 = ((3 * (R.length / 3) : Nat) : Int) by rw [List.length_map]; omega), x, _, rfl, SqL.of ex6, fun c nc => ?_⟩
      rw [cut_hi]
      have sc := same_upd (o := .lst ((R.drop (3 * (R.length / 3))).map V.int)) nc
      refine ⟨o, c, _, _, rfl, rfl, sc _ _ eo, upd_same, ?_, fun p np => ?_⟩
      · rw [List.length_map, List.length_map, GM.acc_len, List.length_drop]
        exact Nat.le_of_lt (small1000 (by omega))
      rw [← lv_eq]
      have sp := same_upd (o := .lst ((GM.lv R).map V.int)) np
      have s9 := s6.trans (sc.trans sp)
      exact ⟨_, _, rfl, p, _, _, _, _, _, rfl, s5.trans s9, upd_same⟩
  · have c1 : ¬ (2 : Int) < (((GM.lvn r n).map V.int).length : Nat) := of_decide_eq_false (Bool.eq_false_iff.mpr c)
    rw [List.length_map] at c1
    have hlen : (GM.lvn r n).length ≤ 2 := by omega
    have h2f := two_of (lvn_pos hl1 n) hlen
    refine ⟨_, rfl, _, rfl, (by show 1 ≤ sizeLine; decide), fun z nz => ?_⟩
    have sz := same_upd (o := .lst [.int 0]) nz
    refine ⟨x, z, _, _, rfl, rfl, sz _ _ ex, upd_same, ?_, fun c nc => ?_⟩
    · rw [List.length_map]
      exact Nat.le_of_lt (small1000 (by show _ + 1 ≤ 1000; omega))
    have sc := same_upd (o := .lst ((GM.lvn r n).map V.int ++ [.int 0])) nc
    refine ⟨_, rfl, c, _, rfl, SqL.of upd_same, fun v nv => ?_⟩
    rw [h2f.1]
    have sv := same_upd (o := .lst [.int (px (GM.lvn r n)), .int (py (GM.lvn r n))]) nv
    refine ⟨(by show 2 ≤ sizeLine; decide), fun t nt => ?_⟩
    exact q t v _ n ((((s5.trans sz).trans sc).trans sv).trans (same_upd nt)) ⟨hE, hlen⟩ upd_same (same_upd nt _ _ upd_same)

theorem rol_rev (o n : Int) : ∀ k, ((List.range k).map fun j => GM.fo n j * o * 2 ^ (2 * j)).reverse = GM.rol o n k
  | 0 => rfl
  | k + 1 => by
    rw [List.range_succ, List.map_append, List.reverse_append, rol_rev o n k]
    rfl
def spTD : Sp := fun vs H Q _ => ∃ (sc tl : Nat) (a b : Int) (how : Str), vs = [.int (sc : Int), .int (tl : Int), .int a, .int b, .str how] ∧ 2 ≤ sc ∧ sc ≤ 8 ∧ 1 ≤ tl ∧ tl ≤ 24 ∧ 0 ≤ a ∧ a < 2 ^ (1 + sc + tl) ∧ 0 ≤ b ∧ b < 2 ^ (1 + sc + tl) ∧ ¬ GM.topS sc tl ≤ sz sc tl a ∧ ¬ GM.topS sc tl ≤ sz sc tl b ∧ how ∈ WL ∧
  ∀ l f n H', Same H H' → TimesAt H' l f sc tl a b how n → Q (.ref l) H'
theorem ok__law_times_due (B : Bl mg) (L : LL K mg C a1 a2 a3 a4 a5 a6 a7 a8 a9 a10 a11 a12 a13 a14 a15 a16 a17 a18 a19 a20 a21 a22 a23 a24 a25 a26 a27 a28 a29 a30 a31 a32 a33 a34 a35 a36 a37 a38 a39 a40 a41 a42 a43 a44 a45 a46 a47 a48 a49 a50 a51 a52 a53 a54 a55 a56 a57 a58 a59 a60 a61 a62 a63 a64 a65 a66 a67 l1 l2 l3 l4 l5 l6 l7 l8 l9 l10 l11 l12 l13 l14 l15 l16 l17 l18 l19 l20 l21 l22 l23 l24 l25 l26 l27 l28 l29 l30 l31 l32 l33 l34 l35 l36 l37 l38 l39 l40 l41 l42 l43 l44 l45 l46 l47 l48 l49 l50 l51 l52 l53 l54 l55 l56 l57 l58 l59 l60 l61 l62 l63 l64 l65 l66 l67 t62 t63 t64 tg_NEAR tg_CUT tg_UP tg_DOWN w dO esO nO) : FnOk P w K mg base CX0 3 a53 l53 ["_law_scale", "_law_tail", "_law_a", "_law_b", "_law_how"] spTD := by
  have G__law_head : FnOk P w K mg base CX0 2 a50 l50 ["_law_scale", "_law_tail", "_law_word_here"] spHd := (ok__law_head B L).mono (by decide)
  have G__law_fours : FnOk P w K mg base CX0 2 a51 l51 ["_law_number"] spLFours := (ok__law_fours B L).mono (by decide)
  have G__law_last_level : FnOk P w K mg base CX0 2 a52 l52 ["_law_rows"] (spLLL K) := (ok__law_last_level B L).mono (by decide)
  have G__law_rounded : FnOk P w K mg base CX0 2 a49 l49 ["_law_scale", "_law_tail", "_law_sign", "_law_worth", "_law_how"] (spLRnd K) := (ok__law_rounded B L).mono (by decide)
  refine L.F__law_times_due.ok sc__law_times_due (fun vs H Q E h => ?_) (fun cdv A outer s H vs Q E hr h => ?_)
  · obtain ⟨sc, tl, a, b, how, rfl, _⟩ := h
    rfl
  obtain ⟨sc, tl, a, b, how, rfl, h1, h2, h3, h4, a0, a1, b0, b1, na, nb, hh, q⟩ := h
  refine ⟨_, (pss_cons (ps_asg (pe_tup (pa_cons (pe_call G__law_head hr (by rfl) L.m__law_head L.F__law_head.kp L.b__law_head .nil pass0 (pa_cons (pv 0) (pa_cons (pv 1) (pa_cons (pv 2) pa_nil)))) (pa_cons (pe_call G__law_head hr (by rfl) L.m__law_head L.F__law_head.kp L.b__law_head .nil pass0 (pa_cons (pv 0) (pa_cons (pv 1) (pa_cons (pv 3) pa_nil)))) pa_nil))) (pg_tup (by rfl) (pgs_cons (pg_tup (by rfl) (pgs_cons (pg_name (i := 5) sc__law_times_due.nd rfl (.inl rfl)) (pgs_cons (pg_name (i := 6) sc__law_times_due.nd rfl (.inr rfl)) (pgs_cons (pg_name (i := 7) sc__law_times_due.nd rfl (.inl rfl)) pgs_nil)))) (pgs_cons (pg_tup (by rfl) (pgs_cons (pg_name (i := 8) sc__law_times_due.nd rfl (.inl rfl)) (pgs_cons (pg_name (i := 9) sc__law_times_due.nd rfl (.inl rfl)) (pgs_cons (pg_name (i := 10) sc__law_times_due.nd rfl (.inl rfl)) pgs_nil)))) pgs_nil))))
    (pss_cons (ps_set (i := 11) sc__law_times_due.nd rfl (.inl rfl) (pe_call G__law_fours hr (by rfl) L.m__law_fours L.F__law_fours.kp L.b__law_fours .nil pass0 (pa_cons (pv 9) pa_nil)))
    (pss_cons (ps_set (i := 12) sc__law_times_due.nd rfl (.inl rfl) (pe_revL (pe_lc (own := [("_law_at", 17), ("_law_digit", 18)]) (g := gTup K 2 (gCons (gName 17) (gCons (gName 18) gNil))) (by rfl) sc__law_times_due.nd (pi_enum (by rfl) B.enumerate (pa_cons (pv 11) pa_nil)) (blkOk_by (own := [("_law_at", 17), ("_law_digit", 18)]) (N := ["_law_scale", "_law_tail", "_law_a", "_law_b", "_law_how", "_law_sign", "_law_one", "_law_power", "_law_beside", "_law_other", "_law_below", "_law_digits", "_law_rows", "_law_many", "_law_last", "_law_told", "_law_steps", "_law_at", "_law_digit"]) (sc := defScope s__law_times_due) (by decide +kernel)) (fun _ _ _ _ _ => pg_tup rfl (pgs_cons (pg_name (i := 17) sc__law_times_due.nd rfl (Or.inl rfl) (.inr rfl)) (pgs_cons (pg_name (i := 18) sc__law_times_due.nd rfl (Or.inl rfl) (.inr rfl)) pgs_nil))) (fun _ _ _ _ _ => pts_nil) (fun _ _ _ _ _ => (pe_op op_shlN (pe_op op_mul (pv 18) (pv 6)) (pe_op op_mul pe_int (pv 17)))))))
    (pss_cons (ps_asg (pe_call G__law_last_level hr (by rfl) L.m__law_last_level L.F__law_last_level.kp L.b__law_last_level .nil pass0 (pa_cons (pv 12) pa_nil)) (pg_tup (by rfl) (pgs_cons (pg_name (i := 13) sc__law_times_due.nd rfl (.inl rfl)) (pgs_cons (pg_name (i := 14) sc__law_times_due.nd rfl (.inl rfl)) pgs_nil))))
    (pss_cons (ps_set (i := 15) sc__law_times_due.nd rfl (.inl rfl) (pe_call G__law_rounded hr (by rfl) L.m__law_rounded L.F__law_rounded.kp L.b__law_rounded .nil pass0 (pa_cons (pv 0) (pa_cons (pv 1) (pa_cons (pe_op op_xor (pv 5) (pv 8)) (pa_cons (pe_tup (pa_cons (pe_op op_mul (pv 6) (pv 9)) (pa_cons (pe_op op_add (pv 7) (pv 10)) (pa_cons pe_bl pa_nil)))) (pa_cons (pv 4) pa_nil)))))))
    (pss_cons (ps_set (i := 16) sc__law_times_due.nd rfl (.inl rfl) (pe_lst (pa_cons (pe_tup (pa_cons pe_str (pa_cons (pe_revL (pv 11)) pa_nil))) (pa_cons (pe_tup (pa_cons pe_str (pa_cons (pv 13) pa_nil))) (pa_cons (pe_tup (pa_cons pe_str (pa_cons (pe_ix ix_list (pv 14) pe_int (fun _ _ => rfl)) (pa_cons (pe_ix ix_list (pv 14) pe_int (fun _ _ => rfl)) pa_nil)))) (pa_cons (pe_tup (pa_cons pe_str (pa_cons (pe_op op_mul (pv 6) (pv 9)) pa_nil))) pa_nil))))))
    (pss_one (ps_ret (pe_op op_cat (pv 16) (pe_lst (pa_cons (pe_op op_catT (pe_tup (pa_cons pe_str pa_nil)) (pv 15)) pa_nil))))))))))), ?_⟩
  have ka := hd_in sc a h4
  have kb := hd_in sc b h4
  have kab := hd_mul sc a b h4
  have p200 : (2 : Int) ^ 25 ≤ 2 ^ 200 := GM.pow_le' (by decide)
  have kk := kf_le kb.1 (by omega)
  refine ⟨_, rfl, _, rfl, _, rfl, a, sc, tl, rfl, a0, a1, h1, h2, h3, h4, fun H1 p1 s1 e1 => ?_⟩
  refine ⟨_, rfl, _, rfl, _, rfl, b, sc, tl, rfl, b0, b1, h1, h2, h3, h4, fun H2 p2 s2 e2 => ?_⟩
  refine ⟨(by show 2 ≤ sizeLine; decide), fun u nu => ?_⟩
  have su := same_upd (o := .tup [.ref p1, .ref p2]) nu
  refine ⟨u, _, rfl, .inl (.inl upd_same), rfl, _, _, rfl, p1, _, rfl, .inl (.inl (su _ _ (s2 _ _ e1))), rfl, _, _, rfl, _, _, rfl, _, _, rfl, rfl, _, _, rfl, p2, _, rfl, .inl (.inl (su _ _ e2)), rfl, _, _, rfl, _, _, rfl, _, _, rfl, rfl, rfl, ?_⟩
  have w2 := (s1.trans s2).trans su
  simp only [L2.start, List.map_cons, List.map_nil, List.length_cons, List.length_nil, List.replicate_succ, List.replicate_zero, List.cons_append, List.nil_append, List.set_cons_succ, List.set_cons_zero, Nat.reduceAdd, Nat.reduceSub, Nat.zero_add]
  refine ⟨_, rfl, hd sc tl b, rfl, kb.1, by omega, fun g H3 ng s3 eg => ?_⟩
  have w3 := w2.trans s3
  refine ⟨_, rfl, g, _, rfl, SqL.of eg, fun D nD => ?_⟩
  refine lc_it (walk_enum (K := K) (a := g) (xs := ((List.range (kf (hd sc tl b))).map (GM.fo (hd sc tl b))).map V.int)) (fun i H4 => Same H3 H4 ∧ H4 D = some (.lst (((List.range i).map fun j => GM.fo (hd sc tl b) j * hd sc tl a * 2 ^ (2 * j)).map V.int))) ⟨same_upd nD, upd_same⟩ (fun i H4 _ ⟨s4, _⟩ => SqL.of (s4 _ _ eg)) ?_ ?_
  · rintro i x H4 H5 hi ⟨s4, eD⟩ ⟨T, x1, x2, rfl, nT, rfl, e1, e2⟩
    cases e1
    obtain ⟨z2, f2, rfl⟩ := int_at e2
    rw [List.length_map, List.length_map, List.length_range] at hi
    rw [List.getElem?_map, List.getElem?_range hi] at f2
    cases f2
    have hfo := GM.fo_in (hd sc tl b) i
    have sT : Same H4 (upd H4 T (.tup [.int (i : Nat), .int (GM.fo (hd sc tl b) i)])) := same_upd nT
    refine ⟨T, _, rfl, .inl (.inl upd_same), rfl, _, _, rfl, _, _, rfl, rfl, rfl, ?_⟩
    refine yesT ?_
    refine ⟨_, rfl, _, rfl, _, _, rfl, rfl, .inl ⟨by omega, by omega⟩, _, rfl, _, _, rfl, rfl, .inl ⟨by decide, by decide⟩, _, 2 * i, rfl, congrArg V.int (by omega), shl_ok (n := 202) ?_ (by omega), _, sT _ _ eD, ?_, fun b u e => ?_, ?_⟩
    · have c200 : ((2 ^ 200 : Nat) : Int) = (2 : Int) ^ 200 := PySem.W.kbt_cast _
      exact wide_lt (a := 2) (b := 200) (by omega) (by show (hd sc tl a).natAbs < 2 ^ 200; omega)
    · rw [List.length_map, List.length_map, List.length_range]
      exact small1000 (by omega)
    · rw [upd_ne (ne_of_none e nD)]
      exact sT _ _ (s4 _ _ e)
    · rw [upd_same, List.range_succ, List.map_append, List.map_append]
      rfl
  rintro H4 ⟨s4, eD⟩
  rw [List.length_map, List.length_map, List.length_range] at eD
  refine ⟨D, _, rfl, SqL.of eD, fun ro nro => ?_⟩
  rw [← List.map_reverse, rol_rev]
  have sro := same_upd (o := .lst ((GM.rol (hd sc tl a) (hd sc tl b) (kf (hd sc tl b))).map V.int)) nro
  have w4 := (w3.trans s4).trans sro
  refine ⟨_, rfl, ro, _, rfl, SqL.of upd_same, by rw [GM.rol_len]; unfold kf; omega, by rw [GM.rol_len]; exact kk, fun t p H5 n s5 hE et ep => ?_⟩
  refine ⟨t, _, rfl, .inl (.inl et), rfl, _, _, rfl, _, _, rfl, rfl, ?_⟩
  have w5 := w4.trans s5
  have eg5 := s5 _ _ (sro _ _ (s4 _ _ eg))
  simp only [L2.start, List.map_cons, List.map_nil, List.length_cons, List.length_nil, List.replicate_succ, List.replicate_zero, List.cons_append, List.nil_append, List.set_cons_succ, List.set_cons_zero, Nat.reduceAdd, Nat.reduceSub, Nat.zero_add]
  refine ⟨_, rfl, _, rfl, _, rfl, _, rfl, _, _, rfl, rfl, ?_⟩
  dsimp only
  rw [sx_xor]
  have ia := wp_in h1 h2 h4 na
  have ib := wp_in h1 h2 h4 nb
  refine ⟨_, rfl, _, rfl, _, _, rfl, rfl, .inl ⟨by show -(2 ^ 64) < hd sc tl a; omega, by show hd sc tl a < 2 ^ 64; omega⟩, _, rfl, _, rfl, _, _, rfl, rfl, (by show 3 ≤ sizeLine; decide), fun U nU => ?_⟩
  have sU := same_upd (o := .tup [.int (hd sc tl a * hd sc tl b), .int (wp sc tl a + wp sc tl b), .bl false]) nU
  refine ⟨_, rfl, sc, tl, _, hd sc tl a * hd sc tl b, wp sc tl a + wp sc tl b, U, false, how, rfl, h1, h2, h3, h4, sx_01 sc tl a b, .inl (.inl upd_same), fit_lt kab.1 kab.2 (by decide), by omega, by omega, hh, (fun z => nomatch z), fun td H6 ntd s6 P6 => ?_⟩
  have w6 := (w5.trans sU).trans s6
  have s56 := sU.trans s6
  simp only [L2.start, List.map_cons, List.map_nil, List.length_cons, List.length_nil, List.replicate_succ, List.replicate_zero, List.cons_append, List.nil_append, List.set_cons_succ, List.set_cons_zero, Nat.reduceAdd, Nat.reduceSub, Nat.zero_add]
  refine ⟨_, rfl, g, _, rfl, SqL.of (s56 _ _ eg5), fun f nf => ?_⟩
  rw [← List.map_reverse, GM.fol_rev]
  have sf := same_upd (o := .lst ((GM.fol (hd sc tl b) (kf (hd sc tl b))).map V.int)) nf
  refine ⟨(by show 2 ≤ sizeLine; decide), fun t0 nt0 => ?_⟩
  have st0 := same_upd (o := .tup [.str "fours", .ref f]) nt0
  refine ⟨_, rfl, (by show 2 ≤ sizeLine; decide), fun t1 nt1 => ?_⟩
  have st1 := same_upd (o := .tup [.str "levels", .int ((n : Int) + 1)]) nt1
  have s61 := (sf.trans st0).trans st1
  have ep1 := s61 _ _ (s56 _ _ ep)
  refine ⟨_, rfl, p, _, _, _, rfl, rfl, SqL.of ep1, rfl, _, rfl, p, _, _, _, rfl, rfl, SqL.of ep1, rfl, (by show 3 ≤ sizeLine; decide), fun t2 nt2 => ?_⟩
  have st2 := same_upd (o := .tup [.str "pair", .int (px (GM.lvn (GM.rol (hd sc tl a) (hd sc tl b) (kf (hd sc tl b))) n)), .int (py (GM.lvn (GM.rol (hd sc tl a) (hd sc tl b) (kf (hd sc tl b))) n))]) nt2
  refine ⟨_, rfl, _, rfl, _, _, rfl, rfl, .inl ⟨by show -(2 ^ 64) < hd sc tl a; omega, by show hd sc tl a < 2 ^ 64; omega⟩, (by show 2 ≤ sizeLine; decide), fun t3 nt3 => ?_⟩
  have st3 := same_upd (o := .tup [.str "product", .int (hd sc tl a * hd sc tl b)]) nt3
  refine ⟨(by show 4 ≤ sizeLine; decide), fun ls nls => ?_⟩
  have sls := same_upd (o := .lst [.ref t0, .ref t1, .ref t2, .ref t3]) nls
  simp only [L2.start, List.map_cons, List.map_nil, List.length_cons, List.length_nil, List.replicate_succ, List.replicate_zero, List.cons_append, List.nil_append, List.set_cons_succ, List.set_cons_zero, Nat.reduceAdd, Nat.reduceSub, Nat.zero_add]
  refine ⟨_, rfl, (by show 1 ≤ sizeLine; decide), fun A1 nA => ?_⟩
  have sA := same_upd (o := .tup [.str "round"]) nA
  obtain ⟨fl, et4, ef4⟩ := P6
  have s7 := ((s61.trans st2).trans st3).trans (sls.trans sA)
  refine ⟨_, rfl, A1, td, _, _, rfl, rfl, .inl (.inl upd_same), .inl (.inl (s7 _ _ et4)), (fun z => by cases z), (by show 1 + 2 ≤ sizeLine; decide), (fun z => by cases z), fun _ t4 nt4 => ?_⟩
  have st4 := same_upd (o := .tup [.str "round", .int (GR.rnd sc tl (sx sc tl a b) (hd sc tl a * hd sc tl b) (wp sc tl a + wp sc tl b) how false).1, .ref fl]) nt4
  refine ⟨(by show 1 ≤ sizeLine; decide), fun lb nlb => ?_⟩
  have slb := same_upd (o := .lst [.ref t4]) nlb
  refine ⟨ls, lb, _, _, rfl, rfl, slb _ _ (st4 _ _ (sA _ _ upd_same)), upd_same, (by show 4 + 1 ≤ sizeLine; decide), fun l nl => ?_⟩
  have sl := same_upd (o := .lst [.ref t0, .ref t1, .ref t2, .ref t3, .ref t4]) nl
  have z4 := slb.trans sl
  have z3 := (sls.trans (sA.trans st4)).trans z4
  have z2 := st3.trans z3
  have z1 := st2.trans z2
  have z0 := st1.trans z1
  have zf := st0.trans z0
  have z6 := sf.trans zf
  exact q l f n _ (w6.trans z6) ⟨hE, t0, t1, t2, t3, t4, upd_same, z0 _ _ upd_same, zf _ _ upd_same, z1 _ _ upd_same, z2 _ _ upd_same, z3 _ _ upd_same, fl, z4 _ _ upd_same, z6 _ _ ef4⟩
theorem hdv_is {sc tl : Nat} {v : Int} (ht : ¬ GM.topS sc tl ≤ sz sc tl v) : hdv sc tl v = false ↔ srt sc tl (sz sc tl v) = "nought" := by
  unfold hdv srt
  rw [if_neg ht]
  by_cases c : sz sc tl v = 0
  · rw [if_pos c]
    exact ⟨fun _ => rfl, fun _ => by decide +kernel⟩
  · rw [if_neg c]
    by_cases d : sz sc tl v / 2 ^ tl = 0
    · rw [if_pos d]
      exact ⟨fun z => absurd z (by decide +kernel), fun z => absurd z (by decide +kernel)⟩
    · rw [if_neg d]
      exact ⟨fun z => absurd z (by decide +kernel), fun z => absurd z (by decide +kernel)⟩
def toldT (sc tl : Nat) (a b : Int) : Int × List Str :=
  if srt sc tl (sz sc tl a) = "none" ∨ srt sc tl (sz sc tl b) = "none" then (noneW sc tl, [])
  else if srt sc tl (sz sc tl a) = "endless" ∨ srt sc tl (sz sc tl b) = "endless" then (if srt sc tl (sz sc tl a) = "nought" ∨ srt sc tl (sz sc tl b) = "nought" then (noneW sc tl, ["bad"]) else (sx sc tl a b * 2 ^ (sc + tl) + (2 ^ sc - 1) * 2 ^ tl, []))
  else (sx sc tl a b * 2 ^ (sc + tl), [])
theorem told_mul {sc tl : Nat} {a b : Int} {way : Str} (h : [a, b].all (hdv sc tl) = false) : toldT sc tl a b = mulR sc tl a b way := by
  unfold toldT mulR
  by_cases c1 : srt sc tl (sz sc tl a) = "none" ∨ srt sc tl (sz sc tl b) = "none"
  · rw [if_pos c1, if_pos c1]
  rw [if_neg c1, if_neg c1]
  have tp := srt_top sc tl
  by_cases c2 : srt sc tl (sz sc tl a) = "endless" ∨ srt sc tl (sz sc tl b) = "endless"
  · rw [if_pos c2]
    have ct : GM.topS sc tl ≤ sz sc tl a ∨ GM.topS sc tl ≤ sz sc tl b := c2.imp (fun z => (tp _).mp (.inl z)) (fun z => (tp _).mp (.inl z))
    by_cases c3 : srt sc tl (sz sc tl a) = "nought" ∨ srt sc tl (sz sc tl b) = "nought"
    · rw [if_pos c3, if_pos ⟨c2, c3⟩]
    · rw [if_neg c3, if_neg (fun z => c3 z.2), if_pos ct, Int.add_zero]
  · rw [if_neg c2, if_neg (fun z => c2 z.1)]
    have na : ¬ GM.topS sc tl ≤ sz sc tl a := fun z => ((tp _).mpr z).elim (fun e => c2 (.inl e)) (fun e => c1 (.inl e))
    have nb : ¬ GM.topS sc tl ≤ sz sc tl b := fun z => ((tp _).mpr z).elim (fun e => c2 (.inr e)) (fun e => c1 (.inr e))
    rw [if_neg (fun z => z.elim na nb)]
    have hz : wn sc tl a * wn sc tl b = 0 := by
      have : hdv sc tl a = false ∨ hdv sc tl b = false := by
        rw [show [a, b].all (hdv sc tl) = (hdv sc tl a && (hdv sc tl b && true)) from rfl, Bool.and_true] at h
        cases e : hdv sc tl a with
        | false => exact .inl rfl
        | true =>
          right
          simpa [*] using h
      rcases this with z | z
      · rw [(wn_zero sc tl a).1.mpr ((srt_nought _ _ _).mp ((hdv_is na).mp z)).2, Int.zero_mul]
      · rw [(wn_zero sc tl b).1.mpr ((srt_nought _ _ _).mp ((hdv_is nb).mp z)).2, Int.mul_zero]
    rw [hz]
    unfold GR.rnd
    rw [if_pos (by rfl), (wrd_U sc tl _).2.2]
def spTT : Sp := fun vs H Q _ => ∃ (sc tl : Nat) (a b : Int), vs = [.int (sc : Int), .int (tl : Int), .int a, .int b] ∧ 2 ≤ sc ∧ sc ≤ 8 ∧ 1 ≤ tl ∧ tl ≤ 24 ∧ 0 ≤ a ∧ a < 2 ^ (1 + sc + tl) ∧ 0 ≤ b ∧ b < 2 ^ (1 + sc + tl) ∧
  ∀ t H', Same H H' → PairAt H' t (toldT sc tl a b) → Q (.ref t) H'
theorem ok__law_told_times (B : Bl mg) (L : LL K mg C a1 a2 a3 a4 a5 a6 a7 a8 a9 a10 a11 a12 a13 a14 a15 a16 a17 a18 a19 a20 a21 a22 a23 a24 a25 a26 a27 a28 a29 a30 a31 a32 a33 a34 a35 a36 a37 a38 a39 a40 a41 a42 a43 a44 a45 a46 a47 a48 a49 a50 a51 a52 a53 a54 a55 a56 a57 a58 a59 a60 a61 a62 a63 a64 a65 a66 a67 l1 l2 l3 l4 l5 l6 l7 l8 l9 l10 l11 l12 l13 l14 l15 l16 l17 l18 l19 l20 l21 l22 l23 l24 l25 l26 l27 l28 l29 l30 l31 l32 l33 l34 l35 l36 l37 l38 l39 l40 l41 l42 l43 l44 l45 l46 l47 l48 l49 l50 l51 l52 l53 l54 l55 l56 l57 l58 l59 l60 l61 l62 l63 l64 l65 l66 l67 t62 t63 t64 tg_NEAR tg_CUT tg_UP tg_DOWN w dO esO nO) : FnOk P w K mg base CX0 3 a54 l54 ["_law_scale", "_law_tail", "_law_a", "_law_b"] spTT := by
  have G__law_sort : FnOk P w K mg base CX0 2 a46 l46 ["_law_word_here", "_law_scale", "_law_tail"] spSortL := (ok__law_sort B L).mono (by decide)
  refine L.F__law_told_times.ok sc__law_told_times (fun vs H Q E h => ?_) (fun cdv A outer s H vs Q E hr h => ?_)
  · obtain ⟨sc, tl, a, b, rfl, _⟩ := h
    rfl
  obtain ⟨sc, tl, a, b, rfl, h1, h2, h3, h4, a0, a1, b0, b1, q⟩ := h
  refine ⟨_, (pss_cons (ps_par (by rfl) sc__law_told_times.nd (i := 4) (j := 5) rfl rfl (by decide) rfl rfl (pa_cons (pe_lc (own := [("_law_word_here", 7)]) (by rfl) sc__law_told_times.nd (pi_tup (pe_tup (pa_cons (pv 2) (pa_cons (pv 3) pa_nil)))) (blkOk_by (own := [("_law_word_here", 7)]) (N := ["_law_scale", "_law_tail", "_law_a", "_law_b", "_law_sorts", "_law_none", "_law_sign", "_law_word_here"]) (sc := defScope s__law_told_times) (by decide +kernel)) (fun _ _ _ _ _ => pg_name (i := 7) sc__law_told_times.nd rfl (Or.inl rfl)) (fun _ _ _ _ _ => pts_nil) (fun _ _ _ _ _ => (pe_call G__law_sort hr (by rfl) L.m__law_sort L.F__law_sort.kp L.b__law_sort .nil pass0 (pa_cons (pv 7) (pa_cons (pv 0) (pa_cons (pv 1) pa_nil)))))) (pa_cons (pe_op op_add (pe_op op_shlN (pe_op op_sub (pe_op op_oneShl pe_int (pv 0)) pe_int) (pv 1)) (pe_op op_oneShl pe_int (pe_op op_sub (pv 1) pe_int))) pa_nil)) (by rfl))
    (pss_cons (ps_set (i := 6) sc__law_told_times.nd rfl (.inl rfl) (pe_op op_shlN (pe_op op_shrN (pe_op op_xor (pv 2) (pv 3)) (pe_op op_add (pv 0) (pv 1))) (pe_op op_add (pv 0) (pv 1))))
    (pss_cons (ps_if (pt_cmpR op_in_seq pe_str (pv 4) (by rfl)) (pss_one (ps_ret (pe_tup (pa_cons (pv 5) (pa_cons (pe_tup pa_nil) pa_nil))))) pss_nil)
    (pss_cons (ps_if (pt_cmpR op_in_seq pe_str (pv 4) (by rfl)) (pss_one (ps_ret (pe_ifExp (pt_cmpR op_in_seq pe_str (pv 4) (by rfl)) (pe_tup (pa_cons (pv 5) (pa_cons (pe_tup (pa_cons pe_str pa_nil)) pa_nil))) (pe_tup (pa_cons (pe_op op_add (pv 6) (pe_op op_shlN (pe_op op_sub (pe_op op_oneShl pe_int (pv 0)) pe_int) (pv 1))) (pa_cons (pe_tup pa_nil) pa_nil)))))) pss_nil)
    (pss_one (ps_ret (pe_tup (pa_cons (pv 6) (pa_cons (pe_tup pa_nil) pa_nil))))))))), ?_⟩
  have p8 : (2 : Int) ^ sc ≤ 2 ^ 8 := GM.pow_le' h2
  have pS := GM.pow_pos' sc
  refine ⟨_, rfl, _, rfl, (by show 2 ≤ sizeLine; decide), fun t nt => ?_⟩
  have st := same_upd (o := .tup [.int a, .int b]) nt
  refine ⟨t, rfl, ⟨_, .inl (.inl upd_same)⟩, fun D nD => ?_⟩
  refine lc_it (walk_tup (K := K) (a := t) (xs := [a, b].map V.int)) (fun i H9 => Same (upd H t (.tup [.int a, .int b])) H9 ∧ H9 D = some (.lst (([a, b].take i).map fun v => V.str (srt sc tl (sz sc tl v))))) ⟨same_upd nD, upd_same⟩ (fun i H9 _ ⟨s9, _⟩ => .inl (.inl (s9 _ _ upd_same))) ?_ ?_
  · rintro j z H9 H10 hj ⟨s9, eD3⟩ ⟨rfl, hz⟩
    obtain ⟨v, hv, rfl⟩ := at_int' hz
    refine ⟨rfl, yesT ?_⟩
    refine ⟨_, rfl, _, rfl, _, rfl, v, sc, tl, rfl, h2, h4, ?_⟩
    refine ⟨_, eD3, len_take _ _ _ (Nat.le_of_ble_eq_true rfl), fun y u e => ?_, ?_⟩
    · rw [upd_ne (ne_of_none e nD)]
      exact s9 _ _ e
    · rw [upd_same, snoc_take _ _ hv]
  rintro H9 ⟨s9, eD⟩
  have eD' : H9 D = some (.lst ([srt sc tl (sz sc tl a), srt sc tl (sz sc tl b)].map V.str)) := eD
  have w9 := st.trans s9
  refine ⟨_, rfl, sc, rfl, rfl, by omega, _, _, rfl, rfl, _, rfl, _, tl, rfl, rfl, shl_ok (n := 9) (by omega) (by omega), _, rfl, _, _, rfl, rfl, tl - 1, rfl, congrArg V.int (by omega), by omega, _, _, rfl, rfl, ?_⟩
  refine ⟨_, _, rfl, ?_⟩
  have shS : CShl (sx sc tl a b) ((sc + tl : Nat) : Int) := shl_ok (n := 1) (by have := sx_01 sc tl a b; omega) (by omega)
  refine ⟨_, rfl, _, rfl, _, _, rfl, rfl, _, rfl, _, rfl, _, _, rfl, rfl, _, sc + tl, rfl, rfl, ?_⟩
  dsimp only
  rw [xor_sx a0 a1 b0 b1]
  refine ⟨_, rfl, _, rfl, _, _, rfl, rfl, _, sc + tl, rfl, rfl, shS, ?_⟩
  refine ⟨_, rfl, D, _, rfl, .inl (SqL.of eD'), rfl, flat_strs _, _, rfl, ite2 (fun c => ?_) (fun c => ?_)⟩
  · have c1 := (m2 _ _ _).mp ((in_strs _ _).mp c)
    refine ⟨_, rfl, Nat.zero_le _, fun e ne => ⟨(by show 2 ≤ sizeLine; decide), fun u nu => ?_⟩⟩
    have se := same_upd (o := .tup []) ne
    refine q u _ ((w9.trans se).trans (same_upd nu)) ?_
    unfold toldT
    rw [if_pos c1]
    exact ⟨e, upd_same, same_upd nu _ _ upd_same⟩
  have n1 := fun z => c ((in_strs _ _).mpr ((m2 "none" _ _).mpr z))
  refine ⟨_, rfl, D, _, rfl, .inl (SqL.of eD'), rfl, flat_strs _, _, rfl, ite2 (fun c => ?_) (fun c => ?_)⟩
  · have c1 := (m2 _ _ _).mp ((in_strs _ _).mp c)
    refine ⟨_, rfl, D, _, rfl, .inl (SqL.of eD'), rfl, flat_strs _, _, rfl, ite2 (fun d => ?_) (fun d => ?_)⟩
    · have d1 := (m2 _ _ _).mp ((in_strs _ _).mp d)
      refine ⟨_, rfl, (by show 1 ≤ sizeLine; decide), fun e ne => ⟨(by show 2 ≤ sizeLine; decide), fun u nu => ?_⟩⟩
      have se := same_upd (o := .tup [.str "bad"]) ne
      refine q u _ ((w9.trans se).trans (same_upd nu)) ?_
      unfold toldT
      rw [if_neg n1, if_pos c1, if_pos d1]
      exact ⟨e, upd_same, same_upd nu _ _ upd_same⟩
    · have d1 := fun z => d ((in_strs _ _).mpr ((m2 "nought" _ _).mpr z))
      refine ⟨_, rfl, _, rfl, sc, rfl, rfl, by omega, _, _, rfl, rfl, _, rfl, _, tl, rfl, rfl, shl_ok (n := 9) (by omega) (by omega), _, _, rfl, rfl, Nat.zero_le _, fun e ne => ⟨(by show 2 ≤ sizeLine; decide), fun u nu => ?_⟩⟩
      have se := same_upd (o := .tup []) ne
      refine q u _ ((w9.trans se).trans (same_upd nu)) ?_
      unfold toldT
      rw [if_neg n1, if_pos c1, if_neg d1]
      exact ⟨e, upd_same, same_upd nu _ _ upd_same⟩
  · have c1 := fun z => c ((in_strs _ _).mpr ((m2 "endless" _ _).mpr z))
    refine ⟨_, rfl, Nat.zero_le _, fun e ne => ⟨(by show 2 ≤ sizeLine; decide), fun u nu => ?_⟩⟩
    have se := same_upd (o := .tup []) ne
    refine q u _ ((w9.trans se).trans (same_upd nu)) ?_
    unfold toldT
    rw [if_neg n1, if_neg c1]
    exact ⟨e, upd_same, same_upd nu _ _ upd_same⟩
end
section
variable {P : Program} {w : World} {K : PySem.W.Frag} {mg : Str → Option Value} {base : Heap}
variable {C : Addr} {a1 a2 a3 a4 a5 a6 a7 a8 a9 a10 a11 a12 a13 a14 a15 a16 a17 a18 a19 a20 a21 a22 a23 a24 a25 a26 a27 a28 a29 a30 a31 a32 a33 a34 a35 a36 a37 a38 a39 a40 a41 a42 a43 a44 a45 a46 a47 a48 a49 a50 a51 a52 a53 a54 a55 a56 a57 a58 a59 a60 a61 a62 a63 a64 a65 a66 a67 : Addr} {l1 l2 l3 l4 l5 l6 l7 l8 l9 l10 l11 l12 l13 l14 l15 l16 l17 l18 l19 l20 l21 l22 l23 l24 l25 l26 l27 l28 l29 l30 l31 l32 l33 l34 l35 l36 l37 l38 l39 l40 l41 l42 l43 l44 l45 l46 l47 l48 l49 l50 l51 l52 l53 l54 l55 l56 l57 l58 l59 l60 l61 l62 l63 l64 l65 l66 l67 : FuncData} {t62 t63 t64 tg_NEAR tg_CUT tg_UP tg_DOWN : Tok} {dO : Addr} {esO : Array DictEntry} {nO : Nat}
theorem dp_fours {H : Hp} : ∀ ds : List Int, DpAll K H (ds.map V.int) (ds.map PyData.int)
  | [] => .nil
  | d :: ds => .cons (.int d) (dp_fours ds)
theorem dp_strs3 {H : Hp} : ∀ ds : List Str, DpAll K H (ds.map V.str) (ds.map PyData.str)
  | [] => .nil
  | d :: ds => .cons (.str d) (dp_strs3 ds)
def stD (ds : List Int) (n x y z : Int) (r : Int × List Str) : PyData := .list [.tuple [.str "fours", .list (ds.map PyData.int)], .tuple [.str "levels", .int n], .tuple [.str "pair", .int x, .int y], .tuple [.str "product", .int z], .tuple [.str "round", .int r.1, .tuple (r.2.map PyData.str)]]
theorem dp_steps {H : Hp} {l f : Addr} {ds : List Int} {n x y z : Int} {r : Int × List Str} (h : StepsAt H l f ds n x y z r) : Dp K H (.ref l) (stD ds n x y z r) := by
  obtain ⟨t0, t1, t2, t3, t4, e, e0, e1, e2, e3, e4, g, e5, e6⟩ := h
  exact .lst (SqL.of e) (.cons (.tup (.inl (.inl e0)) (.cons (.str _) (.cons (.lst (SqL.of e1) (dp_fours ds)) .nil))) (.cons (.tup (.inl (.inl e2)) (.cons (.str _) (.cons (.int _) .nil))) (.cons (.tup (.inl (.inl e3)) (.cons (.str _) (.cons (.int _) (.cons (.int _) .nil)))) (.cons (.tup (.inl (.inl e4)) (.cons (.str _) (.cons (.int _) .nil))) (.cons (.tup (.inl (.inl e5)) (.cons (.str _) (.cons (.int _) (.cons (.tup (.inl (.inl e6)) (dp_strs3 r.2)) .nil)))) .nil)))))
theorem lv_cons {k : Nat} {d : PyData} {ds : List PyData} (h1 : Lv k d) (h2 : ∀ e ∈ ds, Lv k e) : ∀ e ∈ d :: ds, Lv k e := fun e he => (List.mem_cons.mp he).elim (fun z => z ▸ h1) (h2 e)
theorem lv_none {k : Nat} : ∀ e ∈ ([] : List PyData), Lv k e := fun e he => nomatch he
theorem lv_all {k : Nat} {α : Type} {f : α → PyData} (h : ∀ x, Lv k (f x)) (l : List α) : ∀ e ∈ l.map f, Lv k e := fun e he => by
  obtain ⟨x, _, rfl⟩ := List.mem_map.mp he
  exact h x
theorem lv_steps {ds : List Int} {n x y z : Int} {r : Int × List Str} (h : ds.length ≤ 1000) (h2 : r.2.length ≤ 1000) : Lv 3 (stD ds n x y z r) := by
  refine ⟨by show 5 ≤ 1000000; decide, lv_cons ⟨by show 2 ≤ 1000000; decide, lv_cons trivial (lv_cons ⟨by rw [List.length_map]; omega, lv_all (k := 0) (f := PyData.int) (fun _ => trivial) _⟩ lv_none)⟩ (lv_cons ⟨by show 2 ≤ 1000000; decide, lv_cons trivial (lv_cons trivial lv_none)⟩ (lv_cons ⟨by show 3 ≤ 1000000; decide, lv_cons trivial (lv_cons trivial (lv_cons trivial lv_none))⟩ (lv_cons ⟨by show 2 ≤ 1000000; decide, lv_cons trivial (lv_cons trivial lv_none)⟩ (lv_cons ⟨by show 3 ≤ 1000000; decide, lv_cons trivial (lv_cons trivial (lv_cons ⟨by rw [List.length_map]; omega, lv_all (k := 0) (f := PyData.str) (fun _ => trivial) _⟩ lv_none))⟩ lv_none))))⟩
theorem dp_step {H : Hp} {t : Addr} {nm : Str} {r : Int × List Str} (h : StepAt H t nm r) : Dp K H (.ref t) (.tuple [.str nm, .int r.1, .tuple (r.2.map PyData.str)]) := by
  obtain ⟨f, e1, e2⟩ := h
  exact .tup (.inl (.inl e1)) (.cons (.str _) (.cons (.int _) (.cons (.tup (.inl (.inl e2)) (dp_strs3 r.2)) .nil)))
theorem lv_step (nm : Str) (r : Int × List Str) (h : r.2.length ≤ 1000) : Lv 3 (.list [.tuple [.str nm, .int r.1, .tuple (r.2.map PyData.str)]]) :=
  ⟨by show 1 ≤ 1000000; decide, lv_cons ⟨by show 3 ≤ 1000000; decide, lv_cons trivial (lv_cons trivial (lv_cons ⟨by rw [List.length_map]; omega, lv_all (k := 0) (f := PyData.str) (fun _ => trivial) _⟩ lv_none))⟩ lv_none⟩
/-- what is due stands at l -/
def DueAt (H : Hp) (l : Addr) (sc tl : Nat) (a b : Int) (way : Str) : Prop :=
  ([a, b].all (hdv sc tl) = true ∧ ∃ f n, TimesAt H l f sc tl a b way n) ∨ ([a, b].all (hdv sc tl) = false ∧ ∃ t, H l = some (.lst [.ref t]) ∧ StepAt H t "told" (mulR sc tl a b way))
theorem TimesAt.same {H H' : Hp} {l f : Addr} {sc tl : Nat} {a b : Int} {way : Str} {n : Nat} (h : TimesAt H l f sc tl a b way n) (s : Same H H') : TimesAt H' l f sc tl a b way n := ⟨h.1, h.2.same s⟩
theorem DueAt.same {H H' : Hp} {l : Addr} {sc tl : Nat} {a b : Int} {way : Str} (h : DueAt H l sc tl a b way) (s : Same H H') : DueAt H' l sc tl a b way := by
  rcases h with ⟨hr, f, n, h⟩ | ⟨hr, t, e, h⟩
  · exact .inl ⟨hr, f, n, h.same s⟩
  · exact .inr ⟨hr, t, s _ _ e, h.same s⟩
theorem due_same {H : Hp} {l l2 : Addr} {sc tl : Nat} {a b : Int} {way : Str} (h4 : tl ≤ 24) (h : DueAt H l sc tl a b way) (h2 : DueAt H l2 sc tl a b way) : ∃ d, Lv 3 d ∧ Dp K H (.ref l) d ∧ Dp K H (.ref l2) d := by
  rcases h with ⟨hr, f, n, h⟩ | ⟨hr, t, e, h⟩ <;> rcases h2 with ⟨hr2, f2, n2, h2⟩ | ⟨hr2, t2, e2, h2⟩
  · have en := GM.ends_one h.1 h2.1
    subst en
    have kb := hd_in sc b h4
    have p200 : (2 : Int) ^ 25 ≤ 2 ^ 200 := GM.pow_le' (by decide)
    have kk := kf_le kb.1 (by omega)
    exact ⟨_, lv_steps (by rw [GM.fol_len]; omega) (rnd_len _ _ _ _ _ _ _), dp_steps h.2, dp_steps h2.2⟩
  · rw [hr] at hr2
    cases hr2
  · rw [hr] at hr2
    cases hr2
  · exact ⟨_, lv_step "told" _ (mul_len sc tl a b way), .lst (SqL.of e) (.cons (dp_step h) .nil), .lst (SqL.of e2) (.cons (dp_step h2) .nil)⟩
def HW : List Str := ["near", "cut", "up", "down", "near"]
theorem hw_in {i : Nat} {how : Str} (h : HW[i]? = some how) : how ∈ WL := by
  have this := List.mem_of_getElem? h
  unfold HW at this
  rcases List.mem_cons.mp this with e | this
  · rw [e]; decide +kernel
  rcases List.mem_cons.mp this with e | this
  · rw [e]; decide +kernel
  rcases List.mem_cons.mp this with e | this
  · rw [e]; decide +kernel
  rcases List.mem_cons.mp this with e | this
  · rw [e]; decide +kernel
  rcases List.mem_cons.mp this with e | this
  · rw [e]; decide +kernel
  · exact nomatch this
def spRight : Sp := fun vs H Q _ => ∃ (b : Addr) (c : Int), vs = [.ref b] ∧ BoxAt c H b ∧ c ≤ 700000000 ∧
  ∀ (H' : Hp), BoxAt (c + 200) H' b → Keep b H H' → Q (.bl true) H'
theorem ok__law_right (B : Bl mg) (L : LL K mg C a1 a2 a3 a4 a5 a6 a7 a8 a9 a10 a11 a12 a13 a14 a15 a16 a17 a18 a19 a20 a21 a22 a23 a24 a25 a26 a27 a28 a29 a30 a31 a32 a33 a34 a35 a36 a37 a38 a39 a40 a41 a42 a43 a44 a45 a46 a47 a48 a49 a50 a51 a52 a53 a54 a55 a56 a57 a58 a59 a60 a61 a62 a63 a64 a65 a66 a67 l1 l2 l3 l4 l5 l6 l7 l8 l9 l10 l11 l12 l13 l14 l15 l16 l17 l18 l19 l20 l21 l22 l23 l24 l25 l26 l27 l28 l29 l30 l31 l32 l33 l34 l35 l36 l37 l38 l39 l40 l41 l42 l43 l44 l45 l46 l47 l48 l49 l50 l51 l52 l53 l54 l55 l56 l57 l58 l59 l60 l61 l62 l63 l64 l65 l66 l67 t62 t63 t64 tg_NEAR tg_CUT tg_UP tg_DOWN w dO esO nO) : FnOk P w K mg base CX0 12 a55 l55 ["_law_box_here"] spRight := by
  have G__law_form : FnOk P w K mg base CX0 11 a44 l44 ["_law_box_here"] spForm := (ok__law_form B L).mono (by decide)
  have G_Form___init__ : FnOk P w K mg base CX0 10 a56 l56 ["self", "scale", "tail"] (spInit C) := (ok_Form___init__ B L).mono (by decide)
  have G__law_word : FnOk P w K mg base CX0 11 a45 l45 ["_law_box_here", "_law_scale", "_law_tail"] spWord := (ok__law_word B L).mono (by decide)
  have G__law_sort : FnOk P w K mg base CX0 11 a46 l46 ["_law_word_here", "_law_scale", "_law_tail"] spSortL := (ok__law_sort B L).mono (by decide)
  have G__law_told_times : FnOk P w K mg base CX0 11 a54 l54 ["_law_scale", "_law_tail", "_law_a", "_law_b"] spTT := (ok__law_told_times B L).mono (by decide)
  have G__law_times_due : FnOk P w K mg base CX0 11 a53 l53 ["_law_scale", "_law_tail", "_law_a", "_law_b", "_law_how"] spTD := (ok__law_times_due B L).mono (by decide)
  have G_times_steps : FnOk P w K mg base CX0 11 a37 l37 ["form", "a", "b", "way"] (spTS C) := (ok_times_steps B L).mono (by decide)
  have G__law_same : FnOk P w K mg base CX0 11 a43 l43 ["_law_found", "_law_due"] (spSame K 4) := (ok_same L.F__law_same L.b__law_same L.m__law_same B 4).mono (by decide)
  refine L.F__law_right.ok sc__law_right (fun vs H Q E h => ?_) (fun cdv A outer s H vs Q E hr h => ?_)
  · obtain ⟨b, c, rfl, _⟩ := h
    rfl
  obtain ⟨b, c, rfl, hB, hc, q⟩ := h
  refine ⟨_, (pss_cons (ps_asg (pe_call G__law_form hr (by rfl) L.m__law_form L.F__law_form.kp L.b__law_form .nil pass0 (pa_cons (pv 0) pa_nil)) (pg_tup (by rfl) (pgs_cons (pg_name (i := 1) sc__law_right.nd rfl (.inr rfl)) (pgs_cons (pg_name (i := 2) sc__law_right.nd rfl (.inr rfl)) pgs_nil))))
    (pss_cons (ps_par3 (by rfl) sc__law_right.nd (i := 3) (j := 4) (l := 5) rfl rfl rfl (by decide) (by decide) (by decide) rfl rfl rfl (pa_cons (pe_make L.M G_Form___init__ hr (by rfl) L.T.mgC L.b_Form___init__ .nil pass0 (pa_cons (pv 1) (pa_cons (pv 2) pa_nil))) (pa_cons (pe_call G__law_word hr (by rfl) L.m__law_word L.F__law_word.kp L.b__law_word .nil pass0 (pa_cons (pv 0) (pa_cons (pv 1) (pa_cons (pv 2) pa_nil)))) (pa_cons (pe_call G__law_word hr (by rfl) L.m__law_word L.F__law_word.kp L.b__law_word .nil pass0 (pa_cons (pv 0) (pa_cons (pv 1) (pa_cons (pv 2) pa_nil)))) pa_nil))) (by rfl))
    (pss_cons (ps_set (i := 6) sc__law_right.nd rfl (.inl rfl) (pe_callB (cr_all rfl) (by rfl) B.all boot_all (pa_cons (pe_lc (own := [("_law_word_here", 10)]) (by rfl) sc__law_right.nd (pi_tup (pe_tup (pa_cons (pv 4) (pa_cons (pv 5) pa_nil)))) (blkOk_by (own := [("_law_word_here", 10)]) (N := ["_law_box_here", "_law_scale", "_law_tail", "_law_form_here", "_law_a", "_law_b", "_law_real", "_law_how", "_law_due", "_law_found", "_law_word_here"]) (sc := defScope s__law_right) (by decide +kernel)) (fun _ _ _ _ _ => pg_name (i := 10) sc__law_right.nd rfl (Or.inl rfl)) (fun _ _ _ _ _ => pts_nil) (fun _ _ _ _ _ => (pe_cmpR (op_in_seqK (K := K)) (pe_call G__law_sort hr (by rfl) L.m__law_sort L.F__law_sort.kp L.b__law_sort .nil pass0 (pa_cons (pv 10) (pa_cons (pv 1) (pa_cons (pv 2) pa_nil)))) (pe_tup (pa_cons pe_str (pa_cons pe_str pa_nil))) (by rfl)))) pa_nil)))
    (pss_cons (ps_for PassesOwn.never rfl (pi_tup (pe_tup (pa_cons pe_str (pa_cons pe_str (pa_cons pe_str (pa_cons pe_str (pa_cons pe_str pa_nil))))))) (pg_name (i := 7) sc__law_right.nd rfl (.inl rfl)) (pss_cons (ps_set (i := 8) sc__law_right.nd rfl (.inl rfl) (pe_lst (pa_cons (pe_op op_catT (pe_tup (pa_cons pe_str pa_nil)) (pe_call G__law_told_times hr (by rfl) L.m__law_told_times L.F__law_told_times.kp L.b__law_told_times .nil pass0 (pa_cons (pv 1) (pa_cons (pv 2) (pa_cons (pv 4) (pa_cons (pv 5) pa_nil)))))) pa_nil)))
    (pss_cons (ps_if (pt_val (pv 6)) (pss_one (ps_set (i := 8) sc__law_right.nd rfl (.inl rfl) (pe_call G__law_times_due hr (by rfl) L.m__law_times_due L.F__law_times_due.kp L.b__law_times_due .nil pass0 (pa_cons (pv 1) (pa_cons (pv 2) (pa_cons (pv 4) (pa_cons (pv 5) (pa_cons (pv 7) pa_nil)))))))) pss_nil)
    (pss_cons (ps_set (i := 9) sc__law_right.nd rfl (.inl rfl) (pe_callN G_times_steps hr (by rfl) L.m_times_steps L.F_times_steps.kp (L.kb_times_steps_way).choose_spec pass0 (pa_cons (pv 3) (pa_cons (pv 4) (pa_cons (pv 5) pa_nil))) (pk_cons (pv 7) pk_nil)))
    (pss_cons (ps_if (pt_not (pt_val (pe_call G__law_same hr (by rfl) L.m__law_same L.F__law_same.kp L.b__law_same .nil pass0 (pa_cons (pv 9) (pa_cons (pv 8) pa_nil))))) (pss_one (ps_ret pe_bl)) pss_nil)
    (pss_cons (ps_if (pt_val (pv 6)) (pss_one (ps_expr (pe_bm PySem.F.plainAttrs_list PySem.F.slot_list_append PySem.F.type_list_append mt_append (pe_ix ix_tup (pe_ix ix_list (pv 9) pe_int (fun _ _ => rfl)) pe_int (fun _ _ => rfl)) (pa_cons pe_int pa_nil)))) pss_nil)
    (pss_one (ps_expr (pe_bm0 PySem.F.plainAttrs_list PySem.F.slot_list_reverse PySem.F.type_list_reverse mt_reverse (pv 9))))))))))
    (pss_one (ps_ret (pe_call G__law_same hr (by rfl) L.m__law_same L.F__law_same.kp L.b__law_same .nil pass0 (pa_cons (pe_call G_times_steps hr (by rfl) L.m_times_steps L.F_times_steps.kp (L.kb_times_steps).choose_spec.2 (L.kb_times_steps).choose_spec.1 pass0 (pa_cons (pv 3) (pa_cons (pv 4) (pa_cons (pv 5) pa_nil)))) (pa_cons (pv 8) pa_nil))))))))), ?_⟩
  refine ⟨_, rfl, b, _, rfl, hB, by omega, fun pp sc tl H1 epp h1 h2 h3 h4 B1 k1 => ?_⟩
  refine ⟨pp, _, rfl, .inl (.inl epp), rfl, _, _, rfl, _, _, rfl, rfl, ?_⟩
  refine ⟨_, rfl, _, rfl, fun x dx nx ndx ne => ?_⟩
  refine ⟨x, dx, sc, tl, rfl, upd_same, h1, h2, h3, h4, fun H2 F2 kp => ⟨rfl, ?_⟩⟩
  have s2 : Same H1 H2 := made nx ndx ne kp
  have nxb : x ≠ b := (B1.ne nx).symm
  have B2 := B1.same s2
  refine ⟨_, rfl, _, rfl, _, rfl, b, sc, tl, _, rfl, h1, h2, h3, h4, B2, by omega, fun va H3 a0 a1 B3 k3 => ?_⟩
  refine ⟨_, rfl, _, rfl, _, rfl, b, sc, tl, _, rfl, h1, h2, h3, h4, B3, by omega, fun vb H4 b0 b1 B4 k4 => ?_⟩
  refine ⟨_, _, _, rfl, ?_⟩
  have F4 := (F2.keep k3 nxb).keep k4 nxb
  refine ⟨_, rfl, _, rfl, (by show 2 ≤ sizeLine; decide), fun t nt => ?_⟩
  have st := same_upd (o := .tup [.int va, .int vb]) nt
  refine ⟨t, rfl, ⟨_, .inl (.inl upd_same)⟩, fun D nD => ?_⟩
  refine lc_it (walk_tup (K := K) (a := t) (xs := [va, vb].map V.int)) (fun i H9 => Same (upd H4 t (.tup [.int va, .int vb])) H9 ∧ H9 D = some (.lst (([va, vb].take i).map fun v => V.bl (hdv sc tl v)))) ⟨same_upd nD, upd_same⟩ (fun i H9 _ ⟨s9, _⟩ => .inl (.inl (s9 _ _ upd_same))) ?_ ?_
  · rintro j z H9 H10 hj ⟨s9, eD3⟩ ⟨rfl, hz⟩
    obtain ⟨v, hv, rfl⟩ := at_int' hz
    refine ⟨rfl, yesT ?_⟩
    refine ⟨_, rfl, _, rfl, _, rfl, v, sc, tl, rfl, h2, h4, ?_⟩
    refine ⟨(by show 2 ≤ sizeLine; decide), fun U nU => ?_⟩
    have sU := same_upd (o := .tup [.str "small", .str "plain"]) nU
    refine ⟨U, _, rfl, .inr (.inl (.inl upd_same)), rfl, rfl, ?_⟩
    refine ⟨_, sU _ _ eD3, len_take _ _ _ (Nat.le_of_ble_eq_true rfl), fun y u e => ?_, ?_⟩
    · rw [upd_ne (ne_of_none e nD)]
      exact sU _ _ (s9 _ _ e)
    · rw [upd_same, snoc_take _ _ hv]
      have : inV (.str (srt sc tl (sz sc tl v))) [.str "small", .str "plain"] = hdv sc tl v := in_two _ _ _
      show some (HO.lst (_ ++ [V.bl (inV (.str (srt sc tl (sz sc tl v))) [.str "small", .str "plain"])])) = _
      rw [this]
  rintro H9 ⟨s9, eD⟩
  have eD' : H9 D = some (.lst (([va, vb].map (hdv sc tl)).map V.bl)) := eD
  refine ⟨D, _, rfl, .inl (.inl eD'), ?_⟩
  refine gB (u := [va, vb].all (hdv sc tl)) rfl ?_
  have k9 : Keep b H H9 := (((k1.trans (Keep.ofSame s2)).trans k3).trans k4).trans (Keep.ofSame (st.trans s9))
  have B9 := B4.same (st.trans s9)
  have F9 := F4.same (st.trans s9)
  refine ⟨(by show 5 ≤ sizeLine; decide), fun tw ntw => ?_⟩
  have stw := same_upd (o := .tup (HW.map V.str)) ntw
  have etw : (upd H9 tw (.tup (HW.map V.str))) tw = some (.tup (HW.map V.str)) := upd_same
  refine ⟨tw, rfl, ⟨HW.map V.str, .inl (.inl etw)⟩, ?_⟩
  have F6 := F9.same stw
  have B6 := B9.same stw
  have k6 : Keep b H (upd H9 tw (.tup (HW.map V.str))) := k9.trans (Keep.ofSame stw)
  obtain ⟨H6, hH6⟩ : ∃ H6, H6 = upd H9 tw (.tup (HW.map V.str)) := ⟨_, rfl⟩
  rw [← hH6] at F6 B6 k6 etw
  refine for_tup (K := K) (a := tw) (xs := HW.map V.str) (fun i σ H8 => ∃ (y7 y8 y9 : Option V), σ = [some (.ref b), some (.int (sc : Int)), some (.int (tl : Int)), some (.ref x), some (.int va), some (.int vb), some (.bl ([va, vb].all (hdv sc tl))), y7, y8, y9, none] ∧ Same H6 H8 ∧ (0 < i → ∃ l how, HW[i - 1]? = some how ∧ y8 = some (.ref l) ∧ DueAt H8 l sc tl va vb how))
    ⟨none, none, none, rfl, by rw [hH6]; exact Same.refl _, (fun z => absurd z (Nat.lt_irrefl 0))⟩ (fun i σ H8 _ ⟨_, _, _, _, s8, _⟩ => .inl (.inl (s8 _ _ etw))) ?_ ?_
  · rintro i v σ H8 hv ⟨y7, y8, y9, rfl, s8, _⟩
    obtain ⟨how, hq, rfl⟩ : ∃ how, HW[i]? = some how ∧ v = .str how := by
      rw [List.getElem?_map] at hv
      cases e : HW[i]? with
      | none => rw [e] at hv; cases hv
      | some z => rw [e] at hv; exact ⟨z, rfl, (Option.some.inj hv).symm⟩
    have hh : how ∈ WL := hw_in hq
    have F8 := F6.same s8
    refine ⟨(by show 1 ≤ sizeLine; decide), fun A1 nA => ?_⟩
    have sA := same_upd (o := .tup [.str "told"]) nA
    refine ⟨_, rfl, _, rfl, _, rfl, _, rfl, sc, tl, va, vb, rfl, h1, h2, h3, h4, a0, a1, b0, b1, fun t1 H10 s10 P1 => ?_⟩
    obtain ⟨f, et, ef⟩ := P1
    refine ⟨A1, t1, _, _, rfl, rfl, .inl (.inl (s10 _ _ upd_same)), .inl (.inl et), (fun z => by cases z), (by show 1 + 2 ≤ sizeLine; decide), (fun z => by cases z), fun _ p np => ?_⟩
    have sp := same_upd (o := .tup [.str "told", .int (toldT sc tl va vb).1, .ref f]) np
    refine ⟨(by show 1 ≤ sizeLine; decide), fun l nl => ?_⟩
    have sl := same_upd (o := .lst [.ref p]) nl
    have w10 := ((sA.trans s10).trans sp).trans sl
    cases hre : [va, vb].all (hdv sc tl) with
    | false =>
      have hD : DueAt (upd (upd H10 p (.tup [.str "told", .int (toldT sc tl va vb).1, .ref f])) l (.lst [.ref p])) l sc tl va vb how := .inr ⟨hre, p, upd_same, by
        rw [← told_mul hre]
        exact ⟨f, sl _ _ upd_same, sl _ _ (sp _ _ ef)⟩⟩
      refine ⟨_, rfl, _, rfl, iteF ?_⟩
      refine ⟨_, rfl, _, rfl, _, rfl, _, rfl, rfl, rfl, x, sc, tl, va, vb, how, rfl, F8.same w10, (fun _ l2 t2 H11 nl2 s11 el2 St2 => ?_), (fun z => absurd (hre.symm.trans z) (by decide))⟩
      obtain ⟨d, lvd, d1, d2⟩ := due_same (K := K) h4 (l := l2) (l2 := l) (.inr ⟨hre, t2, el2, St2⟩) (hD.same s11)
      refine ⟨_, rfl, _, rfl, _, _, d, 3, rfl, rfl, lvd, d1, d2, fun H12 s12 => ?_⟩
      refine ⟨_, rfl, iteF ?_⟩
      refine ⟨_, rfl, _, rfl, iteF ?_⟩
      refine ⟨_, rfl, .inl ⟨rfl, _, SqL.of (s12 _ _ el2)⟩, l2, _, rfl, rfl, s12 _ _ el2, ?_⟩
      have sF : Same (upd (upd H10 p (.tup [.str "told", .int (toldT sc tl va vb).1, .ref f])) l (.lst [.ref p])) (upd H12 l2 (.lst ([V.ref t2].reverse))) := fun y u e => by
        rw [upd_ne (ne_of_none e nl2)]
        exact s12 _ _ (s11 _ _ e)
      exact ⟨_, _, _, rfl, s8.trans (w10.trans sF), fun _ => ⟨l, how, hq, rfl, hD.same sF⟩⟩
    | true =>
      have hab := List.all_eq_true.mp hre
      have ra := hdv_real (hab va (by simp))
      have rb := hdv_real (hab vb (by simp))
      refine ⟨_, rfl, _, rfl, iteT ?_⟩
      refine ⟨_, rfl, _, rfl, _, rfl, _, rfl, _, rfl, sc, tl, va, vb, how, rfl, h1, h2, h3, h4, a0, a1, b0, b1, ra.1, rb.1, hh, fun l4 f4 n4 H13 s13 T13 => ?_⟩
      have hD : DueAt H13 l4 sc tl va vb how := .inl ⟨hre, f4, n4, T13⟩
      have w13 := w10.trans s13
      refine ⟨_, rfl, _, rfl, _, rfl, _, rfl, rfl, rfl, x, sc, tl, va, vb, how, rfl, F8.same w13, (fun z => absurd (hre.symm.trans z) (by decide)), (fun _ l2 f2 n2 H11 nl2 nf2 nfl s11 T11 => ?_)⟩
      obtain ⟨d, lvd, d1, d2⟩ := due_same (K := K) h4 (l := l2) (l2 := l4) (.inl ⟨hre, f2, n2, T11⟩) (hD.same s11)
      refine ⟨_, rfl, _, rfl, _, _, d, 3, rfl, rfl, lvd, d1, d2, fun H12 s12 => ?_⟩
      refine ⟨_, rfl, iteF ?_⟩
      refine ⟨_, rfl, _, rfl, iteT ?_⟩
      obtain ⟨_, t0, t1, t2, t3, t4, e, e0, e1, _⟩ := T11.same s12
      have kb := hd_in sc vb h4
      have p200 : (2 : Int) ^ 25 ≤ 2 ^ 200 := GM.pow_le' (by decide)
      have kk := kf_le kb.1 (by omega)
      refine ⟨_, rfl, l2, _, _, _, rfl, rfl, SqL.of e, rfl, t0, _, _, _, rfl, rfl, .inl (.inl e0), rfl, .inl ⟨rfl, _, SqL.of e1⟩, f2, _, _, rfl, rfl, e1, ?_, ?_⟩
      · rw [List.length_map, GM.fol_len]
        exact small1000 (by omega)
      have e' : (upd H12 f2 (.lst ((GM.fol (hd sc tl vb) (kf (hd sc tl vb))).map V.int ++ [V.int 3]))) l2 = some (.lst [.ref t0, .ref t1, .ref t2, .ref t3, .ref t4]) := by
        rw [upd_ne nfl.symm]
        exact e
      refine ⟨_, rfl, .inl ⟨rfl, _, SqL.of e'⟩, l2, _, rfl, rfl, e', ?_⟩
      have sF : Same H13 (upd (upd H12 f2 (.lst ((GM.fol (hd sc tl vb) (kf (hd sc tl vb))).map V.int ++ [V.int 3]))) l2 (.lst ([V.ref t0, .ref t1, .ref t2, .ref t3, .ref t4].reverse))) := fun y u e => by
        rw [upd_ne (ne_of_none e nl2), upd_ne (ne_of_none e nf2)]
        exact s12 _ _ (s11 _ _ e)
      exact ⟨_, _, _, rfl, s8.trans (w13.trans sF), fun _ => ⟨l4, how, hq, rfl, hD.same sF⟩⟩
  · rintro σ H8 ⟨y7, y8, y9, rfl, s8, hlast⟩
    obtain ⟨l, how, hq, rfl, hD⟩ := hlast (by decide)
    have hnear : how = "near" := (Option.some.inj hq).symm
    subst hnear
    have fin : ∀ (l2 : Addr) (H11 : Hp), Same H8 H11 → DueAt H11 l2 sc tl va vb "near" → ∃ d, Lv 3 d ∧ Dp K H11 (.ref l2) d ∧ Dp K H11 (.ref l) d := fun l2 H11 s11 h2 => due_same h4 h2 (hD.same s11)
    refine ⟨_, rfl, _, rfl, _, rfl, x, sc, tl, va, vb, "near", rfl, F6.same s8, (fun hre l2 t2 H11 nl2 s11 el2 St2 => ?_), (fun hre l2 f2 n2 H11 nl2 nf2 nfl s11 T11 => ?_)⟩
    · obtain ⟨d, lvd, d1, d2⟩ := fin l2 H11 s11 (.inr ⟨hre, t2, el2, St2⟩)
      refine ⟨_, rfl, _, _, d, 3, rfl, rfl, lvd, d1, d2, fun H12 s12 => ?_⟩
      have w := (s8.trans s11).trans s12
      exact q _ ((B6.same w).mono (by omega)) (k6.trans (Keep.ofSame w))
    · obtain ⟨d, lvd, d1, d2⟩ := fin l2 H11 s11 (.inl ⟨hre, f2, n2, T11⟩)
      refine ⟨_, rfl, _, _, d, 3, rfl, rfl, lvd, d1, d2, fun H12 s12 => ?_⟩
      have w := (s8.trans s11).trans s12
      exact q _ ((B6.same w).mono (by omega)) (k6.trans (Keep.ofSame w))
end
section
variable {P : Program} {w : World} {K : PySem.W.Frag} {mg : Str → Option Value} {base : Heap}
variable {C : Addr} {a1 a2 a3 a4 a5 a6 a7 a8 a9 a10 a11 a12 a13 a14 a15 a16 a17 a18 a19 a20 a21 a22 a23 a24 a25 a26 a27 a28 a29 a30 a31 a32 a33 a34 a35 a36 a37 a38 a39 a40 a41 a42 a43 a44 a45 a46 a47 a48 a49 a50 a51 a52 a53 a54 a55 a56 a57 a58 a59 a60 a61 a62 a63 a64 a65 a66 a67 : Addr} {l1 l2 l3 l4 l5 l6 l7 l8 l9 l10 l11 l12 l13 l14 l15 l16 l17 l18 l19 l20 l21 l22 l23 l24 l25 l26 l27 l28 l29 l30 l31 l32 l33 l34 l35 l36 l37 l38 l39 l40 l41 l42 l43 l44 l45 l46 l47 l48 l49 l50 l51 l52 l53 l54 l55 l56 l57 l58 l59 l60 l61 l62 l63 l64 l65 l66 l67 : FuncData} {t62 t63 t64 tg_NEAR tg_CUT tg_UP tg_DOWN : Tok} {dO : Addr} {esO : Array DictEntry} {nO : Nat}
def spLaw (K : PySem.W.Frag) : Sp := fun vs H Q _ => ∃ (a : Addr) (ns : List Int), vs = [.ref a] ∧ SqL K H a (ns.map V.int) ∧ ns.length ≤ 63 ∧ ∀ H', Q (.bl true) H'
theorem ok_law {f : Addr} {fd : FuncData} (F : Fun K "law" "law" s_law f fd) (B : Bl mg) (L : LL K mg C a1 a2 a3 a4 a5 a6 a7 a8 a9 a10 a11 a12 a13 a14 a15 a16 a17 a18 a19 a20 a21 a22 a23 a24 a25 a26 a27 a28 a29 a30 a31 a32 a33 a34 a35 a36 a37 a38 a39 a40 a41 a42 a43 a44 a45 a46 a47 a48 a49 a50 a51 a52 a53 a54 a55 a56 a57 a58 a59 a60 a61 a62 a63 a64 a65 a66 a67 l1 l2 l3 l4 l5 l6 l7 l8 l9 l10 l11 l12 l13 l14 l15 l16 l17 l18 l19 l20 l21 l22 l23 l24 l25 l26 l27 l28 l29 l30 l31 l32 l33 l34 l35 l36 l37 l38 l39 l40 l41 l42 l43 l44 l45 l46 l47 l48 l49 l50 l51 l52 l53 l54 l55 l56 l57 l58 l59 l60 l61 l62 l63 l64 l65 l66 l67 t62 t63 t64 tg_NEAR tg_CUT tg_UP tg_DOWN w dO esO nO) : FnOk P w K mg base CX0 13 f fd ["_law_script"] (spLaw K) := by
  have G__law_folded : FnOk P w K mg base CX0 12 a42 l42 ["_law_script", "_law_size"] (spFolded K) := ok_folded L.F__law_folded B
  have G__law_box : FnOk P w K mg base CX0 12 a40 l40 ["_law_script", "_law_k"] (spBox K) := ok_box L.F__law_box B
  have G__law_right : FnOk P w K mg base CX0 12 a55 l55 ["_law_box_here"] spRight := (ok__law_right B L).mono (by decide)
  refine F.ok sc_law (fun vs H Q E h => ?_) (fun cdv A outer s H vs Q E hr h => ?_)
  · obtain ⟨a, ns, rfl, _⟩ := h
    rfl
  obtain ⟨a, ns, rfl, hS, h63, q⟩ := h
  refine ⟨_, (pss_cons (ps_set (i := 1) sc_law.nd rfl (.inl rfl) (pe_call G__law_folded hr (by rfl) L.m__law_folded L.F__law_folded.kp L.b__law_folded .nil pass0 (pa_cons (pv 0) (pa_cons pe_int pa_nil))))
    (pss_cons (ps_for PassesOwn.never rfl (pi_range1 (by rfl) B.range (pa_cons (pe_callB (call_max2 rfl) (by rfl) B.max boot_max (pa_cons pe_int (pa_cons (pe_callB call_len_seq (by rfl) B.len PySem.boot_len (pa_cons (pv 1) pa_nil)) pa_nil))) pa_nil)) (pg_name (i := 2) sc_law.nd rfl (.inl rfl)) (pss_cons (ps_set (i := 3) sc_law.nd rfl (.inr rfl) (pe_call G__law_box hr (by rfl) L.m__law_box L.F__law_box.kp L.b__law_box .nil pass0 (pa_cons (pv 1) (pa_cons (pv 2) pa_nil))))
    (pss_one (ps_if (pt_not (pt_val (pe_callB (cr_all rfl) (by rfl) B.all boot_all (pa_cons (pe_lc (own := [("_law_turn", 4)]) (by rfl) sc_law.nd (pi_range1 (by rfl) B.range (pa_cons pe_int pa_nil)) (blkOk_by (own := [("_law_turn", 4)]) (N := ["_law_script", "_law_cells", "_law_k", "_law_box_here", "_law_turn"]) (sc := defScope s_law) (by decide +kernel)) (fun _ _ _ _ _ => pg_name (i := 4) sc_law.nd rfl (Or.inl rfl)) (fun _ _ _ _ _ => pts_nil) (fun _ _ _ _ _ => (pe_call G__law_right hr (by rfl) L.m__law_right L.F__law_right.kp L.b__law_right .nil pass0 (pa_cons (pv 3) pa_nil)))) pa_nil)))) (pss_one (ps_ret pe_bl)) pss_nil))))
    (pss_one (ps_ret pe_bl)))), ?_⟩
  refine ⟨_, rfl, a, ns, 4, rfl, hS, h63, by decide, by decide, fun p H1 zs np s1 ep lz => ?_⟩
  have lz2 : zs.length ≤ 4 := by omega
  refine ⟨_, rfl, p, _, rfl, .inl (SqL.of ep), _, _, rfl, ?_⟩
  obtain ⟨n, en, hn⟩ : ∃ n : Nat, (if (((zs.map V.int).length : Nat) : Int) > 2 then (((zs.map V.int).length : Nat) : Int) else 2) = (n : Int) ∧ n ≤ 4 := by
    rw [List.length_map]
    split
    · exact ⟨zs.length, rfl, lz2⟩
    · exact ⟨2, rfl, by decide⟩
  rw [en]
  refine ⟨_, rfl, by omega, by omega, ?_⟩
  rw [Int.toNat_natCast]
  refine for_range (n := n) (fun i σ H5 => ∃ (y2 y3 : Option V), σ = [some (.ref a), some (.ref p), y2, y3, none] ∧ Same H1 H5) ⟨none, none, rfl, Same.refl _⟩ ?_ ?_
  · rintro i σ H5 hi ⟨y2, y3, rfl, s5⟩
    refine ⟨_, rfl, _, rfl, p, zs, _, rfl, SqL.of (s5 _ _ ep), by omega, by omega, fun b H6 nb s6 B6 => ?_⟩
    refine ⟨4, rfl, by decide, by decide, fun D nD => ?_⟩
    have nDb : D ≠ b := (B6.ne nD).symm
    refine lc_range (n := 4) (fun j H7 => Keep b H6 H7 ∧ BoxAt (200 * j) H7 b ∧ H7 D = some (.lst (List.replicate j (.bl true)))) ⟨Keep.new nD, (B6.same (same_upd nD)).mono (by omega), upd_same⟩ ?_ ?_
    · rintro j H7 hj ⟨k7, B7, eD⟩
      refine ⟨rfl, yesT ?_⟩
      refine ⟨_, rfl, b, _, rfl, B7, by omega, fun H8 B8 k8 => ?_⟩
      refine ⟨_, k8 _ _ eD nDb, ?_, fun x u e n => ?_, BoxAt.mono (B8.at (upd_ne nDb.symm)) (by omega), ?_⟩
      · rw [List.length_replicate]
        exact small1000 (by omega)
      · rw [upd_ne (ne_of_none e nD)]
        exact k8 _ _ (k7 _ _ e n) n
      · rw [upd_same, repl_snoc]
    · rintro H7 ⟨k7, B7, eD⟩
      refine ⟨D, List.replicate 4 true, rfl, .inl (.inl (by rw [List.map_replicate]; exact eD)), _, rfl, ?_⟩
      refine iteF ?_
      exact ⟨_, _, rfl, fun x u e => k7 _ _ (s6 _ _ (s5 _ _ e)) (ne_of_none (s5 _ _ e) nb)⟩
  · rintro σ H5 ⟨y2, y3, rfl, s5⟩
    exact q _
end
theorem all_mk {l : PySem.W.OpenLaw} {w : World} {K : PySem.W.Frag} {h : Heap} {mg : Str → Option Value} {fa f1 f2 f3 f4 f5 f6 f7 f8 f9 f10 f11 f12 f13 f14 f15 f16 f17 f18 f19 f20 f21 f22 f23 f24 f25 f26 f27 f28 f29 f30 f31 f32 f33 f34 f35 f36 f37 f38 f39 f40 f41 f42 f43 f44 f45 f46 f47 f48 f49 f50 f51 f52 f53 f54 f55 f56 f57 f58 f59 f60 f61 f62 f63 f64 f65 f66 f67 f68 C : Addr} (X : K.In h) (G : h.Ns mainGlobals mg) (hfa : mg "law" = some (.ref fa))
    {od1 an1 od2 an2 od3 an3 od4 an4 od5 an5 od6 an6 od7 an7 od8 an8 od9 an9 od10 an10 od11 an11 od12 an12 od13 an13 od14 an14 od15 an15 od16 an16 od17 an17 od18 an18 od19 an19 od20 an20 od21 an21 od22 an22 od23 an23 od24 an24 od25 an25 od26 an26 od27 an27 od28 an28 od29 an29 od30 an30 od31 an31 od32 an32 od33 an33 od34 an34 od35 an35 od36 an36 od37 an37 od38 an38 od39 an39 od40 an40 od41 an41 od42 an42 od43 an43 od44 an44 od45 an45 od46 an46 od47 an47 od48 an48 od49 an49 od50 an50 od51 an51 od52 an52 od53 an53 od54 an54 od55 an55 od56 an56 od57 an57 od58 an58 od59 an59 od60 an60 od61 an61 od62 an62 od63 an63 od64 an64 od65 an65 od66 an66 od67 an67 od68 an68 : Option Addr} {sl1 sl2 sl3 sl4 sl5 sl6 sl7 sl8 sl9 sl10 sl11 sl12 sl13 sl14 sl15 sl16 sl17 sl18 sl19 sl20 sl21 sl22 sl23 sl24 sl25 sl26 sl27 sl28 sl29 sl30 sl31 sl32 sl33 sl34 sl35 sl36 sl37 sl38 sl39 sl40 sl41 sl42 sl43 sl44 sl45 sl46 sl47 sl48 sl49 sl50 sl51 sl52 sl53 sl54 sl55 sl56 sl57 sl58 sl59 sl60 sl61 sl62 sl63 sl64 sl65 sl66 sl67 sl68 : Array (Option Value)} {oc1 kV1 dc1 pm1 cd1 ct1 oc2 kV2 dc2 pm2 cd2 ct2 oc3 kV3 dc3 pm3 cd3 ct3 oc4 dc4 pm4 cd4 ct4 oc5 kV5 dc5 pm5 cd5 ct5 oc6 kV6 dc6 pm6 cd6 ct6 oc7 kV7 dc7 pm7 cd7 ct7 oc8 kV8 dc8 pm8 cd8 ct8 oc9 kV9 dc9 pm9 cd9 ct9 oc10 dc10 pm10 cd10 ct10 oc11 dc11 pm11 cd11 ct11 oc12 dc12 pm12 cd12 ct12 oc13 dc13 pm13 cd13 ct13 oc14 dc14 pm14 cd14 ct14 oc15 kV15 dc15 pm15 cd15 ct15 oc16 kV16 dc16 pm16 cd16 ct16 oc17 kV17 dc17 pm17 cd17 ct17 oc18 kV18 dc18 pm18 cd18 ct18 oc19 kV19 dc19 pm19 cd19 ct19 oc20 kV20 dc20 pm20 cd20 ct20 oc21 kV21 dc21 pm21 cd21 ct21 oc22 kV22 dc22 pm22 cd22 ct22 oc23 kV23 dc23 pm23 cd23 ct23 oc24 kV24 dc24 pm24 cd24 ct24 oc25 kV25 dc25 pm25 cd25 ct25 oc26 dc26 pm26 cd26 ct26 oc27 kV27 dc27 pm27 cd27 ct27 oc28 kV28 dc28 pm28 cd28 ct28 oc29 kV29 dc29 pm29 cd29 ct29 oc30 kV30 dc30 pm30 cd30 ct30 oc31 kV31 dc31 pm31 cd31 ct31 oc32 kV32 dc32 pm32 cd32 ct32 oc33 kV33 dc33 pm33 cd33 ct33 oc34 kV34 dc34 pm34 cd34 ct34 oc35 kV35 dc35 pm35 cd35 ct35 oc36 kV36 dc36 pm36 cd36 ct36 oc37 dc37 pm37 cd37 ct37 oc38 kV38 dc38 pm38 cd38 ct38 oc39 kV39 dc39 pm39 cd39 ct39 oc40 kV40 dc40 pm40 cd40 ct40 oc41 kV41 dc41 pm41 cd41 ct41 oc42 kV42 dc42 pm42 cd42 ct42 oc43 kV43 dc43 pm43 cd43 ct43 oc44 kV44 dc44 pm44 cd44 ct44 oc45 kV45 dc45 pm45 cd45 ct45 oc46 kV46 dc46 pm46 cd46 ct46 oc47 kV47 dc47 pm47 cd47 ct47 oc48 kV48 dc48 pm48 cd48 ct48 oc49 kV49 dc49 pm49 cd49 ct49 oc50 kV50 dc50 pm50 cd50 ct50 oc51 kV51 dc51 pm51 cd51 ct51 oc52 kV52 dc52 pm52 cd52 ct52 oc53 kV53 dc53 pm53 cd53 ct53 oc54 kV54 dc54 pm54 cd54 ct54 oc55 kV55 dc55 pm55 cd55 ct55 oc56 kV56 dc56 pm56 cd56 ct56 oc57 kV57 dc57 pm57 cd57 ct57 oc58 kV58 dc58 pm58 cd58 ct58 oc59 kV59 dc59 pm59 cd59 ct59 oc60 kV60 dc60 pm60 cd60 ct60 oc61 kV61 dc61 pm61 cd61 ct61 oc62 kV62 dc62 pm62 cd62 ct62 oc63 kV63 dc63 pm63 cd63 ct63 oc64 kV64 dc64 pm64 cd64 ct64 oc65 kV65 dc65 pm65 cd65 ct65 oc66 kV66 dc66 pm66 cd66 ct66 oc67 kV67 dc67 pm67 cd67 ct67 oc68 kV68 dc68 pm68 cd68 ct68 oT63 oT64 oT65 : Value}
    {vT63 vT64 vT65 : Tok}
    {T63 T64 T65 : Addr} {dT63 dT64 dT65 : Option Addr} {nT63 nT64 nT65 : Nat} {sT63 sT64 sT65 : Array (Option Value)}
    {dO : Addr} {esO : Array DictEntry} {nO : Nat} {tgNEAR tgCUT tgUP tgDOWN : Tok}
    {Dk4 : Addr} {tk4_0 : Tok}
    {Dk10 : Addr} {tk10_0 : Tok}
    {Dk11 : Addr} {tk11_0 : Tok}
    {Dk12 : Addr} {tk12_0 : Tok}
    {Dk13 : Addr} {tk13_0 : Tok}
    {Dk14 : Addr} {tk14_0 : Tok}
    {Dk26 : Addr} {tk26_0 : Tok}
    {Dk37 : Addr} {tk37_0 : Tok}
    (a1 : PySem.W.nsIn K mainGlobals "cut_off" = some (some (.ref f1))) (l1 : K.lookup f1 = some ⟨oc1, od1, .func (PySem.W.fnOf "cut_off" "cut_off" (defArgs s_cut_off) (defBody s_cut_off) (defScope s_cut_off) .none kV1 dc1 pm1 an1 cd1 ct1), sl1⟩) (c1 : PySem.W.codeIn K cd1 "cut_off" = true) (k1 : PySem.W.keepIn K (.ref f1) = true)
    (a2 : PySem.W.nsIn K mainGlobals "last_power" = some (some (.ref f2))) (l2 : K.lookup f2 = some ⟨oc2, od2, .func (PySem.W.fnOf "last_power" "last_power" (defArgs s_last_power) (defBody s_last_power) (defScope s_last_power) .none kV2 dc2 pm2 an2 cd2 ct2), sl2⟩) (c2 : PySem.W.codeIn K cd2 "last_power" = true) (k2 : PySem.W.keepIn K (.ref f2) = true)
    (a3 : PySem.W.nsIn K mainGlobals "least_power" = some (some (.ref f3))) (l3 : K.lookup f3 = some ⟨oc3, od3, .func (PySem.W.fnOf "least_power" "least_power" (defArgs s_least_power) (defBody s_least_power) (defScope s_least_power) .none kV3 dc3 pm3 an3 cd3 ct3), sl3⟩) (c3 : PySem.W.codeIn K cd3 "least_power" = true) (k3 : PySem.W.keepIn K (.ref f3) = true)
    (a4 : PySem.W.nsIn K mainGlobals "rounded" = some (some (.ref f4))) (l4 : K.lookup f4 = some ⟨oc4, od4, .func (PySem.W.fnOf "rounded" "rounded" (defArgs s_rounded) (defBody s_rounded) (defScope s_rounded) .none (.ref Dk4) dc4 pm4 an4 cd4 ct4), sl4⟩) (c4 : PySem.W.codeIn K cd4 "rounded" = true) (k4 : PySem.W.keepIn K (.ref f4) = true)
    (w4_0 : PySem.W.nsIn K Dk4 "way" = some (some (.str "near" tk4_0)))
    (w4_1 : PySem.W.nsIn K Dk4 "more" = some (some (.bool false)))
    (a5 : PySem.W.nsIn K mainGlobals "parted" = some (some (.ref f5))) (l5 : K.lookup f5 = some ⟨oc5, od5, .func (PySem.W.fnOf "parted" "parted" (defArgs s_parted) (defBody s_parted) (defScope s_parted) .none kV5 dc5 pm5 an5 cd5 ct5), sl5⟩) (c5 : PySem.W.codeIn K cd5 "parted" = true) (k5 : PySem.W.keepIn K (.ref f5) = true)
    (a6 : PySem.W.nsIn K mainGlobals "goes_up" = some (some (.ref f6))) (l6 : K.lookup f6 = some ⟨oc6, od6, .func (PySem.W.fnOf "goes_up" "goes_up" (defArgs s_goes_up) (defBody s_goes_up) (defScope s_goes_up) .none kV6 dc6 pm6 an6 cd6 ct6), sl6⟩) (c6 : PySem.W.codeIn K cd6 "goes_up" = true) (k6 : PySem.W.keepIn K (.ref f6) = true)
    (a7 : PySem.W.nsIn K mainGlobals "goes_away" = some (some (.ref f7))) (l7 : K.lookup f7 = some ⟨oc7, od7, .func (PySem.W.fnOf "goes_away" "goes_away" (defArgs s_goes_away) (defBody s_goes_away) (defScope s_goes_away) .none kV7 dc7 pm7 an7 cd7 ct7), sl7⟩) (c7 : PySem.W.codeIn K cd7 "goes_away" = true) (k7 : PySem.W.keepIn K (.ref f7) = true)
    (a8 : PySem.W.nsIn K mainGlobals "word_beyond" = some (some (.ref f8))) (l8 : K.lookup f8 = some ⟨oc8, od8, .func (PySem.W.fnOf "word_beyond" "word_beyond" (defArgs s_word_beyond) (defBody s_word_beyond) (defScope s_word_beyond) .none kV8 dc8 pm8 an8 cd8 ct8), sl8⟩) (c8 : PySem.W.codeIn K cd8 "word_beyond" = true) (k8 : PySem.W.keepIn K (.ref f8) = true)
    (a9 : PySem.W.nsIn K mainGlobals "flags_of_rest" = some (some (.ref f9))) (l9 : K.lookup f9 = some ⟨oc9, od9, .func (PySem.W.fnOf "flags_of_rest" "flags_of_rest" (defArgs s_flags_of_rest) (defBody s_flags_of_rest) (defScope s_flags_of_rest) .none kV9 dc9 pm9 an9 cd9 ct9), sl9⟩) (c9 : PySem.W.codeIn K cd9 "flags_of_rest" = true) (k9 : PySem.W.keepIn K (.ref f9) = true)
    (a10 : PySem.W.nsIn K mainGlobals "added" = some (some (.ref f10))) (l10 : K.lookup f10 = some ⟨oc10, od10, .func (PySem.W.fnOf "added" "added" (defArgs s_added) (defBody s_added) (defScope s_added) .none (.ref Dk10) dc10 pm10 an10 cd10 ct10), sl10⟩) (c10 : PySem.W.codeIn K cd10 "added" = true) (k10 : PySem.W.keepIn K (.ref f10) = true)
    (w10_0 : PySem.W.nsIn K Dk10 "way" = some (some (.str "near" tk10_0)))
    (a11 : PySem.W.nsIn K mainGlobals "taken" = some (some (.ref f11))) (l11 : K.lookup f11 = some ⟨oc11, od11, .func (PySem.W.fnOf "taken" "taken" (defArgs s_taken) (defBody s_taken) (defScope s_taken) .none (.ref Dk11) dc11 pm11 an11 cd11 ct11), sl11⟩) (c11 : PySem.W.codeIn K cd11 "taken" = true) (k11 : PySem.W.keepIn K (.ref f11) = true)
    (w11_0 : PySem.W.nsIn K Dk11 "way" = some (some (.str "near" tk11_0)))
    (a12 : PySem.W.nsIn K mainGlobals "multiplied" = some (some (.ref f12))) (l12 : K.lookup f12 = some ⟨oc12, od12, .func (PySem.W.fnOf "multiplied" "multiplied" (defArgs s_multiplied) (defBody s_multiplied) (defScope s_multiplied) .none (.ref Dk12) dc12 pm12 an12 cd12 ct12), sl12⟩) (c12 : PySem.W.codeIn K cd12 "multiplied" = true) (k12 : PySem.W.keepIn K (.ref f12) = true)
    (w12_0 : PySem.W.nsIn K Dk12 "way" = some (some (.str "near" tk12_0)))
    (a13 : PySem.W.nsIn K mainGlobals "divided" = some (some (.ref f13))) (l13 : K.lookup f13 = some ⟨oc13, od13, .func (PySem.W.fnOf "divided" "divided" (defArgs s_divided) (defBody s_divided) (defScope s_divided) .none (.ref Dk13) dc13 pm13 an13 cd13 ct13), sl13⟩) (c13 : PySem.W.codeIn K cd13 "divided" = true) (k13 : PySem.W.keepIn K (.ref f13) = true)
    (w13_0 : PySem.W.nsIn K Dk13 "way" = some (some (.str "near" tk13_0)))
    (a14 : PySem.W.nsIn K mainGlobals "joined" = some (some (.ref f14))) (l14 : K.lookup f14 = some ⟨oc14, od14, .func (PySem.W.fnOf "joined" "joined" (defArgs s_joined) (defBody s_joined) (defScope s_joined) .none (.ref Dk14) dc14 pm14 an14 cd14 ct14), sl14⟩) (c14 : PySem.W.codeIn K cd14 "joined" = true) (k14 : PySem.W.keepIn K (.ref f14) = true)
    (w14_0 : PySem.W.nsIn K Dk14 "way" = some (some (.str "near" tk14_0)))
    (a15 : PySem.W.nsIn K mainGlobals "has_none" = some (some (.ref f15))) (l15 : K.lookup f15 = some ⟨oc15, od15, .func (PySem.W.fnOf "has_none" "has_none" (defArgs s_has_none) (defBody s_has_none) (defScope s_has_none) .none kV15 dc15 pm15 an15 cd15 ct15), sl15⟩) (c15 : PySem.W.codeIn K cd15 "has_none" = true) (k15 : PySem.W.keepIn K (.ref f15) = true)
    (a16 : PySem.W.nsIn K mainGlobals "bad" = some (some (.ref f16))) (l16 : K.lookup f16 = some ⟨oc16, od16, .func (PySem.W.fnOf "bad" "bad" (defArgs s_bad) (defBody s_bad) (defScope s_bad) .none kV16 dc16 pm16 an16 cd16 ct16), sl16⟩) (c16 : PySem.W.codeIn K cd16 "bad" = true) (k16 : PySem.W.keepIn K (.ref f16) = true)
    (a17 : PySem.W.nsIn K mainGlobals "is_endless_by_nought" = some (some (.ref f17))) (l17 : K.lookup f17 = some ⟨oc17, od17, .func (PySem.W.fnOf "is_endless_by_nought" "is_endless_by_nought" (defArgs s_is_endless_by_nought) (defBody s_is_endless_by_nought) (defScope s_is_endless_by_nought) .none kV17 dc17 pm17 an17 cd17 ct17), sl17⟩) (c17 : PySem.W.codeIn K cd17 "is_endless_by_nought" = true) (k17 : PySem.W.keepIn K (.ref f17) = true)
    (a18 : PySem.W.nsIn K mainGlobals "sign_of" = some (some (.ref f18))) (l18 : K.lookup f18 = some ⟨oc18, od18, .func (PySem.W.fnOf "sign_of" "sign_of" (defArgs s_sign_of) (defBody s_sign_of) (defScope s_sign_of) .none kV18 dc18 pm18 an18 cd18 ct18), sl18⟩) (c18 : PySem.W.codeIn K cd18 "sign_of" = true) (k18 : PySem.W.keepIn K (.ref f18) = true)
    (a19 : PySem.W.nsIn K mainGlobals "unlike_sign" = some (some (.ref f19))) (l19 : K.lookup f19 = some ⟨oc19, od19, .func (PySem.W.fnOf "unlike_sign" "unlike_sign" (defArgs s_unlike_sign) (defBody s_unlike_sign) (defScope s_unlike_sign) .none kV19 dc19 pm19 an19 cd19 ct19), sl19⟩) (c19 : PySem.W.codeIn K cd19 "unlike_sign" = true) (k19 : PySem.W.keepIn K (.ref f19) = true)
    (a20 : PySem.W.nsIn K mainGlobals "term_of" = some (some (.ref f20))) (l20 : K.lookup f20 = some ⟨oc20, od20, .func (PySem.W.fnOf "term_of" "term_of" (defArgs s_term_of) (defBody s_term_of) (defScope s_term_of) .none kV20 dc20 pm20 an20 cd20 ct20), sl20⟩) (c20 : PySem.W.codeIn K cd20 "term_of" = true) (k20 : PySem.W.keepIn K (.ref f20) = true)
    (a21 : PySem.W.nsIn K mainGlobals "product_of" = some (some (.ref f21))) (l21 : K.lookup f21 = some ⟨oc21, od21, .func (PySem.W.fnOf "product_of" "product_of" (defArgs s_product_of) (defBody s_product_of) (defScope s_product_of) .none kV21 dc21 pm21 an21 cd21 ct21), sl21⟩) (c21 : PySem.W.codeIn K cd21 "product_of" = true) (k21 : PySem.W.keepIn K (.ref f21) = true)
    (a22 : PySem.W.nsIn K mainGlobals "terms_added" = some (some (.ref f22))) (l22 : K.lookup f22 = some ⟨oc22, od22, .func (PySem.W.fnOf "terms_added" "terms_added" (defArgs s_terms_added) (defBody s_terms_added) (defScope s_terms_added) .none kV22 dc22 pm22 an22 cd22 ct22), sl22⟩) (c22 : PySem.W.codeIn K cd22 "terms_added" = true) (k22 : PySem.W.keepIn K (.ref f22) = true)
    (a23 : PySem.W.nsIn K mainGlobals "nought_sign" = some (some (.ref f23))) (l23 : K.lookup f23 = some ⟨oc23, od23, .func (PySem.W.fnOf "nought_sign" "nought_sign" (defArgs s_nought_sign) (defBody s_nought_sign) (defScope s_nought_sign) .none kV23 dc23 pm23 an23 cd23 ct23), sl23⟩) (c23 : PySem.W.codeIn K cd23 "nought_sign" = true) (k23 : PySem.W.keepIn K (.ref f23) = true)
    (a24 : PySem.W.nsIn K mainGlobals "worths_added" = some (some (.ref f24))) (l24 : K.lookup f24 = some ⟨oc24, od24, .func (PySem.W.fnOf "worths_added" "worths_added" (defArgs s_worths_added) (defBody s_worths_added) (defScope s_worths_added) .none kV24 dc24 pm24 an24 cd24 ct24), sl24⟩) (c24 : PySem.W.codeIn K cd24 "worths_added" = true) (k24 : PySem.W.keepIn K (.ref f24) = true)
    (a25 : PySem.W.nsIn K mainGlobals "quotient_rounded" = some (some (.ref f25))) (l25 : K.lookup f25 = some ⟨oc25, od25, .func (PySem.W.fnOf "quotient_rounded" "quotient_rounded" (defArgs s_quotient_rounded) (defBody s_quotient_rounded) (defScope s_quotient_rounded) .none kV25 dc25 pm25 an25 cd25 ct25), sl25⟩) (c25 : PySem.W.codeIn K cd25 "quotient_rounded" = true) (k25 : PySem.W.keepIn K (.ref f25) = true)
    (a26 : PySem.W.nsIn K mainGlobals "done" = some (some (.ref f26))) (l26 : K.lookup f26 = some ⟨oc26, od26, .func (PySem.W.fnOf "done" "done" (defArgs s_done) (defBody s_done) (defScope s_done) .none (.ref Dk26) dc26 pm26 an26 cd26 ct26), sl26⟩) (c26 : PySem.W.codeIn K cd26 "done" = true) (k26 : PySem.W.keepIn K (.ref f26) = true)
    (w26_0 : PySem.W.nsIn K Dk26 "way" = some (some (.str "near" tk26_0)))
    (a27 : PySem.W.nsIn K mainGlobals "have_heads" = some (some (.ref f27))) (l27 : K.lookup f27 = some ⟨oc27, od27, .func (PySem.W.fnOf "have_heads" "have_heads" (defArgs s_have_heads) (defBody s_have_heads) (defScope s_have_heads) .none kV27 dc27 pm27 an27 cd27 ct27), sl27⟩) (c27 : PySem.W.codeIn K cd27 "have_heads" = true) (k27 : PySem.W.keepIn K (.ref f27) = true)
    (a28 : PySem.W.nsIn K mainGlobals "head_of" = some (some (.ref f28))) (l28 : K.lookup f28 = some ⟨oc28, od28, .func (PySem.W.fnOf "head_of" "head_of" (defArgs s_head_of) (defBody s_head_of) (defScope s_head_of) .none kV28 dc28 pm28 an28 cd28 ct28), sl28⟩) (c28 : PySem.W.codeIn K cd28 "head_of" = true) (k28 : PySem.W.keepIn K (.ref f28) = true)
    (a29 : PySem.W.nsIn K mainGlobals "plain_step" = some (some (.ref f29))) (l29 : K.lookup f29 = some ⟨oc29, od29, .func (PySem.W.fnOf "plain_step" "plain_step" (defArgs s_plain_step) (defBody s_plain_step) (defScope s_plain_step) .none kV29 dc29 pm29 an29 cd29 ct29), sl29⟩) (c29 : PySem.W.codeIn K cd29 "plain_step" = true) (k29 : PySem.W.keepIn K (.ref f29) = true)
    (a30 : PySem.W.nsIn K mainGlobals "round_step" = some (some (.ref f30))) (l30 : K.lookup f30 = some ⟨oc30, od30, .func (PySem.W.fnOf "round_step" "round_step" (defArgs s_round_step) (defBody s_round_step) (defScope s_round_step) .none kV30 dc30 pm30 an30 cd30 ct30), sl30⟩) (c30 : PySem.W.codeIn K cd30 "round_step" = true) (k30 : PySem.W.keepIn K (.ref f30) = true)
    (a31 : PySem.W.nsIn K mainGlobals "fours_of" = some (some (.ref f31))) (l31 : K.lookup f31 = some ⟨oc31, od31, .func (PySem.W.fnOf "fours_of" "fours_of" (defArgs s_fours_of) (defBody s_fours_of) (defScope s_fours_of) .none kV31 dc31 pm31 an31 cd31 ct31), sl31⟩) (c31 : PySem.W.codeIn K cd31 "fours_of" = true) (k31 : PySem.W.keepIn K (.ref f31) = true)
    (a32 : PySem.W.nsIn K mainGlobals "four_of" = some (some (.ref f32))) (l32 : K.lookup f32 = some ⟨oc32, od32, .func (PySem.W.fnOf "four_of" "four_of" (defArgs s_four_of) (defBody s_four_of) (defScope s_four_of) .none kV32 dc32 pm32 an32 cd32 ct32), sl32⟩) (c32 : PySem.W.codeIn K cd32 "four_of" = true) (k32 : PySem.W.keepIn K (.ref f32) = true)
    (a33 : PySem.W.nsIn K mainGlobals "rows_of" = some (some (.ref f33))) (l33 : K.lookup f33 = some ⟨oc33, od33, .func (PySem.W.fnOf "rows_of" "rows_of" (defArgs s_rows_of) (defBody s_rows_of) (defScope s_rows_of) .none kV33 dc33 pm33 an33 cd33 ct33), sl33⟩) (c33 : PySem.W.codeIn K cd33 "rows_of" = true) (k33 : PySem.W.keepIn K (.ref f33) = true)
    (a34 : PySem.W.nsIn K mainGlobals "saved" = some (some (.ref f34))) (l34 : K.lookup f34 = some ⟨oc34, od34, .func (PySem.W.fnOf "saved" "saved" (defArgs s_saved) (defBody s_saved) (defScope s_saved) .none kV34 dc34 pm34 an34 cd34 ct34), sl34⟩) (c34 : PySem.W.codeIn K cd34 "saved" = true) (k34 : PySem.W.keepIn K (.ref f34) = true)
    (a35 : PySem.W.nsIn K mainGlobals "levels_of" = some (some (.ref f35))) (l35 : K.lookup f35 = some ⟨oc35, od35, .func (PySem.W.fnOf "levels_of" "levels_of" (defArgs s_levels_of) (defBody s_levels_of) (defScope s_levels_of) .none kV35 dc35 pm35 an35 cd35 ct35), sl35⟩) (c35 : PySem.W.codeIn K cd35 "levels_of" = true) (k35 : PySem.W.keepIn K (.ref f35) = true)
    (a36 : PySem.W.nsIn K mainGlobals "level_behind" = some (some (.ref f36))) (l36 : K.lookup f36 = some ⟨oc36, od36, .func (PySem.W.fnOf "level_behind" "level_behind" (defArgs s_level_behind) (defBody s_level_behind) (defScope s_level_behind) .none kV36 dc36 pm36 an36 cd36 ct36), sl36⟩) (c36 : PySem.W.codeIn K cd36 "level_behind" = true) (k36 : PySem.W.keepIn K (.ref f36) = true)
    (a37 : PySem.W.nsIn K mainGlobals "times_steps" = some (some (.ref f37))) (l37 : K.lookup f37 = some ⟨oc37, od37, .func (PySem.W.fnOf "times_steps" "times_steps" (defArgs s_times_steps) (defBody s_times_steps) (defScope s_times_steps) .none (.ref Dk37) dc37 pm37 an37 cd37 ct37), sl37⟩) (c37 : PySem.W.codeIn K cd37 "times_steps" = true) (k37 : PySem.W.keepIn K (.ref f37) = true)
    (w37_0 : PySem.W.nsIn K Dk37 "way" = some (some (.str "near" tk37_0)))
    (a38 : PySem.W.nsIn K mainGlobals "is_number" = some (some (.ref f38))) (l38 : K.lookup f38 = some ⟨oc38, od38, .func (PySem.W.fnOf "is_number" "is_number" (defArgs s_is_number) (defBody s_is_number) (defScope s_is_number) .none kV38 dc38 pm38 an38 cd38 ct38), sl38⟩) (c38 : PySem.W.codeIn K cd38 "is_number" = true) (k38 : PySem.W.keepIn K (.ref f38) = true)
    (a39 : PySem.W.nsIn K mainGlobals "is_number_in" = some (some (.ref f39))) (l39 : K.lookup f39 = some ⟨oc39, od39, .func (PySem.W.fnOf "is_number_in" "is_number_in" (defArgs s_is_number_in) (defBody s_is_number_in) (defScope s_is_number_in) .none kV39 dc39 pm39 an39 cd39 ct39), sl39⟩) (c39 : PySem.W.codeIn K cd39 "is_number_in" = true) (k39 : PySem.W.keepIn K (.ref f39) = true)
    (a40 : PySem.W.nsIn K mainGlobals "_law_box" = some (some (.ref f40))) (l40 : K.lookup f40 = some ⟨oc40, od40, .func (PySem.W.fnOf "_law_box" "_law_box" (defArgs sBox) (defBody sBox) (defScope sBox) .none kV40 dc40 pm40 an40 cd40 ct40), sl40⟩) (c40 : PySem.W.codeIn K cd40 "_law_box" = true) (k40 : PySem.W.keepIn K (.ref f40) = true)
    (a41 : PySem.W.nsIn K mainGlobals "_law_take" = some (some (.ref f41))) (l41 : K.lookup f41 = some ⟨oc41, od41, .func (PySem.W.fnOf "_law_take" "_law_take" (defArgs sTake) (defBody sTake) (defScope sTake) .none kV41 dc41 pm41 an41 cd41 ct41), sl41⟩) (c41 : PySem.W.codeIn K cd41 "_law_take" = true) (k41 : PySem.W.keepIn K (.ref f41) = true)
    (a42 : PySem.W.nsIn K mainGlobals "_law_folded" = some (some (.ref f42))) (l42 : K.lookup f42 = some ⟨oc42, od42, .func (PySem.W.fnOf "_law_folded" "_law_folded" (defArgs sFolded) (defBody sFolded) (defScope sFolded) .none kV42 dc42 pm42 an42 cd42 ct42), sl42⟩) (c42 : PySem.W.codeIn K cd42 "_law_folded" = true) (k42 : PySem.W.keepIn K (.ref f42) = true)
    (a43 : PySem.W.nsIn K mainGlobals "_law_same" = some (some (.ref f43))) (l43 : K.lookup f43 = some ⟨oc43, od43, .func (PySem.W.fnOf "_law_same" "_law_same" (defArgs sSame) (defBody sSame) (defScope sSame) .none kV43 dc43 pm43 an43 cd43 ct43), sl43⟩) (c43 : PySem.W.codeIn K cd43 "_law_same" = true) (k43 : PySem.W.keepIn K (.ref f43) = true)
    (a44 : PySem.W.nsIn K mainGlobals "_law_form" = some (some (.ref f44))) (l44 : K.lookup f44 = some ⟨oc44, od44, .func (PySem.W.fnOf "_law_form" "_law_form" (defArgs s__law_form) (defBody s__law_form) (defScope s__law_form) .none kV44 dc44 pm44 an44 cd44 ct44), sl44⟩) (c44 : PySem.W.codeIn K cd44 "_law_form" = true) (k44 : PySem.W.keepIn K (.ref f44) = true)
    (a45 : PySem.W.nsIn K mainGlobals "_law_word" = some (some (.ref f45))) (l45 : K.lookup f45 = some ⟨oc45, od45, .func (PySem.W.fnOf "_law_word" "_law_word" (defArgs s__law_word) (defBody s__law_word) (defScope s__law_word) .none kV45 dc45 pm45 an45 cd45 ct45), sl45⟩) (c45 : PySem.W.codeIn K cd45 "_law_word" = true) (k45 : PySem.W.keepIn K (.ref f45) = true)
    (a46 : PySem.W.nsIn K mainGlobals "_law_sort" = some (some (.ref f46))) (l46 : K.lookup f46 = some ⟨oc46, od46, .func (PySem.W.fnOf "_law_sort" "_law_sort" (defArgs s__law_sort) (defBody s__law_sort) (defScope s__law_sort) .none kV46 dc46 pm46 an46 cd46 ct46), sl46⟩) (c46 : PySem.W.codeIn K cd46 "_law_sort" = true) (k46 : PySem.W.keepIn K (.ref f46) = true)
    (a47 : PySem.W.nsIn K mainGlobals "_law_size_of" = some (some (.ref f47))) (l47 : K.lookup f47 = some ⟨oc47, od47, .func (PySem.W.fnOf "_law_size_of" "_law_size_of" (defArgs s__law_size_of) (defBody s__law_size_of) (defScope s__law_size_of) .none kV47 dc47 pm47 an47 cd47 ct47), sl47⟩) (c47 : PySem.W.codeIn K cd47 "_law_size_of" = true) (k47 : PySem.W.keepIn K (.ref f47) = true)
    (a48 : PySem.W.nsIn K mainGlobals "_law_less" = some (some (.ref f48))) (l48 : K.lookup f48 = some ⟨oc48, od48, .func (PySem.W.fnOf "_law_less" "_law_less" (defArgs s__law_less) (defBody s__law_less) (defScope s__law_less) .none kV48 dc48 pm48 an48 cd48 ct48), sl48⟩) (c48 : PySem.W.codeIn K cd48 "_law_less" = true) (k48 : PySem.W.keepIn K (.ref f48) = true)
    (a49 : PySem.W.nsIn K mainGlobals "_law_rounded" = some (some (.ref f49))) (l49 : K.lookup f49 = some ⟨oc49, od49, .func (PySem.W.fnOf "_law_rounded" "_law_rounded" (defArgs s__law_rounded) (defBody s__law_rounded) (defScope s__law_rounded) .none kV49 dc49 pm49 an49 cd49 ct49), sl49⟩) (c49 : PySem.W.codeIn K cd49 "_law_rounded" = true) (k49 : PySem.W.keepIn K (.ref f49) = true)
    (a50 : PySem.W.nsIn K mainGlobals "_law_head" = some (some (.ref f50))) (l50 : K.lookup f50 = some ⟨oc50, od50, .func (PySem.W.fnOf "_law_head" "_law_head" (defArgs s__law_head) (defBody s__law_head) (defScope s__law_head) .none kV50 dc50 pm50 an50 cd50 ct50), sl50⟩) (c50 : PySem.W.codeIn K cd50 "_law_head" = true) (k50 : PySem.W.keepIn K (.ref f50) = true)
    (a51 : PySem.W.nsIn K mainGlobals "_law_fours" = some (some (.ref f51))) (l51 : K.lookup f51 = some ⟨oc51, od51, .func (PySem.W.fnOf "_law_fours" "_law_fours" (defArgs s__law_fours) (defBody s__law_fours) (defScope s__law_fours) .none kV51 dc51 pm51 an51 cd51 ct51), sl51⟩) (c51 : PySem.W.codeIn K cd51 "_law_fours" = true) (k51 : PySem.W.keepIn K (.ref f51) = true)
    (a52 : PySem.W.nsIn K mainGlobals "_law_last_level" = some (some (.ref f52))) (l52 : K.lookup f52 = some ⟨oc52, od52, .func (PySem.W.fnOf "_law_last_level" "_law_last_level" (defArgs s__law_last_level) (defBody s__law_last_level) (defScope s__law_last_level) .none kV52 dc52 pm52 an52 cd52 ct52), sl52⟩) (c52 : PySem.W.codeIn K cd52 "_law_last_level" = true) (k52 : PySem.W.keepIn K (.ref f52) = true)
    (a53 : PySem.W.nsIn K mainGlobals "_law_times_due" = some (some (.ref f53))) (l53 : K.lookup f53 = some ⟨oc53, od53, .func (PySem.W.fnOf "_law_times_due" "_law_times_due" (defArgs s__law_times_due) (defBody s__law_times_due) (defScope s__law_times_due) .none kV53 dc53 pm53 an53 cd53 ct53), sl53⟩) (c53 : PySem.W.codeIn K cd53 "_law_times_due" = true) (k53 : PySem.W.keepIn K (.ref f53) = true)
    (a54 : PySem.W.nsIn K mainGlobals "_law_told_times" = some (some (.ref f54))) (l54 : K.lookup f54 = some ⟨oc54, od54, .func (PySem.W.fnOf "_law_told_times" "_law_told_times" (defArgs s__law_told_times) (defBody s__law_told_times) (defScope s__law_told_times) .none kV54 dc54 pm54 an54 cd54 ct54), sl54⟩) (c54 : PySem.W.codeIn K cd54 "_law_told_times" = true) (k54 : PySem.W.keepIn K (.ref f54) = true)
    (a55 : PySem.W.nsIn K mainGlobals "_law_right" = some (some (.ref f55))) (l55 : K.lookup f55 = some ⟨oc55, od55, .func (PySem.W.fnOf "_law_right" "_law_right" (defArgs s__law_right) (defBody s__law_right) (defScope s__law_right) .none kV55 dc55 pm55 an55 cd55 ct55), sl55⟩) (c55 : PySem.W.codeIn K cd55 "_law_right" = true) (k55 : PySem.W.keepIn K (.ref f55) = true)
    (a56 : PySem.W.nsIn K mainGlobals "law" = some (some (.ref f56))) (l56 : K.lookup f56 = some ⟨oc56, od56, .func (PySem.W.fnOf "law" "law" (defArgs s_law) (defBody s_law) (defScope s_law) .none kV56 dc56 pm56 an56 cd56 ct56), sl56⟩) (c56 : PySem.W.codeIn K cd56 "law" = true) (k56 : PySem.W.keepIn K (.ref f56) = true)
    (aC : PySem.W.nsIn K mainGlobals "Form" = some (some (.ref C)))
    (pgC : PySem.W.plainGet K C Str.empty = true) (hdC : PySem.W.hasDictIn K C = true) (poC : PySem.W.plainOver K C = true) (saC : PySem.W.findIn K (.ref C) "__setattr__" = some (some (.builtin "object.__setattr__"))) (mkC : PySem.W.makesIn K C = true) (kcC : PySem.W.keepIn K (.ref C) = true)
    (naC0 : PySem.W.findIn K (.ref C) "scale" = some none)
    (naC1 : PySem.W.findIn K (.ref C) "tail" = some none)
    (a57 : PySem.W.findIn K (.ref C) "__init__" = some (some (.ref f57))) (i57 : PySem.W.isFn K (.ref f57) = true) (l57 : K.lookup f57 = some ⟨oc57, od57, .func (PySem.W.fnOf "__init__" "Form.__init__" (defArgs s_Form___init__) (defBody s_Form___init__) (defScope s_Form___init__) .none kV57 dc57 pm57 an57 cd57 ct57), sl57⟩) (c57 : PySem.W.codeIn K cd57 "Form.__init__" = true) (k57 : PySem.W.keepIn K (.ref f57) = true)
    (a58 : PySem.W.findIn K (.ref C) "bias" = some (some (.ref f58))) (i58 : PySem.W.isFn K (.ref f58) = true) (l58 : K.lookup f58 = some ⟨oc58, od58, .func (PySem.W.fnOf "bias" "Form.bias" (defArgs s_Form_bias) (defBody s_Form_bias) (defScope s_Form_bias) .none kV58 dc58 pm58 an58 cd58 ct58), sl58⟩) (c58 : PySem.W.codeIn K cd58 "Form.bias" = true) (k58 : PySem.W.keepIn K (.ref f58) = true)
    (a59 : PySem.W.findIn K (.ref C) "top" = some (some (.ref f59))) (i59 : PySem.W.isFn K (.ref f59) = true) (l59 : K.lookup f59 = some ⟨oc59, od59, .func (PySem.W.fnOf "top" "Form.top" (defArgs s_Form_top) (defBody s_Form_top) (defScope s_Form_top) .none kV59 dc59 pm59 an59 cd59 ct59), sl59⟩) (c59 : PySem.W.codeIn K cd59 "Form.top" = true) (k59 : PySem.W.keepIn K (.ref f59) = true)
    (a60 : PySem.W.findIn K (.ref C) "parts" = some (some (.ref f60))) (i60 : PySem.W.isFn K (.ref f60) = true) (l60 : K.lookup f60 = some ⟨oc60, od60, .func (PySem.W.fnOf "parts" "Form.parts" (defArgs s_Form_parts) (defBody s_Form_parts) (defScope s_Form_parts) .none kV60 dc60 pm60 an60 cd60 ct60), sl60⟩) (c60 : PySem.W.codeIn K cd60 "Form.parts" = true) (k60 : PySem.W.keepIn K (.ref f60) = true)
    (a61 : PySem.W.findIn K (.ref C) "word_of" = some (some (.ref f61))) (i61 : PySem.W.isFn K (.ref f61) = true) (l61 : K.lookup f61 = some ⟨oc61, od61, .func (PySem.W.fnOf "word_of" "Form.word_of" (defArgs s_Form_word_of) (defBody s_Form_word_of) (defScope s_Form_word_of) .none kV61 dc61 pm61 an61 cd61 ct61), sl61⟩) (c61 : PySem.W.codeIn K cd61 "Form.word_of" = true) (k61 : PySem.W.keepIn K (.ref f61) = true)
    (a62 : PySem.W.findIn K (.ref C) "sort_of" = some (some (.ref f62))) (i62 : PySem.W.isFn K (.ref f62) = true) (l62 : K.lookup f62 = some ⟨oc62, od62, .func (PySem.W.fnOf "sort_of" "Form.sort_of" (defArgs s_Form_sort_of) (defBody s_Form_sort_of) (defScope s_Form_sort_of) .none kV62 dc62 pm62 an62 cd62 ct62), sl62⟩) (c62 : PySem.W.codeIn K cd62 "Form.sort_of" = true) (k62 : PySem.W.keepIn K (.ref f62) = true)
    (a63 : PySem.W.findIn K (.ref C) "nought" = some (some (.ref f63))) (i63 : PySem.W.isFn K (.ref f63) = true) (l63 : K.lookup f63 = some ⟨oc63, od63, .func (PySem.W.fnOf "nought" "Form.nought" (defArgs s_Form_nought) (defBody s_Form_nought) (defScope s_Form_nought) (.ref T63) kV63 dc63 pm63 an63 cd63 ct63), sl63⟩) (c63 : PySem.W.codeIn K cd63 "Form.nought" = true) (k63 : PySem.W.keepIn K (.ref f63) = true)
    (t63 : K.lookup T63 = some ⟨oT63, dT63, .seq #[.int 0 vT63] nT63, sT63⟩)
    (a64 : PySem.W.findIn K (.ref C) "endless" = some (some (.ref f64))) (i64 : PySem.W.isFn K (.ref f64) = true) (l64 : K.lookup f64 = some ⟨oc64, od64, .func (PySem.W.fnOf "endless" "Form.endless" (defArgs s_Form_endless) (defBody s_Form_endless) (defScope s_Form_endless) (.ref T64) kV64 dc64 pm64 an64 cd64 ct64), sl64⟩) (c64 : PySem.W.codeIn K cd64 "Form.endless" = true) (k64 : PySem.W.keepIn K (.ref f64) = true)
    (t64 : K.lookup T64 = some ⟨oT64, dT64, .seq #[.int 0 vT64] nT64, sT64⟩)
    (a65 : PySem.W.findIn K (.ref C) "greatest" = some (some (.ref f65))) (i65 : PySem.W.isFn K (.ref f65) = true) (l65 : K.lookup f65 = some ⟨oc65, od65, .func (PySem.W.fnOf "greatest" "Form.greatest" (defArgs s_Form_greatest) (defBody s_Form_greatest) (defScope s_Form_greatest) (.ref T65) kV65 dc65 pm65 an65 cd65 ct65), sl65⟩) (c65 : PySem.W.codeIn K cd65 "Form.greatest" = true) (k65 : PySem.W.keepIn K (.ref f65) = true)
    (t65 : K.lookup T65 = some ⟨oT65, dT65, .seq #[.int 0 vT65] nT65, sT65⟩)
    (a66 : PySem.W.findIn K (.ref C) "none_word" = some (some (.ref f66))) (i66 : PySem.W.isFn K (.ref f66) = true) (l66 : K.lookup f66 = some ⟨oc66, od66, .func (PySem.W.fnOf "none_word" "Form.none_word" (defArgs s_Form_none_word) (defBody s_Form_none_word) (defScope s_Form_none_word) .none kV66 dc66 pm66 an66 cd66 ct66), sl66⟩) (c66 : PySem.W.codeIn K cd66 "Form.none_word" = true) (k66 : PySem.W.keepIn K (.ref f66) = true)
    (a67 : PySem.W.findIn K (.ref C) "turned" = some (some (.ref f67))) (i67 : PySem.W.isFn K (.ref f67) = true) (l67 : K.lookup f67 = some ⟨oc67, od67, .func (PySem.W.fnOf "turned" "Form.turned" (defArgs s_Form_turned) (defBody s_Form_turned) (defScope s_Form_turned) .none kV67 dc67 pm67 an67 cd67 ct67), sl67⟩) (c67 : PySem.W.codeIn K cd67 "Form.turned" = true) (k67 : PySem.W.keepIn K (.ref f67) = true)
    (a68 : PySem.W.findIn K (.ref C) "worth" = some (some (.ref f68))) (i68 : PySem.W.isFn K (.ref f68) = true) (l68 : K.lookup f68 = some ⟨oc68, od68, .func (PySem.W.fnOf "worth" "Form.worth" (defArgs s_Form_worth) (defBody s_Form_worth) (defScope s_Form_worth) .none kV68 dc68 pm68 an68 cd68 ct68), sl68⟩) (c68 : PySem.W.codeIn K cd68 "Form.worth" = true) (k68 : PySem.W.keepIn K (.ref f68) = true)
    (z1 : PySem.W.nsIn K mainGlobals "len" = some none)
    (z2 : PySem.W.nsIn K mainGlobals "abs" = some none)
    (z3 : PySem.W.nsIn K mainGlobals "int" = some none)
    (z4 : PySem.W.nsIn K mainGlobals "divmod" = some none)
    (z5 : PySem.W.nsIn K mainGlobals "list" = some none)
    (z6 : PySem.W.nsIn K mainGlobals "enumerate" = some none)
    (z7 : PySem.W.nsIn K mainGlobals "isinstance" = some none)
    (z8 : PySem.W.nsIn K mainGlobals "tuple" = some none)
    (z9 : PySem.W.nsIn K mainGlobals "str" = some none)
    (z10 : PySem.W.nsIn K mainGlobals "bool" = some none)
    (z11 : PySem.W.nsIn K mainGlobals "zip" = some none)
    (z12 : PySem.W.nsIn K mainGlobals "all" = some none)
    (z13 : PySem.W.nsIn K mainGlobals "range" = some none)
    (z14 : PySem.W.nsIn K mainGlobals "max" = some none)
    (z15 : PySem.W.nsIn K mainGlobals "any" = some none)
    (z16 : PySem.W.nsIn K mainGlobals "min" = some none)
    (z17 : PySem.W.nsIn K mainGlobals "sum" = some none)
    (gNEAR : PySem.W.nsIn K mainGlobals "NEAR" = some (some (.str "near" tgNEAR)))
    (gCUT : PySem.W.nsIn K mainGlobals "CUT" = some (some (.str "cut" tgCUT)))
    (gUP : PySem.W.nsIn K mainGlobals "UP" = some (some (.str "up" tgUP)))
    (gDOWN : PySem.W.nsIn K mainGlobals "DOWN" = some (some (.str "down" tgDOWN)))
    (aO : PySem.W.nsIn K mainGlobals "OPS" = some (some (.ref dO)))
    (lO : K.lookup dO = some ⟨.type "dict", none, .dict esO nO, #[]⟩)
    (tO : PySem.W.KeysLit w.params esO.toList)
    (wO : (dO == sysModules) = false)
    (oO_add : PySem.W.nsIn K dO "add" = some (some (.ref f10)))
    (oO_take : PySem.W.nsIn K dO "take" = some (some (.ref f11)))
    (oO_times : PySem.W.nsIn K dO "times" = some (some (.ref f12)))
    (oO_over : PySem.W.nsIn K dO "over" = some (some (.ref f13)))
    (oO_join : PySem.W.nsIn K dO "join" = some (some (.ref f14)))
    : ∃ fd : FuncData, (∀ (s : Shared) (v : Value), BindsTo s fd ⟨[v], []⟩ [("_law_script", v)]) ∧ ∀ base : Heap, K.In base → base.Ns mainGlobals mg → FnOk l.prog w K mg base CX0 13 fa fd ["_law_script"] (spLaw K) := by
  have e := hfa.symm.trans (PySem.W.mg_of X G a56)
  cases e
  have F1 := fun_mk (st := s_cut_off) l1 c1 k1
  have b1 := F1.binds (ps := ["number", "by"]) fun _ _ _ _ _ _ us hl => match us, hl with | [_, _], _ => rfl
  have m1 := PySem.W.mg_of X G a1
  have F2 := fun_mk (st := s_last_power) l2 c2 k2
  have b2 := F2.binds (ps := ["form", "number", "power"]) fun _ _ _ _ _ _ us hl => match us, hl with | [_, _, _], _ => rfl
  have m2 := PySem.W.mg_of X G a2
  have F3 := fun_mk (st := s_least_power) l3 c3 k3
  have b3 := F3.binds (ps := ["form"]) fun _ _ _ _ _ _ us hl => match us, hl with | [_], _ => rfl
  have m3 := PySem.W.mg_of X G a3
  have F4 := fun_mk (st := s_rounded) l4 c4 k4
  have m4 := PySem.W.mg_of X G a4
  have F5 := fun_mk (st := s_parted) l5 c5 k5
  have b5 := F5.binds (ps := ["number", "by", "more"]) fun _ _ _ _ _ _ us hl => match us, hl with | [_, _, _], _ => rfl
  have m5 := PySem.W.mg_of X G a5
  have F6 := fun_mk (st := s_goes_up) l6 c6 k6
  have b6 := F6.binds (ps := ["way", "sign", "many", "rest"]) fun _ _ _ _ _ _ us hl => match us, hl with | [_, _, _, _], _ => rfl
  have m6 := PySem.W.mg_of X G a6
  have F7 := fun_mk (st := s_goes_away) l7 c7 k7
  have b7 := F7.binds (ps := ["way", "sign"]) fun _ _ _ _ _ _ us hl => match us, hl with | [_, _], _ => rfl
  have m7 := PySem.W.mg_of X G a7
  have F8 := fun_mk (st := s_word_beyond) l8 c8 k8
  have b8 := F8.binds (ps := ["form", "sign", "way"]) fun _ _ _ _ _ _ us hl => match us, hl with | [_, _, _], _ => rfl
  have m8 := PySem.W.mg_of X G a8
  have F9 := fun_mk (st := s_flags_of_rest) l9 c9 k9
  have b9 := F9.binds (ps := ["form", "number", "power", "rest"]) fun _ _ _ _ _ _ us hl => match us, hl with | [_, _, _, _], _ => rfl
  have m9 := PySem.W.mg_of X G a9
  have F10 := fun_mk (st := s_added) l10 c10 k10
  have m10 := PySem.W.mg_of X G a10
  have F11 := fun_mk (st := s_taken) l11 c11 k11
  have m11 := PySem.W.mg_of X G a11
  have F12 := fun_mk (st := s_multiplied) l12 c12 k12
  have m12 := PySem.W.mg_of X G a12
  have F13 := fun_mk (st := s_divided) l13 c13 k13
  have m13 := PySem.W.mg_of X G a13
  have F14 := fun_mk (st := s_joined) l14 c14 k14
  have m14 := PySem.W.mg_of X G a14
  have F15 := fun_mk (st := s_has_none) l15 c15 k15
  have b15 := F15.binds (ps := ["form", "words"]) fun _ _ _ _ _ _ us hl => match us, hl with | [_, _], _ => rfl
  have m15 := PySem.W.mg_of X G a15
  have F16 := fun_mk (st := s_bad) l16 c16 k16
  have b16 := F16.binds (ps := ["form"]) fun _ _ _ _ _ _ us hl => match us, hl with | [_], _ => rfl
  have m16 := PySem.W.mg_of X G a16
  have F17 := fun_mk (st := s_is_endless_by_nought) l17 c17 k17
  have b17 := F17.binds (ps := ["form", "a", "b"]) fun _ _ _ _ _ _ us hl => match us, hl with | [_, _, _], _ => rfl
  have m17 := PySem.W.mg_of X G a17
  have F18 := fun_mk (st := s_sign_of) l18 c18 k18
  have b18 := F18.binds (ps := ["form", "word"]) fun _ _ _ _ _ _ us hl => match us, hl with | [_, _], _ => rfl
  have m18 := PySem.W.mg_of X G a18
  have F19 := fun_mk (st := s_unlike_sign) l19 c19 k19
  have b19 := F19.binds (ps := ["form", "a", "b"]) fun _ _ _ _ _ _ us hl => match us, hl with | [_, _, _], _ => rfl
  have m19 := PySem.W.mg_of X G a19
  have F20 := fun_mk (st := s_term_of) l20 c20 k20
  have b20 := F20.binds (ps := ["form", "word"]) fun _ _ _ _ _ _ us hl => match us, hl with | [_, _], _ => rfl
  have m20 := PySem.W.mg_of X G a20
  have F21 := fun_mk (st := s_product_of) l21 c21 k21
  have b21 := F21.binds (ps := ["form", "a", "b"]) fun _ _ _ _ _ _ us hl => match us, hl with | [_, _, _], _ => rfl
  have m21 := PySem.W.mg_of X G a21
  have F22 := fun_mk (st := s_terms_added) l22 c22 k22
  have b22 := F22.binds (ps := ["form", "one", "other", "way"]) fun _ _ _ _ _ _ us hl => match us, hl with | [_, _, _, _], _ => rfl
  have m22 := PySem.W.mg_of X G a22
  have F23 := fun_mk (st := s_nought_sign) l23 c23 k23
  have b23 := F23.binds (ps := ["sign", "other_sign", "way"]) fun _ _ _ _ _ _ us hl => match us, hl with | [_, _, _], _ => rfl
  have m23 := PySem.W.mg_of X G a23
  have F24 := fun_mk (st := s_worths_added) l24 c24 k24
  have b24 := F24.binds (ps := ["one", "other"]) fun _ _ _ _ _ _ us hl => match us, hl with | [_, _], _ => rfl
  have m24 := PySem.W.mg_of X G a24
  have F25 := fun_mk (st := s_quotient_rounded) l25 c25 k25
  have b25 := F25.binds (ps := ["form", "sign", "one", "other", "way"]) fun _ _ _ _ _ _ us hl => match us, hl with | [_, _, _, _, _], _ => rfl
  have m25 := PySem.W.mg_of X G a25
  have F26 := fun_mk (st := s_done) l26 c26 k26
  have m26 := PySem.W.mg_of X G a26
  have F27 := fun_mk (st := s_have_heads) l27 c27 k27
  have b27 := F27.binds (ps := ["form", "words"]) fun _ _ _ _ _ _ us hl => match us, hl with | [_, _], _ => rfl
  have m27 := PySem.W.mg_of X G a27
  have F28 := fun_mk (st := s_head_of) l28 c28 k28
  have b28 := F28.binds (ps := ["form", "word"]) fun _ _ _ _ _ _ us hl => match us, hl with | [_, _], _ => rfl
  have m28 := PySem.W.mg_of X G a28
  have F29 := fun_mk (st := s_plain_step) l29 c29 k29
  have b29 := F29.binds (ps := ["name", "form", "op", "words", "way"]) fun _ _ _ _ _ _ us hl => match us, hl with | [_, _, _, _, _], _ => rfl
  have m29 := PySem.W.mg_of X G a29
  have F30 := fun_mk (st := s_round_step) l30 c30 k30
  have b30 := F30.binds (ps := ["form", "sign", "total", "power", "way", "more"]) fun _ _ _ _ _ _ us hl => match us, hl with | [_, _, _, _, _, _], _ => rfl
  have m30 := PySem.W.mg_of X G a30
  have F31 := fun_mk (st := s_fours_of) l31 c31 k31
  have b31 := F31.binds (ps := ["number"]) fun _ _ _ _ _ _ us hl => match us, hl with | [_], _ => rfl
  have m31 := PySem.W.mg_of X G a31
  have F32 := fun_mk (st := s_four_of) l32 c32 k32
  have b32 := F32.binds (ps := ["bits"]) fun _ _ _ _ _ _ us hl => match us, hl with | [_], _ => rfl
  have m32 := PySem.W.mg_of X G a32
  have F33 := fun_mk (st := s_rows_of) l33 c33 k33
  have b33 := F33.binds (ps := ["one", "number"]) fun _ _ _ _ _ _ us hl => match us, hl with | [_, _], _ => rfl
  have m33 := PySem.W.mg_of X G a33
  have F34 := fun_mk (st := s_saved) l34 c34 k34
  have b34 := F34.binds (ps := ["x", "y", "z"]) fun _ _ _ _ _ _ us hl => match us, hl with | [_, _, _], _ => rfl
  have m34 := PySem.W.mg_of X G a34
  have F35 := fun_mk (st := s_levels_of) l35 c35 k35
  have b35 := F35.binds (ps := ["rows"]) fun _ _ _ _ _ _ us hl => match us, hl with | [_], _ => rfl
  have m35 := PySem.W.mg_of X G a35
  have F36 := fun_mk (st := s_level_behind) l36 c36 k36
  have b36 := F36.binds (ps := ["rows"]) fun _ _ _ _ _ _ us hl => match us, hl with | [_], _ => rfl
  have m36 := PySem.W.mg_of X G a36
  have F37 := fun_mk (st := s_times_steps) l37 c37 k37
  have m37 := PySem.W.mg_of X G a37
  have F38 := fun_mk (st := s_is_number) l38 c38 k38
  have b38 := F38.binds (ps := ["thing"]) fun _ _ _ _ _ _ us hl => match us, hl with | [_], _ => rfl
  have m38 := PySem.W.mg_of X G a38
  have F39 := fun_mk (st := s_is_number_in) l39 c39 k39
  have b39 := F39.binds (ps := ["least", "greatest", "thing"]) fun _ _ _ _ _ _ us hl => match us, hl with | [_, _, _], _ => rfl
  have m39 := PySem.W.mg_of X G a39
  have F40 := fun_mk (st := sBox) l40 c40 k40
  have b40 := F40.binds (ps := ["_law_script", "_law_k"]) fun _ _ _ _ _ _ us hl => match us, hl with | [_, _], _ => rfl
  have m40 := PySem.W.mg_of X G a40
  have F41 := fun_mk (st := sTake) l41 c41 k41
  have b41 := F41.binds (ps := ["_law_box_here", "_law_size"]) fun _ _ _ _ _ _ us hl => match us, hl with | [_, _], _ => rfl
  have m41 := PySem.W.mg_of X G a41
  have F42 := fun_mk (st := sFolded) l42 c42 k42
  have b42 := F42.binds (ps := ["_law_script", "_law_size"]) fun _ _ _ _ _ _ us hl => match us, hl with | [_, _], _ => rfl
  have m42 := PySem.W.mg_of X G a42
  have F43 := fun_mk (st := sSame) l43 c43 k43
  have b43 := F43.binds (ps := ["_law_found", "_law_due"]) fun _ _ _ _ _ _ us hl => match us, hl with | [_, _], _ => rfl
  have m43 := PySem.W.mg_of X G a43
  have F44 := fun_mk (st := s__law_form) l44 c44 k44
  have b44 := F44.binds (ps := ["_law_box_here"]) fun _ _ _ _ _ _ us hl => match us, hl with | [_], _ => rfl
  have m44 := PySem.W.mg_of X G a44
  have F45 := fun_mk (st := s__law_word) l45 c45 k45
  have b45 := F45.binds (ps := ["_law_box_here", "_law_scale", "_law_tail"]) fun _ _ _ _ _ _ us hl => match us, hl with | [_, _, _], _ => rfl
  have m45 := PySem.W.mg_of X G a45
  have F46 := fun_mk (st := s__law_sort) l46 c46 k46
  have b46 := F46.binds (ps := ["_law_word_here", "_law_scale", "_law_tail"]) fun _ _ _ _ _ _ us hl => match us, hl with | [_, _, _], _ => rfl
  have m46 := PySem.W.mg_of X G a46
  have F47 := fun_mk (st := s__law_size_of) l47 c47 k47
  have b47 := F47.binds (ps := ["_law_size", "_law_scale", "_law_tail"]) fun _ _ _ _ _ _ us hl => match us, hl with | [_, _, _], _ => rfl
  have m47 := PySem.W.mg_of X G a47
  have F48 := fun_mk (st := s__law_less) l48 c48 k48
  have b48 := F48.binds (ps := ["_law_one", "_law_other"]) fun _ _ _ _ _ _ us hl => match us, hl with | [_, _], _ => rfl
  have m48 := PySem.W.mg_of X G a48
  have F49 := fun_mk (st := s__law_rounded) l49 c49 k49
  have b49 := F49.binds (ps := ["_law_scale", "_law_tail", "_law_sign", "_law_worth", "_law_how"]) fun _ _ _ _ _ _ us hl => match us, hl with | [_, _, _, _, _], _ => rfl
  have m49 := PySem.W.mg_of X G a49
  have F50 := fun_mk (st := s__law_head) l50 c50 k50
  have b50 := F50.binds (ps := ["_law_scale", "_law_tail", "_law_word_here"]) fun _ _ _ _ _ _ us hl => match us, hl with | [_, _, _], _ => rfl
  have m50 := PySem.W.mg_of X G a50
  have F51 := fun_mk (st := s__law_fours) l51 c51 k51
  have b51 := F51.binds (ps := ["_law_number"]) fun _ _ _ _ _ _ us hl => match us, hl with | [_], _ => rfl
  have m51 := PySem.W.mg_of X G a51
  have F52 := fun_mk (st := s__law_last_level) l52 c52 k52
  have b52 := F52.binds (ps := ["_law_rows"]) fun _ _ _ _ _ _ us hl => match us, hl with | [_], _ => rfl
  have m52 := PySem.W.mg_of X G a52
  have F53 := fun_mk (st := s__law_times_due) l53 c53 k53
  have b53 := F53.binds (ps := ["_law_scale", "_law_tail", "_law_a", "_law_b", "_law_how"]) fun _ _ _ _ _ _ us hl => match us, hl with | [_, _, _, _, _], _ => rfl
  have m53 := PySem.W.mg_of X G a53
  have F54 := fun_mk (st := s__law_told_times) l54 c54 k54
  have b54 := F54.binds (ps := ["_law_scale", "_law_tail", "_law_a", "_law_b"]) fun _ _ _ _ _ _ us hl => match us, hl with | [_, _, _, _], _ => rfl
  have m54 := PySem.W.mg_of X G a54
  have F55 := fun_mk (st := s__law_right) l55 c55 k55
  have b55 := F55.binds (ps := ["_law_box_here"]) fun _ _ _ _ _ _ us hl => match us, hl with | [_], _ => rfl
  have m55 := PySem.W.mg_of X G a55
  have F56 := fun_mk (st := s_law) l56 c56 k56
  have F57 := fun_mk (st := s_Form___init__) l57 c57 k57
  have b57 := F57.binds (ps := ["self", "scale", "tail"]) fun _ _ _ _ _ _ us hl => match us, hl with | [_, _, _], _ => rfl
  have M57 : Meth K C "__init__" f57 := ⟨a57, i57, k57⟩
  have F58 := fun_mk (st := s_Form_bias) l58 c58 k58
  have b58 := F58.binds (ps := ["self"]) fun _ _ _ _ _ _ us hl => match us, hl with | [_], _ => rfl
  have M58 : Meth K C "bias" f58 := ⟨a58, i58, k58⟩
  have F59 := fun_mk (st := s_Form_top) l59 c59 k59
  have b59 := F59.binds (ps := ["self"]) fun _ _ _ _ _ _ us hl => match us, hl with | [_], _ => rfl
  have M59 : Meth K C "top" f59 := ⟨a59, i59, k59⟩
  have F60 := fun_mk (st := s_Form_parts) l60 c60 k60
  have b60 := F60.binds (ps := ["self", "word"]) fun _ _ _ _ _ _ us hl => match us, hl with | [_, _], _ => rfl
  have M60 : Meth K C "parts" f60 := ⟨a60, i60, k60⟩
  have F61 := fun_mk (st := s_Form_word_of) l61 c61 k61
  have b61 := F61.binds (ps := ["self", "sign", "scale", "tail"]) fun _ _ _ _ _ _ us hl => match us, hl with | [_, _, _, _], _ => rfl
  have M61 : Meth K C "word_of" f61 := ⟨a61, i61, k61⟩
  have F62 := fun_mk (st := s_Form_sort_of) l62 c62 k62
  have b62 := F62.binds (ps := ["self", "word"]) fun _ _ _ _ _ _ us hl => match us, hl with | [_, _], _ => rfl
  have M62 : Meth K C "sort_of" f62 := ⟨a62, i62, k62⟩
  have F63 := funA_mk (st := s_Form_nought) l63 c63 k63
  have b63 := bindsA (st := s_Form_nought) (ps := ["self", "sign"]) l63 t63 fun _ _ _ _ _ _ us hl => match us, hl with | [_, _], _ => ⟨_, rfl, rfl⟩
  have d63 := bindsAD (st := s_Form_nought) (ps := ["self", "sign"]) l63 t63 fun _ _ _ _ _ _ us hl => match us, hl with | [_], _ => ⟨_, rfl, rfl⟩
  have kb63 := kbindsA (x1 := "sign") (st := s_Form_nought) (ps := ["self", "sign"]) l63 t63 fun _ _ _ _ _ _ _ _ => ⟨_, rfl, rfl⟩
  have M63 : Meth K C "nought" f63 := ⟨a63, i63, k63⟩
  have F64 := funA_mk (st := s_Form_endless) l64 c64 k64
  have b64 := bindsA (st := s_Form_endless) (ps := ["self", "sign"]) l64 t64 fun _ _ _ _ _ _ us hl => match us, hl with | [_, _], _ => ⟨_, rfl, rfl⟩
  have d64 := bindsAD (st := s_Form_endless) (ps := ["self", "sign"]) l64 t64 fun _ _ _ _ _ _ us hl => match us, hl with | [_], _ => ⟨_, rfl, rfl⟩
  have kb64 := kbindsA (x1 := "sign") (st := s_Form_endless) (ps := ["self", "sign"]) l64 t64 fun _ _ _ _ _ _ _ _ => ⟨_, rfl, rfl⟩
  have M64 : Meth K C "endless" f64 := ⟨a64, i64, k64⟩
  have F65 := funA_mk (st := s_Form_greatest) l65 c65 k65
  have b65 := bindsA (st := s_Form_greatest) (ps := ["self", "sign"]) l65 t65 fun _ _ _ _ _ _ us hl => match us, hl with | [_, _], _ => ⟨_, rfl, rfl⟩
  have d65 := bindsAD (st := s_Form_greatest) (ps := ["self", "sign"]) l65 t65 fun _ _ _ _ _ _ us hl => match us, hl with | [_], _ => ⟨_, rfl, rfl⟩
  have kb65 := kbindsA (x1 := "sign") (st := s_Form_greatest) (ps := ["self", "sign"]) l65 t65 fun _ _ _ _ _ _ _ _ => ⟨_, rfl, rfl⟩
  have M65 : Meth K C "greatest" f65 := ⟨a65, i65, k65⟩
  have F66 := fun_mk (st := s_Form_none_word) l66 c66 k66
  have b66 := F66.binds (ps := ["self"]) fun _ _ _ _ _ _ us hl => match us, hl with | [_], _ => rfl
  have M66 : Meth K C "none_word" f66 := ⟨a66, i66, k66⟩
  have F67 := fun_mk (st := s_Form_turned) l67 c67 k67
  have b67 := F67.binds (ps := ["self", "word"]) fun _ _ _ _ _ _ us hl => match us, hl with | [_, _], _ => rfl
  have M67 : Meth K C "turned" f67 := ⟨a67, i67, k67⟩
  have F68 := fun_mk (st := s_Form_worth) l68 c68 k68
  have b68 := F68.binds (ps := ["self", "word"]) fun _ _ _ _ _ _ us hl => match us, hl with | [_, _], _ => rfl
  have M68 : Meth K C "worth" f68 := ⟨a68, i68, k68⟩
  have clC : Cls K C := ⟨pgC, hdC, poC, saC⟩
  have mgC := PySem.W.mg_of X G aC
  have B : Bl mg := ⟨PySem.W.mg_none_of X G z1, PySem.W.mg_none_of X G z2, PySem.W.mg_none_of X G z3, PySem.W.mg_none_of X G z4, PySem.W.mg_none_of X G z5, PySem.W.mg_none_of X G z6, PySem.W.mg_none_of X G z7, PySem.W.mg_none_of X G z8, PySem.W.mg_none_of X G z9, PySem.W.mg_none_of X G z10, PySem.W.mg_none_of X G z11, PySem.W.mg_none_of X G z12, PySem.W.mg_none_of X G z13, PySem.W.mg_none_of X G z14, PySem.W.mg_none_of X G z15, PySem.W.mg_none_of X G z16, PySem.W.mg_none_of X G z17⟩
  refine ⟨PySem.W.fnOf "law" "law" (defArgs s_law) (defBody s_law) (defScope s_law) .none kV56 dc56 pm56 an56 cd56 ct56, fun s v => .of_eq rfl, fun base _ _ => ?_⟩
  have kb4_way : ∃ g, KBn K (PySem.W.fnOf "rounded" "rounded" (defArgs s_rounded) (defBody s_rounded) (defScope s_rounded) .none (.ref Dk4) dc4 pm4 an4 cd4 ct4) ["form", "sign", "number", "power", "way", "more"] 4 ["way"] g (fun vs zs => vs ++ (zs ++ [.bl false])) := ⟨fun vs zs => vs ++ (zs ++ [.bool false]), ⟨kbn_of (st := s_rounded) (ml := [("more", .bool false)]) (gV := fun vs zs => vs ++ (zs ++ [.bl false])) (fun q hq => by rcases List.mem_cons.mp hq with rfl | hq; exact w4_1; exact nomatch hq) (fun us ws l1 l2 => match us, ws, l1, l2 with | [_, _, _, _], [_], _, _ => ⟨_, _, _, _, _, _, rfl, rfl, (show _ = pure _ from rfl)⟩) (fun _ _ r1 r2 => r1.append (r2.append (.cons rfl .nil))), fun r1 r2 => r1.append (r2.append (.cons rfl .nil))⟩⟩
  have kb4_way_more : ∃ g, KBn K (PySem.W.fnOf "rounded" "rounded" (defArgs s_rounded) (defBody s_rounded) (defScope s_rounded) .none (.ref Dk4) dc4 pm4 an4 cd4 ct4) ["form", "sign", "number", "power", "way", "more"] 4 ["way", "more"] g (fun vs zs => vs ++ zs) := ⟨fun vs zs => vs ++ zs, ⟨kbn_of (st := s_rounded) (ml := []) (gV := fun vs zs => vs ++ zs) (fun q hq => nomatch hq) (fun us ws l1 l2 => match us, ws, l1, l2 with | [_, _, _, _], [_, _], _, _ => (show _ = pure _ from rfl)) (fun _ _ r1 r2 => r1.append r2), fun r1 r2 => r1.append r2⟩⟩
  have kb10_way : ∃ g, KBn K (PySem.W.fnOf "added" "added" (defArgs s_added) (defBody s_added) (defScope s_added) .none (.ref Dk10) dc10 pm10 an10 cd10 ct10) ["form", "a", "b", "way"] 3 ["way"] g (fun vs zs => vs ++ zs) := ⟨fun vs zs => vs ++ zs, ⟨kbn_of (st := s_added) (ml := []) (gV := fun vs zs => vs ++ zs) (fun q hq => nomatch hq) (fun us ws l1 l2 => match us, ws, l1, l2 with | [_, _, _], [_], _, _ => (show _ = pure _ from rfl)) (fun _ _ r1 r2 => r1.append r2), fun r1 r2 => r1.append r2⟩⟩
  have kb11_way : ∃ g, KBn K (PySem.W.fnOf "taken" "taken" (defArgs s_taken) (defBody s_taken) (defScope s_taken) .none (.ref Dk11) dc11 pm11 an11 cd11 ct11) ["form", "a", "b", "way"] 3 ["way"] g (fun vs zs => vs ++ zs) := ⟨fun vs zs => vs ++ zs, ⟨kbn_of (st := s_taken) (ml := []) (gV := fun vs zs => vs ++ zs) (fun q hq => nomatch hq) (fun us ws l1 l2 => match us, ws, l1, l2 with | [_, _, _], [_], _, _ => (show _ = pure _ from rfl)) (fun _ _ r1 r2 => r1.append r2), fun r1 r2 => r1.append r2⟩⟩
  have kb12_way : ∃ g, KBn K (PySem.W.fnOf "multiplied" "multiplied" (defArgs s_multiplied) (defBody s_multiplied) (defScope s_multiplied) .none (.ref Dk12) dc12 pm12 an12 cd12 ct12) ["form", "a", "b", "way"] 3 ["way"] g (fun vs zs => vs ++ zs) := ⟨fun vs zs => vs ++ zs, ⟨kbn_of (st := s_multiplied) (ml := []) (gV := fun vs zs => vs ++ zs) (fun q hq => nomatch hq) (fun us ws l1 l2 => match us, ws, l1, l2 with | [_, _, _], [_], _, _ => (show _ = pure _ from rfl)) (fun _ _ r1 r2 => r1.append r2), fun r1 r2 => r1.append r2⟩⟩
  have kb13_way : ∃ g, KBn K (PySem.W.fnOf "divided" "divided" (defArgs s_divided) (defBody s_divided) (defScope s_divided) .none (.ref Dk13) dc13 pm13 an13 cd13 ct13) ["form", "a", "b", "way"] 3 ["way"] g (fun vs zs => vs ++ zs) := ⟨fun vs zs => vs ++ zs, ⟨kbn_of (st := s_divided) (ml := []) (gV := fun vs zs => vs ++ zs) (fun q hq => nomatch hq) (fun us ws l1 l2 => match us, ws, l1, l2 with | [_, _, _], [_], _, _ => (show _ = pure _ from rfl)) (fun _ _ r1 r2 => r1.append r2), fun r1 r2 => r1.append r2⟩⟩
  have kb14_way : ∃ g, KBn K (PySem.W.fnOf "joined" "joined" (defArgs s_joined) (defBody s_joined) (defScope s_joined) .none (.ref Dk14) dc14 pm14 an14 cd14 ct14) ["form", "a", "b", "c", "way"] 4 ["way"] g (fun vs zs => vs ++ zs) := ⟨fun vs zs => vs ++ zs, ⟨kbn_of (st := s_joined) (ml := []) (gV := fun vs zs => vs ++ zs) (fun q hq => nomatch hq) (fun us ws l1 l2 => match us, ws, l1, l2 with | [_, _, _, _], [_], _, _ => (show _ = pure _ from rfl)) (fun _ _ r1 r2 => r1.append r2), fun r1 r2 => r1.append r2⟩⟩
  have kb26_way : ∃ g, KBn K (PySem.W.fnOf "done" "done" (defArgs s_done) (defBody s_done) (defScope s_done) .none (.ref Dk26) dc26 pm26 an26 cd26 ct26) ["form", "op", "words", "way"] 3 ["way"] g (fun vs zs => vs ++ zs) := ⟨fun vs zs => vs ++ zs, ⟨kbn_of (st := s_done) (ml := []) (gV := fun vs zs => vs ++ zs) (fun q hq => nomatch hq) (fun us ws l1 l2 => match us, ws, l1, l2 with | [_, _, _], [_], _, _ => (show _ = pure _ from rfl)) (fun _ _ r1 r2 => r1.append r2), fun r1 r2 => r1.append r2⟩⟩
  have kb37_way : ∃ g, KBn K (PySem.W.fnOf "times_steps" "times_steps" (defArgs s_times_steps) (defBody s_times_steps) (defScope s_times_steps) .none (.ref Dk37) dc37 pm37 an37 cd37 ct37) ["form", "a", "b", "way"] 3 ["way"] g (fun vs zs => vs ++ zs) := ⟨fun vs zs => vs ++ zs, ⟨kbn_of (st := s_times_steps) (ml := []) (gV := fun vs zs => vs ++ zs) (fun q hq => nomatch hq) (fun us ws l1 l2 => match us, ws, l1, l2 with | [_, _, _], [_], _, _ => (show _ = pure _ from rfl)) (fun _ _ r1 r2 => r1.append r2), fun r1 r2 => r1.append r2⟩⟩
  have kb37_ : ∃ ds, Vals [.str "near"] ds ∧ Binds K (PySem.W.fnOf "times_steps" "times_steps" (defArgs s_times_steps) (defBody s_times_steps) (defScope s_times_steps) .none (.ref Dk37) dc37 pm37 an37 cd37 ct37) ["form", "a", "b", "way"] ds := ⟨_, (.cons ⟨_, rfl⟩ .nil), bnd_of (st := s_times_steps) (ml := [("way", .str "near" tk37_0)]) (ds := [.str "near" tk37_0]) (fun q hq => by rcases List.mem_cons.mp hq with rfl | hq; exact w37_0; exact nomatch hq) (fun us l1 => match us, l1 with | [_, _, _], _ => ⟨_, _, _, _, _, _, rfl, rfl, (show _ = pure _ from rfl)⟩)⟩
  have L : LL K mg C f1 f2 f3 f4 f5 f6 f7 f8 f9 f10 f11 f12 f13 f14 f15 f16 f17 f18 f19 f20 f21 f22 f23 f24 f25 f26 f27 f28 f29 f30 f31 f32 f33 f34 f35 f36 f37 f38 f39 f40 f41 f42 f43 f44 f45 f46 f47 f48 f49 f50 f51 f52 f53 f54 f55 f57 f58 f59 f60 f61 f62 f63 f64 f65 f66 f67 f68 _ _ _ _ _ _ _ _ _ _ _ _ _ _ _ _ _ _ _ _ _ _ _ _ _ _ _ _ _ _ _ _ _ _ _ _ _ _ _ _ _ _ _ _ _ _ _ _ _ _ _ _ _ _ _ _ _ _ _ _ _ _ _ _ _ _ _ vT63 vT64 vT65 tgNEAR tgCUT tgUP tgDOWN w dO esO nO := ⟨F1, m1, b1, F2, m2, b2, F3, m3, b3, F4, m4, kb4_way, kb4_way_more, F5, m5, b5, F6, m6, b6, F7, m7, b7, F8, m8, b8, F9, m9, b9, F10, m10, kb10_way, F11, m11, kb11_way, F12, m12, kb12_way, F13, m13, kb13_way, F14, m14, kb14_way, F15, m15, b15, F16, m16, b16, F17, m17, b17, F18, m18, b18, F19, m19, b19, F20, m20, b20, F21, m21, b21, F22, m22, b22, F23, m23, b23, F24, m24, b24, F25, m25, b25, F26, m26, kb26_way, F27, m27, b27, F28, m28, b28, F29, m29, b29, F30, m30, b30, F31, m31, b31, F32, m32, b32, F33, m33, b33, F34, m34, b34, F35, m35, b35, F36, m36, b36, F37, m37, kb37_way, kb37_, F38, m38, b38, F39, m39, b39, F40, m40, b40, F41, m41, b41, F42, m42, b42, F43, m43, b43, F44, m44, b44, F45, m45, b45, F46, m46, b46, F47, m47, b47, F48, m48, b48, F49, m49, b49, F50, m50, b50, F51, m51, b51, F52, m52, b52, F53, m53, b53, F54, m54, b54, F55, m55, b55, ⟨clC, naC0, naC1, mgC⟩, ⟨mkC, a57, i57, kcC⟩, F57, b57, F58, b58, M58, F59, b59, M59, F60, b60, M60, F61, b61, M61, F62, b62, M62, F63, b63, M63, d63, F64, b64, M64, d64, F65, b65, M65, d65, F66, b66, M66, F67, b67, M67, F68, b68, M68, PySem.W.mg_of X G gNEAR, PySem.W.mg_of X G gCUT, PySem.W.mg_of X G gUP, PySem.W.mg_of X G gDOWN, PySem.W.mg_of X G aO, ⟨lO, tO, wO⟩, oO_add, oO_take, oO_times, oO_over, oO_join⟩
  exact ok_law F56 B L
end GZ
open PySem PySem.W PyProof.Rows
set_option maxRecDepth 100000 in
set_option maxHeartbeats 0 in
theorem PySem.Challenge.cw_guessedzeros_k33_products_step_by_step_holds : PySem.Challenge.rw_guessedzeros_k33_products_step_by_step.Holds := by
  w_on; o_law; k_head; (case hw => w_witness2)
  k_fill
  refine L2.walk_of (l := PySem.Challenge.rw_guessedzeros_k33_products_step_by_step) (n := 63) (k := 13) (x := "_law_script") (CX := fun _ => L2.CX0) (sp := fun w => GZ.spLaw _) rfl (by decide) rfl ⟨rfl, by decide, by decide⟩ (fun w h Y => PySem.W.kIn_of Y) ?F (fun _ _ a ns hl _ hS => ⟨a, ns, rfl, hS, hl, fun _ => rfl⟩) (fun _ _ _ _ _ h => h)
  case F =>
    intro w mg fa h KX G hmg
    refine' GZ.all_mk KX G hmg ?a1 ?l1 ?c1 ?k1 ?a2 ?l2 ?c2 ?k2 ?a3 ?l3 ?c3 ?k3 ?a4 ?l4 ?c4 ?k4 ?w4_0 ?w4_1 ?a5 ?l5 ?c5 ?k5 ?a6 ?l6 ?c6 ?k6 ?a7 ?l7 ?c7 ?k7 ?a8 ?l8 ?c8 ?k8 ?a9 ?l9 ?c9 ?k9 ?a10 ?l10 ?c10 ?k10 ?w10_0 ?a11 ?l11 ?c11 ?k11 ?w11_0 ?a12 ?l12 ?c12 ?k12 ?w12_0 ?a13 ?l13 ?c13 ?k13 ?w13_0 ?a14 ?l14 ?c14 ?k14 ?w14_0 ?a15 ?l15 ?c15 ?k15 ?a16 ?l16 ?c16 ?k16 ?a17 ?l17 ?c17 ?k17 ?a18 ?l18 ?c18 ?k18 ?a19 ?l19 ?c19 ?k19 ?a20 ?l20 ?c20 ?k20 ?a21 ?l21 ?c21 ?k21 ?a22 ?l22 ?c22 ?k22 ?a23 ?l23 ?c23 ?k23 ?a24 ?l24 ?c24 ?k24 ?a25 ?l25 ?c25 ?k25 ?a26 ?l26 ?c26 ?k26 ?w26_0 ?a27 ?l27 ?c27 ?k27 ?a28 ?l28 ?c28 ?k28 ?a29 ?l29 ?c29 ?k29 ?a30 ?l30 ?c30 ?k30 ?a31 ?l31 ?c31 ?k31 ?a32 ?l32 ?c32 ?k32 ?a33 ?l33 ?c33 ?k33 ?a34 ?l34 ?c34 ?k34 ?a35 ?l35 ?c35 ?k35 ?a36 ?l36 ?c36 ?k36 ?a37 ?l37 ?c37 ?k37 ?w37_0 ?a38 ?l38 ?c38 ?k38 ?a39 ?l39 ?c39 ?k39 ?a40 ?l40 ?c40 ?k40 ?a41 ?l41 ?c41 ?k41 ?a42 ?l42 ?c42 ?k42 ?a43 ?l43 ?c43 ?k43 ?a44 ?l44 ?c44 ?k44 ?a45 ?l45 ?c45 ?k45 ?a46 ?l46 ?c46 ?k46 ?a47 ?l47 ?c47 ?k47 ?a48 ?l48 ?c48 ?k48 ?a49 ?l49 ?c49 ?k49 ?a50 ?l50 ?c50 ?k50 ?a51 ?l51 ?c51 ?k51 ?a52 ?l52 ?c52 ?k52 ?a53 ?l53 ?c53 ?k53 ?a54 ?l54 ?c54 ?k54 ?a55 ?l55 ?c55 ?k55 ?a56 ?l56 ?c56 ?k56 ?aC ?pgC ?hdC ?poC ?saC ?mkC ?kcC ?naC0 ?naC1 ?a57 ?i57 ?l57 ?c57 ?k57 ?a58 ?i58 ?l58 ?c58 ?k58 ?a59 ?i59 ?l59 ?c59 ?k59 ?a60 ?i60 ?l60 ?c60 ?k60 ?a61 ?i61 ?l61 ?c61 ?k61 ?a62 ?i62 ?l62 ?c62 ?k62 ?a63 ?i63 ?l63 ?c63 ?k63 ?t63 ?a64 ?i64 ?l64 ?c64 ?k64 ?t64 ?a65 ?i65 ?l65 ?c65 ?k65 ?t65 ?a66 ?i66 ?l66 ?c66 ?k66 ?a67 ?i67 ?l67 ?c67 ?k67 ?a68 ?i68 ?l68 ?c68 ?k68 ?z1 ?z2 ?z3 ?z4 ?z5 ?z6 ?z7 ?z8 ?z9 ?z10 ?z11 ?z12 ?z13 ?z14 ?z15 ?z16 ?z17 ?gNEAR ?gCUT ?gUP ?gDOWN ?aO ?lO ?tO ?wO ?oO_add ?oO_take ?oO_times ?oO_over ?oO_join
    (case a1 => k_is)
    (case l1 => k_is)
    (case c1 => k_is)
    (case k1 => k_is)
    (case a2 => k_is)
    (case l2 => k_is)
    (case c2 => k_is)
    (case k2 => k_is)
    (case a3 => k_is)
    (case l3 => k_is)
    (case c3 => k_is)
    (case k3 => k_is)
    (case a4 => k_is)
    (case l4 => k_is)
    (case c4 => k_is)
    (case k4 => k_is)
    (case w4_0 => k_is)
    (case w4_1 => k_is)
    (case a5 => k_is)
    (case l5 => k_is)
    (case c5 => k_is)
    (case k5 => k_is)
    (case a6 => k_is)
    (case l6 => k_is)
    (case c6 => k_is)
    (case k6 => k_is)
    (case a7 => k_is)
    (case l7 => k_is)
    (case c7 => k_is)
    (case k7 => k_is)
    (case a8 => k_is)
    (case l8 => k_is)
    (case c8 => k_is)
    (case k8 => k_is)
    (case a9 => k_is)
    (case l9 => k_is)
    (case c9 => k_is)
    (case k9 => k_is)
    (case a10 => k_is)
    (case l10 => k_is)
    (case c10 => k_is)
    (case k10 => k_is)
    (case w10_0 => k_is)
    (case a11 => k_is)
    (case l11 => k_is)
    (case c11 => k_is)
    (case k11 => k_is)
    (case w11_0 => k_is)
    (case a12 => k_is)
    (case l12 => k_is)
    (case c12 => k_is)
    (case k12 => k_is)
    (case w12_0 => k_is)
    (case a13 => k_is)
    (case l13 => k_is)
    (case c13 => k_is)
    (case k13 => k_is)
    (case w13_0 => k_is)
    (case a14 => k_is)
    (case l14 => k_is)
    (case c14 => k_is)
    (case k14 => k_is)
    (case w14_0 => k_is)
    (case a15 => k_is)
    (case l15 => k_is)
    (case c15 => k_is)
    (case k15 => k_is)
    (case a16 => k_is)
    (case l16 => k_is)
    (case c16 => k_is)
    (case k16 => k_is)
    (case a17 => k_is)
    (case l17 => k_is)
    (case c17 => k_is)
    (case k17 => k_is)
    (case a18 => k_is)
    (case l18 => k_is)
    (case c18 => k_is)
    (case k18 => k_is)
    (case a19 => k_is)
    (case l19 => k_is)
    (case c19 => k_is)
    (case k19 => k_is)
    (case a20 => k_is)
    (case l20 => k_is)
    (case c20 => k_is)
    (case k20 => k_is)
    (case a21 => k_is)
    (case l21 => k_is)
    (case c21 => k_is)
    (case k21 => k_is)
    (case a22 => k_is)
    (case l22 => k_is)
    (case c22 => k_is)
    (case k22 => k_is)
    (case a23 => k_is)
    (case l23 => k_is)
    (case c23 => k_is)
    (case k23 => k_is)
    (case a24 => k_is)
    (case l24 => k_is)
    (case c24 => k_is)
    (case k24 => k_is)
    (case a25 => k_is)
    (case l25 => k_is)
    (case c25 => k_is)
    (case k25 => k_is)
    (case a26 => k_is)
    (case l26 => k_is)
    (case c26 => k_is)
    (case k26 => k_is)
    (case w26_0 => k_is)
    (case a27 => k_is)
    (case l27 => k_is)
    (case c27 => k_is)
    (case k27 => k_is)
    (case a28 => k_is)
    (case l28 => k_is)
    (case c28 => k_is)
    (case k28 => k_is)
    (case a29 => k_is)
    (case l29 => k_is)
    (case c29 => k_is)
    (case k29 => k_is)
    (case a30 => k_is)
    (case l30 => k_is)
    (case c30 => k_is)
    (case k30 => k_is)
    (case a31 => k_is)
    (case l31 => k_is)
    (case c31 => k_is)
    (case k31 => k_is)
    (case a32 => k_is)
    (case l32 => k_is)
    (case c32 => k_is)
    (case k32 => k_is)
    (case a33 => k_is)
    (case l33 => k_is)
    (case c33 => k_is)
    (case k33 => k_is)
    (case a34 => k_is)
    (case l34 => k_is)
    (case c34 => k_is)
    (case k34 => k_is)
    (case a35 => k_is)
    (case l35 => k_is)
    (case c35 => k_is)
    (case k35 => k_is)
    (case a36 => k_is)
    (case l36 => k_is)
    (case c36 => k_is)
    (case k36 => k_is)
    (case a37 => k_is)
    (case l37 => k_is)
    (case c37 => k_is)
    (case k37 => k_is)
    (case w37_0 => k_is)
    (case a38 => k_is)
    (case l38 => k_is)
    (case c38 => k_is)
    (case k38 => k_is)
    (case a39 => k_is)
    (case l39 => k_is)
    (case c39 => k_is)
    (case k39 => k_is)
    (case a40 => k_is)
    (case l40 => k_is)
    (case c40 => k_is)
    (case k40 => k_is)
    (case a41 => k_is)
    (case l41 => k_is)
    (case c41 => k_is)
    (case k41 => k_is)
    (case a42 => k_is)
    (case l42 => k_is)
    (case c42 => k_is)
    (case k42 => k_is)
    (case a43 => k_is)
    (case l43 => k_is)
    (case c43 => k_is)
    (case k43 => k_is)
    (case a44 => k_is)
    (case l44 => k_is)
    (case c44 => k_is)
    (case k44 => k_is)
    (case a45 => k_is)
    (case l45 => k_is)
    (case c45 => k_is)
    (case k45 => k_is)
    (case a46 => k_is)
    (case l46 => k_is)
    (case c46 => k_is)
    (case k46 => k_is)
    (case a47 => k_is)
    (case l47 => k_is)
    (case c47 => k_is)
    (case k47 => k_is)
    (case a48 => k_is)
    (case l48 => k_is)
    (case c48 => k_is)
    (case k48 => k_is)
    (case a49 => k_is)
    (case l49 => k_is)
    (case c49 => k_is)
    (case k49 => k_is)
    (case a50 => k_is)
    (case l50 => k_is)
    (case c50 => k_is)
    (case k50 => k_is)
    (case a51 => k_is)
    (case l51 => k_is)
    (case c51 => k_is)
    (case k51 => k_is)
    (case a52 => k_is)
    (case l52 => k_is)
    (case c52 => k_is)
    (case k52 => k_is)
    (case a53 => k_is)
    (case l53 => k_is)
    (case c53 => k_is)
    (case k53 => k_is)
    (case a54 => k_is)
    (case l54 => k_is)
    (case c54 => k_is)
    (case k54 => k_is)
    (case a55 => k_is)
    (case l55 => k_is)
    (case c55 => k_is)
    (case k55 => k_is)
    (case a56 => k_is)
    (case l56 => k_is)
    (case c56 => k_is)
    (case k56 => k_is)
    (case aC => k_is)
    (case pgC => k_is)
    (case hdC => k_is)
    (case poC => k_is)
    (case saC => k_is)
    (case mkC => k_is)
    (case kcC => k_is)
    (case naC0 => k_is)
    (case naC1 => k_is)
    (case a57 => k_is)
    (case i57 => k_is)
    (case l57 => k_is)
    (case c57 => k_is)
    (case k57 => k_is)
    (case a58 => k_is)
    (case i58 => k_is)
    (case l58 => k_is)
    (case c58 => k_is)
    (case k58 => k_is)
    (case a59 => k_is)
    (case i59 => k_is)
    (case l59 => k_is)
    (case c59 => k_is)
    (case k59 => k_is)
    (case a60 => k_is)
    (case i60 => k_is)
    (case l60 => k_is)
    (case c60 => k_is)
    (case k60 => k_is)
    (case a61 => k_is)
    (case i61 => k_is)
    (case l61 => k_is)
    (case c61 => k_is)
    (case k61 => k_is)
    (case a62 => k_is)
    (case i62 => k_is)
    (case l62 => k_is)
    (case c62 => k_is)
    (case k62 => k_is)
    (case a63 => k_is)
    (case i63 => k_is)
    (case l63 => k_is)
    (case c63 => k_is)
    (case k63 => k_is)
    (case t63 => k_is)
    (case a64 => k_is)
    (case i64 => k_is)
    (case l64 => k_is)
    (case c64 => k_is)
    (case k64 => k_is)
    (case t64 => k_is)
    (case a65 => k_is)
    (case i65 => k_is)
    (case l65 => k_is)
    (case c65 => k_is)
    (case k65 => k_is)
    (case t65 => k_is)
    (case a66 => k_is)
    (case i66 => k_is)
    (case l66 => k_is)
    (case c66 => k_is)
    (case k66 => k_is)
    (case a67 => k_is)
    (case i67 => k_is)
    (case l67 => k_is)
    (case c67 => k_is)
    (case k67 => k_is)
    (case a68 => k_is)
    (case i68 => k_is)
    (case l68 => k_is)
    (case c68 => k_is)
    (case k68 => k_is)
    (case z1 => k_is)
    (case z2 => k_is)
    (case z3 => k_is)
    (case z4 => k_is)
    (case z5 => k_is)
    (case z6 => k_is)
    (case z7 => k_is)
    (case z8 => k_is)
    (case z9 => k_is)
    (case z10 => k_is)
    (case z11 => k_is)
    (case z12 => k_is)
    (case z13 => k_is)
    (case z14 => k_is)
    (case z15 => k_is)
    (case z16 => k_is)
    (case z17 => k_is)
    (case gNEAR => k_is)
    (case gCUT => k_is)
    (case gUP => k_is)
    (case gDOWN => k_is)
    (case aO => k_is)
    (case lO => k_is)
    (case tO => exact ⟨⟨_, _, rfl, rfl⟩, ⟨_, _, rfl, rfl⟩, ⟨_, _, rfl, rfl⟩, ⟨_, _, rfl, rfl⟩, ⟨_, _, rfl, rfl⟩, trivial⟩)
    (case wO => rfl)
    (case oO_add => k_is)
    (case oO_take => k_is)
    (case oO_times => k_is)
    (case oO_over => k_is)
    (case oO_join => k_is)
